/-
  The ground of the proof, part 8: the calculus and what is proved with it.
-/
import Derived.Test.YtjfdfbpgckilpaaGreatDoorBg
import Derived.Test.YtjfdfbpgckilpaaGreatDoorBf
import Derived.Test.YtjfdfbpgckilpaaGreatDoorBe
import Derived.Test.YtjfdfbpgckilpaaGreatDoorBd
namespace Go.Proofs.YtjfdfbpgckilpaaGreatDoor
open Go Go.LX
set_option maxRecDepth 100000
set_option linter.unusedVariables false
set_option linter.unusedSimpArgs false
set_option maxHeartbeats 32000000
theorem gmap_app (out : List Gn) (g : Gn) : (out ++ [g]).map (fun g => g.2.1) = out.map (fun g => g.2.1) ++ [g.2.1] := by
 rw [List.map_append]; rfl
theorem SweptTo.facts {ws C : List Int} {R R1 : List Rw} {p : Int} {i : Nat} {out : List Gn} (hA : AOk R ws) (h : SweptTo ws C R p i out R1) : SwF R R1 ws C p i out := by
 induction h with
 | zero =>
  refine ⟨fun g hg => (by cases hg),List.Pairwise.nil,fun x => ⟨fun hx => (by cases hx),fun hx => (by have := hx.1; have := hx.2.1; omega)⟩,.nil R,hA,fun b => ⟨fun hb => ⟨hb,fun hk => (by cases hk)⟩,fun hb => hb.1⟩,fun _ _ _ hk => hk⟩
 | skip i out R1 h hn ih =>
  refine ⟨ih.each,ih.asc,fun x => ?_,ih.frees,ih.ok,ih.left,ih.kept⟩
  rw [ih.mem x]
  constructor
  ·rintro ⟨h1,h2,h3⟩; exact ⟨h1,by omega,h3⟩
  ·rintro ⟨h1,h2,h3⟩
   refine ⟨h1,?_,h3⟩
   by_cases e : x = p + i
   ·subst e
    exfalso
    refine hn ⟨(ih.left _).2 ⟨h3.1,fun hk => ?_⟩,h3.2⟩
    have := ((ih.mem _).1 hk).2.1
    omega
   ·omega
 | free i out R1 R2 k X h hw hk hX hf ih =>
  obtain ⟨hA2,hob⟩ := freet_objs ih.ok hw.1 hf
  have hnew := (ih.left (p + i)).1 hw.1
  have hK1 : ∃ l,Kept R1 ws (p + i) k l := by
   cases hk with
   | no hn => exact absurd ((obj_iff ih.ok _).1 hw.1) hn
   | is _ l hK => exact ⟨l,hK⟩
  obtain ⟨l,hK⟩ := hK1
  have hKR := ih.kept _ _ _ hK
  refine ⟨fun g hg => ?_,?_,fun x => ?_,?_,hA2,fun b => ?_,fun b k l hb => ih.kept b k l (kept_freet ih.ok hf b k l hb)⟩
  ·rcases List.mem_append.1 hg with hg | hg
   ·exact ih.each g hg
   ·rw [List.mem_singleton.1 hg]
    refine ⟨.is k l hKR,⟨?_,fun j x hx => ?_⟩,rfl⟩
    ·have hl := hX.1
     generalize hxl : (X.length : Int) = xl at hl
     cases hl with
     | no hn => exact absurd hK.obj6 hn
     | is k2 l2 hK2 => exact .is k2 _ (ih.kept _ _ _ hK2)
    ·cases hX.2 j x hx with
     | ok k2 l2 _ hK2 hi hx => exact .ok k2 l2 x (ih.kept _ _ _ hK2) hi hx
  ·rw [gmap_app,List.pairwise_append]
   refine ⟨ih.asc,List.pairwise_singleton _ _,fun x hx y hy => ?_⟩
   rw [List.mem_singleton.1 hy]
   exact ((ih.mem x).1 hx).2.1
  ·rw [gmap_app,List.mem_append,List.mem_singleton,ih.mem x]
   constructor
   ·rintro (⟨h1,h2,h3⟩ | h1)
    ·exact ⟨h1,by omega,h3⟩
    ·have h1 : x = p + i := h1
     subst h1
     exact ⟨by omega,by omega,hnew.1,hw.2⟩
   ·rintro ⟨h1,h2,h3⟩
    by_cases e : x = p + i
    ·exact .inr e
    ·exact .inl ⟨h1,by omega,h3⟩
  ·rw [gmap_app]; exact .snoc R R1 R2 _ _ 0 ih.frees hf
  ·rw [hob b,ih.left b,gmap_app,List.mem_append,List.mem_singleton]
   constructor
   ·rintro ⟨⟨h1,h2⟩,h3⟩; exact ⟨h1,fun hk => hk.elim h2 h3⟩
   ·rintro ⟨h1,h2⟩; exact ⟨⟨h1,fun hk => h2 (.inl hk)⟩,fun hk => h2 (.inr hk)⟩
structure RgF (R : List Rw) (vs C : List Int) (sp : Int) (i : Nat) (out : List Gn) : Prop where
 each : ∀ g ∈ out,KindR R vs g.2.1 g.1 ∧ Wrds R vs g.2.1 g.2.2.1 ∧ g.2.2.2 = false
 asc : (out.map fun g => g.2.1).Pairwise (· < ·)
 mem : ∀ x,x ∈ (out.map fun g => g.2.1) ↔ (∃ j : Nat,j < i ∧ (objs R)[j]? = some x) ∧ x / 32 = sp ∧ C[x.toNat]? = some 0
theorem objs_lt {R : List Rw} (hR : RowsOk R) {i j : Nat} {a b : Int} (hij : i < j) (ha : (objs R)[i]? = some a) (hb : (objs R)[j]? = some b) : a < b := by
 obtain ⟨h1,h2⟩ := List.getElem?_eq_some_iff.1 ha
 obtain ⟨h3,h4⟩ := List.getElem?_eq_some_iff.1 hb
 have := (List.pairwise_iff_getElem.1 (objsTo_asc hR R.length)) i j h1 h3 hij
 rw [← h2,← h4]; exact this
theorem RG.facts {R : List Rw} {vs C : List Int} {sp : Int} {i : Nat} {out : List Gn} (hR : RowsOk R) (h : RG R vs C sp i out) : RgF R vs C sp i out := by
 induction h with
 | zero => exact ⟨fun g hg => (by cases hg),List.Pairwise.nil,fun x => ⟨fun hx => (by cases hx),fun ⟨⟨j,hj,_⟩,_⟩ => (by omega)⟩⟩
 | skip i a out h ha hn ih =>
  refine ⟨ih.each,ih.asc,fun x => ?_⟩
  rw [ih.mem x]
  constructor
  ·rintro ⟨⟨j,h1,h2⟩,h3⟩; exact ⟨⟨j,by omega,h2⟩,h3⟩
  ·rintro ⟨⟨j,h1,h2⟩,h3⟩
   refine ⟨⟨j,?_,h2⟩,h3⟩
   by_cases e : j = i
   ·subst e
    rw [ha] at h2
    obtain rfl := Option.some.inj h2
    exact absurd h3 hn
   ·omega
 | add i a k X out h ha hw hk hX ih =>
  refine ⟨fun g hg => ?_,?_,fun x => ?_⟩
  ·rcases List.mem_append.1 hg with hg | hg
   ·exact ih.each g hg
   ·rw [List.mem_singleton.1 hg]; exact ⟨hk,hX,rfl⟩
  ·rw [gmap_app,List.pairwise_append]
   refine ⟨ih.asc,List.pairwise_singleton _ _,fun x hx y hy => ?_⟩
   rw [List.mem_singleton.1 hy]
   obtain ⟨⟨j,h1,h2⟩,_⟩ := (ih.mem x).1 hx
   exact objs_lt hR h1 h2 ha
  ·rw [gmap_app,List.mem_append,List.mem_singleton,ih.mem x]
   constructor
   ·rintro (⟨⟨j,h1,h2⟩,h3⟩ | h1)
    ·exact ⟨⟨j,by omega,h2⟩,h3⟩
    ·have h1 : x = a := h1
     subst h1
     exact ⟨⟨i,by omega,ha⟩,hw⟩
   ·rintro ⟨⟨j,h1,h2⟩,h3⟩
    by_cases e : j = i
    ·subst e
     rw [ha] at h2
     obtain rfl := Option.some.inj h2
     exact .inr rfl
    ·exact .inl ⟨⟨j,by omega,h2⟩,h3⟩
theorem Frees.det {R R1 : List Rw} {l : List Int} {ws : List Int} (hA : AOk R ws) (h1 : Frees R l R1) : ∀ {R2},Frees R l R2 → R1 = R2 ∧ AOk R1 ws := by
 induction h1 with
 | nil =>
  intro R2 h2
  generalize hl : ([] : List Int) = l at h2
  cases h2 with
  | nil => exact ⟨rfl,hA⟩
  | snoc _ _ l a _ _ _ => exact absurd hl (by simp)
 | snoc Ra Rb l a e h hf ih =>
  intro R2 h2
  generalize hl : l ++ [a] = l' at h2
  cases h2 with
  | nil => exact absurd hl (by simp)
  | snoc Rc _ l2 a2 e2 h' hf' =>
   obtain ⟨rfl,e3⟩ := List.append_inj' hl rfl
   obtain rfl : a = a2 := by simpa using e3
   obtain ⟨rfl,hB⟩ := ih h'
   exact ⟨(hf.det hB.rows hf').2,(hB.freet hf).1⟩
theorem frees_sim {R R1 : List Rw} {ws vs : List Int} {l : List Int} (h : Sim R ws vs) (h1 : Frees R l R1) : Sim R1 ws vs := by
 induction h1 with
 | nil => exact h
 | snoc Ra Rb l a e h hf ih => exact (ih.free hf).1
theorem gns_eq {out1 out2 : List Gn} (hp : (out1.map fun g => g.2.1) = out2.map fun g => g.2.1) (he : ∀ g1 ∈ out1,∀ g2 ∈ out2,g1.2.1 = g2.2.1 → g1 = g2) : out1 = out2 := by
 have hl : out1.length = out2.length := by simpa using congrArg List.length hp
 apply List.ext_getElem?
 intro i
 by_cases hi : i < out1.length
 ·have h1 := List.getElem?_eq_getElem hi
  have h2 := List.getElem?_eq_getElem (l := out2) (i := i) (by omega)
  rw [h1,h2]
  refine congrArg some (he _ (List.getElem_mem hi) _ (List.getElem_mem (by omega)) ?_)
  have := congrArg (fun l => l[i]?) hp
  simp only [List.getElem?_map,h1,h2,Option.map_some] at this
  exact Option.some.inj this
 ·rw [List.getElem?_eq_none (by omega),List.getElem?_eq_none (by omega)]
theorem swept_sim {R R1 R2 : List Rw} {ws vs C : List Int} {sp : Int} {out1 out2 : List Gn} (h : Sim R ws vs) (hsp : 0 ≤ sp) (h1 : SweptTo ws C R (32 * sp) 32 out1 R1) (h2 : RG R vs C sp (objs R).length out2) (h3 : Frees R (out2.map fun g => g.2.1) R2) : out1 = out2 ∧ R1 = R2 ∧ Sim R1 ws vs := by
 have f1 := h1.facts h.a
 have f2 := h2.facts h.a.rows
 have hp : (out1.map fun g => g.2.1) = out2.map fun g => g.2.1 := by
  refine asc_eq f1.asc f2.asc fun x => ?_
  rw [f1.mem x,f2.mem x]
  constructor
  ·rintro ⟨q1,q2,q3,q4⟩
   obtain ⟨j,hj⟩ := List.getElem?_of_mem q3
   exact ⟨⟨j,(List.getElem?_eq_some_iff.1 hj).1,hj⟩,by omega,q4⟩
  ·rintro ⟨⟨j,_,hj⟩,q2,q3⟩
   exact ⟨by omega,by omega,List.mem_of_getElem? hj,q3⟩
 have ho : out1 = out2 := by
  refine gns_eq hp fun g1 m1 g2 m2 e => ?_
  obtain ⟨a1,b1,c1⟩ := f1.each g1 m1
  obtain ⟨a2,b2,c2⟩ := f2.each g2 m2
  obtain ⟨k1,p1,X1,y1⟩ := g1
  obtain ⟨k2,p2,X2,y2⟩ := g2
  dsimp only at *
  subst e
  rw [h.kind a1 a2,h.wrds b1 b2,c1,c2]
 rw [← hp] at h3
 obtain ⟨rfl,_⟩ := f1.frees.det h.a h3
 exact ⟨ho,rfl,frees_sim h f1.frees⟩
theorem step_sim {R R1 R2 : List Rw} {ws vs C G ws' C1 G1 vs' C2 G2 : List Int} {ov o1 o2 : Bool} {ph sp cy W p1 s1 y1 p2 s2 y2 : Int} {out1 out2 : List Gn} (h : Sim R ws vs) (hsp : 0 ≤ sp) (h1 : Stepd R ws C G ov ph sp cy W out1 R1 ws' C1 G1 o1 p1 s1 y1) (h2 : RStepd R vs C G ov ph sp cy W out2 R2 vs' C2 G2 o2 p2 s2 y2) :
  out1 = out2 ∧ R1 = R2 ∧ C1 = C2 ∧ G1 = G2 ∧ o1 = o2 ∧ p1 = p2 ∧ s1 = s2 ∧ y1 = y2 ∧ Sim R1 ws' vs' := by
 cases h1 with
 | mark _ _ _ _ _ _ _ hp hm => cases h2 with
  | mark _ _ _ _ _ _ _ _ hm' =>
   obtain ⟨rfl,rfl,rfl,rfl,rfl,rfl,h3⟩ := marked_sim h hm hm'
   exact ⟨rfl,rfl,rfl,rfl,rfl,rfl,rfl,rfl,h3⟩
  | sweep _ _ hp' _ _ => rw [hp] at hp'; exact absurd hp' (by decide)
  | idle hp' _ => exact absurd hp hp'
 | sweep _ _ hp hs => cases h2 with
  | mark _ _ _ _ _ _ _ hp' _ => rw [hp] at hp'; exact absurd hp' (by decide)
  | sweep _ _ _ hg hf =>
   obtain ⟨rfl,rfl,h3⟩ := swept_sim h hsp hs hg hf
   exact ⟨rfl,rfl,rfl,rfl,rfl,rfl,rfl,rfl,h3⟩
  | idle _ hp' => exact absurd hp hp'
 | idle hp hp2 => cases h2 with
  | mark _ _ _ _ _ _ _ hp' _ => exact absurd hp' hp
  | sweep _ _ hp' _ _ => exact absurd hp' hp2
  | idle _ _ => exact ⟨rfl,rfl,rfl,rfl,rfl,rfl,rfl,rfl,h⟩
end Go.Proofs.YtjfdfbpgckilpaaGreatDoor
namespace Go.Proofs.YtjfdfbpgckilpaaGreatDoor
open Go Go.LX
set_option maxRecDepth 100000
set_option linter.unusedVariables false
set_option linter.unusedSimpArgs false
set_option maxHeartbeats 32000000
def wt (c : Option Int) : Nat := if c = some 0 then 2 else if c = some 1 then 1 else 0
def mu (R : List Rw) (C : List Int) : Nat := ((objs R).map fun a => wt C[a.toNat]?).sum
theorem sum_le {l : List Int} {f g : Int → Nat} (h : ∀ a ∈ l,f a ≤ g a) : (l.map f).sum ≤ (l.map g).sum := by
 induction l with
 | nil => exact Nat.le_refl _
 | cons x l ih =>
  have h1 := h x (List.mem_cons_self ..)
  have h2 := ih fun a ha => h a (List.mem_cons_of_mem _ ha)
  simp only [List.map_cons,List.sum_cons]
  omega
theorem sum_lt {l : List Int} {f g : Int → Nat} (h : ∀ a ∈ l,f a ≤ g a) {b : Int} (hb : b ∈ l) (hlt : f b < g b) : (l.map f).sum < (l.map g).sum := by
 induction l with
 | nil => cases hb
 | cons x l ih =>
  have h1 := h x (List.mem_cons_self ..)
  have h2 := sum_le (l := l) (f := f) (g := g) fun a ha => h a (List.mem_cons_of_mem _ ha)
  simp only [List.map_cons,List.sum_cons]
  rcases List.mem_cons.1 hb with rfl | hb
  ·omega
  ·have := ih (fun a ha => h a (List.mem_cons_of_mem _ ha)) hb
   omega
theorem mu_le_len (R : List Rw) (C : List Int) : mu R C ≤ 2 * (objs R).length := by
 unfold mu
 generalize objs R = l
 induction l with
 | nil => exact Nat.le_refl _
 | cons x l ih =>
  simp only [List.map_cons,List.sum_cons,List.length_cons]
  have : wt C[x.toNat]? ≤ 2 := by
                  unfold wt; split; · omega
                  ·split <;> omega
  omega
def COn (C C' : List Int) : Prop := ∀ p : Nat,wt C'[p]? ≤ wt C[p]?
theorem COn.refl (C : List Int) : COn C C := fun _ => Nat.le_refl _
theorem COn.trans {A B C : List Int} (h : COn A B) (k : COn B C) : COn A C := fun p => Nat.le_trans (k p) (h p)
theorem COn.mu {C C' : List Int} (h : COn C C') (R : List Rw) : mu R C' ≤ mu R C := sum_le fun a _ => h a.toNat
theorem set_on {C : List Int} {q : Nat} {c : Int} (h : wt (some c) ≤ wt C[q]?) : COn C (C.set q c) := by
 intro p
 by_cases e : q = p
 ·subst e
  by_cases hl : q < C.length
  ·rw [List.getElem?_set_self hl]; exact h
  ·rw [List.getElem?_eq_none (by rw [List.length_set]; omega)]; unfold wt; simp
 ·rw [List.getElem?_set_ne e]; exact Nat.le_refl _
theorem shade_on (R : List Rw) (ph a : Int) (s : List Int × List Int × Bool) : COn s.1 (shade R ph a s).1 := by
 unfold shade
 split
 ·rename_i hc
  refine set_on (C := s.1) (q := a.toNat) (c := 1) ?_
  rw [hc.2.2]; decide
 ·exact COn.refl _
theorem shadeW_on (R : List Rw) (ph w : Int) (s : List Int × List Int × Bool) : COn s.1 (shadeW R ph w s).1 := by
 unfold shadeW
 split
 ·exact shade_on _ _ _ _
 ·exact COn.refl _
theorem shade_grey (R : List Rw) (ph a : Int) (s : List Int × List Int × Bool) (p : Nat) (h : s.1[p]? = some 1) : (shade R ph a s).1[p]? = some 1 := by
 unfold shade
 split
 ·rename_i hc
  show (s.1.set a.toNat 1)[p]? = some 1
  rw [List.getElem?_set_ne ?_]
  ·exact h
  ·intro e; rw [← e,hc.2.2] at h; exact absurd (Option.some.inj h) (by decide)
 ·exact h
theorem shadeW_grey (R : List Rw) (ph w : Int) (s : List Int × List Int × Bool) (p : Nat) (h : s.1[p]? = some 1) : (shadeW R ph w s).1[p]? = some 1 := by
 unfold shadeW
 split
 ·exact shade_grey _ _ _ _ _ h
 ·exact h
theorem fold_on (R : List Rw) (ph : Int) : ∀ (X : List Int) (s : List Int × List Int × Bool),COn s.1 (X.foldl (fun s w => shadeW R ph w s) s).1
 | [],s => COn.refl _
 | w :: X,s => (shadeW_on R ph w s).trans (fold_on R ph X _)
theorem fold_grey (R : List Rw) (ph : Int) : ∀ (X : List Int) (s : List Int × List Int × Bool) (p : Nat),s.1[p]? = some 1 → (X.foldl (fun s w => shadeW R ph w s) s).1[p]? = some 1
 | [],s,p,h => h
 | w :: X,s,p,h => fold_grey R ph X _ p (shadeW_grey R ph w s p h)
structure GOk (R : List Rw) (C G : List Int) : Prop where
 obj : ∀ x ∈ G,x ∈ objs R
 grey : ∀ x ∈ G,C[x.toNat]? = some 1
 once : G.Nodup
theorem shade_gok {R : List Rw} {ph a : Int} {s : List Int × List Int × Bool} (h : GOk R s.1 s.2.1) : GOk R (shade R ph a s).1 (shade R ph a s).2.1 := by
 have hg := fun x hx => shade_grey R ph a s _ (h.grey x hx)
 unfold shade at hg ⊢
 split
 ·rename_i hc
  rw [if_pos hc] at hg
  have hl := (List.getElem?_eq_some_iff.1 hc.2.2).1
  dsimp only at hg ⊢
  split
  ·dsimp only
   refine ⟨fun x hx => ?_,fun x hx => ?_,?_⟩
   ·rcases List.mem_append.1 hx with hx | hx
    ·exact h.obj x hx
    ·rw [List.mem_singleton.1 hx]; exact hc.2.1
   ·rcases List.mem_append.1 hx with hx | hx
    ·exact hg x hx
    ·rw [List.mem_singleton.1 hx]; exact List.getElem?_set_self hl
   ·rw [List.nodup_append]
    refine ⟨h.once,by simp,fun x hx y hy e => ?_⟩
    rw [List.mem_singleton.1 hy] at e
    subst e
    have := h.grey x hx
    rw [hc.2.2] at this
    exact absurd (Option.some.inj this) (by decide)
  ·exact ⟨h.obj,hg,h.once⟩
 ·rename_i hc
  rw [if_neg hc] at hg
  exact h
theorem shadeW_gok {R : List Rw} {ph w : Int} {s : List Int × List Int × Bool} (h : GOk R s.1 s.2.1) : GOk R (shadeW R ph w s).1 (shadeW R ph w s).2.1 := by
 unfold shadeW
 split
 ·exact shade_gok h
 ·exact h
theorem fold_gok {R : List Rw} {ph : Int} : ∀ (X : List Int) (s : List Int × List Int × Bool),GOk R s.1 s.2.1 → GOk R (X.foldl (fun s w => shadeW R ph w s) s).1 (X.foldl (fun s w => shadeW R ph w s) s).2.1
 | [],s,h => h
 | w :: X,s,h => fold_gok X _ (shadeW_gok h)
theorem shade_black (R : List Rw) (ph a : Int) (s : List Int × List Int × Bool) (p : Nat) (h : s.1[p]? = some 2) : (shade R ph a s).1[p]? = some 2 := by
 unfold shade
 split
 ·rename_i hc
  show (s.1.set a.toNat 1)[p]? = some 2
  rw [List.getElem?_set_ne ?_]
  ·exact h
  ·intro e; rw [← e,hc.2.2] at h; exact absurd (Option.some.inj h) (by decide)
 ·exact h
theorem shadeW_black (R : List Rw) (ph w : Int) (s : List Int × List Int × Bool) (p : Nat) (h : s.1[p]? = some 2) : (shadeW R ph w s).1[p]? = some 2 := by
 unfold shadeW
 split
 ·exact shade_black _ _ _ _ _ h
 ·exact h
theorem fold_black (R : List Rw) (ph : Int) : ∀ (X : List Int) (s : List Int × List Int × Bool) (p : Nat),s.1[p]? = some 2 → (X.foldl (fun s w => shadeW R ph w s) s).1[p]? = some 2
 | [],s,p,h => h
 | w :: X,s,p,h => fold_black R ph X _ p (shadeW_black R ph w s p h)
theorem shade_new {R : List Rw} {ph a : Int} {s : List Int × List Int × Bool} {x : Int} (h : x ∈ (shade R ph a s).2.1) : x ∈ s.2.1 ∨ s.1[x.toNat]? = some 0 := by
 unfold shade at h
 split at h
 ·rename_i hc
  dsimp only at h
  split at h
  ·rcases List.mem_append.1 h with h | h
   ·exact .inl h
   ·rw [List.mem_singleton.1 h]; exact .inr hc.2.2
  ·exact .inl h
 ·exact .inl h
theorem shadeW_new {R : List Rw} {ph w : Int} {s : List Int × List Int × Bool} {x : Int} (h : x ∈ (shadeW R ph w s).2.1) : x ∈ s.2.1 ∨ s.1[x.toNat]? = some 0 := by
 unfold shadeW at h
 split at h
 ·exact shade_new h
 ·exact .inl h
theorem fold_new {R : List Rw} {ph : Int} : ∀ (X : List Int) (s : List Int × List Int × Bool) (x : Int),x ∈ (X.foldl (fun s w => shadeW R ph w s) s).2.1 → x ∈ s.2.1 ∨ s.1[x.toNat]? = some 0
 | [],s,x,h => .inl h
 | w :: X,s,x,h => by
  rcases fold_new X _ x h with h | h
  ·exact shadeW_new h
  ·exact .inr ((shadeW_le R ph w s).1 _ h)
def CyI (R : List Rw) (C G : List Int) (ph sp cy N : Int) : Prop := (ph = 1 ∧ GOk R C G ∧ cy = 0) ∨ (ph = 2 ∧ cy = 0 ∧ 0 ≤ sp ∧ sp < N) ∨ (ph = 0 ∧ cy = 1)
def left_ (R : List Rw) (C : List Int) (ph sp N : Int) : Int := if ph = 1 then (mu R C : Int) + 1 + N else if ph = 2 then N - sp else 0
theorem marked_cy {R : List Rw} {ws ws' C C' G G' : List Int} {ov ov' : Bool} {sp p s N : Int} {out : List Gn} (hA : AOk R ws) (hCl : (C.length : Int) = 32 * R.length) (hN : 1 ≤ N) (h : GOk R C G) (hm : Marked R ws C G ov sp out p s ws' C' G' ov') :
  CyI R C' G' p s 0 N ∧ left_ R C' p s N < left_ R C 1 sp N ∧ ∀ q : Nat,C[q]? = some 2 → C'[q]? = some 2 := by
 cases hm with
 | scan v A X _ _ o1 _ hg hX hs =>
  have hC : C' = (X.foldl (fun s w => shadeW R 1 w s) (C,A,o1)).1.set v.toNat 2 := congrArg Prod.fst hs
  have hG : G' = (X.foldl (fun s w => shadeW R 1 w s) (C,A,o1)).2.1 := congrArg (fun x => x.2.1) hs
  obtain ⟨hv,hv1,hA',hvA⟩ : v ∈ objs R ∧ C[v.toNat]? = some 1 ∧ GOk R C A ∧ v ∉ A := by
   cases hg with
   | pop _ _ hGA =>
    have hn := h.once
    rw [hGA,List.nodup_append] at hn
    exact ⟨h.obj v (by rw [hGA]; simp),h.grey v (by rw [hGA]; simp),⟨fun x hx => h.obj x (by rw [hGA]; exact List.mem_append_left _ hx),fun x hx => h.grey x (by rw [hGA]; exact List.mem_append_left _ hx),hn.1⟩,fun hk => hn.2.2 v hk v (by simp) rfl⟩
   | found _ _ _ _ ha hc _ => exact ⟨List.mem_of_getElem? ha,hc,⟨fun x hx => (by cases hx),fun x hx => (by cases hx),List.nodup_nil⟩,fun hk => by cases hk⟩
  have hon := fold_on R 1 X (C,A,o1)
  have hgr := fold_grey R 1 X (C,A,o1)
  have hbl := fold_black R 1 X (C,A,o1)
  have hok := fold_gok (R := R) (ph := 1) X (C,A,o1) hA'
  have hnew := fold_new (R := R) (ph := 1) X (C,A,o1)
  generalize (X.foldl (fun s w => shadeW R 1 w s) (C,A,o1)) = F at hC hG hon hgr hbl hok hnew
  have hFv := hgr _ hv1
  have hFl := (List.getElem?_eq_some_iff.1 hFv).1
  have hself : C'[v.toNat]? = some 2 := by rw [hC]; exact List.getElem?_set_self hFl
  have hset : COn F.1 C' := by rw [hC]; exact set_on (by rw [show wt (some (2 : Int)) = 0 by decide]; exact Nat.zero_le _)
  have hlt : mu R C' < mu R C := by
   refine sum_lt (fun a _ => (hon.trans hset) a.toNat) hv ?_
   rw [hself,hv1]; decide
  refine ⟨.inl ⟨rfl,⟨fun x hx => hok.obj x (hG ▸ hx),fun x hx => ?_,by rw [hG]; exact hok.once⟩,rfl⟩,?_,fun q hq => ?_⟩
  ·have hx : x ∈ F.2.1 := hG ▸ hx
   have hxv : x ≠ v := by
    rintro rfl
    rcases hnew x hx with q | q
    ·exact hvA q
    ·have q : C[x.toNat]? = some 0 := q
     rw [hv1] at q; exact absurd (Option.some.inj q) (by decide)
   have b1 := obj_bd hA (hok.obj x hx)
   have b2 := obj_bd hA hv
   rw [hC,List.getElem?_set_ne (by omega)]
   exact hok.grey x hx
  ·unfold left_
   rw [if_pos rfl,if_pos rfl]
   omega
  ·by_cases e : v.toNat = q
   ·rw [← e]; exact hself
   ·rw [hC,List.getElem?_set_ne e]; exact hbl q hq
 | keep a A X _ _ _ o1 _ hg hf hX hst hs =>
  have hC : C' = (shade R 1 a (C,A,o1)).1 := congrArg Prod.fst hs
  have hG : G' = (shade R 1 a (C,A,o1)).2.1 := congrArg (fun x => x.2.1) hs
  have hA0 : A = [] := by cases hg <;> rfl
  obtain ⟨hao,ha0⟩ : a ∈ objs R ∧ C[a.toNat]? = some 0 := by
   cases hf with
   | found _ _ ha hd _ => exact ⟨List.mem_of_getElem? ha,hd.2.1⟩
  have hA' : GOk R C A := by rw [hA0]; exact ⟨fun x hx => (by cases hx),fun x hx => (by cases hx),List.nodup_nil⟩
  have hok := shade_gok (R := R) (ph := 1) (a := a) (s := (C,A,o1)) hA'
  have hl := (List.getElem?_eq_some_iff.1 ha0).1
  have hself : C'[a.toNat]? = some 1 := by
   rw [hC]; unfold shade
   rw [if_pos ⟨rfl,hao,ha0⟩]
   exact List.getElem?_set_self hl
  have hlt : mu R C' < mu R C := by
   refine sum_lt (fun b _ => by rw [hC]; exact shade_on R 1 a (C,A,o1) b.toNat) hao ?_
   rw [hself,ha0]; decide
  refine ⟨.inl ⟨rfl,by rw [hC,hG]; exact hok,rfl⟩,?_,fun q hq => by rw [hC]; exact shade_black R 1 a (C,A,o1) q hq⟩
  unfold left_
  rw [if_pos rfl,if_pos rfl]
  omega
 | sweep A o1 hg hf =>
  refine ⟨.inr (.inl ⟨rfl,rfl,Int.le_refl _,by omega⟩),?_,fun q hq => hq⟩
  unfold left_
  rw [if_neg (by decide),if_pos rfl,if_pos rfl]
  omega
theorem stepd_cy {R R' : List Rw} {ws ws' C C' G G' at_ : List Int} {ov ov' : Bool} {ph sp cy W N p s y : Int} {out : List Gn} (hA : AOk R ws) (hCl : (C.length : Int) = 32 * R.length) (hN : 1 ≤ N) (hW : W = 32 * N) (h : CyI R C G ph sp cy N) (hat : ∀ x ∈ at_,x ∈ objs R ∧ (ph ≠ 0 → C[x.toNat]? = some 2)) (hs : Stepd R ws C G ov ph sp cy W out R' ws' C' G' ov' p s y) :
  CyI R' C' G' p s y N ∧ (ph ≠ 0 → left_ R' C' p s N < left_ R C ph sp N) ∧ (∀ x ∈ at_,x ∈ objs R' ∧ (p ≠ 0 → C'[x.toNat]? = some 2)) := by
 cases hs with
 | mark _ _ _ _ _ _ _ hp hm =>
  subst hp
  rcases h with ⟨_,hg,rfl⟩ | ⟨q,_⟩ | ⟨q,_⟩
  ·obtain ⟨h1,h2,h3⟩ := marked_cy hA hCl hN hg hm
   exact ⟨h1,fun _ => h2,fun x hx => ⟨(hat x hx).1,fun _ => h3 _ ((hat x hx).2 (by decide))⟩⟩
  ·exact absurd q (by decide)
  ·exact absurd q (by decide)
 | sweep _ _ hp hs =>
  subst hp
  rcases h with ⟨q,_⟩ | ⟨_,rfl,h0,h1⟩ | ⟨q,_⟩
  ·exact absurd q (by decide)
  ·have f := hs.facts hA
   refine ⟨?_,fun _ => ?_,fun x hx => ⟨(f.left x).2 ⟨(hat x hx).1,fun hk => ?_⟩,fun _ => (hat x hx).2 (by decide)⟩⟩
   ·unfold swPh swCy
    split
    ·exact .inr (.inr ⟨rfl,by omega⟩)
    ·exact .inr (.inl ⟨rfl,rfl,by omega,by omega⟩)
   ·unfold left_ swPh
    split
    ·(repeat (first | rw [if_neg (by decide)] | rw [if_pos rfl])); omega
    ·(repeat (first | rw [if_neg (by decide)] | rw [if_pos rfl])); omega
   ·have := ((f.mem x).1 hk).2.2.2
    rw [(hat x hx).2 (by decide)] at this
    exact absurd (Option.some.inj this) (by decide)
  ·exact absurd q (by decide)
 | idle h1 h2 =>
  rcases h with ⟨q,_⟩ | ⟨q,_⟩ | ⟨q,hc⟩
  ·exact absurd q h1
  ·exact absurd q h2
  ·exact ⟨.inr (.inr ⟨q,hc⟩),fun k => absurd q k,fun x hx => ⟨(hat x hx).1,fun k => absurd q k⟩⟩
theorem left_le {R : List Rw} {C : List Int} {ph sp N : Int} (hsp : 0 ≤ sp) (hN : 0 ≤ N) : left_ R C ph sp N ≤ 2 * (objs R).length + 1 + N := by
 have := mu_le_len R C
 unfold left_
 split
 ·omega
 ·split <;> omega
def Bare (R : List Rw) (ws C G : List Int) (ov : Bool) (ph sp : Int) : Prop := (ph = 1 ∧ G = [] ∧ ov = false ∧ (∀ a ∈ objs R,C[a.toNat]? = some 0) ∧ ∀ a,¬ Due R ws C a) ∨ (ph = 2 ∧ 0 ≤ sp ∧ ∀ a ∈ objs R,C[a.toNat]? = some 0 ∧ 32 * sp ≤ a) ∨ (ph = 0 ∧ objs R = [])
theorem stepd_bare {R R' : List Rw} {ws ws' C C' G G' : List Int} {ov ov' : Bool} {ph sp cy W p s y : Int} {out : List Gn} (hA : AOk R ws) (hW : W = 32 * R.length) (h : Bare R ws C G ov ph sp) (hs : Stepd R ws C G ov ph sp cy W out R' ws' C' G' ov' p s y) : Bare R' ws' C' G' ov' p s := by
 cases hs with
 | mark _ _ _ _ _ _ _ hp hm =>
  subst hp
  rcases h with ⟨_,rfl,rfl,h1,h2⟩ | ⟨q,_⟩ | ⟨q,_⟩
  ·cases hm with
   | scan _ _ _ _ _ _ _ hg _ _ =>
    generalize hG0 : ([] : List Int) = G0 at hg
    generalize ho0 : false = o0 at hg
    cases hg with
    | pop _ _ hG => rw [← hG0] at hG; exact absurd hG.symm (by simp)
    | found _ _ _ ho _ _ _ => rw [← ho0] at ho; cases ho
   | keep _ _ _ _ _ _ _ _ _ hf _ _ _ =>
    cases hf with
    | found _ _ ha hd _ => exact absurd hd (h2 _)
   | sweep _ _ _ _ => exact .inr (.inl ⟨rfl,Int.le_refl _,fun a ha => ⟨h1 a ha,by have := (obj_bd hA ha).1; omega⟩⟩)
  ·exact absurd q (by decide)
  ·exact absurd q (by decide)
 | sweep _ _ hp hs =>
  subst hp
  rcases h with ⟨q,_⟩ | ⟨_,h0,h1⟩ | ⟨q,_⟩
  ·exact absurd q (by decide)
  ·have f := hs.facts hA
   have hrest : ∀ a ∈ objs R',C[a.toNat]? = some 0 ∧ 32 * (sp + 1) ≤ a := by
    intro a ha
    obtain ⟨q1,q2⟩ := (f.left a).1 ha
    obtain ⟨q3,q4⟩ := h1 a q1
    refine ⟨q3,?_⟩
    by_cases e : a < 32 * sp + 32
    ·exact absurd ((f.mem a).2 ⟨q4,e,q1,q3⟩) q2
    ·omega
   unfold swPh
   split
   ·refine .inr (.inr ⟨rfl,List.eq_nil_iff_forall_not_mem.2 fun a ha => ?_⟩)
    have q1 := ((f.left a).1 ha).1
    have q2 := obj_bd hA q1
    have q3 := (hrest a ha).2
    omega
   ·exact .inr (.inl ⟨rfl,by omega,hrest⟩)
  ·exact absurd q (by decide)
 | idle h1 h2 =>
  rcases h with ⟨q,_⟩ | ⟨q,_⟩ | ⟨q,h3⟩
  ·exact absurd q h1
  ·exact absurd q h2
  ·exact .inr (.inr ⟨q,h3⟩)
end Go.Proofs.YtjfdfbpgckilpaaGreatDoor
namespace Go.Proofs.YtjfdfbpgckilpaaGreatDoor
open Go Go.LX
set_option maxRecDepth 100000
set_option linter.unusedVariables false
set_option linter.unusedSimpArgs false
set_option maxHeartbeats 32000000
def Leads (R : List Rw) (ws : List Int) (a b : Int) : Prop := ∃ i x,Loaded R ws a i x 0 ∧ x % 2 = 1 ∧ (x - 1) / 2 = b ∧ b ∈ objs R
inductive Rb (R : List Rw) (ws C A : List Int) : Int → Prop
 | root (a : Int) (h : a ∈ A) (ho : a ∈ objs R) : Rb R ws C A a
 | next (a b : Int) (h : Rb R ws C A a) (hc : C[a.toNat]? ≠ some 0) (hl : Leads R ws a b) : Rb R ws C A b
inductive Rch (R : List Rw) (ws A : List Int) : Int → Prop
 | root (a : Int) (h : a ∈ A) (ho : a ∈ objs R) : Rch R ws A a
 | next (a b : Int) (h : Rch R ws A a) (hl : Leads R ws a b) : Rch R ws A b
theorem Rb.mono {R : List Rw} {ws C C' A A' : List Int} (hc : ∀ p : Nat,C'[p]? = some 0 → C[p]? = some 0) (hA : ∀ a ∈ A,a ∈ A') {a : Int} (h : Rb R ws C A a) : Rb R ws C' A' a := by
 induction h with
 | root a h ho => exact .root a (hA a h) ho
 | next a b _ hn hl ih => exact .next a b ih (fun k => hn (hc _ k)) hl
theorem Rb.to {R : List Rw} {ws C A : List Int} {a : Int} (h : Rb R ws C A a) : Rch R ws A a := by
 induction h with
 | root a h ho => exact .root a h ho
 | next a b _ hn hl ih => exact .next a b ih hl
theorem Rch.obj {R : List Rw} {ws A : List Int} {a : Int} (h : Rch R ws A a) : a ∈ objs R := by
 cases h with
 | root a h ho => exact ho
 | next a b _ hl => obtain ⟨_,_,_,_,_,h⟩ := hl; exact h
theorem stored_to {R : List Rw} {ws ws' : List Int} {a i x e : Int} (hA : AOk R ws) (h : Stored R ws a i x e ws') : (∀ b k l,Kept R ws b k l → Kept R ws' b k l) ∧ ∀ b j y,b ≠ a → Loaded R ws b j y 0 → Loaded R ws' b j y 0 := by
 cases h with
 | none _ => exact ⟨fun _ _ _ hk => hk,fun _ _ _ _ hk => hk⟩
 | arg _ _ _ _ => exact ⟨fun _ _ _ hk => hk,fun _ _ _ _ hk => hk⟩
 | ok k l hka hi =>
  have hbn := hka.bounds hA
  have hkeep : ∀ b k' l',Kept R ws b k' l' → Kept R (ws.set (a + 1 + i).toNat x) b k' l' := by
   intro b k' l' hb
   obtain ⟨w,q1,q2,q3,q4,q5,q6⟩ := hb
   have hne : (a + 1 + i).toNat ≠ b.toNat := by
    obtain ⟨wa,p1,p2,p3,p4,p5,p6⟩ := hka
    have := within_not hA.rows p1 q1 (j := a + 1 + i) (by omega) (by omega)
    have := q1.facts hA.rows
    omega
   exact .mk k' l' w q1 (by rw [List.getElem?_set_ne hne]; exact q2) q3 q4 q5 q6
  refine ⟨hkeep,fun b j y hne hl => ?_⟩
  cases hl with
  | ok k' l' _ hK hj hy =>
   have hb2 := hK.bounds hA
   refine .ok k' l' y (hkeep _ _ _ hK) hj ?_
   rw [List.getElem?_set_ne ?_]
   ·exact hy
   ·intro e
    have e : a + 1 + i = b + 1 + j := by omega
    obtain ⟨wa,p1,p2,p3,p4,p5,p6⟩ := hka
    obtain ⟨wb,q1,q2,q3,q4,q5,q6⟩ := hK
    rcases Int.lt_trichotomy a b with q | q | q
    ·exact within_not hA.rows p1 q1 (j := b) (by omega) (by omega) rfl
    ·exact hne q.symm
    ·exact within_not hA.rows q1 p1 (j := a) (by omega) (by omega) rfl
structure Cm (R : List Rw) (ws C G : List Int) (ov : Bool) (A : List Int) (v : Int) : Prop where
 all : ov = false → ∀ a ∈ objs R,a ≠ v → C[a.toNat]? = some 1 → a ∈ G
 rb : ∀ a ∈ objs R,C[a.toNat]? ≠ some 0 → Rb R ws C A a
 c3 : ∀ a ∈ objs R,C[a.toNat]? = some 0 ∨ C[a.toNat]? = some 1 ∨ C[a.toNat]? = some 2
theorem Cm.more {R : List Rw} {ws C G : List Int} {ov : Bool} {A B : List Int} {v : Int} (h : Cm R ws C G ov A v) (hA : ∀ a ∈ A,a ∈ B) : Cm R ws C G ov B v :=
 ⟨h.all,fun a ha hn => (h.rb a ha hn).mono (fun _ k => k) hA,h.c3⟩
theorem Cm.shade {R : List Rw} {ws A : List Int} {v a : Int} {s : List Int × List Int × Bool} (hA : AOk R ws) (h : Cm R ws s.1 s.2.1 s.2.2 A v) (hR : a ∈ objs R → Rb R ws s.1 A a) : Cm R ws (shade R 1 a s).1 (shade R 1 a s).2.1 (shade R 1 a s).2.2 A v := by
 have hle := shade_le R 1 a s
 by_cases hc : (1 : Int) = 1 ∧ a ∈ objs R ∧ s.1[a.toNat]? = some 0
 ·have e : Go.Proofs.YtjfdfbpgckilpaaGreatDoor.shade R 1 a s = (s.1.set a.toNat 1,if s.2.1.length < 8 then (s.2.1 ++ [a],s.2.2) else (s.2.1,true)) := by
   unfold Go.Proofs.YtjfdfbpgckilpaaGreatDoor.shade
   rw [if_pos hc]
  rw [e] at hle ⊢
  have hab := obj_bd hA hc.2.1
  have hl := (List.getElem?_eq_some_iff.1 hc.2.2).1
  have hself : (s.1.set a.toNat 1)[a.toNat]? = some 1 := List.getElem?_set_self hl
  have hne : ∀ b ∈ objs R,b ≠ a → (s.1.set a.toNat 1)[b.toNat]? = s.1[b.toNat]? := fun b hb n => List.getElem?_set_ne (by have := obj_bd hA hb; omega)
  refine ⟨?_,fun b hb hn => ?_,fun b hb => ?_⟩
  ·intro ho b hb hbv hb1
   by_cases h8 : s.2.1.length < 8
   ·rw [if_pos h8] at ho ⊢
    by_cases eb : b = a
    ·exact List.mem_append_right _ (by rw [eb]; exact List.mem_singleton.2 rfl)
    ·exact List.mem_append_left _ (h.all ho b hb hbv (by rw [← hne b hb eb]; exact hb1))
   ·rw [if_neg h8] at ho
    exact absurd (show true = false from ho) (by decide)
  ·by_cases eb : b = a
   ·rw [eb]; exact (hR hc.2.1).mono hle.1 (fun _ k => k)
   ·exact (h.rb b hb (by rw [← hne b hb eb]; exact hn)).mono hle.1 (fun _ k => k)
  ·by_cases eb : b = a
   ·rw [eb]; exact .inr (.inl hself)
   ·have := h.c3 b hb
    rw [← hne b hb eb] at this
    exact this
 ·have e : Go.Proofs.YtjfdfbpgckilpaaGreatDoor.shade R 1 a s = s := by
   unfold Go.Proofs.YtjfdfbpgckilpaaGreatDoor.shade
   rw [if_neg hc]
  rw [e]; exact h
theorem Cm.shadeW {R : List Rw} {ws A : List Int} {v w : Int} {s : List Int × List Int × Bool} (hA : AOk R ws) (h : Cm R ws s.1 s.2.1 s.2.2 A v) (hR : w % 2 = 1 → (w - 1) / 2 ∈ objs R → Rb R ws s.1 A ((w - 1) / 2)) : Cm R ws (shadeW R 1 w s).1 (shadeW R 1 w s).2.1 (shadeW R 1 w s).2.2 A v := by
 unfold Go.Proofs.YtjfdfbpgckilpaaGreatDoor.shadeW
 split
 ·rename_i hw
  exact h.shade hA (hR hw)
 ·exact h
theorem Cm.fold {R : List Rw} {ws A : List Int} {v : Int} (hA : AOk R ws) : ∀ (X : List Int) (s : List Int × List Int × Bool),Cm R ws s.1 s.2.1 s.2.2 A v → (∀ w ∈ X,w % 2 = 1 → (w - 1) / 2 ∈ objs R → Rb R ws s.1 A ((w - 1) / 2)) → Cm R ws (X.foldl (fun s w => Go.Proofs.YtjfdfbpgckilpaaGreatDoor.shadeW R 1 w s) s).1 (X.foldl (fun s w => Go.Proofs.YtjfdfbpgckilpaaGreatDoor.shadeW R 1 w s) s).2.1 (X.foldl (fun s w => Go.Proofs.YtjfdfbpgckilpaaGreatDoor.shadeW R 1 w s) s).2.2 A v
 | [],s,h,_ => h
 | w :: X,s,h,hX => Cm.fold hA X _ (h.shadeW hA (hX w (List.mem_cons_self ..))) fun w' hw' h1 h2 => (hX w' (List.mem_cons_of_mem _ hw') h1 h2).mono (shadeW_le R 1 w s).1 (fun _ k => k)
def Rt (R : List Rw) (C A : List Int) : Prop := ∀ a ∈ A,a ∈ objs R → C[a.toNat]? ≠ some 0
theorem Rt.le {R : List Rw} {C C' A : List Int} (h : Rt R C A) (hc : ∀ p : Nat,C'[p]? = some 0 → C[p]? = some 0) : Rt R C' A := fun a ha ho k => h a ha ho (hc _ k)
structure Cy1 (R : List Rw) (ws C G : List Int) (ov : Bool) (A : List Int) : Prop where
 dk : Dk R ws C
 g : GOk R C G
 cm : Cm R ws C G ov A (-1)
 rt : Rt R C A
theorem beg_all {R : List Rw} {ws : List Int} (hA : AOk R ws) : ∀ (A B : List Int) (s : List Int × List Int × Bool),Cm R ws s.1 s.2.1 s.2.2 B (-1) → GOk R s.1 s.2.1 → Rt R s.1 B → Cm R ws (A.foldl (fun s a => shade R 1 a s) s).1 (A.foldl (fun s a => shade R 1 a s) s).2.1 (A.foldl (fun s a => shade R 1 a s) s).2.2 (B ++ A) (-1) ∧ GOk R (A.foldl (fun s a => shade R 1 a s) s).1 (A.foldl (fun s a => shade R 1 a s) s).2.1 ∧ Rt R (A.foldl (fun s a => shade R 1 a s) s).1 (B ++ A)
 | [],B,s,h1,h2,h3 => by rw [List.append_nil]; exact ⟨h1,h2,h3⟩
 | a :: A,B,s,h1,h2,h3 => by
  have k := beg_all hA A (B ++ [a]) (shade R 1 a s) ((h1.more (fun x hx => List.mem_append_left _ hx)).shade hA (fun ho => .root a (List.mem_append_right _ (List.mem_singleton.2 rfl)) ho)) (shade_gok h2) (fun x hx ho => by
   rcases List.mem_append.1 hx with hx | hx
   ·exact h3.le (shade_le R 1 a s).1 x hx ho
   ·rw [List.mem_singleton.1 hx] at ho ⊢; exact shade_hit R a s ho)
  rw [List.append_assoc] at k
  exact k
theorem Cy1.begin {R : List Rw} {ws C G A : List Int} {ov : Bool} {W : Int} (hA : AOk R ws) (hW : W = 32 * R.length) (h : (C,G,ov) = begS R W A) : Cy1 R ws C G ov A := by
 have hrep : ∀ a ∈ objs R,(List.replicate W.toNat (0 : Int))[a.toNat]? = some 0 := by
  intro a ha
  have := obj_bd hA ha
  rw [List.getElem?_replicate,if_pos (by omega)]
 have k := beg_all hA A [] (List.replicate W.toNat 0,[],false) ⟨fun _ a ha _ h1 => by rw [hrep a ha] at h1; exact absurd (Option.some.inj h1) (by decide),fun a ha hn => absurd (hrep a ha) hn,fun a ha => .inl (hrep a ha)⟩ ⟨fun x hx => (by cases hx),fun x hx => (by cases hx),List.nodup_nil⟩ (fun a ha => by cases ha)
 have h1 : C = (begS R W A).1 := congrArg Prod.fst h
 have h2 : G = (begS R W A).2.1 := congrArg (fun x => x.2.1) h
 have h3 : ov = (begS R W A).2.2 := congrArg (fun x => x.2.2) h
 have hdk := Dk.begin (ws := ws) h
 rw [h1,h2,h3] at *
 exact ⟨hdk,k.2.1,k.1,k.2.2⟩
structure Done (R : List Rw) (ws C A : List Int) : Prop where
 two : ∀ a ∈ objs R,C[a.toNat]? = some 0 ∨ C[a.toNat]? = some 2
 iff : ∀ a ∈ objs R,C[a.toNat]? = some 0 ↔ ¬ Rch R ws A a
 due : ∀ a,¬ Due R ws C a
theorem Cy1.done {R : List Rw} {ws C G A : List Int} {ov : Bool} (h : Cy1 R ws C G ov A) (hg : ∀ a ∈ objs R,C[a.toNat]? ≠ some 1) (hd : ∀ a,¬ Due R ws C a) : Done R ws C A := by
 have htwo : ∀ a ∈ objs R,C[a.toNat]? = some 0 ∨ C[a.toNat]? = some 2 := by
  intro a ha
  rcases h.cm.c3 a ha with q | q | q
  ·exact .inl q
  ·exact absurd q (hg a ha)
  ·exact .inr q
 refine ⟨htwo,fun a ha => ⟨fun h0 hr => ?_,fun hn => Classical.byContradiction fun k => hn (h.cm.rb a ha k).to⟩,hd⟩
 have : ∀ a,Rch R ws A a → C[a.toNat]? ≠ some 0 := by
  intro a hr
  induction hr with
  | root a hm ho => exact h.rt a hm ho
  | next a b hr hl ih =>
   obtain ⟨i,x,hx,hx1,hb,ho⟩ := hl
   rw [← hb] at ho ⊢
   exact h.dk a x i hr.obj ((htwo a hr.obj).resolve_left ih) hx hx1 ho
 exact this a hr h0
abbrev spots (out : List Gn) : List Int := out.map fun g => g.2.1
theorem Cy1.marked {R : List Rw} {ws ws' C C' G G' A : List Int} {ov ov' : Bool} {sp p s : Int} {out : List Gn} (hA : AOk R ws) (hCl : (C.length : Int) = 32 * R.length) (h : Cy1 R ws C G ov A) (hm : Marked R ws C G ov sp out p s ws' C' G' ov') :
  (p = 1 ∧ Cy1 R ws' C' G' ov' (A ++ spots out) ∧ (out = [] ∧ ws' = ws ∨ ∃ a X,out = [(5,a,X,true)] ∧ Wrds R ws a X ∧ Stored R ws a 1 0 0 ws' ∧ Due R ws C a)) ∨ (p = 2 ∧ s = 0 ∧ out = [] ∧ ws' = ws ∧ C' = C ∧ Done R ws C A) := by
 have hg0 : ∀ x ∈ G,0 ≤ x := fun x hx => (obj_bd hA (h.g.obj x hx)).1
 have hgo : p = 1 → GOk R C' G' := by
  intro hp
  rcases (marked_cy (N := 1) hA hCl (by omega) h.g hm).1 with ⟨_,k,_⟩ | ⟨k,_⟩ | ⟨k,_⟩
  ·exact k
  ·omega
  ·omega
 have hdk := Dk.marked hA hg0 hCl h.dk hm
 cases hm with
 | scan v A0 X _ _ o1 _ hg hX hs =>
  have hC : C' = (X.foldl (fun s w => shadeW R 1 w s) (C,A0,o1)).1.set v.toNat 2 := congrArg Prod.fst hs
  have hG : G' = (X.foldl (fun s w => shadeW R 1 w s) (C,A0,o1)).2.1 := congrArg (fun x => x.2.1) hs
  have hO : ov' = (X.foldl (fun s w => shadeW R 1 w s) (C,A0,o1)).2.2 := congrArg (fun x => x.2.2) hs
  obtain ⟨hv,hv1,hall⟩ : v ∈ objs R ∧ C[v.toNat]? = some 1 ∧ (o1 = false → ∀ a ∈ objs R,a ≠ v → C[a.toNat]? = some 1 → a ∈ A0) := by
   cases hg with
   | pop _ _ hGA =>
    refine ⟨h.g.obj v (by rw [hGA]; simp),h.g.grey v (by rw [hGA]; simp),fun ho a ha hav h1 => ?_⟩
    have := h.cm.all ho a ha (by have := obj_bd hA ha; omega) h1
    rw [hGA] at this
    rcases List.mem_append.1 this with q | q
    ·exact q
    ·exact absurd (List.mem_singleton.1 q) hav
   | found _ _ _ _ ha hc _ => exact ⟨List.mem_of_getElem? ha,hc,fun ho => absurd ho (by decide)⟩
  have hvn : C[v.toNat]? ≠ some 0 := by rw [hv1]; exact fun q => absurd (Option.some.inj q) (by decide)
  have hF := Cm.fold (v := v) (A := A) hA X (C,A0,o1) ⟨hall,h.cm.rb,h.cm.c3⟩ (fun w hw h1 h2 => by
   obtain ⟨i,hi⟩ := List.getElem?_of_mem hw
   exact .next v _ (h.cm.rb v hv hvn) hvn ⟨i,w,hX.2 i w hi,h1,rfl,h2⟩)
  have hle := fold_le R 1 X (C,A0,o1)
  have hgr := fold_grey R 1 X (C,A0,o1) _ hv1
  generalize (X.foldl (fun s w => shadeW R 1 w s) (C,A0,o1)) = F at hC hG hO hF hle hgr
  have hl := (List.getElem?_eq_some_iff.1 hgr).1
  have hself : C'[v.toNat]? = some 2 := by rw [hC]; exact List.getElem?_set_self hl
  have hne : ∀ q : Nat,v.toNat ≠ q → C'[q]? = F.1[q]? := fun q e => by rw [hC,List.getElem?_set_ne e]
  have hw : ∀ q : Nat,C'[q]? = some 0 → F.1[q]? = some 0 := by
   intro q h0
   by_cases e : v.toNat = q
   ·rw [← e,hself] at h0; exact absurd (Option.some.inj h0) (by decide)
   ·rw [← hne q e]; exact h0
  have hnv : ∀ a ∈ objs R,a ≠ v → v.toNat ≠ a.toNat := fun a ha n => by have := obj_bd hA ha; have := obj_bd hA hv; omega
  refine .inl ⟨rfl,⟨hdk rfl,hgo rfl,⟨fun ho a ha _ h1 => ?_,fun a ha hn => ?_,fun a ha => ?_⟩,?_⟩,.inl ⟨rfl,rfl⟩⟩
  ·by_cases e : a = v
   ·rw [e,hself] at h1; exact absurd (Option.some.inj h1) (by decide)
   ·rw [hG]
    exact hF.all (by rw [← hO]; exact ho) a ha e (by rw [← hne _ (hnv a ha e)]; exact h1)
  ·rw [show A ++ spots [] = A from List.append_nil A]
   by_cases e : a = v
   ·rw [e]; exact (h.cm.rb v hv hvn).mono (fun q k => hle.1 q (hw q k)) (fun _ k => k)
   ·exact (hF.rb a ha (by rw [← hne _ (hnv a ha e)]; exact hn)).mono hw (fun _ k => k)
  ·by_cases e : a = v
   ·rw [e]; exact .inr (.inr hself)
   ·rw [hne _ (hnv a ha e)]; exact hF.c3 a ha
  ·rw [show A ++ spots [] = A from List.append_nil A]
   exact h.rt.le fun q k => hle.1 q (hw q k)
 | keep a A0 X _ _ _ o1 _ hg hf hX hst hs =>
  have hC : C' = (shade R 1 a (C,A0,o1)).1 := congrArg Prod.fst hs
  have hG : G' = (shade R 1 a (C,A0,o1)).2.1 := congrArg (fun x => x.2.1) hs
  have hO : ov' = (shade R 1 a (C,A0,o1)).2.2 := congrArg (fun x => x.2.2) hs
  have hall : o1 = false → ∀ b ∈ objs R,b ≠ -1 → C[b.toNat]? = some 1 → b ∈ A0 := by
   cases hg with
   | none hG0 ho => intro _ b hb hb1 h1; have := h.cm.all ho b hb hb1 h1; rw [hG0] at this; cases this
   | settle hG0 ho hn => intro _ b hb _ h1; obtain ⟨i,hi⟩ := List.getElem?_of_mem hb; exact absurd h1 (hn i b hi)
  have hfd : a ∈ objs R ∧ Due R ws C a := by
   cases hf with
   | found _ _ ha hd _ => exact ⟨List.mem_of_getElem? ha,hd⟩
  have hao := hfd.1
  have ha0 := hfd.2.2.1
  have hsh := Cm.shade (R := R) (ws := ws) (v := -1) (a := a) (s := (C,A0,o1)) (A := A ++ [a]) hA (Cm.more ⟨hall,h.cm.rb,h.cm.c3⟩ (fun x hx => List.mem_append_left _ hx)) (fun ho => .root a (List.mem_append_right _ (List.mem_singleton.2 rfl)) ho)
  have hle := shade_le R 1 a (C,A0,o1)
  have hhit := shade_hit R a (C,A0,o1) hao
  have hto := (stored_to hA hst).2
  rw [← hC,← hG,← hO] at hsh
  rw [← hC] at hle hhit
  have hrb : ∀ b,Rb R ws C A b → Rb R ws' C' (A ++ [a]) b := by
   intro b hb
   induction hb with
   | root b hm ho => exact .root b (List.mem_append_left _ hm) ho
   | next b c _ hn hl ih =>
    obtain ⟨i,x,hx,hx1,hc,ho⟩ := hl
    exact .next b c ih (fun k => hn (hle.1 _ k)) ⟨i,x,hto b i x (fun e => hn (by rw [e]; exact ha0)) hx,hx1,hc,ho⟩
  refine .inl ⟨rfl,⟨hdk rfl,hgo rfl,⟨hsh.all,fun b hb hn => ?_,hsh.c3⟩,?_⟩,.inr ⟨a,X,rfl,hX,hst,hfd.2⟩⟩
  ·show Rb R ws' C' (A ++ [a]) b
   by_cases e : b = a
   ·rw [e]; exact .root a (List.mem_append_right _ (List.mem_singleton.2 rfl)) hao
   ·refine hrb b (h.cm.rb b hb ?_)
    have hab := obj_bd hA hao
    have hbb := obj_bd hA hb
    intro k
    refine hn ?_
    rw [hC]
    unfold shade
    rw [if_pos ⟨rfl,hao,ha0⟩]
    show (C.set a.toNat 1)[b.toNat]? = some 0
    rw [List.getElem?_set_ne (by omega)]
    exact k
  ·intro b hb ho
   have hb : b ∈ A ++ [a] := hb
   rcases List.mem_append.1 hb with hb | hb
   ·exact h.rt.le hle.1 b hb ho
   ·rw [List.mem_singleton.1 hb]; exact hhit
 | sweep A0 o1 hg hf =>
  refine .inr ⟨rfl,rfl,rfl,rfl,rfl,h.done (fun a ha h1 => ?_) (fun a hd => ?_)⟩
  ·cases hg with
   | none hG ho => have := h.cm.all ho a ha (by have := obj_bd hA ha; omega) h1; rw [hG] at this; cases this
   | settle _ _ hn => obtain ⟨i,hi⟩ := List.getElem?_of_mem ha; exact hn i a hi h1
  ·cases hf with
   | none hn =>
    obtain ⟨l,hk⟩ := hd.1
    obtain ⟨i,hi⟩ := List.getElem?_of_mem ((obj_iff hA a).2 hk.obj6)
    exact hn i a hi hd
structure Cy2 (R0 R : List Rw) (ws C A : List Int) (lim : Int) (X : List Int) : Prop where
 done : Done R0 ws C A
 go : ∀ x,x ∈ X ↔ x ∈ objs R0 ∧ C[x.toNat]? = some 0 ∧ x < lim
 rest : ∀ x,x ∈ objs R ↔ x ∈ objs R0 ∧ x ∉ X
 kept : ∀ x k l,Kept R ws x k l → Kept R0 ws x k l
theorem Cy2.swept {R0 R R' : List Rw} {ws C A X : List Int} {sp : Int} {out : List Gn} (hA : AOk R ws) (h : Cy2 R0 R ws C A (32 * sp) X) (hs : SweptTo ws C R (32 * sp) 32 out R') : Cy2 R0 R' ws C A (32 * (sp + 1)) (X ++ spots out) := by
 have f := hs.facts hA
 have hgo : ∀ x,x ∈ X ++ spots out ↔ x ∈ objs R0 ∧ C[x.toNat]? = some 0 ∧ x < 32 * (sp + 1) := by
  intro x
  rw [List.mem_append,h.go x,f.mem x]
  constructor
  ·rintro (⟨h1,h2,h3⟩ | ⟨h1,h2,h3,h4⟩)
   ·exact ⟨h1,h2,by omega⟩
   ·exact ⟨((h.rest x).1 h3).1,h4,by omega⟩
  ·rintro ⟨h1,h2,h3⟩
   by_cases e : x < 32 * sp
   ·exact .inl ⟨h1,h2,e⟩
   ·exact .inr ⟨by omega,by omega,(h.rest x).2 ⟨h1,fun k => e ((h.go x).1 k).2.2⟩,h2⟩
 refine ⟨h.done,hgo,fun x => ?_,fun x k l hk => h.kept x k l (f.kept x k l hk)⟩
 rw [f.left x,h.rest x,List.mem_append]
 constructor
 ·rintro ⟨⟨h1,h2⟩,h3⟩; exact ⟨h1,fun k => k.elim h2 h3⟩
 ·rintro ⟨h1,h2⟩; exact ⟨⟨h1,fun k => h2 (.inl k)⟩,fun k => h2 (.inr k)⟩
def Cyc (R0 R : List Rw) (ws C G : List Int) (ov : Bool) (ph sp N : Int) (A K X : List Int) : Prop :=
 (ph = 1 ∧ R = R0 ∧ X = [] ∧ Cy1 R ws C G ov (A ++ K)) ∨ (ph = 2 ∧ Cy2 R0 R ws C (A ++ K) (32 * sp) X) ∨ (ph = 0 ∧ Cy2 R0 R ws C (A ++ K) (32 * N) X)
def keptOf (out : List Gn) : List Int := (out.filter fun g => g.2.2.2).map fun g => g.2.1
def goneOf (out : List Gn) : List Int := (out.filter fun g => !g.2.2.2).map fun g => g.2.1
theorem Cyc.stepd {R0 R R' : List Rw} {ws ws' C C' G G' A K X : List Int} {ov ov' : Bool} {ph sp cy W N p s y : Int} {out : List Gn} (hA : AOk R ws) (hN : N = R.length) (hW : W = 32 * N) (hCl : (C.length : Int) = W) (hsp : 0 ≤ sp ∧ sp ≤ N) (h : Cyc R0 R ws C G ov ph sp N A K X) (hsN : ph = 2 → sp < N) (hs : Stepd R ws C G ov ph sp cy W out R' ws' C' G' ov' p s y) :
  Cyc R0 R' ws' C' G' ov' p s N A (K ++ keptOf out) (X ++ goneOf out) ∧ (ph ≠ 1 → keptOf out = []) ∧ (ws' = ws ∧ keptOf out = [] ∨ ph = 1 ∧ ∃ a Y,out = [(5,a,Y,true)] ∧ Wrds R ws a Y ∧ Stored R ws a 1 0 0 ws' ∧ Due R ws C a) := by
 cases hs with
 | mark _ _ _ _ _ _ _ hp hm =>
  subst hp
  rcases h with ⟨_,rfl,rfl,h⟩ | ⟨q,_⟩ | ⟨q,_⟩
  ·rcases h.marked hA (by omega) hm with ⟨rfl,h1,⟨rfl,rfl⟩ | ⟨a,Y,rfl,hY,hst,hd⟩⟩ | ⟨rfl,rfl,rfl,rfl,rfl,hd⟩
   ·have h1 : Cy1 R ws' C' G' ov' (A ++ K) := by rw [show A ++ K ++ spots [] = A ++ K from List.append_nil _] at h1; exact h1
    exact ⟨.inl ⟨rfl,rfl,rfl,by rw [show K ++ keptOf [] = K from List.append_nil _]; exact h1⟩,fun _ => rfl,.inl ⟨rfl,rfl⟩⟩
   ·exact ⟨.inl ⟨rfl,rfl,rfl,by rw [← List.append_assoc]; exact h1⟩,fun k => absurd rfl k,.inr ⟨rfl,a,Y,rfl,hY,hst,hd⟩⟩
   ·refine ⟨.inr (.inl ⟨rfl,?_⟩),fun _ => rfl,.inl ⟨rfl,rfl⟩⟩
    rw [show K ++ keptOf [] = K from List.append_nil _]
    exact ⟨hd,fun x => ⟨fun k => (by cases k),fun ⟨k1,_,k2⟩ => (by have := obj_bd hA k1; omega)⟩,fun x => ⟨fun k => ⟨k,fun q => (by cases q)⟩,fun k => k.1⟩,fun _ _ _ k => k⟩
  ·exact absurd q (by decide)
  ·exact absurd q (by decide)
 | sweep _ _ hp hs =>
  subst hp
  rcases h with ⟨q,_⟩ | ⟨_,h⟩ | ⟨q,_⟩
  ·exact absurd q (by decide)
  ·have f := hs.facts hA
   have hfl : ∀ g ∈ out,g.2.2.2 = false := fun g hg => (f.each g hg).2.2
   have hk : keptOf out = [] := by
    unfold keptOf
    rw [List.filter_eq_nil_iff.2 (fun g hg => by rw [hfl g hg]; decide)]
    rfl
   have hg : goneOf out = spots out := by
    unfold goneOf
    rw [List.filter_eq_self.2 (fun g hg => by rw [hfl g hg]; decide)]
   rw [hk,hg,List.append_nil]
   have h2 := h.swept hA hs
   refine ⟨?_,fun _ => rfl,.inl ⟨rfl,rfl⟩⟩
   unfold swPh
   split
   ·have e : sp + 1 = N := by have := hsN rfl; omega
    rw [e] at h2
    exact .inr (.inr ⟨rfl,h2⟩)
   ·exact .inr (.inl ⟨rfl,h2⟩)
  ·exact absurd q (by decide)
 | idle h1 h2 =>
  refine ⟨?_,fun _ => rfl,.inl ⟨rfl,rfl⟩⟩
  rw [show K ++ keptOf [] = K from List.append_nil _,show X ++ goneOf [] = X from List.append_nil _]
  exact h
theorem marked_white {R : List Rw} {ws ws' C C' G G' : List Int} {ov ov' : Bool} {sp p s : Int} {out : List Gn} (hm : Marked R ws C G ov sp out p s ws' C' G' ov') : ∀ q : Nat,C'[q]? = some 0 → C[q]? = some 0 := by
 cases hm with
 | scan v A0 X _ _ o1 _ hg hX hs =>
  have hC : C' = (X.foldl (fun s w => shadeW R 1 w s) (C,A0,o1)).1.set v.toNat 2 := congrArg Prod.fst hs
  have hle := fold_le R 1 X (C,A0,o1)
  generalize (X.foldl (fun s w => shadeW R 1 w s) (C,A0,o1)) = F at hC hle
  intro q hq
  refine hle.1 q ?_
  rw [hC] at hq
  by_cases e : v.toNat = q
  ·subst e
   by_cases hl : v.toNat < F.1.length
   ·rw [List.getElem?_set_self hl] at hq; exact absurd (Option.some.inj hq) (by decide)
   ·rw [List.getElem?_eq_none (by rw [List.length_set]; omega)] at hq; cases hq
  ·rw [List.getElem?_set_ne e] at hq; exact hq
 | keep a A0 X _ _ _ o1 _ hg hf hX hst hs =>
  have hC : C' = (shade R 1 a (C,A0,o1)).1 := congrArg Prod.fst hs
  rw [hC]
  exact (shade_le R 1 a (C,A0,o1)).1
 | sweep A0 o1 hg hf => exact fun q h => h
theorem stepd_keep {R R' : List Rw} {ws ws' C C' G G' : List Int} {ov ov' : Bool} {ph sp cy W p s y x : Int} {out : List Gn} (hA : AOk R ws) (hx : x ∈ objs R ∧ (ph ≠ 0 → C[x.toNat]? ≠ some 0)) (hs : Stepd R ws C G ov ph sp cy W out R' ws' C' G' ov' p s y) : x ∈ objs R' ∧ (p ≠ 0 → C'[x.toNat]? ≠ some 0) := by
 cases hs with
 | mark _ _ _ _ _ _ _ hp hm => exact ⟨hx.1,fun _ k => hx.2 (by omega) (marked_white hm _ k)⟩
 | sweep _ _ hp hs =>
  have f := hs.facts hA
  refine ⟨(f.left x).2 ⟨hx.1,fun k => hx.2 (by omega) ((f.mem x).1 k).2.2.2⟩,fun _ => hx.2 (by omega)⟩
 | idle h1 h2 => exact hx
theorem stepd_kept {R R' : List Rw} {ws ws' C C' G G' : List Int} {ov ov' : Bool} {ph sp cy W p s y : Int} {out : List Gn} (hA : AOk R ws) (hs : Stepd R ws C G ov ph sp cy W out R' ws' C' G' ov' p s y) : ∀ b k l,Kept R' ws' b k l → Kept R ws b k l := by
 cases hs with
 | mark _ _ _ _ _ _ _ hp hm =>
  cases hm with
  | scan _ _ _ _ _ _ _ _ _ _ => exact fun _ _ _ k => k
  | keep _ _ _ _ _ _ _ _ _ _ _ hst _ => exact stored_kept hA hst
  | sweep _ _ _ _ => exact fun _ _ _ k => k
 | sweep _ _ hp hs => exact (hs.facts hA).kept
 | idle h1 h2 => exact fun _ _ _ k => k
theorem stored_own {R : List Rw} {ws ws' : List Int} {a i x e k l : Int} (hA : AOk R ws) (hK : Kept R ws a k l) (hi : 0 ≤ i ∧ i < l) (h : Stored R ws a i x e ws') : e = 0 ∧ Loaded R ws' a i x 0 ∧ ∀ j y,j ≠ i → Loaded R ws a j y 0 → Loaded R ws' a j y 0 := by
 obtain ⟨he,hw⟩ := stored_of hK hi h
 have hk2 := (stored_to hA h).1
 have hb := hK.bounds hA
 have hlen := hA.len
 refine ⟨he,.ok k l x (hk2 _ _ _ hK) hi (by rw [hw]; exact List.getElem?_set_self (by omega)),fun j y hj hl => ?_⟩
 cases hl with
 | ok k' l' _ hK' hj2 hy =>
  refine .ok k' l' y (hk2 _ _ _ hK') hj2 ?_
  rw [hw,List.getElem?_set_ne (by omega)]
  exact hy
structure Chn (R : List Rw) (ws y : List Int) (P : Nat → Prop) : Prop where
 box : ∀ b ∈ y,Kept R ws b 5 2
 nd : y.Nodup
 fin : ∀ a ∈ y,Loaded R ws a 1 0 0
 nxt : ∀ (k : Nat) a b,P k → y[k]? = some a → y[k + 1]? = some b → Loaded R ws a 0 (b * 2 + 1) 0
theorem Chn.store {R : List Rw} {ws ws' y : List Int} {P : Nat → Prop} {k : Nat} {a b e : Int} (hA : AOk R ws) (h : Chn R ws y P) (ha : y[k]? = some a) (hb : y[k + 1]? = some b) (hs : Stored R ws a 0 (b * 2 + 1) e ws') : e = 0 ∧ Chn R ws' y (fun j => j = k ∨ P j) := by
 obtain ⟨h1,h2,h3⟩ := stored_own hA (h.box a (List.mem_of_getElem? ha)) (by omega) hs
 obtain ⟨h4,h5⟩ := stored_to hA hs
 have hl : ∀ c j v,(c = a → j ≠ 0) → Loaded R ws c j v 0 → Loaded R ws' c j v 0 := by
  intro c j v hc hv
  by_cases e : c = a
  ·subst e; exact h3 j v (hc rfl) hv
  ·exact h5 c j v e hv
 refine ⟨h1,fun c hc => h4 _ _ _ (h.box c hc),h.nd,fun c hc => hl c 1 0 (fun _ => by decide) (h.fin c hc),fun j c d hj hc hd => ?_⟩
 by_cases e : j = k
 ·subst e
  rw [ha] at hc; rw [hb] at hd
  obtain rfl := Option.some.inj hc
  obtain rfl := Option.some.inj hd
  exact h2
 ·refine hl c 0 _ (fun ec => ?_) (h.nxt j c d (hj.resolve_left e) hc hd)
  subst ec
  have hjl := (List.getElem?_eq_some_iff.1 hc).1
  exact absurd ((List.getElem?_inj hjl h.nd).1 (hc.trans ha.symm)) e
structure At (C G : List Int) (ov : Bool) (y : List Int) (k : Nat) : Prop where
 g : ∃ a,y[k]? = some a ∧ G = [a]
 ov : ov = false
 wh : ∀ (j : Nat) b,k < j → y[j]? = some b → C[b.toNat]? = some 0
theorem loaded_one {R : List Rw} {ws : List Int} {a i x y : Int} (h1 : Loaded R ws a i x 0) (h2 : Loaded R ws a i y 0) : x = y := by
 cases h1 with
 | ok _ _ _ _ _ q1 => cases h2 with
  | ok _ _ _ _ _ q2 => rw [q1] at q2; exact Option.some.inj q2
theorem At.step {R R' : List Rw} {ws ws' C C' G G' y : List Int} {ov ov' : Bool} {ph sp cy W p s yy : Int} {out : List Gn} {k : Nat} {P : Nat → Prop} (hA : AOk R ws) (hc : Chn R ws y P) (hP : P k) (h : At C G ov y k) (hk : k + 1 < y.length) (hph : ph = 1) (hs : Stepd R ws C G ov ph sp cy W out R' ws' C' G' ov' p s yy) : p = 1 ∧ s = sp ∧ yy = cy ∧ R' = R ∧ ws' = ws ∧ At C' G' ov' y (k + 1) := by
 obtain ⟨a,ha,hG⟩ := h.g
 obtain ⟨b,hb⟩ : ∃ b,y[k + 1]? = some b := ⟨_,List.getElem?_eq_getElem hk⟩
 have ham := List.mem_of_getElem? ha
 have hbm := List.mem_of_getElem? hb
 have hKa := hc.box a ham
 cases hs with
 | mark _ _ _ _ _ _ _ hp hm =>
  cases hm with
  | scan v A0 X _ _ o1 _ hg hX hs =>
   have hvA : v = a ∧ A0 = [] ∧ o1 = false := by
    cases hg with
    | pop _ _ hGA =>
     rw [hG] at hGA
     have hl : A0.length = 0 := by have := congrArg List.length hGA; simp at this; exact this ▸ rfl
     have hA0 : A0 = [] := List.eq_nil_of_length_eq_zero hl
     subst hA0
     exact ⟨(by simpa using hGA.symm),rfl,h.ov⟩
    | found _ _ hG0 _ _ _ _ => rw [hG] at hG0; cases hG0
   obtain ⟨rfl,rfl,rfl⟩ := hvA
   have hX2 : X = [b * 2 + 1,0] := by
    have hl2 : X.length = 2 := by
     have hl := hX.1
     generalize hxl : (X.length : Int) = xl at hl
     cases hl with
     | no hn => exact absurd hKa.obj6 hn
     | is k2 l2 hK2 => have := (hKa.det9 hK2).2; omega
    match X,hl2,hX with
    | [x0,x1],_,hX =>
     have e0 := loaded_one (hX.2 0 x0 rfl) (hc.nxt k _ b hP ha hb)
     have e1 := loaded_one (hX.2 1 x1 rfl) (hc.fin _ ham)
     rw [e0,e1]
   have hbo : b ∈ objs R := (obj_iff hA b).2 (hc.box b hbm).obj6
   have hb0 := h.wh (k + 1) b (by omega) hb
   have hsh : ∀ s : List Int × List Int × Bool,shadeW R 1 0 s = s := fun s => by unfold shadeW; rw [if_neg (by decide)]
   have hs1 : shadeW R 1 (b * 2 + 1) (C,[],false) = (C.set b.toNat 1,[b],false) := by
    unfold shadeW
    rw [if_pos (by omega),show (b * 2 + 1 - 1) / 2 = b by omega]
    unfold shade
    rw [if_pos ⟨rfl,hbo,hb0⟩]
    rfl
   have hF : scanS R 1 v X (C,[],false) = ((C.set b.toNat 1).set v.toNat 2,[b],false) := by
    unfold scanS
    rw [hX2]
    simp only [List.foldl_cons,List.foldl_nil,hs1,hsh]
   rw [hF] at hs
   cases hs
   refine ⟨rfl,rfl,rfl,rfl,rfl,⟨b,hb,rfl⟩,rfl,fun j c hj hcy => ?_⟩
   have hcm := List.mem_of_getElem? hcy
   have hne : ∀ (i : Nat) d,i < j → y[i]? = some d → d.toNat ≠ c.toNat := by
    intro i d hi hd e
    have b1 := (hc.box d (List.mem_of_getElem? hd)).bounds hA
    have b2 := (hc.box c hcm).bounds hA
    have e : d = c := by omega
    subst e
    have := (List.getElem?_inj (List.getElem?_eq_some_iff.1 hd).1 hc.nd).1 (hd.trans hcy.symm)
    omega
   rw [List.getElem?_set_ne (hne k _ (by omega) ha),List.getElem?_set_ne (hne (k + 1) _ (by omega) hb)]
   exact h.wh j c (by omega) hcy
  | keep a2 A0 X _ _ _ o1 _ hg hf hX hst hs =>
   exfalso
   cases hg with
   | none h1 _ => rw [hG] at h1; cases h1
   | settle h1 _ _ => rw [hG] at h1; cases h1
  | sweep A0 o1 hg hf =>
   exfalso
   cases hg with
   | none h1 _ => rw [hG] at h1; cases h1
   | settle h1 _ _ => rw [hG] at h1; cases h1
 | sweep _ _ hp _ => omega
 | idle h1 _ => exact absurd hph h1
theorem At.begin {R : List Rw} {ws C G y : List Int} {ov : Bool} {W N a : Int} {P : Nat → Prop} (hA : AOk R ws) (hW : W = 32 * R.length) (hc : Chn R ws y P) (ha : y[0]? = some a) (h : (C,G,ov) = begS R W [a]) : At C G ov y 0 ∧ CyI R C G 1 0 0 N ∧ C[a.toNat]? ≠ some 0 := by
 have ham := List.mem_of_getElem? ha
 have hrep : ∀ b ∈ y,(List.replicate W.toNat (0 : Int))[b.toNat]? = some 0 := by
  intro b hb
  have := (hc.box b hb).bounds hA
  rw [List.getElem?_replicate,if_pos (by omega)]
 have hao : a ∈ objs R := (obj_iff hA a).2 (hc.box a ham).obj6
 have h : (C,G,ov) = ((List.replicate W.toNat 0).set a.toNat 1,[a],false) := by
  rw [h]
  show shade R 1 a (List.replicate W.toNat 0,[],false) = _
  unfold shade
  rw [if_pos ⟨rfl,hao,hrep a ham⟩]
  rfl
 cases h
 have hl := (List.getElem?_eq_some_iff.1 (hrep a ham)).1
 have hself : ((List.replicate W.toNat (0 : Int)).set a.toNat 1)[a.toNat]? = some 1 := List.getElem?_set_self hl
 refine ⟨⟨⟨a,ha,rfl⟩,rfl,fun j b hj hb => ?_⟩,.inl ⟨rfl,⟨fun x hx => ?_,fun x hx => ?_,by simp⟩,rfl⟩,by rw [hself]; decide⟩
 ·have hbm := List.mem_of_getElem? hb
  rw [List.getElem?_set_ne]
  ·exact hrep b hbm
  ·intro e
   have b1 := (hc.box a ham).bounds hA
   have b2 := (hc.box b hbm).bounds hA
   have e : a = b := by omega
   subst e
   have := (List.getElem?_inj (List.getElem?_eq_some_iff.1 ha).1 hc.nd).1 (ha.trans hb.symm)
   omega
 ·rw [List.mem_singleton.1 hx]; exact hao
 ·rw [List.mem_singleton.1 hx]; exact hself
structure Grown (R : List Rw) (ws l : List Int) : Prop where
 box : ∀ b ∈ l,Kept R ws b 5 2
 nd : l.Nodup
 zero : ∀ a ∈ l,∀ j,0 ≤ j → j < 2 → ws[(a + 1 + j).toNat]? = some 0
 cnt : objCount R = l.length
theorem Grown.alloc {R R' : List Rw} {ws ws' l : List Int} {a e : Int} (hA : AOk R ws) (h : Grown R ws l) (hr : l.length < R.length) (hs : Alloct R ws 5 2 a e R' ws') : e = 0 ∧ Grown R' ws' (l ++ [a]) := by
 have he : e = 0 := by have := alloct_err hA hs (by rw [h.cnt]; omega); rw [if_pos (by decide)] at this; exact this
 obtain ⟨h1,h2,h3,h4,h5,_,h7⟩ := alloct_ok hA hs he
 refine ⟨he,fun b hb => ?_,?_,fun b hb j hj0 hj1 => ?_,?_⟩
 ·rcases List.mem_append.1 hb with hb | hb
  ·exact h5 b 5 2 (h.box b hb)
  ·rw [List.mem_singleton.1 hb]; exact h1
 ·rw [List.nodup_append]
  refine ⟨h.nd,by simp,fun x hx y hy e => ?_⟩
  rw [List.mem_singleton.1 hy] at e
  subst e
  exact h2 (h.box x hx).obj6
 ·rcases List.mem_append.1 hb with hb | hb
  ·rw [h7 b 5 2 j (h.box b hb) hj0 hj1]; exact h.zero b hb j hj0 hj1
  ·rw [List.mem_singleton.1 hb]; exact h4 j hj0 hj1
 ·rw [h3,h.cnt,List.length_append]; rfl
theorem Grown.chn {R : List Rw} {ws l : List Int} (h : Grown R ws l) : Chn R ws l (fun _ => False) :=
 ⟨h.box,h.nd,fun a ha => .ok 5 2 0 (h.box a ha) (by omega) (h.zero a ha 1 (by omega) (by omega)),fun _ _ _ k => k.elim⟩
end Go.Proofs.YtjfdfbpgckilpaaGreatDoor
namespace Go.Proofs.YtjfdfbpgckilpaaGreatDoor
open Go Go.LX
set_option maxRecDepth 100000
set_option linter.unusedVariables false
set_option linter.unusedSimpArgs false
set_option maxHeartbeats 32000000
structure Dfs (R : List Rw) (vs A : List Int) (sn : List Bool) (td : List Int) (v : Int) (i : Int) : Prop where
 so : ∀ x : Nat,sn[x]? = some true → (x : Int) ∈ objs R ∧ Rch R vs A x
 tq : ∀ t ∈ td,t ∈ objs R → Rch R vs A t
 rt : ∀ a ∈ A,a ∈ objs R → sn[a.toNat]? = some true ∨ a ∈ td
 cl : ∀ x : Nat,sn[x]? = some true → ∀ j w,Loaded R vs x j w 0 → w % 2 = 1 → (w - 1) / 2 ∈ objs R → ((x : Int) = v ∧ i ≤ j) ∨ sn[((w - 1) / 2).toNat]? = some true ∨ (w - 1) / 2 ∈ td
theorem Dfs.start (R : List Rw) (vs A : List Int) (n : Nat) : Dfs R vs A (List.replicate n false) A (-1) 0 := by
 have hno : ∀ x : Nat,(List.replicate n false)[x]? ≠ some true := by
  intro x hx
  have := List.mem_of_getElem? hx
  rw [List.mem_replicate] at this
  cases this.2
 exact ⟨fun x hx => absurd hx (hno x),fun t ht ho => .root t ht ho,fun a ha _ => .inr ha,fun x hx => absurd hx (hno x)⟩
theorem Dfs.skip {R : List Rw} {vs A td : List Int} {sn : List Bool} {a : Int} (h : Dfs R vs A sn (td ++ [a]) (-1) 0) (ha : a ∈ objs R → sn[a.toNat]? = some true) : Dfs R vs A sn td (-1) 0 := by
 refine ⟨h.so,fun t ht => h.tq t (List.mem_append_left _ ht),fun b hb ho => ?_,fun x hx j w hl h1 ho => ?_⟩
 ·rcases h.rt b hb ho with q | q
  ·exact .inl q
  ·rcases List.mem_append.1 q with q | q
   ·exact .inr q
   ·rw [List.mem_singleton.1 q] at ho ⊢; exact .inl (ha ho)
 ·rcases h.cl x hx j w hl h1 ho with q | q | q
  ·exact .inl q
  ·exact .inr (.inl q)
  ·rcases List.mem_append.1 q with q | q
   ·exact .inr (.inr q)
   ·rw [List.mem_singleton.1 q] at ho ⊢; exact .inr (.inl (ha ho))
theorem Dfs.mark {R : List Rw} {vs A td : List Int} {sn : List Bool} {a : Int} (h : Dfs R vs A sn (td ++ [a]) (-1) 0) (h0 : 0 ≤ a) (hl : a.toNat < sn.length) (ho : a ∈ objs R) : Dfs R vs A (sn.set a.toNat true) td a 0 := by
 have hup : ∀ x : Nat,sn[x]? = some true → (sn.set a.toNat true)[x]? = some true := by
  intro x hx
  by_cases e : a.toNat = x
  ·subst e; rw [List.getElem?_set_self hl]
  ·rw [List.getElem?_set_ne e]; exact hx
 have hdn : ∀ x : Nat,(sn.set a.toNat true)[x]? = some true → x = a.toNat ∨ sn[x]? = some true := by
  intro x hx
  by_cases e : a.toNat = x
  ·exact .inl e.symm
  ·rw [List.getElem?_set_ne e] at hx; exact .inr hx
 have hself : (sn.set a.toNat true)[a.toNat]? = some true := List.getElem?_set_self hl
 refine ⟨fun x hx => ?_,fun t ht => h.tq t (List.mem_append_left _ ht),fun b hb hbo => ?_,fun x hx j w hld h1 hwo => ?_⟩
 ·rcases hdn x hx with q | q
  ·have e : (x : Int) = a := by omega
   rw [e]; exact ⟨ho,h.tq a (List.mem_append_right _ (List.mem_singleton.2 rfl)) ho⟩
  ·exact h.so x q
 ·rcases h.rt b hb hbo with q | q
  ·exact .inl (hup _ q)
  ·rcases List.mem_append.1 q with q | q
   ·exact .inr q
   ·rw [List.mem_singleton.1 q]; exact .inl hself
 ·rcases hdn x hx with q | q
  ·left
   refine ⟨by omega,?_⟩
   cases hld with
   | ok k l _ _ hi _ => exact hi.1
  ·rcases h.cl x q j w hld h1 hwo with r | r | r
   ·omega
   ·exact .inr (.inl (hup _ r))
   ·rcases List.mem_append.1 r with r | r
    ·exact .inr (.inr r)
    ·rw [List.mem_singleton.1 r]; exact .inr (.inl hself)
theorem Dfs.even {R : List Rw} {vs A td : List Int} {sn : List Bool} {v i w : Int} (h : Dfs R vs A sn td v i) (hw : Loaded R vs v i w 0) (he : ¬ w % 2 = 1) : Dfs R vs A sn td v (i + 1) := by
 refine ⟨h.so,h.tq,h.rt,fun x hx j u hl h1 ho => ?_⟩
 rcases h.cl x hx j u hl h1 ho with ⟨q1,q2⟩ | q | q
 ·by_cases e : j = i
  ·subst e
   rw [q1] at hl
   have := loaded_one hw hl
   rw [this] at he
   exact absurd h1 he
  ·exact .inl ⟨q1,by omega⟩
 ·exact .inr (.inl q)
 ·exact .inr (.inr q)
theorem Dfs.odd {R : List Rw} {vs A td : List Int} {sn : List Bool} {v i w b : Int} (h : Dfs R vs A sn td v i) (hv : sn[v.toNat]? = some true) (h0 : 0 ≤ v) (hw : Loaded R vs v i w 0) (he : w % 2 = 1) (hb : b = (w - 1) / 2) : Dfs R vs A sn (td ++ [b]) v (i + 1) := by
 refine ⟨h.so,fun t ht ho => ?_,fun a ha hao => ?_,fun x hx j u hl h1 ho => ?_⟩
 ·rcases List.mem_append.1 ht with q | q
  ·exact h.tq t q ho
  ·rw [List.mem_singleton.1 q] at ho ⊢
   obtain ⟨_,hr⟩ := h.so v.toNat hv
   rw [Int.toNat_of_nonneg h0] at hr
   exact .next v b hr ⟨i,w,hw,he,hb.symm,ho⟩
 ·rcases h.rt a ha hao with q | q
  ·exact .inl q
  ·exact .inr (List.mem_append_left _ q)
 ·rcases h.cl x hx j u hl h1 ho with ⟨q1,q2⟩ | q | q
  ·by_cases e : j = i
   ·subst e
    rw [q1] at hl
    have := loaded_one hw hl
    rw [← this,← hb]
    exact .inr (.inr (List.mem_append_right _ (List.mem_singleton.2 rfl)))
   ·exact .inl ⟨q1,by omega⟩
  ·exact .inr (.inl q)
  ·exact .inr (.inr (List.mem_append_left _ q))
theorem Dfs.fin {R : List Rw} {vs A td : List Int} {sn : List Bool} {v i : Int} {X : List Int} (h : Dfs R vs A sn td v i) (hX : Wrds R vs v X) (hi : (X.length : Int) ≤ i) : Dfs R vs A sn td (-1) 0 := by
 refine ⟨h.so,h.tq,h.rt,fun x hx j u hl h1 ho => ?_⟩
 rcases h.cl x hx j u hl h1 ho with ⟨q1,q2⟩ | q
 ·exfalso
  rw [q1] at hl
  have hlen := hX.1
  generalize hn : (X.length : Int) = n at hlen hi
  cases hl with
  | ok k l _ hK hj _ =>
   cases hlen with
   | no hno => exact hno hK.obj6
   | is k2 _ hK2 =>
    have := (hK.det9 hK2).2
    omega
 ·exact .inr q
theorem Dfs.done {R : List Rw} {vs A : List Int} {sn : List Bool} (h : Dfs R vs A sn [] (-1) 0) {W : Int} (hbd : ∀ x ∈ objs R,0 ≤ x) (x : Nat) : sn[x]? = some true ↔ Rch R vs A x := by
 constructor
 ·exact fun hx => (h.so x hx).2
 ·suffices hs : ∀ y : Int,Rch R vs A y → sn[y.toNat]? = some true from fun hr => by simpa using hs x hr
  intro y hy
  induction hy with
  | root a ha ho =>
   rcases h.rt a ha ho with q | q
   ·exact q
   ·cases q
  | next a b ha hl ih =>
   obtain ⟨j,w,hld,h1,h2,h3⟩ := hl
   have h0 := hbd a ha.obj
   rcases h.cl a.toNat ih j w (by rw [Int.toNat_of_nonneg h0]; exact hld) h1 (by rw [h2]; exact h3) with q | q | q
   ·omega
   ·rw [h2] at q; exact q
   ·cases q
def bpv1 (l : List Bool) : List PV := l.map PV.bool
theorem bpv1_get {l : List Bool} {i : Nat} {b : Bool} (h : l[i]? = some b) : (bpv1 l)[i]? = some (.bool b) := by rw [bpv1,List.getElem?_map,h]; rfl
theorem bpv1_len (l : List Bool) : (bpv1 l).length = l.length := by simp [bpv1]
theorem bpv1_set (l : List Bool) (i : Nat) (b : Bool) : (bpv1 l).set i (.bool b) = bpv1 (l.set i b) := by simp [bpv1,List.map_set]
def unseen (l : List Bool) : Nat := l.count false
theorem unseen_set {l : List Bool} {i : Nat} (h : l[i]? = some false) : unseen (l.set i true) + 1 = unseen l := by
 unfold unseen
 induction l generalizing i with
 | nil => simp at h
 | cons b l ih =>
  cases i with
  | zero => simp at h; subst h; simp
  | succ i =>
   have := ih (i := i) (by simpa using h)
   cases b <;> simp [List.count_cons] <;> omega
theorem unseen_le (l : List Bool) : unseen l ≤ l.length := List.count_le_length
def selF (sn : List Bool) (i : Nat) : List Int := ((List.range i).filter fun x => sn[x]? == some true).map fun x : Nat => (x : Int)
theorem selF_succ (sn : List Bool) (i : Nat) : selF sn (i + 1) = selF sn i ++ (if sn[i]? = some true then [(i : Int)] else []) := by
 unfold selF
 rw [List.range_succ,List.filter_append,List.map_append]
 congr 1
 by_cases h : sn[i]? = some true
 ·simp [h]
 ·simp [h]
theorem selF_mem {sn : List Bool} {i : Nat} {x : Int} : x ∈ selF sn i ↔ ∃ n : Nat,n < i ∧ sn[n]? = some true ∧ x = n := by
 unfold selF
 rw [List.mem_map]
 constructor
 ·rintro ⟨n,hn,rfl⟩
  rw [List.mem_filter,List.mem_range] at hn
  exact ⟨n,hn.1,by simpa using hn.2,rfl⟩
 ·rintro ⟨n,h1,h2,rfl⟩
  exact ⟨n,by rw [List.mem_filter,List.mem_range]; exact ⟨h1,by simpa using h2⟩,rfl⟩
theorem selF_pw (sn : List Bool) (i : Nat) : (selF sn i).Pairwise (· < ·) := by
 unfold selF
 rw [List.pairwise_map]
 refine (List.Pairwise.filter _ List.pairwise_lt_range).imp ?_
 intro a b h
 omega
theorem selF_len (sn : List Bool) (i : Nat) : (selF sn i).length ≤ i := by
 unfold selF
 rw [List.length_map]
 exact Nat.le_trans (List.length_filter_le _ _) (by rw [List.length_range]; exact Nat.le_refl _)
theorem repsP_bool (n : Nat) : repsP [PV.bool false] n = bpv1 (List.replicate n false) := by
 induction n with
 | zero => rfl
 | succ n ih => rw [repsP,ih]; rfl
theorem td_last {td : List Int} (h : td ≠ []) : ∃ t a,td = t ++ [a] := ⟨td.dropLast,td.getLast h,(List.dropLast_concat_getLast h).symm⟩
theorem rreach_lx (R : List Rw) (vs C G : List Int) (N W ph sp cy : Int) (P B V Q la : List PV) (m : Int) (ov : Bool) (h : RM R vs C G N W P B V Q la m) (A : List Int) (k : Int) (cells : List PV) (hk : k = A.length) (hcs : cells = ipv A) (hAl : A.length ≤ 100000) (hvw : ∀ a i w,Loaded R vs a i w 0 → -9223372036854775808 ≤ w ∧ w ≤ 9223372036854775807) : CallF (fun _ => Tryz.prog) 47 [.ptr 0 (.lit 0),.p (.vsl (.sym k) true cells)] [hpR 0 1 6 3 W 7 ph sp cy,hpB 1 2 5 3 W,hpD 2 3 3 1 N 4 254 8 N,hpP 3 P,hpP 4 B,hpP 5 V,hpP 6 Q,(7,.mix [.p (.vsl (.sym m) true la),.p (.bool ov)])] 8 (fun r h n => ∃ (X : List Int) (j : Int) (O : List PV),r = .p (.vsl (.sym j) true O) ∧ h = [hpR 0 1 6 3 W 7 ph sp cy,hpB 1 2 5 3 W,hpD 2 3 3 1 N 4 254 8 N,hpP 3 P,hpP 4 B,hpP 5 V,hpP 6 Q,(7,.mix [.p (.vsl (.sym m) true la),.p (.bool ov)])] ∧ n = 8 ∧ O = ipv X ∧ j = X.length ∧ X.Pairwise (· < ·) ∧ ∀ x,x ∈ X ↔ Rch R vs A x) := by
 have hWn := h.w; have hNr := h.n; have hRr := h.r
 refine callF_of_body tok Tryz.func47 (by kernel_rfl) rfl rfl rfl ?_; conv => cbv
 refine Need.mk ⟨by show (0 : Int) ≤ W; omega,by show W ≤ W; omega,by show W * 1 ≤ 140737488355328; omega,by show W ≤ 9223372036854775807; omega⟩ ?_
 conv => cbv
 refine Upd.mk fun S0 hS0 => ?_
 obtain ⟨sn0,hsn0⟩ : ∃ sn0,sn0 = List.replicate W.toNat false := ⟨_,rfl⟩
 have hS0 : S0 = bpv1 sn0 := by rw [hsn0,← repsP_bool]; exact hS0
 have hsl0 : (sn0.length : Int) = W := by rw [hsn0,List.length_replicate]; omega
 have hD0 : Dfs R vs A sn0 A (-1) 0 := by rw [hsn0]; exact Dfs.start R vs A _
 have hcl : cells.length = A.length := by rw [hcs,ipv_length]
 conv => cbv
 refine Need.mk (by show (cells.length : Int) = k * 1; omega) ?_
 conv => cbv
 refine Need.mk ⟨by show k * 8 ≤ 140737488355328; omega,by show k ≤ 9223372036854775807; omega⟩ ?_
 conv => cbv
 refine LoopF.mk (fun kk s => ∃ (j : Int) (sn : List Bool) (td : List Int) (S T rest : List PV),s = ⟨.ptr 0 (.lit 0) :: (undefs 4 ++ .sl 8 4 1 (.lit 0) (.sym W) :: .sl 9 3 1 (.lit 0) (.sym j) :: undefs 83),[hpR 0 1 6 3 W 7 ph sp cy,hpB 1 2 5 3 W,hpD 2 3 3 1 N 4 254 8 N,hpP 3 P,hpP 4 B,hpP 5 V,hpP 6 Q,(7,.mix [.p (.vsl (.sym m) true la),.p (.bool ov)]),hpP 8 S,hpP 9 T],10⟩ ∧ S = bpv1 sn ∧ (sn.length : Int) = W ∧ T = ipv td ++ rest ∧ j = td.length ∧ Dfs R vs A sn td (-1) 0 ∧ kk = unseen sn * 40 + td.length ∧ kk ≤ 1400000) (unseen sn0 * 40 + A.length) _
  (Re.at [(0,0),(1,1),(2,2),(3,3),(4,4),(5,5),(6,6),(7,7),(8,8),(9,9)] []) ⟨k,sn0,A,S0,cells,[],rfl,hS0,hsl0,by rw [hcs,List.append_nil],hk,hD0,rfl,by have := unseen_le sn0; omega⟩ ?_
 clear hS0 hsl0 hD0 hcl hsn0 hcs
 rintro kk s ⟨j,sn,td,S,T,rest,rfl,hS,hsl,hT,hj,hD,hkk,hkb⟩
 have hSl : S.length = sn.length := by rw [hS,bpv1_len]
 conv => cbv
 refine Br.mk (fun q => ?_) (fun q => ?_)
 case refine_2 =>
  have q : ¬ 0 < j := q
  have htd : td = [] := List.eq_nil_of_length_eq_zero (by omega)
  subst htd
  have hdone := hD.done (W := W) (fun x hx => (obj_bd h.a hx).1)
  conv => cbv
  refine LoopF.mk (fun kk s => ∃ (i j : Int) (M : List PV),s = ⟨undefs 5 ++ .sl 8 4 1 (.lit 0) (.sym W) :: (undefs 4 ++ .sl 10 3 1 (.lit 0) (.sym j) :: .p (.int .i64 (.sym i)) :: undefs 78),[hpR 0 1 6 3 W 7 ph sp cy,hpB 1 2 5 3 W,hpD 2 3 3 1 N 4 254 8 N,hpP 3 P,hpP 4 B,hpP 5 V,hpP 6 Q,(7,.mix [.p (.vsl (.sym m) true la),.p (.bool ov)]),hpP 8 S,hpP 10 M],11⟩ ∧ M = ipv (selF sn i.toNat) ∧ j = (selF sn i.toNat).length ∧ 0 ≤ i ∧ i ≤ W ∧ kk = (W - i).toNat) W.toNat _
   (Re.at [(0,0),(1,1),(2,2),(3,3),(4,4),(5,5),(6,6),(7,7),(8,8)] [10]) ⟨0,0,[],rfl,rfl,rfl,by omega,by omega,by omega⟩ ?_
  clear hD hT
  rintro kk2 s ⟨i,j,M,rfl,hM,hj,hi0,hi1,hkk3⟩
  have hMl : M.length = (selF sn i.toNat).length := by rw [hM,ipv_length]
  have hsl9 := selF_len sn i.toNat
  conv => cbv
  refine Br.mk (fun q2 => ?_) (fun q2 => ?_)
  case refine_2 =>
   have q2 : ¬ i < W := q2
   conv => cbv
   refine RetF.mk [.p (.vsl (.sym j) true M)] [hpR 0 1 6 3 W 7 ph sp cy,hpB 1 2 5 3 W,hpD 2 3 3 1 N 4 254 8 N,hpP 3 P,hpP 4 B,hpP 5 V,hpP 6 Q,(7,.mix [.p (.vsl (.sym m) true la),.p (.bool ov)])] 8 (Re.at [(0,0),(1,1),(2,2),(3,3),(4,4),(5,5),(6,6),(7,7)] []) rfl ⟨selF sn i.toNat,j,M,rfl,rfl,rfl,hM,hj,selF_pw _ _,fun x => ?_⟩
   rw [selF_mem]
   constructor
   ·rintro ⟨n,_,h2,rfl⟩
    exact (hdone n).1 h2
   ·intro hr
    have hb := obj_bd h.a hr.obj
    refine ⟨x.toNat,by omega,(hdone x.toNat).2 (by rw [Int.toNat_of_nonneg hb.1]; exact hr),by omega⟩
  have q2 : i < W := q2
  obtain ⟨b,hbs⟩ : ∃ b,sn[i.toNat]? = some b := ⟨_,List.getElem?_eq_getElem (by omega)⟩
  have hSa : S[i.toNat]? = some (.bool b) := by rw [hS]; exact bpv1_get hbs
  have hsucc := selF_succ sn i.toNat
  obtain ⟨k',rfl⟩ : ∃ k',kk2 = k' + 1 := ⟨kk2 - 1,by omega⟩
  conv => cbv
  refine Need.mk (show 0 ≤ i ∧ i < W by omega) ?_
  conv => cbv
  refine Cell.at i _ hSa (by simp [I.val]) rfl ?_
  cases b with
  | false =>
   rw [if_neg (by rw [hbs]; simp),List.append_nil] at hsucc
   conv => cbv
   refine Fit.mk (by show (-9223372036854775808 : Int) ≤ i + 1; omega) (by show i + 1 ≤ 9223372036854775807; omega) fun i2 hi2 => ?_
   have hi2 : i2 = i + 1 := hi2
   rw [show i.toNat + 1 = i2.toNat by omega] at hsucc
   conv => cbv
   refine Again.mk k' _ (Nat.lt_succ_self _) (Re.at [(0,0),(1,1),(2,2),(3,3),(4,4),(5,5),(6,6),(7,7),(8,8),(10,10)] []) ⟨i2,j,M,rfl,by rw [hsucc]; exact hM,by rw [hsucc]; exact hj,by omega,by omega,by omega⟩
  | true =>
   rw [if_pos hbs] at hsucc
   conv => cbv
   refine Room.new rfl ?_
   conv => cbv
   refine Room.new ⟨by show (M.length : Int) = j * 1; omega,by show (j + 1) * 8 ≤ 140737488355328; omega,by show j + 1 ≤ 9223372036854775807; omega⟩ ?_
   conv => cbv
   refine Upd.mk fun M2 hM2 => ?_
   have hM2 : M2 = ipv (selF sn (i.toNat + 1)) := by
    rw [hsucc,Int.toNat_of_nonneg hi0,← ipv_app,← hM]; exact hM2
   conv => cbv
   refine Sum.mk fun j2 hj2 => ?_
   have hj2 : j2 = ((selF sn (i.toNat + 1)).length : Int) := by
    rw [hsucc,List.length_append,show j2 = j + 1 from hj2,hj]; rfl
   conv => cbv
   refine Fit.mk (by show (-9223372036854775808 : Int) ≤ i + 1; omega) (by show i + 1 ≤ 9223372036854775807; omega) fun i2 hi2 => ?_
   have hi2 : i2 = i + 1 := hi2
   rw [show i.toNat + 1 = i2.toNat by omega] at hM2 hj2
   conv => cbv
   refine Again.mk k' _ (Nat.lt_succ_self _) (Re.at [(0,0),(1,1),(2,2),(3,3),(4,4),(5,5),(6,6),(7,7),(8,8),(12,10)] []) ⟨i2,j2,M2,rfl,hM2,hj2,by omega,by omega,by omega⟩
 have q : 0 < j := q
 obtain ⟨t',a,rfl⟩ := td_last (td := td) (fun e => by rw [e] at hj; simp at hj; omega)
 have htl : ((t' ++ [a]).length : Int) = t'.length + 1 := by rw [List.length_append]; rfl
 conv => cbv
 refine Fit.mk (by show (-9223372036854775808 : Int) ≤ j - 1; omega) (by show j - 1 ≤ 9223372036854775807; omega) fun p hp => ?_
 have hp : p = j - 1 := hp
 have hpt : p = t'.length := by rw [hp,hj,htl]; omega
 have hTa : T[p.toNat]? = some (.int .i64 (.sym a)) := by
  rw [hT,List.getElem?_append_left (by rw [ipv_length,List.length_append]; simp; omega)]
  exact ipv_get (by rw [List.getElem?_append_right (by omega),show p.toNat - t'.length = 0 by omega]; rfl)
 conv => cbv
 refine Need.mk (show 0 ≤ p ∧ p < j by omega) ?_
 conv => cbv
 refine Cell.at p _ hTa (by simp [I.val]) rfl ?_
 conv => cbv
 have hT2 : T = ipv t' ++ .int .i64 (.sym a) :: rest := by rw [hT,← ipv_app,List.append_assoc]; rfl
 have hkk2 : unseen sn * 40 + t'.length + 1 = kk := by rw [hkk,List.length_append]; simp; omega
 refine Fit.mk (by show (-9223372036854775808 : Int) ≤ j - 1; omega) (by show j - 1 ≤ 9223372036854775807; omega) fun p2 hp2 => ?_
 obtain rfl : p = p2 := by have : p2 = j - 1 := hp2; omega
 conv => cbv
 refine Need.mk ⟨show 0 ≤ p by omega,.inl (show p ≤ j by omega)⟩ ?_
 conv => cbv
 refine cfr (ris_lx R vs N a W P B V h.p h.b h.v h.n h.r h.a h.w) [(0,1),(1,2),(2,3),(3,4),(4,5)] (fun r h' n' hrr => ?_)
 obtain ⟨b,e1,e2,e3,hb⟩ := hrr
 subst e1 e2 e3
 cases b with
 | false =>
  have hD2 := hD.skip (fun ho => by have := hb.2 ((obj_iff h.a a).1 ho); cases this)
  conv => cbv
  refine Again.mk (unseen sn * 40 + t'.length) _ (by omega) (Re.at [(0,0),(1,1),(2,2),(3,3),(4,4),(5,5),(6,6),(7,7),(8,8),(9,9)] []) ⟨p,sn,t',S,T,.int .i64 (.sym a) :: rest,rfl,hS,hsl,hT2,hpt,hD2,rfl,by omega⟩
 | true =>
 have ho : a ∈ objs R := (obj_iff h.a a).2 (hb.1 rfl)
 have hbd := obj_bd h.a ho
 obtain ⟨b,hbs⟩ : ∃ b,sn[a.toNat]? = some b := ⟨_,List.getElem?_eq_getElem (by omega)⟩
 have hSa : S[a.toNat]? = some (.bool b) := by rw [hS]; exact bpv1_get hbs
 conv => cbv
 refine Need.mk (show 0 ≤ a ∧ a < W by omega) ?_
 conv => cbv
 refine Cell.at a _ hSa (by simp [I.val]) rfl ?_
 cases b with
 | true =>
  have hD2 := hD.skip (fun ho => hbs)
  conv => cbv
  refine Again.mk (unseen sn * 40 + t'.length) _ (by omega) (Re.at [(0,0),(1,1),(2,2),(3,3),(4,4),(5,5),(6,6),(7,7),(8,8),(9,9)] []) ⟨p,sn,t',S,T,.int .i64 (.sym a) :: rest,rfl,hS,hsl,hT2,hpt,hD2,rfl,by omega⟩
 | false =>
 conv => cbv
 refine Need.mk (show 0 ≤ a ∧ a < W by omega) ?_
 conv => cbv
 refine Need.mk (by show a + 1 ≤ (S.length : Int); omega) ?_
 conv => cbv
 refine Upd.mk fun S2 hS2 => ?_
 obtain ⟨sn2,hsn2⟩ : ∃ sn2,sn2 = sn.set a.toNat true := ⟨_,rfl⟩
 have hS2 : S2 = bpv1 sn2 := by rw [show S2 = S.set a.toNat (.bool true) from hS2,hS,bpv1_set,hsn2]
 have hsl2 : (sn2.length : Int) = W := by rw [hsn2,List.length_set]; exact hsl
 have hus := unseen_set hbs
 rw [← hsn2] at hus
 have hself : sn2[a.toNat]? = some true := by rw [hsn2]; exact List.getElem?_set_self (by omega)
 have hD2 : Dfs R vs A sn2 t' a 0 := by rw [hsn2]; exact hD.mark (by omega) (by omega) ho
 clear hD hbs hSa hsn2
 conv => cbv
 refine cfr (rwordsV_lx R vs C G N W ph sp cy P B V Q la m ov h a) [(0,0),(1,1),(2,2),(3,3),(4,4),(5,5),(6,6),(7,7)] (fun r h' n' hrr => ?_)
 obtain ⟨X,kx,O,e1,e2,e3,hO,hkx,hX⟩ := hrr
 subst e1 e2 e3
 have hx31 : X.length ≤ 31 := by
  have hlen := hX.1
  generalize hn : (X.length : Int) = n at hlen
  cases hlen with
  | no hno => omega
  | is k2 _ hK2 => have := hK2.bounds h.a; omega
 conv => cbv
 refine LoopF.mk (fun kk s => ∃ (i j : Int) (td : List Int) (T rest : List PV),s = ⟨.ptr 0 (.lit 0) :: (undefs 4 ++ .sl 8 4 1 (.lit 0) (.sym W) :: .sl 9 3 1 (.lit 0) (.sym j) :: .undef :: .p (.vsl (.sym kx) true O) :: .p (.int .i64 (.sym i)) :: undefs 80),[hpR 0 1 6 3 W 7 ph sp cy,hpB 1 2 5 3 W,hpD 2 3 3 1 N 4 254 8 N,hpP 3 P,hpP 4 B,hpP 5 V,hpP 6 Q,(7,.mix [.p (.vsl (.sym m) true la),.p (.bool ov)]),hpP 8 S2,hpP 9 T],10⟩ ∧ T = ipv td ++ rest ∧ j = td.length ∧ Dfs R vs A sn2 td a i ∧ (td.length : Int) ≤ t'.length + i ∧ 0 ≤ i ∧ i ≤ kx ∧ kk = (kx - i).toNat) kx.toNat _
  (Re.at [(0,0),(1,1),(2,2),(3,3),(4,4),(5,5),(6,6),(7,7),(8,8),(9,9)] []) ⟨0,p,t',T,.int .i64 (.sym a) :: rest,rfl,hT2,hpt,hD2,by omega,by omega,by omega,by omega⟩ ?_
 clear hT hT2 hTa hj hpt hp htl hD2 hkk hSl hS hsl
 rintro kk2 s ⟨i,j,td,T,rest,rfl,hT,hj,hD,htd,hi0,hi1,hkk3⟩
 have htd : ((td.length : Nat) : Int) ≤ ((t'.length : Nat) : Int) + i := htd
 have hTl : T.length = td.length + rest.length := by rw [hT,List.length_append,ipv_length]
 conv => cbv
 refine Br.mk (fun q2 => ?_) (fun q2 => ?_)
 case refine_2 =>
  have q2 : ¬ i < kx := q2
  have hD3 := hD.fin hX (by omega)
  conv => cbv
  have hfin : unseen sn2 * 40 + td.length < kk := by
   have h1 : td.length ≤ t'.length + 31 := by omega
   omega
  refine Again.mk (unseen sn2 * 40 + td.length) _ hfin (Re.at [(0,0),(1,1),(2,2),(3,3),(4,4),(5,5),(6,6),(7,7),(8,8),(9,9)] []) ⟨j,sn2,td,S2,T,rest,rfl,hS2,hsl2,hT,hj,hD3,rfl,by omega⟩
 have q2 : i < kx := q2
 obtain ⟨w,hw⟩ : ∃ w,X[i.toNat]? = some w := ⟨_,List.getElem?_eq_getElem (by omega)⟩
 have hOw : O[i.toNat]? = some (.int .i64 (.sym w)) := by rw [hO]; exact ipv_get hw
 have hld := hX.2 _ _ hw
 rw [Int.toNat_of_nonneg hi0] at hld
 have hwb := hvw a i w hld
 obtain ⟨k',rfl⟩ : ∃ k',kk2 = k' + 1 := ⟨kk2 - 1,by omega⟩
 conv => cbv
 refine Need.mk (show 0 ≤ i ∧ i < kx by omega) ?_
 conv => cbv
 refine Cell.at i _ hOw (by simp [I.val]) rfl ?_
 conv => cbv
 refine callF_frame (rIsPtr_lx w) [] rfl trivial rfl rfl (fun r h' n' hrr => ?_)
 obtain ⟨b,e1,e2,e3,hb⟩ := hrr
 subst e1 e2 e3
 cases b with
 | false =>
  have hD3 := hD.even hld (fun h => by have := hb.2 h; cases this)
  conv => cbv
  refine Fit.mk (by show (-9223372036854775808 : Int) ≤ i + 1; omega) (by show i + 1 ≤ 9223372036854775807; omega) fun i2 hi2 => ?_
  have hi2 : i2 = i + 1 := hi2
  rw [← hi2] at hD3
  conv => cbv
  refine Again.mk k' _ (Nat.lt_succ_self _) (Re.at [(0,0),(1,1),(2,2),(3,3),(4,4),(5,5),(6,6),(7,7),(8,8),(9,9)] []) ⟨i2,j,td,T,rest,rfl,hT,hj,hD3,(by show ((td.length : Nat) : Int) ≤ ((t'.length : Nat) : Int) + i2; omega),by omega,by omega,by omega⟩
 | true =>
 have hodd := hb.1 rfl
 conv => cbv
 refine Need.mk (show 0 ≤ i ∧ i < kx by omega) ?_
 conv => cbv
 refine Cell.at i _ hOw (by simp [I.val]) rfl ?_
 conv => cbv
 refine callF_frame (rAt_lx w hwb) [] rfl trivial rfl rfl (fun r h' n' hrr => ?_)
 obtain ⟨y,e1,e2,e3,hy1,_⟩ := hrr
 subst e1 e2 e3
 have hD3 := hD.odd hself (by omega) hld hodd (hy1 hodd)
 conv => cbv
 refine Room.new rfl ?_
 conv => cbv
 by_cases hrest : rest = []
 ·refine Room.new ⟨by show (T.length : Int) = j * 1; rw [hTl,hrest]; simp; omega,by show (j + 1) * 8 ≤ 140737488355328; omega,by show j + 1 ≤ 9223372036854775807; omega⟩ ?_
  conv => cbv
  refine Upd.mk fun T3 hT3 => ?_
  have hT3 : T3 = ipv (td ++ [y]) ++ [] := by
   rw [show T3 = T ++ [.int .i64 (.sym y)] from hT3,hT,hrest,List.append_nil,List.append_nil,← ipv_app]; rfl
  conv => cbv
  refine Sum.mk fun j2 hj2 => ?_
  have hj2 : j2 = j + 1 := hj2
  conv => cbv
  refine Fit.mk (by show (-9223372036854775808 : Int) ≤ i + 1; omega) (by show i + 1 ≤ 9223372036854775807; omega) fun i2 hi2 => ?_
  have hi2 : i2 = i + 1 := hi2
  rw [← hi2] at hD3
  conv => cbv
  refine Again.mk k' _ (Nat.lt_succ_self _) (Re.at [(0,0),(1,1),(2,2),(3,3),(4,4),(5,5),(6,6),(7,7),(8,8),(11,9)] []) ⟨i2,j2,td ++ [y],T3,[],rfl,hT3,by rw [List.length_append,hj2,hj]; rfl,hD3,(by show (((td ++ [y]).length : Nat) : Int) ≤ ((t'.length : Nat) : Int) + i2; rw [List.length_append]; simp; omega),by omega,by omega,by omega⟩
 ·have hrl := List.length_pos_iff.2 hrest
  refine Room.within (by show (j + 1) * 1 ≤ (T.length : Int); omega) ?_
  conv => cbv
  refine Upd.mk fun T3 hT3 => ?_
  have hT3 : T3 = ipv (td ++ [y]) ++ rest.tail := by
   have e : T3 = T.set (j.toNat * 1) (.int .i64 (.sym y)) := hT3
   rw [e,hT,Nat.mul_one,show j.toNat = (ipv td).length by rw [ipv_length]; omega,List.set_append_right _ _ (Nat.le_refl _),Nat.sub_self,← ipv_app,List.append_assoc]
   cases rest with
   | nil => exact absurd rfl hrest
   | cons r rest => rfl
  conv => cbv
  refine Sum.mk fun j2 hj2 => ?_
  have hj2 : j2 = j + 1 := hj2
  conv => cbv
  refine Fit.mk (by show (-9223372036854775808 : Int) ≤ i + 1; omega) (by show i + 1 ≤ 9223372036854775807; omega) fun i2 hi2 => ?_
  have hi2 : i2 = i + 1 := hi2
  rw [← hi2] at hD3
  conv => cbv
  refine Again.mk k' _ (Nat.lt_succ_self _) (Re.at [(0,0),(1,1),(2,2),(3,3),(4,4),(5,5),(6,6),(7,7),(8,8),(9,9)] []) ⟨i2,j2,td ++ [y],T3,rest.tail,rfl,hT3,by rw [List.length_append,hj2,hj]; rfl,hD3,(by show (((td ++ [y]).length : Nat) : Int) ≤ ((t'.length : Nat) : Int) + i2; rw [List.length_append]; simp; omega),by omega,by omega,by omega⟩
end Go.Proofs.YtjfdfbpgckilpaaGreatDoor
namespace Go.Proofs.YtjfdfbpgckilpaaGreatDoor
open Go Go.LX
set_option maxRecDepth 100000
set_option linter.unusedVariables false
set_option linter.unusedSimpArgs false
set_option maxHeartbeats 32000000
theorem Dfs.push {R : List Rw} {vs A td : List Int} {sn : List Bool} {v : Int} {X : List Int} (h : Dfs R vs A sn td v 0) (hv : sn[v.toNat]? = some true) (h0 : 0 ≤ v) (hX : Wrds R vs v X) : Dfs R vs A sn (td ++ ptrs X) (-1) 0 := by
 have hst : ∀ i : Nat,i ≤ X.length → Dfs R vs A sn (td ++ ptrs (X.take i)) v i := by
  intro i
  induction i with
  | zero => intro _; rw [List.take_zero]; show Dfs R vs A sn (td ++ []) v 0; rw [List.append_nil]; exact h
  | succ i ih =>
   intro hi
   have ih := ih (by omega)
   obtain ⟨w,hw⟩ : ∃ w,X[i]? = some w := ⟨_,List.getElem?_eq_getElem (by omega)⟩
   rw [ptrs_take hw,← List.append_assoc]
   by_cases ho : w % 2 = 1
   ·rw [if_pos ho]; exact ih.odd hv h0 (hX.2 i w hw) ho rfl
   ·rw [if_neg ho,List.append_nil]; exact ih.even (hX.2 i w hw) ho
 have h2 := hst X.length (Nat.le_refl _)
 rw [List.take_length] at h2
 exact h2.fin hX (Int.le_refl _)
theorem reach_lx (R : List Rw) (ws C G : List Int) (N W ph sp cy : Int) (L D Q : List PV) (z : ByteArray) (ov : Bool) (h : HM R ws C G N W L D Q z) (A : List Int) (k : Int) (cells : List PV) (hk : k = A.length) (hcs : cells = ipv A) (hAl : A.length ≤ 100000) : CallF (fun _ => Tryz.prog) 46 [.ptr 0 (.lit 0),.p (.vsl (.sym k) true cells)] [hpA 0 1 5 6 3 W ph sp cy,hpB 1 2 4 3 W,hpC 2 3 179 2 N,hpP 3 L,hpP 4 D,hpF 5 z ov,hpP 6 Q] 7 (fun r h n => ∃ (X : List Int) (j : Int) (O : List PV),r = .p (.vsl (.sym j) true O) ∧ h = [hpA 0 1 5 6 3 W ph sp cy,hpB 1 2 4 3 W,hpC 2 3 179 2 N,hpP 3 L,hpP 4 D,hpF 5 z ov,hpP 6 Q] ∧ n = 7 ∧ O = ipv X ∧ j = X.length ∧ X.Pairwise (· < ·) ∧ ∀ x,x ∈ X ↔ Rch R ws A x) := by
 have hWn := h.w; have hNr := h.n; have hRr := h.r
 refine callF_of_body tok Tryz.func46 (by kernel_rfl) rfl rfl rfl ?_; conv => cbv
 refine callF_frame (clone_lx A k cells hk hcs hAl) [] rfl trivial rfl rfl (fun r h' n' hrr => ?_)
 obtain ⟨T0,e1,e2,e3,hT0⟩ := hrr
 subst e1 e2 e3
 conv => cbv
 obtain ⟨sn0,hsn0⟩ : ∃ sn0,sn0 = List.replicate W.toNat false := ⟨_,rfl⟩
 have hsl0 : (sn0.length : Int) = W := by rw [hsn0,List.length_replicate]; omega
 have hD0 : Dfs R ws A sn0 A (-1) 0 := by rw [hsn0]; exact Dfs.start R ws A _
 have hno : ∀ x : Nat,sn0[x]? ≠ some true := by
  intro x hx
  rw [hsn0] at hx
  have := List.mem_of_getElem? hx
  rw [List.mem_replicate] at this
  cases this.2
 have hun0 : unseen sn0 = W.toNat := by rw [hsn0]; simp [unseen]
 refine LoopF.mk (fun kk s => ∃ (j m : Int) (sn : List Bool) (td dn : List Int) (T M : List PV),s = ⟨.ptr 0 (.lit 0) :: (undefs 4 ++ .mp 7 :: .sl 9 3 1 (.lit 0) (.sym m) :: .sl 8 3 1 (.lit 0) (.sym j) :: undefs 54),[hpA 0 1 5 6 3 W ph sp cy,hpB 1 2 4 3 W,hpC 2 3 179 2 N,hpP 3 L,hpP 4 D,hpF 5 z ov,hpP 6 Q,(7,.set dn),hpP 8 T,hpP 9 M],10⟩ ∧ T = ipv td ∧ j = td.length ∧ M = ipv dn ∧ m = dn.length ∧ (sn.length : Int) = W ∧ ((dn.length + unseen sn : Nat) : Int) = W ∧ dn.Nodup ∧ (∀ x,x ∈ dn ↔ 0 ≤ x ∧ sn[x.toNat]? = some true) ∧ Dfs R ws A sn td (-1) 0 ∧ kk = unseen sn * 40 + td.length ∧ kk ≤ 1400000) (unseen sn0 * 40 + A.length) _
  (Re.at [(0,0),(1,1),(2,2),(3,3),(4,4),(5,5),(6,6),(7,7),(8,8)] [9]) ⟨k,0,sn0,A,[],T0,[],rfl,hT0,hk,rfl,rfl,hsl0,by rw [hun0]; simp; omega,List.nodup_nil,fun x => ⟨fun h => (by cases h),fun h => absurd h.2 (hno _)⟩,hD0,rfl,by have := unseen_le sn0; omega⟩ ?_
 clear hsl0 hD0 hsn0 hcs hT0 hno hun0
 rintro kk s ⟨j,m,sn,td,dn,T,M,rfl,hT,hj,hM,hm,hsl,hdu,hnd,hdn,hD,hkk,hkb⟩
 have hTl : T.length = td.length := by rw [hT,ipv_length]
 have hMl : M.length = dn.length := by rw [hM,ipv_length]
 have hdl : (dn.length : Int) ≤ W := by omega
 conv => cbv
 refine Br.mk (fun q => ?_) (fun q => ?_)
 case refine_2 =>
  have q : ¬ 0 < j := q
  have htd : td = [] := List.eq_nil_of_length_eq_zero (by omega)
  subst htd
  have hdone := hD.done (W := W) (fun x hx => (obj_bd h.a hx).1)
  obtain ⟨hs1,hs2,hs3⟩ := sorted_rising hnd
  conv => cbv
  refine cfr (sort_lx dn m M hM hm (by omega)) [(0,9)] (fun r h' n' hrr => ?_)
  obtain ⟨M2,e1,e2,e3,hM2⟩ := hrr
  subst e1 e2 e3
  conv => cbv
  refine RetF.mk [.p (.vsl (.sym m) true M2)] [hpA 0 1 5 6 3 W ph sp cy,hpB 1 2 4 3 W,hpC 2 3 179 2 N,hpP 3 L,hpP 4 D,hpF 5 z ov,hpP 6 Q] 7 (Re.at [(0,0),(1,1),(2,2),(3,3),(4,4),(5,5),(6,6)] []) rfl ⟨_,m,M2,rfl,rfl,rfl,hM2,by rw [hs3]; exact hm,hs1,fun x => ?_⟩
  rw [hs2,hdn]
  constructor
  ·rintro ⟨h0,h1⟩
   have h2 := (hdone x.toNat).1 h1
   rwa [Int.toNat_of_nonneg h0] at h2
  ·intro hr
   have hb := obj_bd h.a hr.obj
   exact ⟨hb.1,(hdone x.toNat).2 (by rw [Int.toNat_of_nonneg hb.1]; exact hr)⟩
 have q : 0 < j := q
 obtain ⟨t',a,rfl⟩ := td_last (td := td) (fun e => by rw [e] at hj; simp at hj; omega)
 have htl : ((t' ++ [a]).length : Int) = t'.length + 1 := by rw [List.length_append]; rfl
 conv => cbv
 refine Fit.mk (by show (-9223372036854775808 : Int) ≤ j - 1; omega) (by show j - 1 ≤ 9223372036854775807; omega) fun p hp => ?_
 have hp : p = j - 1 := hp
 have hpt : p = t'.length := by rw [hp,hj,htl]; omega
 have hTa : T[p.toNat]? = some (.int .i64 (.sym a)) := by
  rw [hT]
  exact ipv_get (by rw [List.getElem?_append_right (by omega),show p.toNat - t'.length = 0 by omega]; rfl)
 conv => cbv
 refine Need.mk (show 0 ≤ p ∧ p < j by omega) ?_
 conv => cbv
 refine Cell.at p _ hTa (by simp [I.val]) rfl ?_
 conv => cbv
 obtain ⟨T2,hT2⟩ : ∃ T2,T2 = ipv t' := ⟨_,rfl⟩
 have hTp : T2 <+: T := by rw [hT,hT2,← ipv_app]; exact List.prefix_append _ _
 have hkk2 : unseen sn * 40 + t'.length + 1 = kk := by rw [hkk,List.length_append]; simp; omega
 refine Fit.mk (by show (-9223372036854775808 : Int) ≤ j - 1; omega) (by show j - 1 ≤ 9223372036854775807; omega) fun p2 hp2 => ?_
 obtain rfl : p = p2 := by have : p2 = j - 1 := hp2; omega
 conv => cbv
 refine Need.mk ⟨show 0 ≤ p by omega,.inl (show p ≤ j by omega)⟩ ?_
 conv => cbv
 refine CallF.re (args0 := [.ptr 0 (.lit 0),i6 a]) (h' := [hpA 0 1 5 6 3 W ph sp cy,hpB 1 2 4 3 W,hpC 2 3 179 2 N,hpP 3 L,hpP 4 D,hpF 5 z ov,hpP 6 Q,(7,.set dn),hpP 8 T2,hpP 9 M]) (Re.cut 8 true T T2 rfl hTp (Re.at [(0,0),(1,1),(2,2),(3,3),(4,4),(5,5),(6,6),(7,7),(8,8),(9,9)] [])) (cfr (lookL_lx R ws C G N W ph sp cy L D Q z ov h a) [(0,0),(1,1),(2,2),(3,3),(4,4),(5,5),(6,6)] (fun r h' n' hrr => ?_))
 obtain ⟨hrr,e2,e3⟩ := hrr
 subst e2 e3
 rcases hrr with ⟨X,kx,O,e1,ho,hX,hO,hkx⟩ | ⟨e1,ho⟩
 rotate_left
 ·subst e1
  have hD2 := hD.skip (fun h => absurd h ho)
  conv => cbv
  refine Br.mk (fun g => ?_) (fun g => ?_)
  ·conv => cbv
   refine Again.mk (unseen sn * 40 + t'.length) _ (by omega) (Re.at [(0,0),(1,1),(2,2),(3,3),(4,4),(5,5),(6,6),(7,7),(8,8),(9,9)] []) ⟨p,m,sn,t',dn,T2,M,rfl,hT2,hpt,hM,hm,hsl,hdu,hnd,hdn,hD2,rfl,by omega⟩
  ·conv => cbv
   refine Again.mk (unseen sn * 40 + t'.length) _ (by omega) (Re.at [(0,0),(1,1),(2,2),(3,3),(4,4),(5,5),(6,6),(7,7),(8,8),(9,9)] []) ⟨p,m,sn,t',dn,T2,M,rfl,hT2,hpt,hM,hm,hsl,hdu,hnd,hdn,hD2,rfl,by omega⟩
 subst e1
 have hbd := obj_bd h.a ho
 conv => cbv
 refine Br.mk (fun g => ?_) (fun g => ?_)
 ·have g : a ∈ dn := g
  have hD2 := hD.skip (fun _ => ((hdn a).1 g).2)
  conv => cbv
  refine Again.mk (unseen sn * 40 + t'.length) _ (by omega) (Re.at [(0,0),(1,1),(2,2),(3,3),(4,4),(5,5),(6,6),(7,7),(8,8),(9,9)] []) ⟨p,m,sn,t',dn,T2,M,rfl,hT2,hpt,hM,hm,hsl,hdu,hnd,hdn,hD2,rfl,by omega⟩
 have g : ¬ a ∈ dn := g
 conv => cbv
 have hbs : sn[a.toNat]? = some false := by
  obtain ⟨b,hb⟩ : ∃ b,sn[a.toNat]? = some b := ⟨_,List.getElem?_eq_getElem (by omega)⟩
  cases b with
  | true => exact absurd ((hdn a).2 ⟨hbd.1,hb⟩) g
  | false => exact hb
 obtain ⟨sn2,hsn2⟩ : ∃ sn2,sn2 = sn.set a.toNat true := ⟨_,rfl⟩
 have hsl2 : (sn2.length : Int) = W := by rw [hsn2,List.length_set]; exact hsl
 have hus := unseen_set hbs
 rw [← hsn2] at hus
 have hself : sn2[a.toNat]? = some true := by rw [hsn2]; exact List.getElem?_set_self (by omega)
 have hD2 : Dfs R ws A sn2 t' a 0 := by rw [hsn2]; exact hD.mark (by omega) (by omega) ho
 have hD3 := hD2.push hself hbd.1 hX
 have hx31 : X.length ≤ 31 := by
  have hlen := hX.1
  generalize hn : (X.length : Int) = n at hlen
  cases hlen with
  | no hno => omega
  | is k2 _ hK2 => have := hK2.bounds h.a; omega
 have hpl := ptrs_len X
 have hdn2 : ∀ x,x ∈ dn ++ [a] ↔ 0 ≤ x ∧ sn2[x.toNat]? = some true := by
  intro x
  rw [List.mem_append,List.mem_singleton,hdn,hsn2]
  constructor
  ·rintro (⟨h1,h2⟩ | h1)
   ·refine ⟨h1,?_⟩
    by_cases e : a.toNat = x.toNat
    ·rw [← e]; exact List.getElem?_set_self (by omega)
    ·rw [List.getElem?_set_ne e]; exact h2
   ·subst h1; exact ⟨hbd.1,List.getElem?_set_self (by omega)⟩
  ·rintro ⟨h1,h2⟩
   by_cases e : a.toNat = x.toNat
   ·exact .inr (by omega)
   ·rw [List.getElem?_set_ne e] at h2; exact .inl ⟨h1,h2⟩
 have hnd2 : (dn ++ [a]).Nodup := List.nodup_append.2 ⟨hnd,(by simp),fun x hx y hy e => g (by rw [← List.mem_singleton.1 hy,← e]; exact hx)⟩
 clear hD hD2 hbs hdn hnd hsn2
 refine Need.mk g ?_
 conv => cbv
 refine UpdI.mk fun dn2 hdn3 => ?_
 have hdn3 : dn2 = dn ++ [a] := hdn3
 rw [← hdn3] at hdn2 hnd2
 have hdl2 : dn2.length = dn.length + 1 := by rw [hdn3,List.length_append]; rfl
 have hdu2 : ((dn2.length + unseen sn2 : Nat) : Int) = W := by rw [show dn2.length + unseen sn2 = dn.length + unseen sn by omega]; exact hdu
 conv => cbv
 refine Room.new rfl ?_
 conv => cbv
 refine Room.new ⟨by show (M.length : Int) = m * 1; omega,by show (m + 1) * 8 ≤ 140737488355328; omega,by show m + 1 ≤ 9223372036854775807; omega⟩ ?_
 conv => cbv
 refine Upd.mk fun M2 hM2 => ?_
 have hM2 : M2 = ipv dn2 := by rw [show M2 = M ++ [.int .i64 (.sym a)] from hM2,hdn3,← ipv_app,← hM]; rfl
 conv => cbv
 refine Sum.mk fun m2 hm2 => ?_
 have hm2 : m2 = dn2.length := by rw [show m2 = m + 1 from hm2,hdl2,hm]; rfl
 conv => cbv
 have hOl : O.length = (ptrs X).length := by rw [hO,ipv_length]
 refine Need.mk (by show (O.length : Int) = kx * 1; omega) ?_
 conv => cbv
 have hT2l : T2.length = t'.length := by rw [hT2,ipv_length]
 refine Room.new ⟨by show (T2.length : Int) = p * 1; omega,by show (p + kx) * 8 ≤ 140737488355328; omega,by show p + kx ≤ 9223372036854775807; omega⟩ ?_
 conv => cbv
 refine Upd.mk fun T3 hT3 => ?_
 have hT3 : T3 = ipv (t' ++ ptrs X) := by rw [show T3 = T2 ++ O from hT3,hT2,hO,ipv_app]
 conv => cbv
 refine Sum.mk fun j2 hj2 => ?_
 have hj2 : j2 = (t' ++ ptrs X).length := by rw [show j2 = p + kx from hj2,hpt,hkx,List.length_append]; rfl
 have hl3 : (t' ++ ptrs X).length = t'.length + (ptrs X).length := List.length_append
 conv => cbv
 refine Again.mk (unseen sn2 * 40 + (t' ++ ptrs X).length) _ (by omega) (Re.at [(0,0),(1,1),(2,2),(3,3),(4,4),(5,5),(6,6),(7,7),(14,8),(13,9)] []) ⟨j2,m2,sn2,t' ++ ptrs X,dn2,T3,M2,rfl,hT3,hj2,hM2,hm2,hsl2,hdu2,hnd2,hdn2,hD3,rfl,by omega⟩
end Go.Proofs.YtjfdfbpgckilpaaGreatDoor
namespace Go.Proofs.YtjfdfbpgckilpaaGreatDoor
open Go Go.LX
set_option maxRecDepth 100000
set_option linter.unusedVariables false
set_option linter.unusedSimpArgs false
set_option maxHeartbeats 32000000
theorem isObject_lx (R : List Rw) (ws C G : List Int) (N W ph sp cy : Int) (L D Q : List PV) (z : ByteArray) (ov : Bool) (h : HM R ws C G N W L D Q z) (a : Int) : CallF (fun _ => Tryz.prog) 113 [.ptr 0 (.lit 0),i6 a] [hpA 0 1 5 6 3 W ph sp cy,hpB 1 2 4 3 W,hpC 2 3 179 2 N,hpP 3 L,hpP 4 D,hpF 5 z ov,hpP 6 Q] 7 (fun r h n => ∃ b : Bool,r = .p (.bool b) ∧ h = [hpA 0 1 5 6 3 W ph sp cy,hpB 1 2 4 3 W,hpC 2 3 179 2 N,hpP 3 L,hpP 4 D,hpF 5 z ov,hpP 6 Q] ∧ n = 7 ∧ (b = true ↔ a ∈ objs R)) := by
 refine callF_of_body tok Tryz.func113 (by kernel_rfl) rfl rfl rfl ?_; conv => cbv
 refine cfr (lookL_lx R ws C G N W ph sp cy L D Q z ov h a) [(0,0),(1,1),(2,2),(3,3),(4,4),(5,5),(6,6)] (fun r h' n' hrr => ?_)
 obtain ⟨hrr,e2,e3⟩ := hrr
 subst e2 e3
 rcases hrr with ⟨X,k,O,e1,ho,hX,hO,hk⟩ | ⟨e1,ho⟩
 ·subst e1
  conv => cbv
  refine RetF.mk [.p (.bool true)] [hpA 0 1 5 6 3 W ph sp cy,hpB 1 2 4 3 W,hpC 2 3 179 2 N,hpP 3 L,hpP 4 D,hpF 5 z ov,hpP 6 Q] 7 (Re.at [(0,0),(1,1),(2,2),(3,3),(4,4),(5,5),(6,6)] []) rfl ⟨true,rfl,rfl,rfl,fun _ => ho,fun _ => rfl⟩
 ·subst e1
  conv => cbv
  refine RetF.mk [.p (.bool false)] [hpA 0 1 5 6 3 W ph sp cy,hpB 1 2 4 3 W,hpC 2 3 179 2 N,hpP 3 L,hpP 4 D,hpF 5 z ov,hpP 6 Q] 7 (Re.at [(0,0),(1,1),(2,2),(3,3),(4,4),(5,5),(6,6)] []) rfl ⟨false,rfl,rfl,rfl,fun q => (by cases q),fun q => absurd q ho⟩
theorem toNone_lx (R : List Rw) (ws C G : List Int) (N W ph sp cy : Int) (L D Q : List PV) (z : ByteArray) (ov : Bool) (h : HM R ws C G N W L D Q z) (a : Int) : CallF (fun _ => Tryz.prog) 112 [i6 a,.ptr 7 (.lit 0)] [hpA 0 1 5 6 3 W ph sp cy,hpB 1 2 4 3 W,hpC 2 3 179 2 N,hpP 3 L,hpP 4 D,hpF 5 z ov,hpP 6 Q,(7,.mix [.ptr 0 (.lit 0)])] 8 (fun r h n => ∃ b : Bool,r = .p (.bool b) ∧ h = [hpA 0 1 5 6 3 W ph sp cy,hpB 1 2 4 3 W,hpC 2 3 179 2 N,hpP 3 L,hpP 4 D,hpF 5 z ov,hpP 6 Q,(7,.mix [.ptr 0 (.lit 0)])] ∧ n = 8 ∧ (b = true ↔ ¬ a ∈ objs R)) := by
 refine callF_of_body tok Tryz.func112 (by kernel_rfl) rfl rfl rfl ?_; conv => cbv
 refine cfr (isObject_lx R ws C G N W ph sp cy L D Q z ov h a) [(0,0),(1,1),(2,2),(3,3),(4,4),(5,5),(6,6)] (fun r h' n' hrr => ?_)
 obtain ⟨b,e1,e2,e3,hb⟩ := hrr
 subst e1 e2 e3
 conv => cbv
 cases b with
 | true =>
  conv => cbv
  refine RetF.mk [.p (.bool false)] [hpA 0 1 5 6 3 W ph sp cy,hpB 1 2 4 3 W,hpC 2 3 179 2 N,hpP 3 L,hpP 4 D,hpF 5 z ov,hpP 6 Q,(7,.mix [.ptr 0 (.lit 0)])] 8 (Re.at [(0,0),(1,1),(2,2),(3,3),(4,4),(5,5),(6,6),(7,7)] []) rfl ⟨false,rfl,rfl,rfl,fun q => (by cases q),fun q => absurd (hb.1 rfl) q⟩
 | false =>
  conv => cbv
  refine RetF.mk [.p (.bool true)] [hpA 0 1 5 6 3 W ph sp cy,hpB 1 2 4 3 W,hpC 2 3 179 2 N,hpP 3 L,hpP 4 D,hpF 5 z ov,hpP 6 Q,(7,.mix [.ptr 0 (.lit 0)])] 8 (Re.at [(0,0),(1,1),(2,2),(3,3),(4,4),(5,5),(6,6),(7,7)] []) rfl ⟨true,rfl,rfl,rfl,fun _ q => (by have := hb.2 q; cases this),fun _ => rfl⟩
theorem indexNone_lx (R : List Rw) (ws C G : List Int) (N W ph sp cy : Int) (L D Q : List PV) (z : ByteArray) (ov : Bool) (h : HM R ws C G N W L D Q z) (X : List Int) (k : Int) (O : List PV) (hO : O = ipv X) (hk : k = X.length) (hXl : X.length ≤ 100000) : CallF (fun _ => Tryz.prog) 174 [.p (.vsl (.sym k) true O),.fn 112 [.ptr 7 (.lit 0)]] [hpA 0 1 5 6 3 W ph sp cy,hpB 1 2 4 3 W,hpC 2 3 179 2 N,hpP 3 L,hpP 4 D,hpF 5 z ov,hpP 6 Q,(7,.mix [.ptr 0 (.lit 0)])] 8 (fun r h n => ∃ i : Int,r = .p (.int .i64 (.sym i)) ∧ h = [hpA 0 1 5 6 3 W ph sp cy,hpB 1 2 4 3 W,hpC 2 3 179 2 N,hpP 3 L,hpP 4 D,hpF 5 z ov,hpP 6 Q,(7,.mix [.ptr 0 (.lit 0)])] ∧ n = 8 ∧ (0 ≤ i ↔ ∃ b ∈ X,¬ b ∈ objs R)) := by
 have hOl : O.length = X.length := by rw [hO,ipv_length]
 refine callF_of_body tok Tryz.func174 (by kernel_rfl) rfl rfl rfl ?_; conv => cbv
 refine LoopF.mk (fun kk s => ∃ i : Int,s = ⟨.p (.vsl (.sym k) true O) :: .fn 112 [.ptr 7 (.lit 0)] :: (undefs 5 ++ .p (.int .i64 (.sym k)) :: .p (.int .i64 (.sym i)) :: undefs 10),[hpA 0 1 5 6 3 W ph sp cy,hpB 1 2 4 3 W,hpC 2 3 179 2 N,hpP 3 L,hpP 4 D,hpF 5 z ov,hpP 6 Q,(7,.mix [.ptr 0 (.lit 0)])],8⟩ ∧ 0 ≤ i ∧ i ≤ k ∧ (∀ b ∈ X.take i.toNat,b ∈ objs R) ∧ kk = (k - i).toNat) k.toNat _
  (Re.at [(0,0),(1,1),(2,2),(3,3),(4,4),(5,5),(6,6),(7,7)] []) ⟨0,rfl,by omega,by omega,fun b hb => (by simp at hb),by omega⟩ ?_
 rintro kk s ⟨i,rfl,hi0,hi1,hall,hkk⟩
 conv => cbv
 refine Br.mk (fun q => ?_) (fun q => ?_)
 case refine_2 =>
  have q : ¬ i < k := q
  rw [show i.toNat = X.length by omega,List.take_length] at hall
  conv => cbv
  refine RetF.mk [i6 (-1)] [hpA 0 1 5 6 3 W ph sp cy,hpB 1 2 4 3 W,hpC 2 3 179 2 N,hpP 3 L,hpP 4 D,hpF 5 z ov,hpP 6 Q,(7,.mix [.ptr 0 (.lit 0)])] 8 (Re.at [(0,0),(1,1),(2,2),(3,3),(4,4),(5,5),(6,6),(7,7)] []) rfl ⟨-1,rfl,rfl,rfl,fun h => (by omega),fun ⟨b,h1,h2⟩ => absurd (hall b h1) h2⟩
 have q : i < k := q
 obtain ⟨a,ha⟩ : ∃ a,X[i.toNat]? = some a := ⟨_,List.getElem?_eq_getElem (by omega)⟩
 have hOa : O[i.toNat]? = some (.int .i64 (.sym a)) := by rw [hO]; exact ipv_get ha
 obtain ⟨k',rfl⟩ : ∃ k',kk = k' + 1 := ⟨kk - 1,by omega⟩
 conv => cbv
 refine Need.mk (show 0 ≤ i ∧ i < k by omega) ?_
 conv => cbv
 refine Cell.at i _ hOa (by simp [I.val]) rfl ?_
 conv => cbv
 refine cfr (toNone_lx R ws C G N W ph sp cy L D Q z ov h a) [(0,0),(1,1),(2,2),(3,3),(4,4),(5,5),(6,6),(7,7)] (fun r h' n' hrr => ?_)
 obtain ⟨b,e1,e2,e3,hb⟩ := hrr
 subst e1 e2 e3
 cases b with
 | true =>
  conv => cbv
  refine RetF.mk [i6 i] [hpA 0 1 5 6 3 W ph sp cy,hpB 1 2 4 3 W,hpC 2 3 179 2 N,hpP 3 L,hpP 4 D,hpF 5 z ov,hpP 6 Q,(7,.mix [.ptr 0 (.lit 0)])] 8 (Re.at [(0,0),(1,1),(2,2),(3,3),(4,4),(5,5),(6,6),(7,7)] []) rfl ⟨i,rfl,rfl,rfl,fun _ => ⟨a,List.mem_of_getElem? ha,hb.1 rfl⟩,fun _ => hi0⟩
 | false =>
 conv => cbv
 refine Fit.mk (by show (-9223372036854775808 : Int) ≤ i + 1; omega) (by show i + 1 ≤ 9223372036854775807; omega) fun i2 hi2 => ?_
 have hi2 : i2 = i + 1 := hi2
 have hall2 : ∀ b ∈ X.take i2.toNat,b ∈ objs R := by
  intro b hbm
  rw [show i2.toNat = i.toNat + 1 by omega,List.take_add_one,ha] at hbm
  rcases List.mem_append.1 hbm with h1 | h1
  ·exact hall b h1
  ·have e : b = a := by simpa using h1
   rw [e]
   exact Classical.byContradiction fun hn => by have := hb.2 hn; cases this
 conv => cbv
 refine Again.mk k' _ (Nat.lt_succ_self _) (Re.at [(0,0),(1,1),(2,2),(3,3),(4,4),(5,5),(6,6),(7,7)] []) ⟨i2,rfl,by omega,by omega,hall2,by omega⟩
theorem containsNone_lx (R : List Rw) (ws C G : List Int) (N W ph sp cy : Int) (L D Q : List PV) (z : ByteArray) (ov : Bool) (h : HM R ws C G N W L D Q z) (X : List Int) (k : Int) (O : List PV) (hO : O = ipv X) (hk : k = X.length) (hXl : X.length ≤ 100000) : CallF (fun _ => Tryz.prog) 111 [.p (.vsl (.sym k) true O),.fn 112 [.ptr 7 (.lit 0)]] [hpA 0 1 5 6 3 W ph sp cy,hpB 1 2 4 3 W,hpC 2 3 179 2 N,hpP 3 L,hpP 4 D,hpF 5 z ov,hpP 6 Q,(7,.mix [.ptr 0 (.lit 0)])] 8 (fun r h n => ∃ b : Bool,r = .p (.bool b) ∧ h = [hpA 0 1 5 6 3 W ph sp cy,hpB 1 2 4 3 W,hpC 2 3 179 2 N,hpP 3 L,hpP 4 D,hpF 5 z ov,hpP 6 Q,(7,.mix [.ptr 0 (.lit 0)])] ∧ n = 8 ∧ (b = true ↔ ∃ b ∈ X,¬ b ∈ objs R)) := by
 refine callF_of_body tok Tryz.func111 (by kernel_rfl) rfl rfl rfl ?_; conv => cbv
 refine cfr (indexNone_lx R ws C G N W ph sp cy L D Q z ov h X k O hO hk hXl) [(0,0),(1,1),(2,2),(3,3),(4,4),(5,5),(6,6),(7,7)] (fun r h' n' hrr => ?_)
 obtain ⟨i,e1,e2,e3,hi⟩ := hrr
 subst e1 e2 e3
 conv => cbv
 refine Br.mk (fun q => ?_) (fun q => ?_)
 ·have q : 0 ≤ i := q
  conv => cbv
  refine RetF.mk [.p (.bool true)] [hpA 0 1 5 6 3 W ph sp cy,hpB 1 2 4 3 W,hpC 2 3 179 2 N,hpP 3 L,hpP 4 D,hpF 5 z ov,hpP 6 Q,(7,.mix [.ptr 0 (.lit 0)])] 8 (Re.at [(0,0),(1,1),(2,2),(3,3),(4,4),(5,5),(6,6),(7,7)] []) rfl ⟨true,rfl,rfl,rfl,fun _ => hi.1 q,fun _ => rfl⟩
 ·have q : ¬ 0 ≤ i := q
  conv => cbv
  refine RetF.mk [.p (.bool false)] [hpA 0 1 5 6 3 W ph sp cy,hpB 1 2 4 3 W,hpC 2 3 179 2 N,hpP 3 L,hpP 4 D,hpF 5 z ov,hpP 6 Q,(7,.mix [.ptr 0 (.lit 0)])] 8 (Re.at [(0,0),(1,1),(2,2),(3,3),(4,4),(5,5),(6,6),(7,7)] []) rfl ⟨false,rfl,rfl,rfl,fun q => (by cases q),fun w => absurd (hi.2 w) q⟩
end Go.Proofs.YtjfdfbpgckilpaaGreatDoor
namespace Go.Proofs.YtjfdfbpgckilpaaGreatDoor
open Go Go.LX
set_option maxRecDepth 100000
set_option linter.unusedVariables false
set_option linter.unusedSimpArgs false
set_option maxHeartbeats 32000000
theorem brk_iff {R : List Rw} {ws : List Int} {a : Int} {X : List Int} (hX : Wrds R ws a X) : Brk R ws a ↔ ∃ b ∈ ptrs X,¬ b ∈ objs R := by
 constructor
 ·rintro ⟨i,w,hl,ho,hn⟩
  cases hl with
  | ok k l _ hK hi hx =>
   have hlen : (X.length : Int) = l := by
    have h1 := hX.1
    generalize hq : (X.length : Int) = q at h1
    cases h1 with
    | no hno => exact absurd hK.obj6 hno
    | is k2 _ hK2 => exact (hK2.det9 hK).2
   obtain ⟨v,hv⟩ : ∃ v,X[i.toNat]? = some v := ⟨_,List.getElem?_eq_getElem (by omega)⟩
   have h2 := hX.2 _ _ hv
   rw [Int.toNat_of_nonneg hi.1] at h2
   cases h2 with
   | ok _ _ _ _ _ hx2 =>
    rw [hx] at hx2
    cases hx2
    exact ⟨_,ptrs_mem.2 ⟨w,List.mem_of_getElem? hv,ho,rfl⟩,hn⟩
 ·rintro ⟨b,hb,hn⟩
  obtain ⟨w,hw,ho,rfl⟩ := ptrs_mem.1 hb
  obtain ⟨i,hi⟩ := List.getElem?_of_mem hw
  exact ⟨i,w,hX.2 i w hi,ho,hn⟩
theorem rising_le : ∀ {l : List Int} {B : Int},l.Pairwise (· < ·) → (∀ x ∈ l,0 ≤ x ∧ x < B) → (l.length : Int) ≤ max B 0
 | [],B,_,_ => by simp; omega
 | a :: l,B,h,hb => by
  rw [List.pairwise_cons] at h
  have hm : ∀ x ∈ l.map (fun x => x - a - 1),0 ≤ x ∧ x < B - 1 := by
   intro x hx
   obtain ⟨y,hy,rfl⟩ := List.mem_map.1 hx
   have h1 := h.1 y hy
   have h2 := hb y (List.mem_cons_of_mem _ hy)
   have h3 := hb a List.mem_cons_self
   omega
  have hp : (l.map (fun x => x - a - 1)).Pairwise (· < ·) := List.pairwise_map.2 (h.2.imp fun hlt => by omega)
  have ih := rising_le hp hm
  have hB := hb a List.mem_cons_self
  rw [List.length_map] at ih
  show ((l.length + 1 : Nat) : Int) ≤ max B 0
  omega
 termination_by l => l.length
 decreasing_by simp
theorem take_asc {l : List Int} (h : l.Pairwise (· < ·)) {i : Nat} {a : Int} (ha : l[i]? = some a) : ∀ y ∈ l.take i,y < a := by
 intro y hy
 obtain ⟨p,hp,e⟩ := List.mem_take_iff_getElem.1 hy
 have h2 := (List.getElem?_eq_some_iff.1 ha)
 obtain ⟨hi,rfl⟩ := h2
 rw [← e]
 exact List.pairwise_iff_getElem.1 h p i (by omega) hi (by omega)
theorem lost_lx (R : List Rw) (ws C G : List Int) (N W ph sp cy : Int) (L D Q : List PV) (z : ByteArray) (ov : Bool) (h : HM R ws C G N W L D Q z) (A : List Int) (k : Int) (cells : List PV) (hk : k = A.length) (hcs : cells = ipv A) (hAl : A.length ≤ 100000) : CallF (fun _ => Tryz.prog) 48 [.ptr 0 (.lit 0),.p (.vsl (.sym k) true cells)] [hpA 0 1 5 6 3 W ph sp cy,hpB 1 2 4 3 W,hpC 2 3 179 2 N,hpP 3 L,hpP 4 D,hpF 5 z ov,hpP 6 Q] 7 (fun r h n => ∃ (Y : List Int) (j : Int) (O : List PV),r = .p (.vsl (.sym j) true O) ∧ h = [hpA 0 1 5 6 3 W ph sp cy,hpB 1 2 4 3 W,hpC 2 3 179 2 N,hpP 3 L,hpP 4 D,hpF 5 z ov,hpP 6 Q] ∧ n = 7 ∧ O = ipv Y ∧ j = Y.length ∧ Y.Pairwise (· < ·) ∧ ∀ x,x ∈ Y ↔ x ∈ objs R ∧ ¬ Rch R ws A x) := by
 have hNR := h.n; have hRr := h.r
 refine callF_of_body tok Tryz.func48 (by kernel_rfl) rfl rfl rfl ?_; conv => cbv
 refine cfr (reach_lx R ws C G N W ph sp cy L D Q z ov h A k cells hk hcs hAl) [(0,0),(1,1),(2,2),(3,3),(4,4),(5,5),(6,6)] (fun r h' n' hrr => ?_)
 obtain ⟨X,j0,O,e1,e2,e3,hO,hj0,hXa,hXm⟩ := hrr
 subst e1 e2 e3
 conv => cbv
 refine cfr (arena_lx R ws C G N W ph sp cy L D Q z ov) [(0,0),(1,1),(2,2),(3,3),(4,4),(5,5),(6,6)] (fun r h' n' ⟨e1,e2,e3⟩ => ?_)
 subst e1 e2 e3
 conv => cbv
 obtain ⟨m,hm⟩ : ∃ m : Int,m = objCount R := ⟨_,rfl⟩
 refine cfr (objects_lx m R N W L D h.l h.n h.r h.a.rows h.w hm) [(0,1),(1,2),(2,3),(3,4)] (fun r h' n' hrr => ?_)
 obtain ⟨E,e1,e2,e3,hE⟩ := hrr
 subst e1 e2 e3
 have hml : m = (objs R).length := by rw [hm]; unfold objs; rw [objs_length h.a.rows]
 have hEl : E.length = (objs R).length := by rw [hE,ipv_length]; rfl
 have hasc : (objs R).Pairwise (· < ·) := objsTo_asc h.a.rows _
 conv => cbv
 refine LoopF.mk (fun kk s => ∃ (i j : Int) (Y : List Int) (T : List PV),s = ⟨undefs 5 ++ .p (.vsl (.sym j0) true O) :: .sl 8 3 1 (.lit 0) (.sym j) :: (undefs 9 ++ .sl 7 3 1 (.lit 0) (.sym m) :: .p (.int .i64 (.sym m)) :: .p (.int .i64 (.sym i)) :: undefs 17),[hpA 0 1 5 6 3 W ph sp cy,hpB 1 2 4 3 W,hpC 2 3 179 2 N,hpP 3 L,hpP 4 D,hpF 5 z ov,hpP 6 Q,hpP 7 E,hpP 8 T],9⟩ ∧ T = ipv Y ∧ j = Y.length ∧ 0 ≤ i ∧ i ≤ m ∧ (Y.length : Int) ≤ i ∧ Y.Pairwise (· < ·) ∧ (∀ x,x ∈ Y ↔ x ∈ (objs R).take i.toNat ∧ ¬ Rch R ws A x) ∧ kk = (m - i).toNat) m.toNat _
  (Re.at [(0,0),(1,1),(2,2),(3,3),(4,4),(5,5),(6,6),(7,7)] [8]) ⟨0,0,[],[],rfl,rfl,rfl,by omega,by omega,by simp,List.Pairwise.nil,fun x => ⟨fun h => (by cases h),fun h => (by simp at h)⟩,by omega⟩ ?_
 rintro kk s ⟨i,j,Y,T,rfl,hT,hj,hi0,hi1,hYi,hYa,hYm,hkk⟩
 have hYi : ((Y.length : Nat) : Int) ≤ i := hYi
 have hTl : T.length = Y.length := by rw [hT,ipv_length]
 have hob : (objs R).length ≤ 8 * R.length := objsTo_le R R.length
 conv => cbv
 refine Br.mk (fun q => ?_) (fun q => ?_)
 case refine_2 =>
  have q : ¬ i < m := q
  rw [List.take_of_length_le (by omega : (objs R).length ≤ i.toNat)] at hYm
  conv => cbv
  refine RetF.mk [.p (.vsl (.sym j) true T)] [hpA 0 1 5 6 3 W ph sp cy,hpB 1 2 4 3 W,hpC 2 3 179 2 N,hpP 3 L,hpP 4 D,hpF 5 z ov,hpP 6 Q] 7 (Re.at [(0,0),(1,1),(2,2),(3,3),(4,4),(5,5),(6,6)] []) rfl ⟨Y,j,T,rfl,rfl,rfl,hT,hj,hYa,hYm⟩
 have q : i < m := q
 obtain ⟨a,ha⟩ : ∃ a,(objs R)[i.toNat]? = some a := ⟨_,List.getElem?_eq_getElem (by omega)⟩
 have hEa : E[i.toNat]? = some (.int .i64 (.sym a)) := by rw [hE]; exact ipv_get ha
 obtain ⟨k',rfl⟩ : ∃ k',kk = k' + 1 := ⟨kk - 1,by omega⟩
 have htk : (objs R).take (i.toNat + 1) = (objs R).take i.toNat ++ [a] := by rw [List.take_add_one,ha]; rfl
 conv => cbv
 refine Need.mk (show 0 ≤ i ∧ i < m by omega) ?_
 conv => cbv
 refine Cell.at i _ hEa (by simp [I.val]) rfl ?_
 conv => cbv
 refine callF_frame (search_lx X j0 a O hj0 hO (by have := rising_le hXa (fun x hx => (obj_bd h.a ((hXm x).1 hx).obj)); omega) hXa) [] rfl trivial rfl rfl (fun r h' n' hrr => ?_)
 obtain ⟨i9,b,e1,e2,e3,hb⟩ := hrr
 subst e1 e2 e3
 cases b with
 | true =>
  have hin : Rch R ws A a := (hXm a).1 (hb.1 rfl)
  conv => cbv
  refine Fit.mk (by show (-9223372036854775808 : Int) ≤ i + 1; omega) (by show i + 1 ≤ 9223372036854775807; omega) fun i2 hi2 => ?_
  have hi2 : i2 = i + 1 := hi2
  conv => cbv
  have hYm2 : ∀ x,x ∈ Y ↔ x ∈ (objs R).take i2.toNat ∧ ¬ Rch R ws A x := by
   intro x
   rw [hYm,show i2.toNat = i.toNat + 1 by omega,htk,List.mem_append,List.mem_singleton]
   constructor
   ·rintro ⟨h1,h2⟩; exact ⟨.inl h1,h2⟩
   ·rintro ⟨h1 | h1,h2⟩
    ·exact ⟨h1,h2⟩
    ·rw [h1] at h2; exact absurd hin h2
  refine Again.mk k' _ (Nat.lt_succ_self _) (Re.at [(0,0),(1,1),(2,2),(3,3),(4,4),(5,5),(6,6),(7,7),(8,8)] []) ⟨i2,j,Y,T,rfl,hT,hj,by omega,by omega,(show ((Y.length : Nat) : Int) ≤ i2 by omega),hYa,hYm2,by omega⟩
 | false =>
 have hin : ¬ Rch R ws A a := fun hr => by have := hb.2 ((hXm a).2 hr); cases this
 conv => cbv
 refine Room.new rfl ?_
 conv => cbv
 refine Room.new ⟨by show (T.length : Int) = j * 1; omega,by show (j + 1) * 8 ≤ 140737488355328; omega,by show j + 1 ≤ 9223372036854775807; omega⟩ ?_
 conv => cbv
 refine Upd.mk fun T2 hT2 => ?_
 have hT2 : T2 = ipv (Y ++ [a]) := by rw [show T2 = T ++ [.int .i64 (.sym a)] from hT2,← ipv_app,← hT]; rfl
 conv => cbv
 refine Sum.mk fun j2 hj2 => ?_
 have hj2 : j2 = (Y ++ [a]).length := by rw [show j2 = j + 1 from hj2,hj,List.length_append]; rfl
 conv => cbv
 refine Fit.mk (by show (-9223372036854775808 : Int) ≤ i + 1; omega) (by show i + 1 ≤ 9223372036854775807; omega) fun i2 hi2 => ?_
 have hi2 : i2 = i + 1 := hi2
 conv => cbv
 have hYm2 : ∀ x,x ∈ Y ++ [a] ↔ x ∈ (objs R).take i2.toNat ∧ ¬ Rch R ws A x := by
  intro x
  rw [List.mem_append,hYm,show i2.toNat = i.toNat + 1 by omega,htk,List.mem_append,List.mem_singleton]
  constructor
  ·rintro (⟨h1,h2⟩ | h1)
   ·exact ⟨.inl h1,h2⟩
   ·rw [h1]; exact ⟨.inr rfl,hin⟩
  ·rintro ⟨h1 | h1,h2⟩
   ·exact .inl ⟨h1,h2⟩
   ·exact .inr h1
 have hYa2 : (Y ++ [a]).Pairwise (· < ·) := List.pairwise_append.2 ⟨hYa,List.pairwise_singleton _ _,fun x hx y hy => by
  rw [List.mem_singleton.1 hy]
  exact take_asc hasc ha x ((hYm x).1 hx).1⟩
 have hY2l : ((Y ++ [a]).length : Int) ≤ i2 := by rw [List.length_append,hi2]; show ((Y.length + 1 : Nat) : Int) ≤ _; omega
 refine Again.mk k' _ (Nat.lt_succ_self _) (Re.at [(0,0),(1,1),(2,2),(3,3),(4,4),(5,5),(6,6),(7,7),(10,8)] []) ⟨i2,j2,Y ++ [a],T2,rfl,hT2,hj2,by omega,by omega,hY2l,hYa2,hYm2,by omega⟩
theorem broken_lx (R : List Rw) (ws C G : List Int) (N W ph sp cy : Int) (L D Q : List PV) (z : ByteArray) (ov : Bool) (h : HM R ws C G N W L D Q z) (A : List Int) (k : Int) (cells : List PV) (hk : k = A.length) (hcs : cells = ipv A) (hAl : A.length ≤ 100000) : CallF (fun _ => Tryz.prog) 50 [.ptr 0 (.lit 0),.p (.vsl (.sym k) true cells)] [hpA 0 1 5 6 3 W ph sp cy,hpB 1 2 4 3 W,hpC 2 3 179 2 N,hpP 3 L,hpP 4 D,hpF 5 z ov,hpP 6 Q] 7 (fun r h n => ∃ (Y : List Int) (j : Int) (O : List PV),r = .p (.vsl (.sym j) true O) ∧ h = [hpA 0 1 5 6 3 W ph sp cy,hpB 1 2 4 3 W,hpC 2 3 179 2 N,hpP 3 L,hpP 4 D,hpF 5 z ov,hpP 6 Q] ∧ n = 7 ∧ O = ipv Y ∧ j = Y.length ∧ Y.Pairwise (· < ·) ∧ ∀ x,x ∈ Y ↔ Rch R ws A x ∧ Brk R ws x) := by
 have hNR := h.n; have hRr := h.r
 refine callF_of_body tok Tryz.func50 (by kernel_rfl) rfl rfl rfl ?_; conv => cbv
 refine cfr (reach_lx R ws C G N W ph sp cy L D Q z ov h A k cells hk hcs hAl) [(0,0),(1,1),(2,2),(3,3),(4,4),(5,5),(6,6)] (fun r h' n' hrr => ?_)
 obtain ⟨X,j0,O,e1,e2,e3,hO,hj0,hXa,hXm⟩ := hrr
 subst e1 e2 e3
 conv => cbv
 have hXl : X.length ≤ 100000 := by have := rising_le hXa (fun x hx => (obj_bd h.a ((hXm x).1 hx).obj)); omega
 have hOl : O.length = X.length := by rw [hO,ipv_length]
 refine LoopF.mk (fun kk s => ∃ (i j : Int) (Y : List Int) (T : List PV),s = ⟨undefs 2 ++ .ptr 7 (.lit 0) :: (undefs 2 ++ .sl 8 3 1 (.lit 0) (.sym j) :: undefs 6 ++ .p (.vsl (.sym j0) true O) :: .p (.int .i64 (.sym j0)) :: .p (.int .i64 (.sym i)) :: undefs 23),[hpA 0 1 5 6 3 W ph sp cy,hpB 1 2 4 3 W,hpC 2 3 179 2 N,hpP 3 L,hpP 4 D,hpF 5 z ov,hpP 6 Q,(7,.mix [.ptr 0 (.lit 0)]),hpP 8 T],9⟩ ∧ T = ipv Y ∧ j = Y.length ∧ 0 ≤ i ∧ i ≤ j0 ∧ (Y.length : Int) ≤ i ∧ Y.Pairwise (· < ·) ∧ (∀ x,x ∈ Y ↔ x ∈ X.take i.toNat ∧ Brk R ws x) ∧ kk = (j0 - i).toNat) j0.toNat _
  (Re.at [(0,0),(1,1),(2,2),(3,3),(4,4),(5,5),(6,6),(7,7)] [8]) ⟨0,0,[],[],rfl,rfl,rfl,by omega,by omega,by simp,List.Pairwise.nil,fun x => ⟨fun h => (by cases h),fun h => (by simp at h)⟩,by omega⟩ ?_
 rintro kk s ⟨i,j,Y,T,rfl,hT,hj,hi0,hi1,hYi,hYa,hYm,hkk⟩
 have hYi : ((Y.length : Nat) : Int) ≤ i := hYi
 have hTl : T.length = Y.length := by rw [hT,ipv_length]
 conv => cbv
 refine Br.mk (fun q => ?_) (fun q => ?_)
 case refine_2 =>
  have q : ¬ i < j0 := q
  rw [List.take_of_length_le (by omega : X.length ≤ i.toNat)] at hYm
  conv => cbv
  refine RetF.mk [.p (.vsl (.sym j) true T)] [hpA 0 1 5 6 3 W ph sp cy,hpB 1 2 4 3 W,hpC 2 3 179 2 N,hpP 3 L,hpP 4 D,hpF 5 z ov,hpP 6 Q] 7 (Re.at [(0,0),(1,1),(2,2),(3,3),(4,4),(5,5),(6,6)] []) rfl ⟨Y,j,T,rfl,rfl,rfl,hT,hj,hYa,fun x => by rw [hYm,hXm]⟩
 have q : i < j0 := q
 obtain ⟨a,ha⟩ : ∃ a,X[i.toNat]? = some a := ⟨_,List.getElem?_eq_getElem (by omega)⟩
 have hOa : O[i.toNat]? = some (.int .i64 (.sym a)) := by rw [hO]; exact ipv_get ha
 obtain ⟨k',rfl⟩ : ∃ k',kk = k' + 1 := ⟨kk - 1,by omega⟩
 have htk : X.take (i.toNat + 1) = X.take i.toNat ++ [a] := by rw [List.take_add_one,ha]; rfl
 have hoa : a ∈ objs R := ((hXm a).1 (List.mem_of_getElem? ha)).obj
 conv => cbv
 refine Need.mk (show 0 ≤ i ∧ i < j0 by omega) ?_
 conv => cbv
 refine Cell.at i _ hOa (by simp [I.val]) rfl ?_
 conv => cbv
 refine cfr (lookL_lx R ws C G N W ph sp cy L D Q z ov h a) [(0,0),(1,1),(2,2),(3,3),(4,4),(5,5),(6,6)] (fun r h' n' hrr => ?_)
 obtain ⟨hrr,e2,e3⟩ := hrr
 subst e2 e3
 rcases hrr with ⟨X2,kx,O2,e1,ho,hX2,hO2,hkx⟩ | ⟨e1,ho⟩
 rotate_left
 ·exact absurd hoa ho
 subst e1
 have hpl := ptrs_len X2
 have hx31 : X2.length ≤ 31 := by
  have hlen := hX2.1
  generalize hn : (X2.length : Int) = n at hlen
  cases hlen with
  | no hno => omega
  | is k2 _ hK2 => have := hK2.bounds h.a; omega
 conv => cbv
 refine cfr (containsNone_lx R ws C G N W ph sp cy L D Q z ov h (ptrs X2) kx O2 hO2 hkx (by omega)) [(0,0),(1,1),(2,2),(3,3),(4,4),(5,5),(6,6),(7,7)] (fun r h' n' hrr => ?_)
 obtain ⟨b,e1,e2,e3,hb⟩ := hrr
 subst e1 e2 e3
 have hbk := (brk_iff hX2).symm
 rw [← hb] at hbk
 cases b with
 | false =>
  have hin : ¬ Brk R ws a := fun hr => by have := hbk.2 hr; cases this
  conv => cbv
  refine Fit.mk (by show (-9223372036854775808 : Int) ≤ i + 1; omega) (by show i + 1 ≤ 9223372036854775807; omega) fun i2 hi2 => ?_
  have hi2 : i2 = i + 1 := hi2
  conv => cbv
  have hYm2 : ∀ x,x ∈ Y ↔ x ∈ X.take i2.toNat ∧ Brk R ws x := by
   intro x
   rw [hYm,show i2.toNat = i.toNat + 1 by omega,htk,List.mem_append,List.mem_singleton]
   constructor
   ·rintro ⟨h1,h2⟩; exact ⟨.inl h1,h2⟩
   ·rintro ⟨h1 | h1,h2⟩
    ·exact ⟨h1,h2⟩
    ·rw [h1] at h2; exact absurd h2 hin
  refine Again.mk k' _ (Nat.lt_succ_self _) (Re.at [(0,0),(1,1),(2,2),(3,3),(4,4),(5,5),(6,6),(7,7),(8,8)] []) ⟨i2,j,Y,T,rfl,hT,hj,by omega,by omega,(show ((Y.length : Nat) : Int) ≤ i2 by omega),hYa,hYm2,by omega⟩
 | true =>
 have hin : Brk R ws a := hbk.1 rfl
 conv => cbv
 refine Room.new rfl ?_
 conv => cbv
 refine Room.new ⟨by show (T.length : Int) = j * 1; omega,by show (j + 1) * 8 ≤ 140737488355328; omega,by show j + 1 ≤ 9223372036854775807; omega⟩ ?_
 conv => cbv
 refine Upd.mk fun T2 hT2 => ?_
 have hT2 : T2 = ipv (Y ++ [a]) := by rw [show T2 = T ++ [.int .i64 (.sym a)] from hT2,← ipv_app,← hT]; rfl
 conv => cbv
 refine Sum.mk fun j2 hj2 => ?_
 have hj2 : j2 = (Y ++ [a]).length := by rw [show j2 = j + 1 from hj2,hj,List.length_append]; rfl
 conv => cbv
 refine Fit.mk (by show (-9223372036854775808 : Int) ≤ i + 1; omega) (by show i + 1 ≤ 9223372036854775807; omega) fun i2 hi2 => ?_
 have hi2 : i2 = i + 1 := hi2
 conv => cbv
 have hYm2 : ∀ x,x ∈ Y ++ [a] ↔ x ∈ X.take i2.toNat ∧ Brk R ws x := by
  intro x
  rw [List.mem_append,hYm,show i2.toNat = i.toNat + 1 by omega,htk,List.mem_append,List.mem_singleton]
  constructor
  ·rintro (⟨h1,h2⟩ | h1)
   ·exact ⟨.inl h1,h2⟩
   ·rw [h1]; exact ⟨.inr rfl,hin⟩
  ·rintro ⟨h1 | h1,h2⟩
   ·exact .inl ⟨h1,h2⟩
   ·exact .inr h1
 have hYa2 : (Y ++ [a]).Pairwise (· < ·) := List.pairwise_append.2 ⟨hYa,List.pairwise_singleton _ _,fun x hx y hy => by
  rw [List.mem_singleton.1 hy]
  exact take_asc hXa ha x ((hYm x).1 hx).1⟩
 have hY2l : ((Y ++ [a]).length : Int) ≤ i2 := by rw [List.length_append,hi2]; show ((Y.length + 1 : Nat) : Int) ≤ _; omega
 refine Again.mk k' _ (Nat.lt_succ_self _) (Re.at [(0,0),(1,1),(2,2),(3,3),(4,4),(5,5),(6,6),(7,7),(11,8)] []) ⟨i2,j2,Y ++ [a],T2,rfl,hT2,hj2,by omega,by omega,hY2l,hYa2,hYm2,by omega⟩
end Go.Proofs.YtjfdfbpgckilpaaGreatDoor
namespace Go.Proofs.YtjfdfbpgckilpaaGreatDoor
open Go Go.LX
set_option maxRecDepth 100000
set_option linter.unusedVariables false
set_option linter.unusedSimpArgs false
set_option maxHeartbeats 32000000
theorem inL_lx (l : List Int) (x m : Int) (ZL : List PV) (b : Bool) (hm : m = l.length) (hZ : ZL = ipv l) (hml : m ≤ 9223372036854775806) (hb : b = decide (x ∈ l)) : CallF (fun _ => Tryz.prog) 21 [.p (.vsl (.sym m) true ZL),i6 x] [] 0 (fun r h n => r = .p (.bool b) ∧ h = [] ∧ n = 0) := by
 refine callF_of_body tok Tryz.func21 (by kernel_rfl) rfl rfl rfl ?_; conv => cbv
 refine LoopF.mk (fun k s => ∃ i : Int,s = ⟨.p (.vsl (.sym m) true ZL) :: .p (.int .i64 (.sym x)) :: (undefs 3 ++ .p (.int .i64 (.sym i)) :: undefs 12),[],0⟩ ∧ 0 ≤ i ∧ i ≤ m ∧ x ∉ l.take i.toNat ∧ k = (m - i).toNat) m.toNat _
  (Re.at [] []) ⟨0,rfl,by omega,by omega,by simp,by omega⟩ ?_
 rintro k s ⟨i,rfl,hi0,hi1,hnot,hk⟩
 conv => cbv
 refine Br.mk (fun gi => ?_) (fun gi => ?_)
 ·have gi : i < m := gi
  obtain ⟨k',rfl⟩ : ∃ k',k = k' + 1 := ⟨k - 1,by omega⟩
  obtain ⟨z,hz⟩ : ∃ z,l[i.toNat]? = some z := ⟨_,List.getElem?_eq_getElem (by omega)⟩
  have hc : ZL[i.toNat]? = some (.int .i64 (.sym z)) := by rw [hZ]; exact ipv_get hz
  conv => cbv
  refine Need.mk ⟨hi0,by show i < m; omega⟩ ?_
  conv => cbv
  refine Cell.at i _ hc (by simp [I.val]) rfl ?_
  conv => cbv
  refine Br.mk (fun ge => ?_) (fun ge => ?_)
  ·have ge : z = x := ge
   have hbt : b = true := by rw [hb]; exact decide_eq_true (by rw [← ge]; exact List.mem_of_getElem? hz)
   subst hbt
   conv => cbv
   refine RetF.mk [.p (.bool true)] [] 0 (Re.at [] []) rfl ⟨rfl,rfl,rfl⟩
  ·have ge : ¬ z = x := ge
   conv => cbv
   refine Fit.mk (by show (-9223372036854775808 : Int) ≤ i + 1; omega) (by show i + 1 ≤ 9223372036854775807; omega) fun i2 hi2 => ?_
   have hi2 : i2 = i + 1 := hi2
   have hn2 : x ∉ l.take i2.toNat := by
    rw [show i2.toNat = i.toNat + 1 by omega,List.take_add_one,hz]
    intro h
    rcases List.mem_append.1 h with h | h
    ·exact hnot h
    ·exact ge (by simp at h; exact h.symm)
   conv => cbv
   refine Again.mk k' _ (Nat.lt_succ_self _) (Re.at [] []) ⟨i2,rfl,by omega,by omega,hn2,by omega⟩
 ·have gi : ¬ i < m := gi
  have hbt : b = false := by
   rw [hb]
   rw [List.take_of_length_le (by omega)] at hnot
   exact decide_eq_false hnot
  subst hbt
  conv => cbv
  refine RetF.mk [.p (.bool false)] [] 0 (Re.at [] []) rfl ⟨rfl,rfl,rfl⟩
theorem loaded_bd {R : List Rw} {vs : List Int} (hA : AOk R vs) : ∀ a i w,Loaded R vs a i w 0 → -9223372036854775808 ≤ w ∧ w ≤ 9223372036854775807 := by
 intro a i w h
 cases h with
 | ok k l _ hK hi hx => exact hA.bd w (List.mem_of_getElem? hx)
theorem rlost_lx (R : List Rw) (vs C G : List Int) (N W ph sp cy : Int) (P B V Q la : List PV) (m : Int) (ov : Bool) (h : RM R vs C G N W P B V Q la m) (A : List Int) (k : Int) (cells : List PV) (hk : k = A.length) (hcs : cells = ipv A) (hAl : A.length ≤ 100000) : CallF (fun _ => Tryz.prog) 49 [.ptr 0 (.lit 0),.p (.vsl (.sym k) true cells)] [hpR 0 1 6 3 W 7 ph sp cy,hpB 1 2 5 3 W,hpD 2 3 3 1 N 4 254 8 N,hpP 3 P,hpP 4 B,hpP 5 V,hpP 6 Q,(7,.mix [.p (.vsl (.sym m) true la),.p (.bool ov)])] 8 (fun r h n => ∃ (Y : List Int) (j : Int) (O : List PV),r = .p (.vsl (.sym j) true O) ∧ h = [hpR 0 1 6 3 W 7 ph sp cy,hpB 1 2 5 3 W,hpD 2 3 3 1 N 4 254 8 N,hpP 3 P,hpP 4 B,hpP 5 V,hpP 6 Q,(7,.mix [.p (.vsl (.sym m) true la),.p (.bool ov)])] ∧ n = 8 ∧ O = ipv Y ∧ j = Y.length ∧ Y.Pairwise (· < ·) ∧ ∀ x,x ∈ Y ↔ x ∈ objs R ∧ ¬ Rch R vs A x) := by
 have hvw := loaded_bd h.a
 have hNR := h.n; have hRr := h.r
 refine callF_of_body tok Tryz.func49 (by kernel_rfl) rfl rfl rfl ?_; conv => cbv
 refine cfr (rreach_lx R vs C G N W ph sp cy P B V Q la m ov h A k cells hk hcs hAl hvw) [(0,0),(1,1),(2,2),(3,3),(4,4),(5,5),(6,6),(7,7)] (fun r h' n' hrr => ?_)
 obtain ⟨X,j0,O,e1,e2,e3,hO,hj0,hXa,hXm⟩ := hrr
 subst e1 e2 e3
 conv => cbv
 obtain ⟨mo,hm⟩ : ∃ m : Int,m = objCount R := ⟨_,rfl⟩
 refine cfr (robjects_lx mo R vs N W P B V h.p h.b h.v h.n h.r h.a h.w hm) [(0,1),(1,2),(2,3),(3,4),(4,5)] (fun r h' n' hrr => ?_)
 obtain ⟨E,e1,e2,e3,hE⟩ := hrr
 subst e1 e2 e3
 have hml : mo = (objs R).length := by rw [hm]; unfold objs; rw [objs_length h.a.rows]
 have hEl : E.length = (objs R).length := by rw [hE,ipv_length]; rfl
 have hasc : (objs R).Pairwise (· < ·) := objsTo_asc h.a.rows _
 conv => cbv
 refine LoopF.mk (fun kk s => ∃ (i j : Int) (Y : List Int) (T : List PV),s = ⟨undefs 5 ++ .p (.vsl (.sym j0) true O) :: .sl 8 3 1 (.lit 0) (.sym mo) :: .sl 9 3 1 (.lit 0) (.sym j) :: .p (.int .i64 (.sym i)) :: undefs 29,[hpR 0 1 6 3 W 7 ph sp cy,hpB 1 2 5 3 W,hpD 2 3 3 1 N 4 254 8 N,hpP 3 P,hpP 4 B,hpP 5 V,hpP 6 Q,(7,.mix [.p (.vsl (.sym m) true la),.p (.bool ov)]),hpP 8 E,hpP 9 T],10⟩ ∧ T = ipv Y ∧ j = Y.length ∧ 0 ≤ i ∧ i ≤ mo ∧ (Y.length : Int) ≤ i ∧ Y.Pairwise (· < ·) ∧ (∀ x,x ∈ Y ↔ x ∈ (objs R).take i.toNat ∧ ¬ Rch R vs A x) ∧ kk = (mo - i).toNat) mo.toNat _
  (Re.at [(0,0),(1,1),(2,2),(3,3),(4,4),(5,5),(6,6),(7,7),(8,8)] [9]) ⟨0,0,[],[],rfl,rfl,rfl,by omega,by omega,by simp,List.Pairwise.nil,fun x => ⟨fun h => (by cases h),fun h => (by simp at h)⟩,by omega⟩ ?_
 rintro kk s ⟨i,j,Y,T,rfl,hT,hj,hi0,hi1,hYi,hYa,hYm,hkk⟩
 have hYi : ((Y.length : Nat) : Int) ≤ i := hYi
 have hTl : T.length = Y.length := by rw [hT,ipv_length]
 have hob : (objs R).length ≤ 8 * R.length := objsTo_le R R.length
 conv => cbv
 refine Br.mk (fun q => ?_) (fun q => ?_)
 case refine_2 =>
  have q : ¬ i < mo := q
  rw [List.take_of_length_le (by omega : (objs R).length ≤ i.toNat)] at hYm
  conv => cbv
  refine RetF.mk [.p (.vsl (.sym j) true T)] [hpR 0 1 6 3 W 7 ph sp cy,hpB 1 2 5 3 W,hpD 2 3 3 1 N 4 254 8 N,hpP 3 P,hpP 4 B,hpP 5 V,hpP 6 Q,(7,.mix [.p (.vsl (.sym m) true la),.p (.bool ov)])] 8 (Re.at [(0,0),(1,1),(2,2),(3,3),(4,4),(5,5),(6,6),(7,7)] []) rfl ⟨Y,j,T,rfl,rfl,rfl,hT,hj,hYa,hYm⟩
 have q : i < mo := q
 obtain ⟨a,ha⟩ : ∃ a,(objs R)[i.toNat]? = some a := ⟨_,List.getElem?_eq_getElem (by omega)⟩
 have hEa : E[i.toNat]? = some (.int .i64 (.sym a)) := by rw [hE]; exact ipv_get ha
 obtain ⟨k',rfl⟩ : ∃ k',kk = k' + 1 := ⟨kk - 1,by omega⟩
 have htk : (objs R).take (i.toNat + 1) = (objs R).take i.toNat ++ [a] := by rw [List.take_add_one,ha]; rfl
 have hXl2 := rising_le hXa (fun x hx => (obj_bd h.a ((hXm x).1 hx).obj))
 conv => cbv
 refine Need.mk (show 0 ≤ i ∧ i < mo by omega) ?_
 conv => cbv
 refine Cell.at i _ hEa (by simp [I.val]) rfl ?_
 conv => cbv
 refine callF_frame (inL_lx X a j0 O (decide (a ∈ X)) hj0 hO (by omega) rfl) [] rfl trivial rfl rfl (fun r h' n' ⟨e1,e2,e3⟩ => ?_)
 subst e1 e2 e3
 by_cases hax : a ∈ X
 ·have hin : Rch R vs A a := (hXm a).1 hax
  rw [decide_eq_true hax]
  conv => cbv
  refine Fit.mk (by show (-9223372036854775808 : Int) ≤ i + 1; omega) (by show i + 1 ≤ 9223372036854775807; omega) fun i2 hi2 => ?_
  have hi2 : i2 = i + 1 := hi2
  conv => cbv
  have hYm2 : ∀ x,x ∈ Y ↔ x ∈ (objs R).take i2.toNat ∧ ¬ Rch R vs A x := by
   intro x
   rw [hYm,show i2.toNat = i.toNat + 1 by omega,htk,List.mem_append,List.mem_singleton]
   constructor
   ·rintro ⟨h1,h2⟩; exact ⟨.inl h1,h2⟩
   ·rintro ⟨h1 | h1,h2⟩
    ·exact ⟨h1,h2⟩
    ·rw [h1] at h2; exact absurd hin h2
  refine Again.mk k' _ (Nat.lt_succ_self _) (Re.at [(0,0),(1,1),(2,2),(3,3),(4,4),(5,5),(6,6),(7,7),(8,8),(9,9)] []) ⟨i2,j,Y,T,rfl,hT,hj,by omega,by omega,(show ((Y.length : Nat) : Int) ≤ i2 by omega),hYa,hYm2,by omega⟩
 rw [decide_eq_false hax]
 have hin : ¬ Rch R vs A a := fun hr => hax ((hXm a).2 hr)
 conv => cbv
 refine Need.mk (show 0 ≤ i ∧ i < mo by omega) ?_
 conv => cbv
 refine Cell.at i _ hEa (by simp [I.val]) rfl ?_
 conv => cbv
 refine Room.new rfl ?_
 conv => cbv
 refine Room.new ⟨by show (T.length : Int) = j * 1; omega,by show (j + 1) * 8 ≤ 140737488355328; omega,by show j + 1 ≤ 9223372036854775807; omega⟩ ?_
 conv => cbv
 refine Upd.mk fun T2 hT2 => ?_
 have hT2 : T2 = ipv (Y ++ [a]) := by rw [show T2 = T ++ [.int .i64 (.sym a)] from hT2,← ipv_app,← hT]; rfl
 conv => cbv
 refine Sum.mk fun j2 hj2 => ?_
 have hj2 : j2 = (Y ++ [a]).length := by rw [show j2 = j + 1 from hj2,hj,List.length_append]; rfl
 conv => cbv
 refine Fit.mk (by show (-9223372036854775808 : Int) ≤ i + 1; omega) (by show i + 1 ≤ 9223372036854775807; omega) fun i2 hi2 => ?_
 have hi2 : i2 = i + 1 := hi2
 conv => cbv
 have hYm2 : ∀ x,x ∈ Y ++ [a] ↔ x ∈ (objs R).take i2.toNat ∧ ¬ Rch R vs A x := by
  intro x
  rw [List.mem_append,hYm,show i2.toNat = i.toNat + 1 by omega,htk,List.mem_append,List.mem_singleton]
  constructor
  ·rintro (⟨h1,h2⟩ | h1)
   ·exact ⟨.inl h1,h2⟩
   ·rw [h1]; exact ⟨.inr rfl,hin⟩
  ·rintro ⟨h1 | h1,h2⟩
   ·exact .inl ⟨h1,h2⟩
   ·exact .inr h1
 have hYa2 : (Y ++ [a]).Pairwise (· < ·) := List.pairwise_append.2 ⟨hYa,List.pairwise_singleton _ _,fun x hx y hy => by
  rw [List.mem_singleton.1 hy]
  exact take_asc hasc ha x ((hYm x).1 hx).1⟩
 have hY2l : ((Y ++ [a]).length : Int) ≤ i2 := by rw [List.length_append,hi2]; show ((Y.length + 1 : Nat) : Int) ≤ _; omega
 refine Again.mk k' _ (Nat.lt_succ_self _) (Re.at [(0,0),(1,1),(2,2),(3,3),(4,4),(5,5),(6,6),(7,7),(8,8),(11,9)] []) ⟨i2,j2,Y ++ [a],T2,rfl,hT2,hj2,by omega,by omega,hY2l,hYa2,hYm2,by omega⟩
theorem rbroken_lx (R : List Rw) (vs C G : List Int) (N W ph sp cy : Int) (P B V Q la : List PV) (m : Int) (ov : Bool) (h : RM R vs C G N W P B V Q la m) (A : List Int) (k : Int) (cells : List PV) (hk : k = A.length) (hcs : cells = ipv A) (hAl : A.length ≤ 100000) : CallF (fun _ => Tryz.prog) 51 [.ptr 0 (.lit 0),.p (.vsl (.sym k) true cells)] [hpR 0 1 6 3 W 7 ph sp cy,hpB 1 2 5 3 W,hpD 2 3 3 1 N 4 254 8 N,hpP 3 P,hpP 4 B,hpP 5 V,hpP 6 Q,(7,.mix [.p (.vsl (.sym m) true la),.p (.bool ov)])] 8 (fun r h n => ∃ (Y : List Int) (j : Int) (O : List PV),r = .p (.vsl (.sym j) true O) ∧ h = [hpR 0 1 6 3 W 7 ph sp cy,hpB 1 2 5 3 W,hpD 2 3 3 1 N 4 254 8 N,hpP 3 P,hpP 4 B,hpP 5 V,hpP 6 Q,(7,.mix [.p (.vsl (.sym m) true la),.p (.bool ov)])] ∧ n = 8 ∧ O = ipv Y ∧ j = Y.length ∧ Y.Pairwise (· < ·) ∧ ∀ x,x ∈ Y ↔ Rch R vs A x ∧ Brk R vs x) := by
 have hvw := loaded_bd h.a
 have hNR := h.n; have hRr := h.r
 refine callF_of_body tok Tryz.func51 (by kernel_rfl) rfl rfl rfl ?_; conv => cbv
 refine cfr (rreach_lx R vs C G N W ph sp cy P B V Q la m ov h A k cells hk hcs hAl hvw) [(0,0),(1,1),(2,2),(3,3),(4,4),(5,5),(6,6),(7,7)] (fun r h' n' hrr => ?_)
 obtain ⟨X,j0,O,e1,e2,e3,hO,hj0,hXa,hXm⟩ := hrr
 subst e1 e2 e3
 conv => cbv
 have hXl2 := rising_le hXa (fun x hx => (obj_bd h.a ((hXm x).1 hx).obj))
 have hOl : O.length = X.length := by rw [hO,ipv_length]
 refine LoopF.mk (fun kk s => ∃ (i j : Int) (Y : List Int) (T : List PV),s = ⟨.ptr 0 (.lit 0) :: (undefs 4 ++ .p (.vsl (.sym j0) true O) :: .sl 8 3 1 (.lit 0) (.sym j) :: .p (.int .i64 (.sym i)) :: undefs 49),[hpR 0 1 6 3 W 7 ph sp cy,hpB 1 2 5 3 W,hpD 2 3 3 1 N 4 254 8 N,hpP 3 P,hpP 4 B,hpP 5 V,hpP 6 Q,(7,.mix [.p (.vsl (.sym m) true la),.p (.bool ov)]),hpP 8 T],9⟩ ∧ T = ipv Y ∧ j = Y.length ∧ 0 ≤ i ∧ i ≤ j0 ∧ (Y.length : Int) ≤ i ∧ Y.Pairwise (· < ·) ∧ (∀ x,x ∈ Y ↔ x ∈ X.take i.toNat ∧ Brk R vs x) ∧ kk = (j0 - i).toNat) j0.toNat _
  (Re.at [(0,0),(1,1),(2,2),(3,3),(4,4),(5,5),(6,6),(7,7)] [8]) ⟨0,0,[],[],rfl,rfl,rfl,by omega,by omega,by simp,List.Pairwise.nil,fun x => ⟨fun h => (by cases h),fun h => (by simp at h)⟩,by omega⟩ ?_
 rintro kk s ⟨i,j,Y,T,rfl,hT,hj,hi0,hi1,hYi,hYa,hYm,hkk⟩
 have hYi : ((Y.length : Nat) : Int) ≤ i := hYi
 have hTl : T.length = Y.length := by rw [hT,ipv_length]
 conv => cbv
 refine Br.mk (fun q => ?_) (fun q => ?_)
 case refine_2 =>
  have q : ¬ i < j0 := q
  rw [List.take_of_length_le (by omega : X.length ≤ i.toNat)] at hYm
  conv => cbv
  refine RetF.mk [.p (.vsl (.sym j) true T)] [hpR 0 1 6 3 W 7 ph sp cy,hpB 1 2 5 3 W,hpD 2 3 3 1 N 4 254 8 N,hpP 3 P,hpP 4 B,hpP 5 V,hpP 6 Q,(7,.mix [.p (.vsl (.sym m) true la),.p (.bool ov)])] 8 (Re.at [(0,0),(1,1),(2,2),(3,3),(4,4),(5,5),(6,6),(7,7)] []) rfl ⟨Y,j,T,rfl,rfl,rfl,hT,hj,hYa,fun x => by rw [hYm,hXm]⟩
 have q : i < j0 := q
 obtain ⟨a,ha⟩ : ∃ a,X[i.toNat]? = some a := ⟨_,List.getElem?_eq_getElem (by omega)⟩
 have hOa : O[i.toNat]? = some (.int .i64 (.sym a)) := by rw [hO]; exact ipv_get ha
 obtain ⟨k',rfl⟩ : ∃ k',kk = k' + 1 := ⟨kk - 1,by omega⟩
 have htk : X.take (i.toNat + 1) = X.take i.toNat ++ [a] := by rw [List.take_add_one,ha]; rfl
 have hoa : a ∈ objs R := ((hXm a).1 (List.mem_of_getElem? ha)).obj
 conv => cbv
 refine Need.mk (show 0 ≤ i ∧ i < j0 by omega) ?_
 conv => cbv
 refine Cell.at i _ hOa (by simp [I.val]) rfl ?_
 conv => cbv
 refine cfr (rwordsV_lx R vs C G N W ph sp cy P B V Q la m ov h a) [(0,0),(1,1),(2,2),(3,3),(4,4),(5,5),(6,6),(7,7)] (fun r h' n' hrr => ?_)
 obtain ⟨X2,kx,O2,e1,e2,e3,hO2,hkx,hX2⟩ := hrr
 subst e1 e2 e3
 have hO2l : O2.length = X2.length := by rw [hO2,ipv_length]
 have hx31 : X2.length ≤ 31 := by
  have hlen := hX2.1
  generalize hn : (X2.length : Int) = n at hlen
  cases hlen with
  | no hno => omega
  | is k2 _ hK2 => have := hK2.bounds h.a; omega
 conv => cbv
 refine LoopF.mk (fun kk s => ∃ q : Int,s = ⟨.ptr 0 (.lit 0) :: (undefs 4 ++ .p (.vsl (.sym j0) true O) :: .sl 8 3 1 (.lit 0) (.sym j) :: .p (.int .i64 (.sym i)) :: .p (.vsl (.sym kx) true O2) :: .p (.int .i64 (.sym q)) :: undefs 47),[hpR 0 1 6 3 W 7 ph sp cy,hpB 1 2 5 3 W,hpD 2 3 3 1 N 4 254 8 N,hpP 3 P,hpP 4 B,hpP 5 V,hpP 6 Q,(7,.mix [.p (.vsl (.sym m) true la),.p (.bool ov)]),hpP 8 T],9⟩ ∧ 0 ≤ q ∧ q ≤ kx ∧ (∀ b ∈ ptrs (X2.take q.toNat),b ∈ objs R) ∧ kk = (kx - q).toNat) kx.toNat _
  (Re.at [(0,0),(1,1),(2,2),(3,3),(4,4),(5,5),(6,6),(7,7),(8,8)] []) ⟨0,rfl,by omega,by omega,fun b hb => (by simp [ptrs] at hb),by omega⟩ ?_
 rintro kk2 s ⟨p,rfl,hp0,hp1,hall,hkk2⟩
 conv => cbv
 refine Br.mk (fun g => ?_) (fun g => ?_)
 case refine_2 =>
  have g : ¬ p < kx := g
  rw [List.take_of_length_le (by omega : X2.length ≤ p.toNat)] at hall
  have hin : ¬ Brk R vs a := fun hr => by
   obtain ⟨b,h1,h2⟩ := (brk_iff hX2).1 hr
   exact h2 (hall b h1)
  conv => cbv
  refine Fit.mk (by show (-9223372036854775808 : Int) ≤ i + 1; omega) (by show i + 1 ≤ 9223372036854775807; omega) fun i2 hi2 => ?_
  have hi2 : i2 = i + 1 := hi2
  conv => cbv
  have hYm2 : ∀ x,x ∈ Y ↔ x ∈ X.take i2.toNat ∧ Brk R vs x := by
   intro x
   rw [hYm,show i2.toNat = i.toNat + 1 by omega,htk,List.mem_append,List.mem_singleton]
   constructor
   ·rintro ⟨h1,h2⟩; exact ⟨.inl h1,h2⟩
   ·rintro ⟨h1 | h1,h2⟩
    ·exact ⟨h1,h2⟩
    ·rw [h1] at h2; exact absurd h2 hin
  refine Again.mk k' _ (Nat.lt_succ_self _) (Re.at [(0,0),(1,1),(2,2),(3,3),(4,4),(5,5),(6,6),(7,7),(8,8)] []) ⟨i2,j,Y,T,rfl,hT,hj,by omega,by omega,(show ((Y.length : Nat) : Int) ≤ i2 by omega),hYa,hYm2,by omega⟩
 have g : p < kx := g
 obtain ⟨w,hw⟩ : ∃ w,X2[p.toNat]? = some w := ⟨_,List.getElem?_eq_getElem (by omega)⟩
 have hOw : O2[p.toNat]? = some (.int .i64 (.sym w)) := by rw [hO2]; exact ipv_get hw
 have hld := hX2.2 _ _ hw
 have hwb := hvw a _ w hld
 have hpt := ptrs_take hw
 obtain ⟨k2',rfl⟩ : ∃ k',kk2 = k' + 1 := ⟨kk2 - 1,by omega⟩
 conv => cbv
 refine drawn_sound tok (by kernel_rfl) [(4,[]),(14,[9,8,7,6]),(15,[])] [0,1,2,3,4,5,6,7,8,9,10,11,12,13,14,15,16,17] (by kernel_rfl) ?_; conv => cbv
 refine Need.mk (show 0 ≤ p ∧ p < kx by omega) ?_
 conv => cbv
 refine Cell.at p _ hOw (by simp [I.val]) rfl ?_
 conv => cbv
 refine callF_frame (rIsPtr_lx w) [] rfl trivial rfl rfl (fun r h' n' hrr => ?_)
 obtain ⟨b,e1,e2,e3,hb⟩ := hrr
 subst e1 e2 e3
 cases b with
 | false =>
  rw [if_neg (fun h => by have := hb.2 h; cases this),List.append_nil] at hpt
  conv => cbv
  refine Fit.mk (by show (-9223372036854775808 : Int) ≤ p + 1; omega) (by show p + 1 ≤ 9223372036854775807; omega) fun p2 hp2 => ?_
  have hp2 : p2 = p + 1 := hp2
  conv => cbv
  refine Again.mk k2' _ (Nat.lt_succ_self _) (Re.at [(0,0),(1,1),(2,2),(3,3),(4,4),(5,5),(6,6),(7,7),(8,8)] []) ⟨p2,rfl,by omega,by omega,by rw [show p2.toNat = p.toNat + 1 by omega,hpt]; exact hall,by omega⟩
 | true =>
 rw [if_pos (hb.1 rfl)] at hpt
 conv => cbv
 refine Need.mk (show 0 ≤ p ∧ p < kx by omega) ?_
 conv => cbv
 refine Cell.at p _ hOw (by simp [I.val]) rfl ?_
 conv => cbv
 refine callF_frame (rAt_lx w hwb) [] rfl trivial rfl rfl (fun r h' n' hrr => ?_)
 obtain ⟨y,e1,e2,e3,hy1,_⟩ := hrr
 subst e1 e2 e3
 have hy := hy1 (hb.1 rfl)
 rw [← hy] at hpt
 conv => cbv
 refine cfr (ris_lx R vs N y W P B V h.p h.b h.v h.n h.r h.a h.w) [(0,1),(1,2),(2,3),(3,4),(4,5)] (fun r h' n' hrr => ?_)
 obtain ⟨b2,e1,e2,e3,hb2⟩ := hrr
 subst e1 e2 e3
 cases b2 with
 | true =>
  have hyo : y ∈ objs R := (obj_iff h.a y).2 (hb2.1 rfl)
  conv => cbv
  refine Fit.mk (by show (-9223372036854775808 : Int) ≤ p + 1; omega) (by show p + 1 ≤ 9223372036854775807; omega) fun p2 hp2 => ?_
  have hp2 : p2 = p + 1 := hp2
  conv => cbv
  refine Again.mk k2' _ (Nat.lt_succ_self _) (Re.at [(0,0),(1,1),(2,2),(3,3),(4,4),(5,5),(6,6),(7,7),(8,8)] []) ⟨p2,rfl,by omega,by omega,by
   rw [show p2.toNat = p.toNat + 1 by omega,hpt]
   intro b hbm
   rcases List.mem_append.1 hbm with h1 | h1
   ·exact hall b h1
   ·rw [List.mem_singleton.1 h1]; exact hyo,by omega⟩
 | false =>
 have hin : Brk R vs a := ⟨_,w,hld,hb.1 rfl,fun ho => by
  rw [← hy] at ho
  have := hb2.2 ((obj_iff h.a y).1 ho); cases this⟩
 conv => cbv
 refine Need.mk (show 0 ≤ i ∧ i < j0 by omega) ?_
 conv => cbv
 refine Cell.at i _ hOa (by simp [I.val]) rfl ?_
 conv => cbv
 refine Room.new rfl ?_
 conv => cbv
 refine Room.new ⟨by show (T.length : Int) = j * 1; omega,by show (j + 1) * 8 ≤ 140737488355328; omega,by show j + 1 ≤ 9223372036854775807; omega⟩ ?_
 conv => cbv
 refine Upd.mk fun T2 hT2 => ?_
 have hT2 : T2 = ipv (Y ++ [a]) := by rw [show T2 = T ++ [.int .i64 (.sym a)] from hT2,← ipv_app,← hT]; rfl
 conv => cbv
 refine Sum.mk fun j2 hj2 => ?_
 have hj2 : j2 = (Y ++ [a]).length := by rw [show j2 = j + 1 from hj2,hj,List.length_append]; rfl
 conv => cbv
 refine Fit.mk (by show (-9223372036854775808 : Int) ≤ i + 1; omega) (by show i + 1 ≤ 9223372036854775807; omega) fun i2 hi2 => ?_
 have hi2 : i2 = i + 1 := hi2
 conv => cbv
 have hYm2 : ∀ x,x ∈ Y ++ [a] ↔ x ∈ X.take i2.toNat ∧ Brk R vs x := by
  intro x
  rw [List.mem_append,hYm,show i2.toNat = i.toNat + 1 by omega,htk,List.mem_append,List.mem_singleton]
  constructor
  ·rintro (⟨h1,h2⟩ | h1)
   ·exact ⟨.inl h1,h2⟩
   ·rw [h1]; exact ⟨.inr rfl,hin⟩
  ·rintro ⟨h1 | h1,h2⟩
   ·exact .inl ⟨h1,h2⟩
   ·exact .inr h1
 have hYa2 : (Y ++ [a]).Pairwise (· < ·) := List.pairwise_append.2 ⟨hYa,List.pairwise_singleton _ _,fun x hx y hy => by
  rw [List.mem_singleton.1 hy]
  exact take_asc hXa ha x ((hYm x).1 hx).1⟩
 have hY2l : ((Y ++ [a]).length : Int) ≤ i2 := by rw [List.length_append,hi2]; show ((Y.length + 1 : Nat) : Int) ≤ _; omega
 refine Again.mk k' _ (Nat.lt_succ_self _) (Re.at [(0,0),(1,1),(2,2),(3,3),(4,4),(5,5),(6,6),(7,7),(10,8)] []) ⟨i2,j2,Y ++ [a],T2,rfl,hT2,hj2,by omega,by omega,hY2l,hYa2,hYm2,by omega⟩
end Go.Proofs.YtjfdfbpgckilpaaGreatDoor
namespace Go.Proofs.YtjfdfbpgckilpaaGreatDoor
open Go Go.LX
set_option maxRecDepth 100000
set_option linter.unusedVariables false
set_option linter.unusedSimpArgs false
set_option maxHeartbeats 32000000
theorem gpv_cells (l : List Gn) : ∀ (i : Nat) (g : Gn),l[i]? = some g → (gpv l)[4 * i]? = some (.int .i64 (.sym g.1)) ∧ (gpv l)[4 * i + 1]? = some (.int .i64 (.sym g.2.1)) ∧ (gpv l)[4 * i + 2]? = some (.vsl (.sym (g.2.2.1.length : Int)) true (ipv g.2.2.1)) ∧ (gpv l)[4 * i + 3]? = some (.bool g.2.2.2) := by
 induction l with
 | nil => intro i g h; simp at h
 | cons x l ih =>
  intro i g h
  cases i with
  | zero => simp at h; subst h; exact ⟨rfl,rfl,rfl,rfl⟩
  | succ i =>
   have h2 := ih i g (by simpa using h)
   rw [show 4 * (i + 1) = (4 * i) + 4 by omega]
   exact h2
theorem rnewH_lx (N W : Int) (h2 : 2 ≤ N) (h8 : N ≤ 128) (hW : W = 32 * N) : CallF (fun _ => Tryz.prog) 69 [i6 N] [] 0 (fun r h n => ∃ P B V Q : List PV,r = .tup [.ptr 0 (.lit 0),.p (.int .i64 (.lit 0))] ∧ h = [hpR 0 1 6 3 W 7 0 0 0,hpB 1 2 5 3 W,hpD 2 3 3 1 N 4 254 8 N,hpP 3 P,hpP 4 B,hpP 5 V,hpP 6 Q,(7,.mix [.p (.vsl (.sym 0) true []),.p (.bool false)])] ∧ n = 8 ∧ RM (List.replicate N.toNat (0,[])) (List.replicate W.toNat 0) (List.replicate W.toNat 0) [] N W P B V Q [] 0) := by
 refine callF_of_body tok Tryz.func69 (by kernel_rfl) rfl rfl rfl ?_; conv => cbv
 refine callF_frame (rnewA_lx N W h2 h8 hW) [] rfl trivial rfl rfl (fun r h' n' hrr => ?_)
 obtain ⟨P,B,V,e1,e2,e3,hP,hB,hV⟩ := hrr
 subst e1 e2 e3
 conv => cbv
 refine Need.mk ⟨by show 0 ≤ W; omega,Int.le_refl _,by show W * 8 ≤ 140737488355328; omega,by show W ≤ 9223372036854775807; omega⟩ ?_
 conv => cbv
 obtain ⟨Q,hQ⟩ : ∃ Q,Q = ipv (List.replicate W.toNat 0) := ⟨_,rfl⟩
 refine Upd.mk fun Q0 hQ0 => ?_
 have hle : pvles Q0 Q := by
  have hQ0 : Q0 = repsP [.int .i64 (.lit 0)] W.toNat := hQ0
  rw [hQ0,hQ]; exact zero_ipv _
 unfold pvles at hle
 clear hQ0
 conv => cbv
 refine RetF.mk [.ptr 0 (.lit 0),.p (.int .i64 (.lit 0))] [hpR 0 1 6 3 W 7 0 0 0,hpB 1 2 5 3 W,hpD 2 3 3 1 N 4 254 8 N,hpP 3 P,hpP 4 B,hpP 5 V,hpP 6 Q,(7,.mix [.p (.vsl (.sym 0) true []),.p (.bool false)])] 8 (Re.at [(7,0),(0,1),(1,2),(2,3),(3,4),(4,5),(5,6),(6,7)] []) rfl ⟨P,B,V,Q,rfl,rfl,rfl,⟨by rw [show W.toNat = 32 * N.toNat by omega]; exact AOk.new _,by rw [List.length_replicate]; omega,by rw [List.length_replicate]; omega,hW,hP,hB,hV,hQ,by rw [List.length_replicate]; omega,rfl,rfl,fun x hx => (by cases hx),Nat.zero_le _⟩⟩
end Go.Proofs.YtjfdfbpgckilpaaGreatDoor
namespace Go.Proofs.YtjfdfbpgckilpaaGreatDoor
open Go Go.LX
set_option maxRecDepth 100000
set_option linter.unusedVariables false
set_option linter.unusedSimpArgs false
set_option maxHeartbeats 32000000
theorem rPtr_lx (a : Int) (ha : -1000000 ≤ a ∧ a ≤ 1000000) : CallF (fun _ => Tryz.prog) 15 [i6 a] [] 0 (fun r h n => ∃ x : Int,r = .p (.int .i64 (.sym x)) ∧ h = [] ∧ n = 0 ∧ x = a * 2 + 1) := by
 refine callF_of_body tok Tryz.func15 (by kernel_rfl) rfl rfl rfl ?_; conv => cbv
 refine Fit.mk (by show (-9223372036854775808 : Int) ≤ a * 2; omega) (by show a * 2 ≤ 9223372036854775807; omega) fun x hx => ?_
 have hx : x = a * 2 := hx
 conv => cbv
 refine Fit.mk (by show (-9223372036854775808 : Int) ≤ x + 1; omega) (by show x + 1 ≤ 9223372036854775807; omega) fun y hy => ?_
 have hy : y = x + 1 := hy
 conv => cbv
 refine RetF.mk [i6 y] [] 0 (Re.at [] []) rfl ⟨y,rfl,rfl,rfl,by omega⟩
theorem rInt_lx (a : Int) (ha : -1000000 ≤ a ∧ a ≤ 1000000) : CallF (fun _ => Tryz.prog) 16 [i6 a] [] 0 (fun r h n => ∃ x : Int,r = .p (.int .i64 (.sym x)) ∧ h = [] ∧ n = 0 ∧ x = a * 2) := by
 refine callF_of_body tok Tryz.func16 (by kernel_rfl) rfl rfl rfl ?_; conv => cbv
 refine Fit.mk (by show (-9223372036854775808 : Int) ≤ a * 2; omega) (by show a * 2 ≤ 9223372036854775807; omega) fun x hx => ?_
 have hx : x = a * 2 := hx
 conv => cbv
 refine RetF.mk [i6 x] [] 0 (Re.at [] []) rfl ⟨x,rfl,rfl,rfl,hx⟩
def sizeF (k : Int) : Int := if k = 1 then 9 else if k = 2 then 3 else if k = 3 then 7 else if k = 4 then 10 else 2
end Go.Proofs.YtjfdfbpgckilpaaGreatDoor
namespace Go.Proofs.YtjfdfbpgckilpaaGreatDoor
open Go Go.LX Go.RowKit Go.ChangeShapes Go.WideShapes
set_option maxHeartbeats 32000000
section
variable {H : Type} {enc : TypeId × Value → H} {P : Program} {W : World}
theorem open_sixes {t e : TypeId} {base : Nat} {v : Value} {d : DataW H} {ps : List MemPlace} (ht : P.underlying t = some (.slice e)) (hk : rowOK P e [.i .i64,.i .i64,.i .i64,.i .i64,.i .i64,.i .i64] = true)
  (hval : Value.okWide P W .any base t v) (h : DataW.Trod enc P W 0 (fun _ => true) true t v d ps) : ∃ A : List (Int × Int × Int × Int × Int × Int),Sl W W.heap.size 6 v A.length (A.flatMap fun e => [.int .i64 e.1,.int .i64 e.2.1,.int .i64 e.2.2.1,.int .i64 e.2.2.2.1,.int .i64 e.2.2.2.2.1,.int .i64 e.2.2.2.2.2]) ∧ ∀ e ∈ A,(Lit.int .i64 e.1).wf = true ∧ (Lit.int .i64 e.2.1).wf = true ∧ (Lit.int .i64 e.2.2.1).wf = true ∧ (Lit.int .i64 e.2.2.2.1).wf = true ∧ (Lit.int .i64 e.2.2.2.2.1).wf = true ∧ (Lit.int .i64 e.2.2.2.2.2).wf = true := by
 obtain ⟨n,xs,h1,h2⟩ := open_rows [.i .i64,.i .i64,.i .i64,.i .i64,.i .i64,.i .i64] ht hk (by decide) hval h
 have h3 : ∀ (j : Nat) (c : Value),xs[j]? = some c → ∃ z,c = .int .i64 z ∧ (Lit.int .i64 z).wf = true := by
  intro j c hj
  obtain ⟨k,h4,h5⟩ := h2 j c hj
  have : j % 6 < 6 := Nat.mod_lt _ (by omega)
  have h6 : ∀ r,r < 6 → ([.i .i64,.i .i64,.i .i64,.i .i64,.i .i64,.i .i64] : List CK)[r]? = some (.i .i64) := by
   intro r hr
   rcases r with _ | _ | _ | _ | _ | _ | r
   ·rfl
   ·rfl
   ·rfl
   ·rfl
   ·rfl
   ·rfl
   ·omega
  have h4 : ([.i .i64,.i .i64,.i .i64,.i .i64,.i .i64,.i .i64] : List CK)[j % 6]? = some k := h4
  rw [h6 _ this] at h4; cases h4; exact h5
 have chunk : ∀ (n : Nat) (xs : List Value),xs.length = n * 6 → (∀ (j : Nat) (c : Value),xs[j]? = some c → ∃ z,c = .int .i64 z ∧ (Lit.int .i64 z).wf = true) → ∃ A : List (Int × Int × Int × Int × Int × Int),A.length = n ∧ xs = (A.flatMap fun e => [.int .i64 e.1,.int .i64 e.2.1,.int .i64 e.2.2.1,.int .i64 e.2.2.2.1,.int .i64 e.2.2.2.2.1,.int .i64 e.2.2.2.2.2]) ∧ ∀ e ∈ A,(Lit.int .i64 e.1).wf = true ∧ (Lit.int .i64 e.2.1).wf = true ∧ (Lit.int .i64 e.2.2.1).wf = true ∧ (Lit.int .i64 e.2.2.2.1).wf = true ∧ (Lit.int .i64 e.2.2.2.2.1).wf = true ∧ (Lit.int .i64 e.2.2.2.2.2).wf = true := by
  intro n
  induction n with
  | zero => intro xs hl _; exact ⟨[],rfl,by simpa using hl,by simp⟩
  | succ n ih =>
   intro xs hl hx
   match xs,hl,hx with
   | x :: y :: z :: u :: s :: t :: xs,hl,hx =>
    obtain ⟨a,rfl,ha⟩ := hx 0 x rfl
    obtain ⟨b,rfl,hb⟩ := hx 1 y rfl
    obtain ⟨c,rfl,hc⟩ := hx 2 z rfl
    obtain ⟨d,rfl,hd⟩ := hx 3 u rfl
    obtain ⟨f,rfl,hf⟩ := hx 4 s rfl
    obtain ⟨g,rfl,hg⟩ := hx 5 t rfl
    obtain ⟨A,g1,g2,g3⟩ := ih xs (by simp at hl; omega) (fun j c hj => hx (j + 6) c (by simpa using hj))
    refine ⟨(a,b,c,d,f,g) :: A,by simp [g1],by rw [g2]; simp,fun e he => ?_⟩
    rcases List.mem_cons.1 he with rfl | he
    ·exact ⟨ha,hb,hc,hd,hf,hg⟩
    ·exact g3 e he
   | [],hl,_ => simp at hl
   | [_],hl,_ => simp at hl; omega
   | [_,_],hl,_ => simp at hl; omega
   | [_,_,_],hl,_ => simp at hl; omega
   | [_,_,_,_],hl,_ => simp at hl; omega
   | [_,_,_,_,_],hl,_ => simp at hl; omega
 obtain ⟨A,g1,g2,g3⟩ := chunk n xs h1.len h3
 exact ⟨A,by rw [g1,← g2]; exact h1,g3⟩
def sixes : List (Int × Int × Int × Int × Int × Int) → List PV
 | [] => []
 | (x,y,z,u,s,t) :: l => .int .i64 (.sym x) :: .int .i64 (.sym y) :: .int .i64 (.sym z) :: .int .i64 (.sym u) :: .int .i64 (.sym s) :: .int .i64 (.sym t) :: sixes l
theorem sixes_length : ∀ l,(sixes l).length = 6 * l.length
 | [] => rfl
 | (x,y,z,u,s,t) :: l => by simp [sixes,sixes_length l]; omega
theorem sixes_get : ∀ (l : List (Int × Int × Int × Int × Int × Int)) (i : Nat) (e : Int × Int × Int × Int × Int × Int),l[i]? = some e → (sixes l)[6 * i]? = some (.int .i64 (.sym e.1)) ∧ (sixes l)[6 * i + 1]? = some (.int .i64 (.sym e.2.1)) ∧ (sixes l)[6 * i + 2]? = some (.int .i64 (.sym e.2.2.1)) ∧ (sixes l)[6 * i + 3]? = some (.int .i64 (.sym e.2.2.2.1)) ∧ (sixes l)[6 * i + 4]? = some (.int .i64 (.sym e.2.2.2.2.1)) ∧ (sixes l)[6 * i + 5]? = some (.int .i64 (.sym e.2.2.2.2.2))
 | [],i,e,h => by simp at h
 | (x,y,z,u,s,t) :: l,0,e,h => by simp at h; subst h; exact ⟨rfl,rfl,rfl,rfl,rfl,rfl⟩
 | (x,y,z,u,s,t) :: l,i + 1,e,h => by
  obtain ⟨h1,h2,h3,h4,h5,h6⟩ := sixes_get l i e (by simpa using h)
  rw [show 6 * (i + 1) = 6 * i + 6 by omega]
  exact ⟨by simpa [sixes] using h1,by simpa [sixes] using h2,by simpa [sixes] using h3,by simpa [sixes] using h4,by simpa [sixes] using h5,by simpa [sixes] using h6⟩
theorem sixes_rel {w : World} {M : Nat → Prop} : ∀ (A : List (Int × Int × Int × Int × Int × Int)) (j : Nat) (u : LX.PV),(sixes A)[j]? = some u → ∃ x,(A.flatMap fun e => [Value.int .i64 e.1,.int .i64 e.2.1,.int .i64 e.2.2.1,.int .i64 e.2.2.2.1,.int .i64 e.2.2.2.2.1,.int .i64 e.2.2.2.2.2])[j]? = some x ∧ LX.PR M w u x
 | [],j,u,h => by simp [sixes] at h
 | (a,b,c,d,f,g) :: A,j,u,h => by
  rw [sixes] at h
  rw [List.flatMap_cons]
  rcases j with _ | _ | _ | _ | _ | _ | j
  ·simp at h; subst h; exact ⟨.int .i64 a,rfl,.int _ _ _ rfl⟩
  ·simp at h; subst h; exact ⟨.int .i64 b,rfl,.int _ _ _ rfl⟩
  ·simp at h; subst h; exact ⟨.int .i64 c,rfl,.int _ _ _ rfl⟩
  ·simp at h; subst h; exact ⟨.int .i64 d,rfl,.int _ _ _ rfl⟩
  ·simp at h; subst h; exact ⟨.int .i64 f,rfl,.int _ _ _ rfl⟩
  ·simp at h; subst h; exact ⟨.int .i64 g,rfl,.int _ _ _ rfl⟩
  ·obtain ⟨x,h1,h2⟩ := sixes_rel A j u (by simpa using h)
   exact ⟨x,by simpa using h1,h2⟩
end
end Go.Proofs.YtjfdfbpgckilpaaGreatDoor
namespace Go.Proofs.YtjfdfbpgckilpaaGreatDoor
open Go Go.LX
set_option maxRecDepth 100000
set_option linter.unusedVariables false
set_option linter.unusedSimpArgs false
set_option maxHeartbeats 32000000
theorem Sim.new (n : Nat) : Sim (List.replicate n (0,[])) (List.replicate (32 * n) 0) (List.replicate (32 * n) 0) :=
 ⟨AOk.new n,AOk.new n,fun _ _ _ h => absurd h.obj6 (new_none n _),fun _ _ _ _ h => absurd h.obj6 (new_none n _)⟩
theorem plainI_true (A : List Int) (m : Int) (la lb : List PV) (hm : m = A.length) (ha : la = ipv A) (hb : lb = ipv A) (hA : (A.length : Int) < 1000000) :
  CallF (fun _ => Tryz.prog) 35 [.p (.vsl (.sym m) true la),.p (.vsl (.sym m) true lb)] [] 0 (fun r h n => r = .p (.bool true) ∧ h = [] ∧ n = 0) :=
 (plaini64_lx A A m m la lb hm hm (by rw [ha]; exact preI_ints A) (by rw [hb]; exact preI_ints A) hA).mono fun r h n ⟨⟨b,e1,h1⟩,e2,e3⟩ => ⟨by rw [e1,h1.2 rfl],e2,e3⟩
end Go.Proofs.YtjfdfbpgckilpaaGreatDoor
namespace Go.Proofs.YtjfdfbpgckilpaaGreatDoor
open Go Go.LX
set_option maxRecDepth 100000
set_option linter.unusedVariables false
set_option linter.unusedSimpArgs false
set_option maxHeartbeats 32000000
def pkB (R : List Rw) (x : Int) : Int := match (objs R)[(IntKind.u64.wrap x % (objs R).length).toNat]? with
 | some a => a
 | none => -1
def szB (k : Int) : Int := if k = 1 then 9 else if k = 2 then 3 else if k = 3 then 7 else if k = 4 then 10 else 2
abbrev Op6 := Int × Int × Int × Int × Int × Int
inductive Bstep (R : List Rw) (ws : List Int) : Op6 → List Rw → List Int → Prop
 | st (oo oa oi ow ot e : Int) (ws' : List Int) (h : Stored R ws (pkB R oa) oi ow e ws') : Bstep R ws (1,oo,oa,oi,ow,ot) R ws'
 | pt (oo oa oi ow ot e : Int) (ws' : List Int) (h : Stored R ws (pkB R oa) (IntKind.u64.wrap oi % 10) (pkB R ot * 2 + 1) e ws') : Bstep R ws (2,oo,oa,oi,ow,ot) R ws'
 | fr (oo oa oi ow ot e : Int) (R' : List Rw) (h : Freet R (pkB R oa) e R') : Bstep R ws (3,oo,oa,oi,ow,ot) R' ws
 | al (kd oo oa oi ow ot a e : Int) (R' : List Rw) (ws' : List Int) (hk : kd ≠ 1 ∧ kd ≠ 2 ∧ kd ≠ 3) (h : Alloct R ws (1 + IntKind.u64.wrap oo % 6) (szB (1 + IntKind.u64.wrap oo % 6)) a e R' ws') : Bstep R ws (kd,oo,oa,oi,ow,ot) R' ws'
theorem SimG.new (n : Nat) : Sim (List.replicate n (0,[])) (List.replicate (32 * n) 0) (List.replicate (32 * n) 0) :=
 ⟨AOk.new n,AOk.new n,fun _ _ _ h => absurd h.obj6 (new_none n _),fun _ _ _ _ h => absurd h.obj6 (new_none n _)⟩
theorem three_eqG {a a' b b' : List Int} {c c' : Bool} {x : List Int × List Int × Bool} (h : (a,b,c) = x) (h' : (a',b',c') = x) : a = a' ∧ b = b' ∧ c = c' := by
 rw [← h'] at h
 cases h
 exact ⟨rfl,rfl,rfl⟩
theorem built_lx (o : Unit → Obj) (ho : IsPow o) (k1 : Int) (ops : List (Int × Int × Int × Int × Int × Int)) (L1 : List PV) (hk1 : k1 = ops.length) (hL1 : L1 = sixes ops) (hkb : k1 ≤ 9223372036854775807) (hob : ∀ o ∈ ops,(-9223372036854775808 ≤ o.1 ∧ o.1 ≤ 9223372036854775807) ∧ (-9223372036854775808 ≤ o.2.1 ∧ o.2.1 ≤ 9223372036854775807) ∧ (-9223372036854775808 ≤ o.2.2.1 ∧ o.2.2.1 ≤ 9223372036854775807) ∧ (-9223372036854775808 ≤ o.2.2.2.1 ∧ o.2.2.2.1 ≤ 9223372036854775807) ∧ (-9223372036854775808 ≤ o.2.2.2.2.1 ∧ o.2.2.2.2.1 ≤ 9223372036854775807) ∧ (-9223372036854775808 ≤ o.2.2.2.2.2 ∧ o.2.2.2.2.2 ≤ 9223372036854775807)) (Inv : Nat → List Rw → List Int → Prop) (hI0 : Inv 0 (List.replicate 6 (0,[])) (List.replicate 192 0)) (hIs : ∀ (i : Nat) (op : Op6) (R : List Rw) (ws : List Int) (R' : List Rw) (ws' : List Int),ops[i]? = some op → AOk R ws → R.length = 6 → Inv i R ws → Bstep R ws op R' ws' → Inv (i + 1) R' ws') : CallF (fun _ => Tryz.prog) 44 [.p (.vsl (.sym k1) true L1)] [(0,.fix 0 o)] 1 (fun r h n => ∃ (N W m : Int) (R : List Rw) (ws vs C G : List Int) (L D Q : List PV) (z : ByteArray) (ov : Bool) (P B V Qr la : List PV),r = .tup [.ptr 1 (.lit 0),.ptr 8 (.lit 0)] ∧ h = [hpA 1 2 6 7 3 W 0 0 0,hpB 2 3 5 3 W,hpC 3 4 179 2 N,hpP 4 L,hpP 5 D,hpF 6 z ov,hpP 7 Q,hpR 8 9 14 3 W 15 0 0 0,hpB 9 10 13 3 W,hpD 10 11 3 1 N 12 254 8 N,hpP 11 P,hpP 12 B,hpP 13 V,hpP 14 Qr,(15,.mix [.p (.vsl (.sym m) true la),.p (.bool ov)]),(0,.fix 0 o)] ∧ n = 16 ∧ N = 6 ∧ W = 192 ∧ HM R ws C G N W L D Q z ∧ RM R vs C G N W P B V Qr la m ∧ Sim R ws vs ∧ Inv (min ops.length 60) R ws) := by
 have hL1l : L1.length = 6 * ops.length := by rw [hL1,sixes_length]
 refine callF_of_bodyB tok Tryz.func44 (by kernel_rfl) rfl rfl rfl [11] ?_; conv => cbv
 obtain ⟨z0,hz0⟩ : ∃ z0 : ByteArray,z0 = ⟨(enc []).toArray⟩ := ⟨_,rfl⟩
 obtain ⟨N,hN⟩ : ∃ N : Int,N = 6 := ⟨_,rfl⟩
 obtain ⟨W,hW⟩ : ∃ W : Int,W = 32 * N := ⟨_,rfl⟩
 obtain ⟨L0,hL0⟩ : ∃ L0,L0 = rpv (List.replicate N.toNat ((0,[]) : Rw)) := ⟨_,rfl⟩
 obtain ⟨D0,hD0⟩ : ∃ D0,D0 = ipv (List.replicate W.toNat (0 : Int)) := ⟨_,rfl⟩
 have hM0 := HM.new (by omega : 2 ≤ N) (by omega) hW hL0 hD0 hD0 hz0
 refine CallF.le (args0 := [i6 N]) (callF_frame (newH_lx N W (by omega) (by omega) hW L0 D0 D0 z0 hL0 hD0 hD0 hz0) [] rfl trivial rfl rfl (fun r h' n' ⟨e1,e2,e3⟩ => ?_)) (by simp [ales,ale,pvle,I.val,hN])
 subst e1 e2 e3
 conv => cbv
 refine CallF.le (args0 := [i6 N]) (callF_frame (rnewH_lx N W (by omega) (by omega) hW) [] rfl trivial rfl rfl (fun r h' n' hrr => ?_)) (by simp [ales,ale,pvle,I.val,hN])
 obtain ⟨P0,B0,V0,Q0,e1,e2,e3,hR0⟩ := hrr
 subst e1 e2 e3
 conv => cbv
 refine cfr (arena_lx (List.replicate N.toNat ((0,[]) : Rw)) (List.replicate W.toNat 0) (List.replicate W.toNat 0) [] N W 0 0 0 L0 D0 D0 z0 false) [(0,1),(1,2),(2,3),(3,4),(4,5),(5,6),(6,7)] (fun r h' n' ⟨e1,e2,e3⟩ => ?_)
 subst e1 e2 e3
 conv => cbv
 have hI00 : Inv (0 : Int).toNat (List.replicate N.toNat ((0,[]) : Rw)) (List.replicate W.toNat 0) := by rw [show N.toNat = 6 by omega,show W.toNat = 192 by omega]; exact hI0
 have hS0 : Sim (List.replicate N.toNat ((0,[]) : Rw)) (List.replicate W.toNat 0) (List.replicate W.toNat 0) := by rw [show W.toNat = 32 * N.toNat by omega]; exact SimG.new _
 refine LoopF.mk (fun kk s => ∃ (i : Int) (m : Int) (R : List Rw) (ws vs C G : List Int) (L D Q : List PV) (z : ByteArray) (ov : Bool) (P B V Qr la : List PV),s = ⟨.p (.vsl (.sym k1) true L1) :: (undefs 3 ++ .ptr 1 (.lit 0) :: .undef :: .ptr 8 (.lit 0) :: .undef :: .p (.int .i64 (.sym i)) :: undefs 139),[hpA 1 2 6 7 3 W 0 0 0,hpB 2 3 5 3 W,hpC 3 4 179 2 N,hpP 4 L,hpP 5 D,hpF 6 z ov,hpP 7 Q,hpR 8 9 14 3 W 15 0 0 0,hpB 9 10 13 3 W,hpD 10 11 3 1 N 12 254 8 N,hpP 11 P,hpP 12 B,hpP 13 V,hpP 14 Qr,(15,.mix [.p (.vsl (.sym m) true la),.p (.bool ov)]),(0,.fix 0 o)],16⟩ ∧ HM R ws C G N W L D Q z ∧ RM R vs C G N W P B V Qr la m ∧ Sim R ws vs ∧ Inv i.toNat R ws ∧ i ≤ k1 ∧ 0 ≤ i ∧ i ≤ 60 ∧ kk = (60 - i).toNat) 60 _
  (Re.at [(0,0),(1,1),(2,2),(3,3),(4,4),(5,5),(6,6),(7,7),(8,8),(9,9),(10,10),(11,11),(12,12),(13,13),(14,14),(15,15)] []) ⟨0,0,_,_,_,_,[],L0,D0,D0,z0,false,P0,B0,V0,Q0,[],rfl,hM0,hR0,hS0,hI00,by omega,by omega,by omega,by omega⟩ ?_
 clear hM0 hR0 hS0 hL0 hD0 hz0 hI00
 rintro kk s ⟨i,m,R,ws,vs,C,G,L,D,Q,z,ov,P,B,V,Qr,la,rfl,h,hr,hS,hI,hik,hi0,hi1,hkk⟩
 have hNR := h.n; have hRr := h.r
 have hR6 : R.length = 6 := by omega
 conv => cbv
 refine Br.mk (fun gi => ?_) (fun gi => ?_)
 case refine_2 =>
  have gi : ¬ i < k1 := gi
  rw [show i.toNat = min ops.length 60 by omega] at hI
  conv => cbv
  refine RetF.mk [.ptr 1 (.lit 0),.ptr 8 (.lit 0)] [hpA 1 2 6 7 3 W 0 0 0,hpB 2 3 5 3 W,hpC 3 4 179 2 N,hpP 4 L,hpP 5 D,hpF 6 z ov,hpP 7 Q,hpR 8 9 14 3 W 15 0 0 0,hpB 9 10 13 3 W,hpD 10 11 3 1 N 12 254 8 N,hpP 11 P,hpP 12 B,hpP 13 V,hpP 14 Qr,(15,.mix [.p (.vsl (.sym m) true la),.p (.bool ov)]),(0,.fix 0 o)] 16 (Re.at [(0,0),(1,1),(2,2),(3,3),(4,4),(5,5),(6,6),(7,7),(8,8),(9,9),(10,10),(11,11),(12,12),(13,13),(14,14),(15,15)] []) rfl ⟨N,W,m,R,ws,vs,C,G,L,D,Q,z,ov,P,B,V,Qr,la,rfl,rfl,rfl,hN,by omega,h,hr,hS,hI⟩
 have gi : i < k1 := gi
 conv => cbv
 refine Br.mk (fun gi2 => ?_) (fun gi2 => ?_)
 case refine_2 =>
  have gi2 : ¬ i < 60 := gi2
  rw [show i.toNat = min ops.length 60 by omega] at hI
  conv => cbv
  refine RetF.mk [.ptr 1 (.lit 0),.ptr 8 (.lit 0)] [hpA 1 2 6 7 3 W 0 0 0,hpB 2 3 5 3 W,hpC 3 4 179 2 N,hpP 4 L,hpP 5 D,hpF 6 z ov,hpP 7 Q,hpR 8 9 14 3 W 15 0 0 0,hpB 9 10 13 3 W,hpD 10 11 3 1 N 12 254 8 N,hpP 11 P,hpP 12 B,hpP 13 V,hpP 14 Qr,(15,.mix [.p (.vsl (.sym m) true la),.p (.bool ov)]),(0,.fix 0 o)] 16 (Re.at [(0,0),(1,1),(2,2),(3,3),(4,4),(5,5),(6,6),(7,7),(8,8),(9,9),(10,10),(11,11),(12,12),(13,13),(14,14),(15,15)] []) rfl ⟨N,W,m,R,ws,vs,C,G,L,D,Q,z,ov,P,B,V,Qr,la,rfl,rfl,rfl,hN,by omega,h,hr,hS,hI⟩
 have gi2 : i < 60 := gi2
 obtain ⟨k',rfl⟩ : ∃ k',kk = k' + 1 := ⟨kk - 1,by omega⟩
 obtain ⟨⟨kd,oo,oa,oi,ow,ot⟩,ho6⟩ : ∃ o,ops[i.toNat]? = some o := ⟨_,List.getElem?_eq_getElem (by omega)⟩
 have hb6 := hob _ (List.mem_of_getElem? ho6)
 obtain ⟨c0,c1,c2,c3,c4,c5⟩ := sixes_get ops i.toNat _ ho6
 rw [← hL1] at c0 c1 c2 c3 c4 c5
 dsimp only at c0 c1 c2 c3 c4 c5 hb6
 conv => cbv
 refine Need.mk ⟨hi0,by show i < k1; omega⟩ ?_
 conv => cbv
 refine Sum.mk fun w hw => ?_
 have hw : w = i * 6 := hw
 conv => cbv
 refine Cell.at (w + 0) _ c0 rfl (by omega) ?_
 conv => cbv
 refine Cell.at (w + 1) _ c1 rfl (by omega) ?_
 conv => cbv
 refine Cell.at (w + 2) _ c2 rfl (by omega) ?_
 conv => cbv
 refine Cell.at (w + 3) _ c3 rfl (by omega) ?_
 conv => cbv
 refine Cell.at (w + 4) _ c4 rfl (by omega) ?_
 conv => cbv
 refine Cell.at (w + 5) _ c5 rfl (by omega) ?_
 conv => cbv
 obtain ⟨mo,hm⟩ : ∃ m : Int,m = objCount R := ⟨_,rfl⟩
 refine cfr (robjects_lx mo R vs N W P B V hr.p hr.b hr.v hr.n hr.r hr.a hr.w hm) [(0,9),(1,10),(2,11),(3,12),(4,13)] (fun r h' n' hrr => ?_)
 obtain ⟨E,e1,e2,e3,hE⟩ := hrr
 subst e1 e2 e3
 have hml : mo = (objs R).length := by rw [hm]; unfold objs; rw [objs_length hr.a.rows]
 have hEl : E.length = (objs R).length := by rw [hE,ipv_length]; rfl
 have hob8 : (objs R).length ≤ 8 * R.length := objsTo_le R R.length
 conv => cbv
 refine JoinF.mk (fun s => ∃ at_ to_ : Int,s = ⟨.p (.vsl (.sym k1) true L1) :: (undefs 3 ++ .ptr 1 (.lit 0) :: .undef :: .ptr 8 (.lit 0) :: .undef :: .p (.int .i64 (.sym i)) :: .ptr 16 (.lit 0) :: .undef :: .p (.int .i64 (.sym at_)) :: .p (.int .i64 (.sym to_)) :: undefs 135),[hpA 1 2 6 7 3 W 0 0 0,hpB 2 3 5 3 W,hpC 3 4 179 2 N,hpP 4 L,hpP 5 D,hpF 6 z ov,hpP 7 Q,hpR 8 9 14 3 W 15 0 0 0,hpB 9 10 13 3 W,hpD 10 11 3 1 N 12 254 8 N,hpP 11 P,hpP 12 B,hpP 13 V,hpP 14 Qr,(15,.mix [.p (.vsl (.sym m) true la),.p (.bool ov)]),(0,.fix 0 o),(16,.pure false [.int .i64 (.sym kd),.int .i64 (.sym oo),.int .i64 (.sym oa),.int .i64 (.sym oi),.int .i64 (.sym ow),.int .i64 (.sym ot)])],17⟩ ∧ (-1 ≤ at_ ∧ at_ ≤ 1000) ∧ (-1 ≤ to_ ∧ to_ ≤ 1000) ∧ at_ = pkB R oa ∧ to_ = pkB R ot) ?_ ?_
 ·conv => cbv
  refine Br.mk (fun g => ?_) (fun g => ?_)
  case refine_2 =>
   have g : ¬ 0 < mo := g
   have hz : objs R = [] := List.eq_nil_of_length_eq_zero (by omega)
   have hpk : ∀ x,-1 = pkB R x := fun x => by unfold pkB; rw [hz]; rfl
   conv => cbv
   refine Joined.mk _ (Re.at [(0,0),(1,1),(2,2),(3,3),(4,4),(5,5),(6,6),(7,7),(8,8),(9,9),(10,10),(11,11),(12,12),(13,13),(14,14),(15,15),(16,16)] []) ⟨-1,-1,rfl,⟨by omega,by omega⟩,⟨by omega,by omega⟩,hpk oa,hpk ot⟩
  have g : 0 < mo := g
  conv => cbv
  refine drawn_sound tok (by kernel_rfl) [] [0,1,2,3,4,5,6,7,8,9,10,11,12,13,14,15,16,17,18,19,20,21,22,23] (by kernel_rfl) ?_; conv => cbv
  refine Fit.wrap fun x7 hx7 => ?_
  have hx7 : x7 = IntKind.u64.wrap oa := hx7
  have hy7 : 0 ≤ x7 := by rw [hx7]; simp [IntKind.wrap,IntKind.bits,IntKind.signed]; omega
  conv => cbv
  refine Fit.mk (by show (0 : Int) ≤ mo; omega) (by show mo ≤ 18446744073709551615; omega) fun m7 hm7 => ?_
  have hm7 : m7 = mo := hm7
  conv => cbv
  refine Need.mk (show ¬ m7 = 0 by omega) ?_
  conv => cbv
  refine Sum.mk fun t7 ht7 => ?_
  have ht7 : t7 = x7 % m7 := (show t7 = x7.tmod m7 from ht7).trans (Int.tmod_eq_emod_of_nonneg hy7)
  have hta7 : 0 ≤ t7 := by rw [ht7]; exact Int.emod_nonneg _ (by omega)
  have htb7 : t7 < m7 := by rw [ht7]; exact Int.emod_lt_of_pos _ (by omega)
  conv => cbv
  refine Fit.mk (by show (-9223372036854775808 : Int) ≤ t7; omega) (by show t7 ≤ 9223372036854775807; omega) fun u7 hu7 => ?_
  have hu7 : u7 = t7 := hu7
  obtain ⟨a7,ha7⟩ : ∃ a,(objs R)[u7.toNat]? = some a := ⟨_,List.getElem?_eq_getElem (by omega)⟩
  have hE7 : E[u7.toNat]? = some (.int .i64 (.sym a7)) := by rw [hE]; exact ipv_get ha7
  have hpk7 : a7 = pkB R oa := by
   unfold pkB
   rw [← hml,← hx7,← hm7,← ht7,← hu7,ha7]
  have hb7 := obj_bd h.a (List.mem_of_getElem? ha7)
  conv => cbv
  refine Need.mk (show 0 ≤ u7 ∧ u7 < mo by omega) ?_
  conv => cbv
  refine Cell.at (u7 + 0) _ hE7 rfl (by omega) ?_
  conv => cbv
  refine Fit.wrap fun x8 hx8 => ?_
  have hx8 : x8 = IntKind.u64.wrap ot := hx8
  have hy8 : 0 ≤ x8 := by rw [hx8]; simp [IntKind.wrap,IntKind.bits,IntKind.signed]; omega
  conv => cbv
  refine Fit.mk (by show (0 : Int) ≤ mo; omega) (by show mo ≤ 18446744073709551615; omega) fun m8 hm8 => ?_
  have hm8 : m8 = mo := hm8
  conv => cbv
  refine Need.mk (show ¬ m8 = 0 by omega) ?_
  conv => cbv
  refine Sum.mk fun t8 ht8 => ?_
  have ht8 : t8 = x8 % m8 := (show t8 = x8.tmod m8 from ht8).trans (Int.tmod_eq_emod_of_nonneg hy8)
  have hta8 : 0 ≤ t8 := by rw [ht8]; exact Int.emod_nonneg _ (by omega)
  have htb8 : t8 < m8 := by rw [ht8]; exact Int.emod_lt_of_pos _ (by omega)
  conv => cbv
  refine Fit.mk (by show (-9223372036854775808 : Int) ≤ t8; omega) (by show t8 ≤ 9223372036854775807; omega) fun u8 hu8 => ?_
  have hu8 : u8 = t8 := hu8
  obtain ⟨a8,ha8⟩ : ∃ a,(objs R)[u8.toNat]? = some a := ⟨_,List.getElem?_eq_getElem (by omega)⟩
  have hE8 : E[u8.toNat]? = some (.int .i64 (.sym a8)) := by rw [hE]; exact ipv_get ha8
  have hpk8 : a8 = pkB R ot := by
   unfold pkB
   rw [← hml,← hx8,← hm8,← ht8,← hu8,ha8]
  have hb8 := obj_bd h.a (List.mem_of_getElem? ha8)
  conv => cbv
  refine Need.mk (show 0 ≤ u8 ∧ u8 < mo by omega) ?_
  conv => cbv
  refine Cell.at (u8 + 0) _ hE8 rfl (by omega) ?_
  conv => cbv
  refine Joined.mk _ (Re.at [(0,0),(1,1),(2,2),(3,3),(4,4),(5,5),(6,6),(7,7),(8,8),(9,9),(10,10),(11,11),(12,12),(13,13),(14,14),(15,15),(16,16)] []) ⟨a7,a8,rfl,⟨by omega,by omega⟩,⟨by omega,by omega⟩,hpk7,hpk8⟩
 clear hE hEl hml hm
 rintro s ⟨at_,to_,rfl,hat,hto,hatp,htop⟩
 conv => cbv
 refine Br.mk (fun q1 => ?_) (fun q1 => ?_)
 ·have ek : kd = 1 := q1
  conv => cbv
  refine cfr (store9_lx R ws C G N W 0 0 0 L D Q z ov h o ho at_ oi ow hb6.2.2.2.2.1) [(0,1),(1,2),(2,3),(3,4),(4,5),(5,6),(6,7),(7,0)] (fun r h' n' hrr => ?_)
  obtain ⟨e,ws',C1,G1,ov1,D',Q',z',e1,e2,e3,h2,hT,hC⟩ := hrr
  subst e1 e2 e3
  conv => cbv
  refine cfr (rstore9_lx R vs C G N W 0 0 0 P B V Qr la m ov hr at_ oi ow hb6.2.2.2.2.1) [(0,8),(1,9),(2,10),(3,11),(4,12),(5,13),(6,14),(7,15)] (fun r h' n' hrr => ?_)
  obtain ⟨e',vs',C2,G2,ov2,V',Qr',la',m',e1,e2,e3,h3,hT2,hC2⟩ := hrr
  subst e1 e2 e3
  conv => cbv
  have hss := hS.store hb6.2.2.2.2.1 hT hT2
  have h3e := three_eqG hC (hss.1 ▸ hC2)
  obtain ⟨q1,q2,q3⟩ := h3e
  subst q1 q2 q3
  refine Fit.mk (by show (-9223372036854775808 : Int) ≤ i + 1; omega) (by show i + 1 ≤ 9223372036854775807; omega) fun i2 hi2 => ?_
  have hi2 : i2 = i + 1 := hi2
  conv => cbv
  refine Again.mk k' _ (Nat.lt_succ_self _) (Re.at [(0,0),(1,1),(2,2),(3,3),(4,4),(5,5),(6,6),(7,7),(8,8),(9,9),(10,10),(11,11),(12,12),(13,13),(14,14),(15,15)] []) ⟨i2,m',R,ws',vs',C1,G1,L,D',Q',z',ov1,P,B,V',Qr',la',rfl,h2,h3,hss.2,(by rw [show i2.toNat = i.toNat + 1 by omega]; exact hIs _ _ _ _ _ _ ho6 h.a hR6 hI (by rw [ek]; exact .st _ _ _ _ _ _ _ (by rw [← hatp]; exact hT))),by omega,by omega,by omega,by omega⟩
 have ek1 : ¬ kd = 1 := q1
 conv => cbv
 refine Br.mk (fun q2 => ?_) (fun q2 => ?_)
 ·have ek : kd = 2 := q2
  conv => cbv
  refine Fit.wrap fun xa hxa => ?_
  have hxa : xa = IntKind.u64.wrap oi := hxa
  have hxa0 : 0 ≤ xa := by rw [hxa]; simp [IntKind.wrap,IntKind.bits,IntKind.signed]; omega
  conv => cbv
  refine Sum.mk fun ya hya => ?_
  have hya : ya = xa % 10 := (show ya = xa.tmod 10 from hya).trans (Int.tmod_eq_emod_of_nonneg hxa0)
  conv => cbv
  refine Fit.mk (by show (-9223372036854775808 : Int) ≤ ya; omega) (by show ya ≤ 9223372036854775807; omega) fun ix hix => ?_
  have hix : ix = ya := hix
  have hix0 : 0 ≤ ix := by omega
  have hix1 : ix < 10 := by omega
  have hixw : ix = IntKind.u64.wrap oi % 10 := by rw [hix,hya,hxa]
  clear hix hya hxa0 hxa
  conv => cbv
  refine callF_frame (rPtr_lx to_ ⟨by omega,by omega⟩) [] rfl trivial rfl rfl (fun r h' n' hrr => ?_)
  obtain ⟨v,e1,e2,e3,hv⟩ := hrr
  subst e1 e2 e3
  have hvb : -9223372036854775808 ≤ v ∧ v ≤ 9223372036854775807 := ⟨by omega,by omega⟩
  conv => cbv
  refine cfr (store9_lx R ws C G N W 0 0 0 L D Q z ov h o ho at_ ix v hvb) [(0,1),(1,2),(2,3),(3,4),(4,5),(5,6),(6,7),(7,0)] (fun r h' n' hrr => ?_)
  obtain ⟨e,ws',C1,G1,ov1,D',Q',z',e1,e2,e3,h2,hT,hC⟩ := hrr
  subst e1 e2 e3
  conv => cbv
  refine callF_frame (rPtr_lx to_ ⟨by omega,by omega⟩) [] rfl trivial rfl rfl (fun r h' n' hrr => ?_)
  obtain ⟨v2,e1,e2,e3,hv2⟩ := hrr
  subst e1 e2 e3
  obtain rfl : v = v2 := hv.trans hv2.symm
  conv => cbv
  refine cfr (rstore9_lx R vs C G N W 0 0 0 P B V Qr la m ov hr at_ ix v hvb) [(0,8),(1,9),(2,10),(3,11),(4,12),(5,13),(6,14),(7,15)] (fun r h' n' hrr => ?_)
  obtain ⟨e',vs',C2,G2,ov2,V',Qr',la',m',e1,e2,e3,h3,hT2,hC2⟩ := hrr
  subst e1 e2 e3
  conv => cbv
  have hss := hS.store hvb hT hT2
  have h3e := three_eqG hC (hss.1 ▸ hC2)
  obtain ⟨q1,q2,q3⟩ := h3e
  subst q1 q2 q3
  refine Fit.mk (by show (-9223372036854775808 : Int) ≤ i + 1; omega) (by show i + 1 ≤ 9223372036854775807; omega) fun i2 hi2 => ?_
  have hi2 : i2 = i + 1 := hi2
  conv => cbv
  refine Again.mk k' _ (Nat.lt_succ_self _) (Re.at [(0,0),(1,1),(2,2),(3,3),(4,4),(5,5),(6,6),(7,7),(8,8),(9,9),(10,10),(11,11),(12,12),(13,13),(14,14),(15,15)] []) ⟨i2,m',R,ws',vs',C1,G1,L,D',Q',z',ov1,P,B,V',Qr',la',rfl,h2,h3,hss.2,(by rw [show i2.toNat = i.toNat + 1 by omega]; exact hIs _ _ _ _ _ _ ho6 h.a hR6 hI (by rw [ek]; exact .pt _ _ _ _ _ _ _ (by rw [← hatp,← htop,← hv,← hixw]; exact hT))),by omega,by omega,by omega,by omega⟩
 have ek2 : ¬ kd = 2 := q2
 conv => cbv
 refine Br.mk (fun q3 => ?_) (fun q3 => ?_)
 ·have ek : kd = 3 := q3
  conv => cbv
  refine cfr (arena_lx R ws C G N W 0 0 0 L D Q z ov) [(0,1),(1,2),(2,3),(3,4),(4,5),(5,6),(6,7)] (fun r h' n' ⟨e1,e2,e3⟩ => ?_)
  subst e1 e2 e3
  conv => cbv
  refine cfr (freeA_lx at_ R ws N W L D h.l h.d h.n h.r h.a h.w) [(0,2),(1,3),(2,4),(3,5)] (fun r h' n' hrr => ?_)
  obtain ⟨e,R',L',e1,e2,e3,hL',hF⟩ := hrr
  subst e1 e2 e3
  conv => cbv
  refine cfr (rfreeA_lx R vs N at_ W P B V hr.p hr.b hr.v hr.n hr.r hr.a hr.w) [(0,9),(1,10),(2,11),(3,12),(4,13)] (fun r h' n' hrr => ?_)
  obtain ⟨e',R2,P',B',e1,e2,e3,hP',hB',hF2⟩ := hrr
  subst e1 e2 e3
  have hdet := Freet.det h.a.rows hF hF2
  have h3 := hr.freet hF2 hP' hB'
  conv => cbv
  obtain ⟨q1,q2⟩ := hdet
  subst q2
  have h2 := h.freet hF hL'
  have hS2 := (hS.free hF).1
  refine Fit.mk (by show (-9223372036854775808 : Int) ≤ i + 1; omega) (by show i + 1 ≤ 9223372036854775807; omega) fun i2 hi2 => ?_
  have hi2 : i2 = i + 1 := hi2
  conv => cbv
  refine Again.mk k' _ (Nat.lt_succ_self _) (Re.at [(0,0),(1,1),(2,2),(3,3),(4,4),(5,5),(6,6),(7,7),(8,8),(9,9),(10,10),(11,11),(12,12),(13,13),(14,14),(15,15)] []) ⟨i2,m,R',ws,vs,C,G,L',D,Q,z,ov,P',B',V,Qr,la,rfl,h2,h3,hS2,(by rw [show i2.toNat = i.toNat + 1 by omega]; exact hIs _ _ _ _ _ _ ho6 h.a hR6 hI (by rw [ek]; exact .fr _ _ _ _ _ _ _ (by rw [← hatp]; exact hF))),by omega,by omega,by omega,by omega⟩
 have ek3 : ¬ kd = 3 := q3
 conv => cbv
 refine Fit.wrap fun xa hxa => ?_
 have hxa : xa = IntKind.u64.wrap oo := hxa
 have hxa0 : 0 ≤ xa := by rw [hxa]; simp [IntKind.wrap,IntKind.bits,IntKind.signed]; omega
 conv => cbv
 refine Sum.mk fun ya hya => ?_
 have hya : ya = xa % 6 := (show ya = xa.tmod 6 from hya).trans (Int.tmod_eq_emod_of_nonneg hxa0)
 conv => cbv
 refine Fit.mk (by show (-9223372036854775808 : Int) ≤ ya; omega) (by show ya ≤ 9223372036854775807; omega) fun ka hka => ?_
 have hka : ka = ya := hka
 have hka0 : 0 ≤ ka := by omega
 have hka1 : ka < 6 := by omega
 have hkaw : ka = IntKind.u64.wrap oo % 6 := by rw [hka,hya,hxa]
 clear hka hya hxa0 hxa
 conv => cbv
 refine Fit.mk (by show (-9223372036854775808 : Int) ≤ 1 + ka; omega) (by show 1 + ka ≤ 9223372036854775807; omega) fun kk9 hkk9 => ?_
 have hkk9 : kk9 = 1 + ka := hkk9
 conv => cbv
 refine Need.mk ⟨by show (0 : Int) ≤ kk9; omega,by show kk9 < 7; omega⟩ ?_
 conv => cbv
 obtain ⟨s1,hs1,hs1v⟩ : ∃ s1 : I,([PV.int IntKind.i64 (I.lit 0),PV.int IntKind.i64 (I.lit 9),PV.int IntKind.i64 (I.lit 3),PV.int IntKind.i64 (I.lit 7),PV.int IntKind.i64 (I.lit 10),PV.int IntKind.i64 (I.lit 2),PV.int IntKind.i64 (I.lit 2)] : List PV)[(kk9 + ((0 : Nat) : Int)).toNat]? = some (.int .i64 s1) ∧ s1.val = szB kk9 := by
  have h6 : kk9 = 1 ∨ kk9 = 2 ∨ kk9 = 3 ∨ kk9 = 4 ∨ kk9 = 5 ∨ kk9 = 6 := by omega
  rcases h6 with rfl | rfl | rfl | rfl | rfl | rfl <;> exact ⟨_,rfl,rfl⟩
 obtain ⟨sz,hsz⟩ : ∃ sz,sz = s1.val := ⟨_,rfl⟩
 have hszB : sz = szB kk9 := hsz.trans hs1v
 refine Cell.mk (.int .i64 s1) hs1 ?_
 conv => cbv
 refine CallF.le (args0 := [.ptr 1 (.lit 0),i6 kk9,i6 sz]) (cfr (alloc9_lx R ws C G N W 0 0 0 L D Q z ov h kk9 sz) [(0,1),(1,2),(2,3),(3,4),(4,5),(5,6),(6,7)] (fun r h' n' hrr => ?_)) (by simp [ales,ale,pvle,I.val,hsz])
 obtain ⟨a,e,R',ws',C',L',D',Q',e1,e2,e3,h2,hT,hC⟩ := hrr
 subst e1 e2 e3
 conv => cbv
 refine CallF.le (args0 := [.ptr 8 (.lit 0),i6 kk9,i6 sz]) (cfr (ralloc9_lx R vs C G N W 0 0 0 P B V Qr la m ov hr kk9 sz) [(0,8),(1,9),(2,10),(3,11),(4,12),(5,13),(6,14),(7,15)] (fun r h' n' hrr => ?_)) (by simp [ales,ale,pvle,I.val,hsz])
 obtain ⟨a2,f,R2,vs',C2,P',B',V',Qr',e1,e2,e3,h3,hT2,hC2⟩ := hrr
 subst e1 e2 e3
 have hal := hS.alloc hT hT2
 conv => cbv
 obtain ⟨q1,q2,q3,hS2,_⟩ := hal
 subst q1 q2 q3
 have hCC : C2 = C' := hC2.trans hC.symm
 subst hCC
 refine Fit.mk (by show (-9223372036854775808 : Int) ≤ i + 1; omega) (by show i + 1 ≤ 9223372036854775807; omega) fun i2 hi2 => ?_
 have hi2 : i2 = i + 1 := hi2
 conv => cbv
 refine Again.mk k' _ (Nat.lt_succ_self _) (Re.at [(0,0),(1,1),(2,2),(3,3),(4,4),(5,5),(6,6),(7,7),(8,8),(9,9),(10,10),(11,11),(12,12),(13,13),(14,14),(15,15)] []) ⟨i2,m,R',ws',vs',C2,G,L',D',Q',z,ov,P',B',V',Qr',la,rfl,h2,h3,hS2,(by rw [show i2.toNat = i.toNat + 1 by omega]; exact hIs _ _ _ _ _ _ ho6 h.a hR6 hI (by exact .al _ _ _ _ _ _ _ _ _ _ ⟨ek1,ek2,ek3⟩ (by rw [← hkaw,← hkk9,← hszB]; exact hT))),by omega,by omega,by omega,by omega⟩
end Go.Proofs.YtjfdfbpgckilpaaGreatDoor
