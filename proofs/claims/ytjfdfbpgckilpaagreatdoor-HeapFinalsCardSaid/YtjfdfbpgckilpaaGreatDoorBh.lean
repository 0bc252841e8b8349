/-
  The ground of the proof, part 8: the calculus and what is proved with it.
-/
import Derived.Test.YtjfdfbpgckilpaaGreatDoorBg
import Derived.Test.YtjfdfbpgckilpaaGreatDoorBf
namespace Go.Proofs.YtjfdfbpgckilpaaGreatDoor
open Go Go.LX
set_option maxRecDepth 100000
set_option linter.unusedVariables false
set_option linter.unusedSimpArgs false
set_option maxHeartbeats 32000000
def Leads (R : List Rw) (ws : List Int) (a b : Int) : Prop := ∃ i x,Loaded R ws a i x 0 ∧ x % 2 = 1 ∧ (x - 1) / 2 = b ∧ b ∈ objs R
inductive Rb (R : List Rw) (ws C A : List Int) : Int → Prop
 | root (a : Int) (h : a ∈ A) (ho : a ∈ objs R) : Rb R ws C A a
 | next (a b : Int) (h : Rb R ws C A a) (hc : C[a.toNat]? ≠ some 0) (hl : Leads R ws a b) : Rb R ws C A b
inductive Rch (R : List Rw) (ws A : List Int) : Int → Prop
 | root (a : Int) (h : a ∈ A) (ho : a ∈ objs R) : Rch R ws A a
 | next (a b : Int) (h : Rch R ws A a) (hl : Leads R ws a b) : Rch R ws A b
theorem Rb.mono {R : List Rw} {ws C C' A A' : List Int} (hc : ∀ p : Nat,C'[p]? = some 0 → C[p]? = some 0) (hA : ∀ a ∈ A,a ∈ A') {a : Int} (h : Rb R ws C A a) : Rb R ws C' A' a := by
 induction h with
 | root a h ho => exact .root a (hA a h) ho
 | next a b _ hn hl ih => exact .next a b ih (fun k => hn (hc _ k)) hl
theorem Rb.to {R : List Rw} {ws C A : List Int} {a : Int} (h : Rb R ws C A a) : Rch R ws A a := by
 induction h with
 | root a h ho => exact .root a h ho
 | next a b _ hn hl ih => exact .next a b ih hl
theorem Rch.obj {R : List Rw} {ws A : List Int} {a : Int} (h : Rch R ws A a) : a ∈ objs R := by
 cases h with
 | root a h ho => exact ho
 | next a b _ hl => obtain ⟨_,_,_,_,_,h⟩ := hl; exact h
theorem stored_to {R : List Rw} {ws ws' : List Int} {a i x e : Int} (hA : AOk R ws) (h : Stored R ws a i x e ws') : (∀ b k l,Kept R ws b k l → Kept R ws' b k l) ∧ ∀ b j y,b ≠ a → Loaded R ws b j y 0 → Loaded R ws' b j y 0 := by
 cases h with
 | none _ => exact ⟨fun _ _ _ hk => hk,fun _ _ _ _ hk => hk⟩
 | arg _ _ _ _ => exact ⟨fun _ _ _ hk => hk,fun _ _ _ _ hk => hk⟩
 | ok k l hka hi =>
  have hbn := hka.bounds hA
  have hkeep : ∀ b k' l',Kept R ws b k' l' → Kept R (ws.set (a + 1 + i).toNat x) b k' l' := by
   intro b k' l' hb
   obtain ⟨w,q1,q2,q3,q4,q5,q6⟩ := hb
   have hne : (a + 1 + i).toNat ≠ b.toNat := by
    obtain ⟨wa,p1,p2,p3,p4,p5,p6⟩ := hka
    have := within_not hA.rows p1 q1 (j := a + 1 + i) (by omega) (by omega)
    have := q1.facts hA.rows
    omega
   exact .mk k' l' w q1 (by rw [List.getElem?_set_ne hne]; exact q2) q3 q4 q5 q6
  refine ⟨hkeep,fun b j y hne hl => ?_⟩
  cases hl with
  | ok k' l' _ hK hj hy =>
   have hb2 := hK.bounds hA
   refine .ok k' l' y (hkeep _ _ _ hK) hj ?_
   rw [List.getElem?_set_ne ?_]
   ·exact hy
   ·intro e
    have e : a + 1 + i = b + 1 + j := by omega
    obtain ⟨wa,p1,p2,p3,p4,p5,p6⟩ := hka
    obtain ⟨wb,q1,q2,q3,q4,q5,q6⟩ := hK
    rcases Int.lt_trichotomy a b with q | q | q
    ·exact within_not hA.rows p1 q1 (j := b) (by omega) (by omega) rfl
    ·exact hne q.symm
    ·exact within_not hA.rows q1 p1 (j := a) (by omega) (by omega) rfl
structure Cm (R : List Rw) (ws C G : List Int) (ov : Bool) (A : List Int) (v : Int) : Prop where
 all : ov = false → ∀ a ∈ objs R,a ≠ v → C[a.toNat]? = some 1 → a ∈ G
 rb : ∀ a ∈ objs R,C[a.toNat]? ≠ some 0 → Rb R ws C A a
 c3 : ∀ a ∈ objs R,C[a.toNat]? = some 0 ∨ C[a.toNat]? = some 1 ∨ C[a.toNat]? = some 2
theorem Cm.more {R : List Rw} {ws C G : List Int} {ov : Bool} {A B : List Int} {v : Int} (h : Cm R ws C G ov A v) (hA : ∀ a ∈ A,a ∈ B) : Cm R ws C G ov B v :=
 ⟨h.all,fun a ha hn => (h.rb a ha hn).mono (fun _ k => k) hA,h.c3⟩
theorem Cm.shade {R : List Rw} {ws A : List Int} {v a : Int} {s : List Int × List Int × Bool} (hA : AOk R ws) (h : Cm R ws s.1 s.2.1 s.2.2 A v) (hR : a ∈ objs R → Rb R ws s.1 A a) : Cm R ws (shade R 1 a s).1 (shade R 1 a s).2.1 (shade R 1 a s).2.2 A v := by
 have hle := shade_le R 1 a s
 by_cases hc : (1 : Int) = 1 ∧ a ∈ objs R ∧ s.1[a.toNat]? = some 0
 ·have e : Go.Proofs.YtjfdfbpgckilpaaGreatDoor.shade R 1 a s = (s.1.set a.toNat 1,if s.2.1.length < 8 then (s.2.1 ++ [a],s.2.2) else (s.2.1,true)) := by
   unfold Go.Proofs.YtjfdfbpgckilpaaGreatDoor.shade
   rw [if_pos hc]
  rw [e] at hle ⊢
  have hab := obj_bd hA hc.2.1
  have hl := (List.getElem?_eq_some_iff.1 hc.2.2).1
  have hself : (s.1.set a.toNat 1)[a.toNat]? = some 1 := List.getElem?_set_self hl
  have hne : ∀ b ∈ objs R,b ≠ a → (s.1.set a.toNat 1)[b.toNat]? = s.1[b.toNat]? := fun b hb n => List.getElem?_set_ne (by have := obj_bd hA hb; omega)
  refine ⟨?_,fun b hb hn => ?_,fun b hb => ?_⟩
  ·intro ho b hb hbv hb1
   by_cases h8 : s.2.1.length < 8
   ·rw [if_pos h8] at ho ⊢
    by_cases eb : b = a
    ·exact List.mem_append_right _ (by rw [eb]; exact List.mem_singleton.2 rfl)
    ·exact List.mem_append_left _ (h.all ho b hb hbv (by rw [← hne b hb eb]; exact hb1))
   ·rw [if_neg h8] at ho
    exact absurd (show true = false from ho) (by decide)
  ·by_cases eb : b = a
   ·rw [eb]; exact (hR hc.2.1).mono hle.1 (fun _ k => k)
   ·exact (h.rb b hb (by rw [← hne b hb eb]; exact hn)).mono hle.1 (fun _ k => k)
  ·by_cases eb : b = a
   ·rw [eb]; exact .inr (.inl hself)
   ·have := h.c3 b hb
    rw [← hne b hb eb] at this
    exact this
 ·have e : Go.Proofs.YtjfdfbpgckilpaaGreatDoor.shade R 1 a s = s := by
   unfold Go.Proofs.YtjfdfbpgckilpaaGreatDoor.shade
   rw [if_neg hc]
  rw [e]; exact h
theorem Cm.shadeW {R : List Rw} {ws A : List Int} {v w : Int} {s : List Int × List Int × Bool} (hA : AOk R ws) (h : Cm R ws s.1 s.2.1 s.2.2 A v) (hR : w % 2 = 1 → (w - 1) / 2 ∈ objs R → Rb R ws s.1 A ((w - 1) / 2)) : Cm R ws (shadeW R 1 w s).1 (shadeW R 1 w s).2.1 (shadeW R 1 w s).2.2 A v := by
 unfold Go.Proofs.YtjfdfbpgckilpaaGreatDoor.shadeW
 split
 ·rename_i hw
  exact h.shade hA (hR hw)
 ·exact h
theorem Cm.fold {R : List Rw} {ws A : List Int} {v : Int} (hA : AOk R ws) : ∀ (X : List Int) (s : List Int × List Int × Bool),Cm R ws s.1 s.2.1 s.2.2 A v → (∀ w ∈ X,w % 2 = 1 → (w - 1) / 2 ∈ objs R → Rb R ws s.1 A ((w - 1) / 2)) → Cm R ws (X.foldl (fun s w => Go.Proofs.YtjfdfbpgckilpaaGreatDoor.shadeW R 1 w s) s).1 (X.foldl (fun s w => Go.Proofs.YtjfdfbpgckilpaaGreatDoor.shadeW R 1 w s) s).2.1 (X.foldl (fun s w => Go.Proofs.YtjfdfbpgckilpaaGreatDoor.shadeW R 1 w s) s).2.2 A v
 | [],s,h,_ => h
 | w :: X,s,h,hX => Cm.fold hA X _ (h.shadeW hA (hX w (List.mem_cons_self ..))) fun w' hw' h1 h2 => (hX w' (List.mem_cons_of_mem _ hw') h1 h2).mono (shadeW_le R 1 w s).1 (fun _ k => k)
def Rt (R : List Rw) (C A : List Int) : Prop := ∀ a ∈ A,a ∈ objs R → C[a.toNat]? ≠ some 0
theorem Rt.le {R : List Rw} {C C' A : List Int} (h : Rt R C A) (hc : ∀ p : Nat,C'[p]? = some 0 → C[p]? = some 0) : Rt R C' A := fun a ha ho k => h a ha ho (hc _ k)
structure Cy1 (R : List Rw) (ws C G : List Int) (ov : Bool) (A : List Int) : Prop where
 dk : Dk R ws C
 g : GOk R C G
 cm : Cm R ws C G ov A (-1)
 rt : Rt R C A
theorem beg_all {R : List Rw} {ws : List Int} (hA : AOk R ws) : ∀ (A B : List Int) (s : List Int × List Int × Bool),Cm R ws s.1 s.2.1 s.2.2 B (-1) → GOk R s.1 s.2.1 → Rt R s.1 B → Cm R ws (A.foldl (fun s a => shade R 1 a s) s).1 (A.foldl (fun s a => shade R 1 a s) s).2.1 (A.foldl (fun s a => shade R 1 a s) s).2.2 (B ++ A) (-1) ∧ GOk R (A.foldl (fun s a => shade R 1 a s) s).1 (A.foldl (fun s a => shade R 1 a s) s).2.1 ∧ Rt R (A.foldl (fun s a => shade R 1 a s) s).1 (B ++ A)
 | [],B,s,h1,h2,h3 => by rw [List.append_nil]; exact ⟨h1,h2,h3⟩
 | a :: A,B,s,h1,h2,h3 => by
  have k := beg_all hA A (B ++ [a]) (shade R 1 a s) ((h1.more (fun x hx => List.mem_append_left _ hx)).shade hA (fun ho => .root a (List.mem_append_right _ (List.mem_singleton.2 rfl)) ho)) (shade_gok h2) (fun x hx ho => by
   rcases List.mem_append.1 hx with hx | hx
   ·exact h3.le (shade_le R 1 a s).1 x hx ho
   ·rw [List.mem_singleton.1 hx] at ho ⊢; exact shade_hit R a s ho)
  rw [List.append_assoc] at k
  exact k
theorem Cy1.begin {R : List Rw} {ws C G A : List Int} {ov : Bool} {W : Int} (hA : AOk R ws) (hW : W = 32 * R.length) (h : (C,G,ov) = begS R W A) : Cy1 R ws C G ov A := by
 have hrep : ∀ a ∈ objs R,(List.replicate W.toNat (0 : Int))[a.toNat]? = some 0 := by
  intro a ha
  have := obj_bd hA ha
  rw [List.getElem?_replicate,if_pos (by omega)]
 have k := beg_all hA A [] (List.replicate W.toNat 0,[],false) ⟨fun _ a ha _ h1 => by rw [hrep a ha] at h1; exact absurd (Option.some.inj h1) (by decide),fun a ha hn => absurd (hrep a ha) hn,fun a ha => .inl (hrep a ha)⟩ ⟨fun x hx => (by cases hx),fun x hx => (by cases hx),List.nodup_nil⟩ (fun a ha => by cases ha)
 have h1 : C = (begS R W A).1 := congrArg Prod.fst h
 have h2 : G = (begS R W A).2.1 := congrArg (fun x => x.2.1) h
 have h3 : ov = (begS R W A).2.2 := congrArg (fun x => x.2.2) h
 have hdk := Dk.begin (ws := ws) h
 rw [h1,h2,h3] at *
 exact ⟨hdk,k.2.1,k.1,k.2.2⟩
structure Done (R : List Rw) (ws C A : List Int) : Prop where
 two : ∀ a ∈ objs R,C[a.toNat]? = some 0 ∨ C[a.toNat]? = some 2
 iff : ∀ a ∈ objs R,C[a.toNat]? = some 0 ↔ ¬ Rch R ws A a
 due : ∀ a,¬ Due R ws C a
theorem Cy1.done {R : List Rw} {ws C G A : List Int} {ov : Bool} (h : Cy1 R ws C G ov A) (hg : ∀ a ∈ objs R,C[a.toNat]? ≠ some 1) (hd : ∀ a,¬ Due R ws C a) : Done R ws C A := by
 have htwo : ∀ a ∈ objs R,C[a.toNat]? = some 0 ∨ C[a.toNat]? = some 2 := by
  intro a ha
  rcases h.cm.c3 a ha with q | q | q
  ·exact .inl q
  ·exact absurd q (hg a ha)
  ·exact .inr q
 refine ⟨htwo,fun a ha => ⟨fun h0 hr => ?_,fun hn => Classical.byContradiction fun k => hn (h.cm.rb a ha k).to⟩,hd⟩
 have : ∀ a,Rch R ws A a → C[a.toNat]? ≠ some 0 := by
  intro a hr
  induction hr with
  | root a hm ho => exact h.rt a hm ho
  | next a b hr hl ih =>
   obtain ⟨i,x,hx,hx1,hb,ho⟩ := hl
   rw [← hb] at ho ⊢
   exact h.dk a x i hr.obj ((htwo a hr.obj).resolve_left ih) hx hx1 ho
 exact this a hr h0
abbrev spots (out : List Gn) : List Int := out.map fun g => g.2.1
theorem Cy1.marked {R : List Rw} {ws ws' C C' G G' A : List Int} {ov ov' : Bool} {sp p s : Int} {out : List Gn} (hA : AOk R ws) (hCl : (C.length : Int) = 32 * R.length) (h : Cy1 R ws C G ov A) (hm : Marked R ws C G ov sp out p s ws' C' G' ov') :
  (p = 1 ∧ Cy1 R ws' C' G' ov' (A ++ spots out) ∧ (out = [] ∧ ws' = ws ∨ ∃ a X,out = [(5,a,X,true)] ∧ Wrds R ws a X ∧ Stored R ws a 1 0 0 ws' ∧ Due R ws C a)) ∨ (p = 2 ∧ s = 0 ∧ out = [] ∧ ws' = ws ∧ C' = C ∧ Done R ws C A) := by
 have hg0 : ∀ x ∈ G,0 ≤ x := fun x hx => (obj_bd hA (h.g.obj x hx)).1
 have hgo : p = 1 → GOk R C' G' := by
  intro hp
  rcases (marked_cy (N := 1) hA hCl (by omega) h.g hm).1 with ⟨_,k,_⟩ | ⟨k,_⟩ | ⟨k,_⟩
  ·exact k
  ·omega
  ·omega
 have hdk := Dk.marked hA hg0 hCl h.dk hm
 cases hm with
 | scan v A0 X _ _ o1 _ hg hX hs =>
  have hC : C' = (X.foldl (fun s w => shadeW R 1 w s) (C,A0,o1)).1.set v.toNat 2 := congrArg Prod.fst hs
  have hG : G' = (X.foldl (fun s w => shadeW R 1 w s) (C,A0,o1)).2.1 := congrArg (fun x => x.2.1) hs
  have hO : ov' = (X.foldl (fun s w => shadeW R 1 w s) (C,A0,o1)).2.2 := congrArg (fun x => x.2.2) hs
  obtain ⟨hv,hv1,hall⟩ : v ∈ objs R ∧ C[v.toNat]? = some 1 ∧ (o1 = false → ∀ a ∈ objs R,a ≠ v → C[a.toNat]? = some 1 → a ∈ A0) := by
   cases hg with
   | pop _ _ hGA =>
    refine ⟨h.g.obj v (by rw [hGA]; simp),h.g.grey v (by rw [hGA]; simp),fun ho a ha hav h1 => ?_⟩
    have := h.cm.all ho a ha (by have := obj_bd hA ha; omega) h1
    rw [hGA] at this
    rcases List.mem_append.1 this with q | q
    ·exact q
    ·exact absurd (List.mem_singleton.1 q) hav
   | found _ _ _ _ ha hc _ => exact ⟨List.mem_of_getElem? ha,hc,fun ho => absurd ho (by decide)⟩
  have hvn : C[v.toNat]? ≠ some 0 := by rw [hv1]; exact fun q => absurd (Option.some.inj q) (by decide)
  have hF := Cm.fold (v := v) (A := A) hA X (C,A0,o1) ⟨hall,h.cm.rb,h.cm.c3⟩ (fun w hw h1 h2 => by
   obtain ⟨i,hi⟩ := List.getElem?_of_mem hw
   exact .next v _ (h.cm.rb v hv hvn) hvn ⟨i,w,hX.2 i w hi,h1,rfl,h2⟩)
  have hle := fold_le R 1 X (C,A0,o1)
  have hgr := fold_grey R 1 X (C,A0,o1) _ hv1
  generalize (X.foldl (fun s w => shadeW R 1 w s) (C,A0,o1)) = F at hC hG hO hF hle hgr
  have hl := (List.getElem?_eq_some_iff.1 hgr).1
  have hself : C'[v.toNat]? = some 2 := by rw [hC]; exact List.getElem?_set_self hl
  have hne : ∀ q : Nat,v.toNat ≠ q → C'[q]? = F.1[q]? := fun q e => by rw [hC,List.getElem?_set_ne e]
  have hw : ∀ q : Nat,C'[q]? = some 0 → F.1[q]? = some 0 := by
   intro q h0
   by_cases e : v.toNat = q
   ·rw [← e,hself] at h0; exact absurd (Option.some.inj h0) (by decide)
   ·rw [← hne q e]; exact h0
  have hnv : ∀ a ∈ objs R,a ≠ v → v.toNat ≠ a.toNat := fun a ha n => by have := obj_bd hA ha; have := obj_bd hA hv; omega
  refine .inl ⟨rfl,⟨hdk rfl,hgo rfl,⟨fun ho a ha _ h1 => ?_,fun a ha hn => ?_,fun a ha => ?_⟩,?_⟩,.inl ⟨rfl,rfl⟩⟩
  ·by_cases e : a = v
   ·rw [e,hself] at h1; exact absurd (Option.some.inj h1) (by decide)
   ·rw [hG]
    exact hF.all (by rw [← hO]; exact ho) a ha e (by rw [← hne _ (hnv a ha e)]; exact h1)
  ·rw [show A ++ spots [] = A from List.append_nil A]
   by_cases e : a = v
   ·rw [e]; exact (h.cm.rb v hv hvn).mono (fun q k => hle.1 q (hw q k)) (fun _ k => k)
   ·exact (hF.rb a ha (by rw [← hne _ (hnv a ha e)]; exact hn)).mono hw (fun _ k => k)
  ·by_cases e : a = v
   ·rw [e]; exact .inr (.inr hself)
   ·rw [hne _ (hnv a ha e)]; exact hF.c3 a ha
  ·rw [show A ++ spots [] = A from List.append_nil A]
   exact h.rt.le fun q k => hle.1 q (hw q k)
 | keep a A0 X _ _ _ o1 _ hg hf hX hst hs =>
  have hC : C' = (shade R 1 a (C,A0,o1)).1 := congrArg Prod.fst hs
  have hG : G' = (shade R 1 a (C,A0,o1)).2.1 := congrArg (fun x => x.2.1) hs
  have hO : ov' = (shade R 1 a (C,A0,o1)).2.2 := congrArg (fun x => x.2.2) hs
  have hall : o1 = false → ∀ b ∈ objs R,b ≠ -1 → C[b.toNat]? = some 1 → b ∈ A0 := by
   cases hg with
   | none hG0 ho => intro _ b hb hb1 h1; have := h.cm.all ho b hb hb1 h1; rw [hG0] at this; cases this
   | settle hG0 ho hn => intro _ b hb _ h1; obtain ⟨i,hi⟩ := List.getElem?_of_mem hb; exact absurd h1 (hn i b hi)
  have hfd : a ∈ objs R ∧ Due R ws C a := by
   cases hf with
   | found _ _ ha hd _ => exact ⟨List.mem_of_getElem? ha,hd⟩
  have hao := hfd.1
  have ha0 := hfd.2.2.1
  have hsh := Cm.shade (R := R) (ws := ws) (v := -1) (a := a) (s := (C,A0,o1)) (A := A ++ [a]) hA (Cm.more ⟨hall,h.cm.rb,h.cm.c3⟩ (fun x hx => List.mem_append_left _ hx)) (fun ho => .root a (List.mem_append_right _ (List.mem_singleton.2 rfl)) ho)
  have hle := shade_le R 1 a (C,A0,o1)
  have hhit := shade_hit R a (C,A0,o1) hao
  have hto := (stored_to hA hst).2
  rw [← hC,← hG,← hO] at hsh
  rw [← hC] at hle hhit
  have hrb : ∀ b,Rb R ws C A b → Rb R ws' C' (A ++ [a]) b := by
   intro b hb
   induction hb with
   | root b hm ho => exact .root b (List.mem_append_left _ hm) ho
   | next b c _ hn hl ih =>
    obtain ⟨i,x,hx,hx1,hc,ho⟩ := hl
    exact .next b c ih (fun k => hn (hle.1 _ k)) ⟨i,x,hto b i x (fun e => hn (by rw [e]; exact ha0)) hx,hx1,hc,ho⟩
  refine .inl ⟨rfl,⟨hdk rfl,hgo rfl,⟨hsh.all,fun b hb hn => ?_,hsh.c3⟩,?_⟩,.inr ⟨a,X,rfl,hX,hst,hfd.2⟩⟩
  ·show Rb R ws' C' (A ++ [a]) b
   by_cases e : b = a
   ·rw [e]; exact .root a (List.mem_append_right _ (List.mem_singleton.2 rfl)) hao
   ·refine hrb b (h.cm.rb b hb ?_)
    have hab := obj_bd hA hao
    have hbb := obj_bd hA hb
    intro k
    refine hn ?_
    rw [hC]
    unfold shade
    rw [if_pos ⟨rfl,hao,ha0⟩]
    show (C.set a.toNat 1)[b.toNat]? = some 0
    rw [List.getElem?_set_ne (by omega)]
    exact k
  ·intro b hb ho
   have hb : b ∈ A ++ [a] := hb
   rcases List.mem_append.1 hb with hb | hb
   ·exact h.rt.le hle.1 b hb ho
   ·rw [List.mem_singleton.1 hb]; exact hhit
 | sweep A0 o1 hg hf =>
  refine .inr ⟨rfl,rfl,rfl,rfl,rfl,h.done (fun a ha h1 => ?_) (fun a hd => ?_)⟩
  ·cases hg with
   | none hG ho => have := h.cm.all ho a ha (by have := obj_bd hA ha; omega) h1; rw [hG] at this; cases this
   | settle _ _ hn => obtain ⟨i,hi⟩ := List.getElem?_of_mem ha; exact hn i a hi h1
  ·cases hf with
   | none hn =>
    obtain ⟨l,hk⟩ := hd.1
    obtain ⟨i,hi⟩ := List.getElem?_of_mem ((obj_iff hA a).2 hk.obj6)
    exact hn i a hi hd
structure Cy2 (R0 R : List Rw) (ws C A : List Int) (lim : Int) (X : List Int) : Prop where
 done : Done R0 ws C A
 go : ∀ x,x ∈ X ↔ x ∈ objs R0 ∧ C[x.toNat]? = some 0 ∧ x < lim
 rest : ∀ x,x ∈ objs R ↔ x ∈ objs R0 ∧ x ∉ X
 kept : ∀ x k l,Kept R ws x k l → Kept R0 ws x k l
theorem Cy2.swept {R0 R R' : List Rw} {ws C A X : List Int} {sp : Int} {out : List Gn} (hA : AOk R ws) (h : Cy2 R0 R ws C A (32 * sp) X) (hs : SweptTo ws C R (32 * sp) 32 out R') : Cy2 R0 R' ws C A (32 * (sp + 1)) (X ++ spots out) := by
 have f := hs.facts hA
 have hgo : ∀ x,x ∈ X ++ spots out ↔ x ∈ objs R0 ∧ C[x.toNat]? = some 0 ∧ x < 32 * (sp + 1) := by
  intro x
  rw [List.mem_append,h.go x,f.mem x]
  constructor
  ·rintro (⟨h1,h2,h3⟩ | ⟨h1,h2,h3,h4⟩)
   ·exact ⟨h1,h2,by omega⟩
   ·exact ⟨((h.rest x).1 h3).1,h4,by omega⟩
  ·rintro ⟨h1,h2,h3⟩
   by_cases e : x < 32 * sp
   ·exact .inl ⟨h1,h2,e⟩
   ·exact .inr ⟨by omega,by omega,(h.rest x).2 ⟨h1,fun k => e ((h.go x).1 k).2.2⟩,h2⟩
 refine ⟨h.done,hgo,fun x => ?_,fun x k l hk => h.kept x k l (f.kept x k l hk)⟩
 rw [f.left x,h.rest x,List.mem_append]
 constructor
 ·rintro ⟨⟨h1,h2⟩,h3⟩; exact ⟨h1,fun k => k.elim h2 h3⟩
 ·rintro ⟨h1,h2⟩; exact ⟨⟨h1,fun k => h2 (.inl k)⟩,fun k => h2 (.inr k)⟩
def Cyc (R0 R : List Rw) (ws C G : List Int) (ov : Bool) (ph sp N : Int) (A K X : List Int) : Prop :=
 (ph = 1 ∧ R = R0 ∧ X = [] ∧ Cy1 R ws C G ov (A ++ K)) ∨ (ph = 2 ∧ Cy2 R0 R ws C (A ++ K) (32 * sp) X) ∨ (ph = 0 ∧ Cy2 R0 R ws C (A ++ K) (32 * N) X)
def keptOf (out : List Gn) : List Int := (out.filter fun g => g.2.2.2).map fun g => g.2.1
def goneOf (out : List Gn) : List Int := (out.filter fun g => !g.2.2.2).map fun g => g.2.1
theorem Cyc.stepd {R0 R R' : List Rw} {ws ws' C C' G G' A K X : List Int} {ov ov' : Bool} {ph sp cy W N p s y : Int} {out : List Gn} (hA : AOk R ws) (hN : N = R.length) (hW : W = 32 * N) (hCl : (C.length : Int) = W) (hsp : 0 ≤ sp ∧ sp ≤ N) (h : Cyc R0 R ws C G ov ph sp N A K X) (hsN : ph = 2 → sp < N) (hs : Stepd R ws C G ov ph sp cy W out R' ws' C' G' ov' p s y) :
  Cyc R0 R' ws' C' G' ov' p s N A (K ++ keptOf out) (X ++ goneOf out) ∧ (ph ≠ 1 → keptOf out = []) ∧ (ws' = ws ∧ keptOf out = [] ∨ ph = 1 ∧ ∃ a Y,out = [(5,a,Y,true)] ∧ Wrds R ws a Y ∧ Stored R ws a 1 0 0 ws' ∧ Due R ws C a) := by
 cases hs with
 | mark _ _ _ _ _ _ _ hp hm =>
  subst hp
  rcases h with ⟨_,rfl,rfl,h⟩ | ⟨q,_⟩ | ⟨q,_⟩
  ·rcases h.marked hA (by omega) hm with ⟨rfl,h1,⟨rfl,rfl⟩ | ⟨a,Y,rfl,hY,hst,hd⟩⟩ | ⟨rfl,rfl,rfl,rfl,rfl,hd⟩
   ·have h1 : Cy1 R ws' C' G' ov' (A ++ K) := by rw [show A ++ K ++ spots [] = A ++ K from List.append_nil _] at h1; exact h1
    exact ⟨.inl ⟨rfl,rfl,rfl,by rw [show K ++ keptOf [] = K from List.append_nil _]; exact h1⟩,fun _ => rfl,.inl ⟨rfl,rfl⟩⟩
   ·exact ⟨.inl ⟨rfl,rfl,rfl,by rw [← List.append_assoc]; exact h1⟩,fun k => absurd rfl k,.inr ⟨rfl,a,Y,rfl,hY,hst,hd⟩⟩
   ·refine ⟨.inr (.inl ⟨rfl,?_⟩),fun _ => rfl,.inl ⟨rfl,rfl⟩⟩
    rw [show K ++ keptOf [] = K from List.append_nil _]
    exact ⟨hd,fun x => ⟨fun k => (by cases k),fun ⟨k1,_,k2⟩ => (by have := obj_bd hA k1; omega)⟩,fun x => ⟨fun k => ⟨k,fun q => (by cases q)⟩,fun k => k.1⟩,fun _ _ _ k => k⟩
  ·exact absurd q (by decide)
  ·exact absurd q (by decide)
 | sweep _ _ hp hs =>
  subst hp
  rcases h with ⟨q,_⟩ | ⟨_,h⟩ | ⟨q,_⟩
  ·exact absurd q (by decide)
  ·have f := hs.facts hA
   have hfl : ∀ g ∈ out,g.2.2.2 = false := fun g hg => (f.each g hg).2.2
   have hk : keptOf out = [] := by
    unfold keptOf
    rw [List.filter_eq_nil_iff.2 (fun g hg => by rw [hfl g hg]; decide)]
    rfl
   have hg : goneOf out = spots out := by
    unfold goneOf
    rw [List.filter_eq_self.2 (fun g hg => by rw [hfl g hg]; decide)]
   rw [hk,hg,List.append_nil]
   have h2 := h.swept hA hs
   refine ⟨?_,fun _ => rfl,.inl ⟨rfl,rfl⟩⟩
   unfold swPh
   split
   ·have e : sp + 1 = N := by have := hsN rfl; omega
    rw [e] at h2
    exact .inr (.inr ⟨rfl,h2⟩)
   ·exact .inr (.inl ⟨rfl,h2⟩)
  ·exact absurd q (by decide)
 | idle h1 h2 =>
  refine ⟨?_,fun _ => rfl,.inl ⟨rfl,rfl⟩⟩
  rw [show K ++ keptOf [] = K from List.append_nil _,show X ++ goneOf [] = X from List.append_nil _]
  exact h
theorem marked_white {R : List Rw} {ws ws' C C' G G' : List Int} {ov ov' : Bool} {sp p s : Int} {out : List Gn} (hm : Marked R ws C G ov sp out p s ws' C' G' ov') : ∀ q : Nat,C'[q]? = some 0 → C[q]? = some 0 := by
 cases hm with
 | scan v A0 X _ _ o1 _ hg hX hs =>
  have hC : C' = (X.foldl (fun s w => shadeW R 1 w s) (C,A0,o1)).1.set v.toNat 2 := congrArg Prod.fst hs
  have hle := fold_le R 1 X (C,A0,o1)
  generalize (X.foldl (fun s w => shadeW R 1 w s) (C,A0,o1)) = F at hC hle
  intro q hq
  refine hle.1 q ?_
  rw [hC] at hq
  by_cases e : v.toNat = q
  ·subst e
   by_cases hl : v.toNat < F.1.length
   ·rw [List.getElem?_set_self hl] at hq; exact absurd (Option.some.inj hq) (by decide)
   ·rw [List.getElem?_eq_none (by rw [List.length_set]; omega)] at hq; cases hq
  ·rw [List.getElem?_set_ne e] at hq; exact hq
 | keep a A0 X _ _ _ o1 _ hg hf hX hst hs =>
  have hC : C' = (shade R 1 a (C,A0,o1)).1 := congrArg Prod.fst hs
  rw [hC]
  exact (shade_le R 1 a (C,A0,o1)).1
 | sweep A0 o1 hg hf => exact fun q h => h
theorem stepd_keep {R R' : List Rw} {ws ws' C C' G G' : List Int} {ov ov' : Bool} {ph sp cy W p s y x : Int} {out : List Gn} (hA : AOk R ws) (hx : x ∈ objs R ∧ (ph ≠ 0 → C[x.toNat]? ≠ some 0)) (hs : Stepd R ws C G ov ph sp cy W out R' ws' C' G' ov' p s y) : x ∈ objs R' ∧ (p ≠ 0 → C'[x.toNat]? ≠ some 0) := by
 cases hs with
 | mark _ _ _ _ _ _ _ hp hm => exact ⟨hx.1,fun _ k => hx.2 (by omega) (marked_white hm _ k)⟩
 | sweep _ _ hp hs =>
  have f := hs.facts hA
  refine ⟨(f.left x).2 ⟨hx.1,fun k => hx.2 (by omega) ((f.mem x).1 k).2.2.2⟩,fun _ => hx.2 (by omega)⟩
 | idle h1 h2 => exact hx
theorem stepd_kept {R R' : List Rw} {ws ws' C C' G G' : List Int} {ov ov' : Bool} {ph sp cy W p s y : Int} {out : List Gn} (hA : AOk R ws) (hs : Stepd R ws C G ov ph sp cy W out R' ws' C' G' ov' p s y) : ∀ b k l,Kept R' ws' b k l → Kept R ws b k l := by
 cases hs with
 | mark _ _ _ _ _ _ _ hp hm =>
  cases hm with
  | scan _ _ _ _ _ _ _ _ _ _ => exact fun _ _ _ k => k
  | keep _ _ _ _ _ _ _ _ _ _ _ hst _ => exact stored_kept hA hst
  | sweep _ _ _ _ => exact fun _ _ _ k => k
 | sweep _ _ hp hs => exact (hs.facts hA).kept
 | idle h1 h2 => exact fun _ _ _ k => k
theorem stored_own {R : List Rw} {ws ws' : List Int} {a i x e k l : Int} (hA : AOk R ws) (hK : Kept R ws a k l) (hi : 0 ≤ i ∧ i < l) (h : Stored R ws a i x e ws') : e = 0 ∧ Loaded R ws' a i x 0 ∧ ∀ j y,j ≠ i → Loaded R ws a j y 0 → Loaded R ws' a j y 0 := by
 obtain ⟨he,hw⟩ := stored_of hK hi h
 have hk2 := (stored_to hA h).1
 have hb := hK.bounds hA
 have hlen := hA.len
 refine ⟨he,.ok k l x (hk2 _ _ _ hK) hi (by rw [hw]; exact List.getElem?_set_self (by omega)),fun j y hj hl => ?_⟩
 cases hl with
 | ok k' l' _ hK' hj2 hy =>
  refine .ok k' l' y (hk2 _ _ _ hK') hj2 ?_
  rw [hw,List.getElem?_set_ne (by omega)]
  exact hy
structure Chn (R : List Rw) (ws y : List Int) (P : Nat → Prop) : Prop where
 box : ∀ b ∈ y,Kept R ws b 5 2
 nd : y.Nodup
 fin : ∀ a ∈ y,Loaded R ws a 1 0 0
 nxt : ∀ (k : Nat) a b,P k → y[k]? = some a → y[k + 1]? = some b → Loaded R ws a 0 (b * 2 + 1) 0
theorem Chn.store {R : List Rw} {ws ws' y : List Int} {P : Nat → Prop} {k : Nat} {a b e : Int} (hA : AOk R ws) (h : Chn R ws y P) (ha : y[k]? = some a) (hb : y[k + 1]? = some b) (hs : Stored R ws a 0 (b * 2 + 1) e ws') : e = 0 ∧ Chn R ws' y (fun j => j = k ∨ P j) := by
 obtain ⟨h1,h2,h3⟩ := stored_own hA (h.box a (List.mem_of_getElem? ha)) (by omega) hs
 obtain ⟨h4,h5⟩ := stored_to hA hs
 have hl : ∀ c j v,(c = a → j ≠ 0) → Loaded R ws c j v 0 → Loaded R ws' c j v 0 := by
  intro c j v hc hv
  by_cases e : c = a
  ·subst e; exact h3 j v (hc rfl) hv
  ·exact h5 c j v e hv
 refine ⟨h1,fun c hc => h4 _ _ _ (h.box c hc),h.nd,fun c hc => hl c 1 0 (fun _ => by decide) (h.fin c hc),fun j c d hj hc hd => ?_⟩
 by_cases e : j = k
 ·subst e
  rw [ha] at hc; rw [hb] at hd
  obtain rfl := Option.some.inj hc
  obtain rfl := Option.some.inj hd
  exact h2
 ·refine hl c 0 _ (fun ec => ?_) (h.nxt j c d (hj.resolve_left e) hc hd)
  subst ec
  have hjl := (List.getElem?_eq_some_iff.1 hc).1
  exact absurd ((List.getElem?_inj hjl h.nd).1 (hc.trans ha.symm)) e
structure At (C G : List Int) (ov : Bool) (y : List Int) (k : Nat) : Prop where
 g : ∃ a,y[k]? = some a ∧ G = [a]
 ov : ov = false
 wh : ∀ (j : Nat) b,k < j → y[j]? = some b → C[b.toNat]? = some 0
theorem loaded_one {R : List Rw} {ws : List Int} {a i x y : Int} (h1 : Loaded R ws a i x 0) (h2 : Loaded R ws a i y 0) : x = y := by
 cases h1 with
 | ok _ _ _ _ _ q1 => cases h2 with
  | ok _ _ _ _ _ q2 => rw [q1] at q2; exact Option.some.inj q2
theorem At.step {R R' : List Rw} {ws ws' C C' G G' y : List Int} {ov ov' : Bool} {ph sp cy W p s yy : Int} {out : List Gn} {k : Nat} {P : Nat → Prop} (hA : AOk R ws) (hc : Chn R ws y P) (hP : P k) (h : At C G ov y k) (hk : k + 1 < y.length) (hph : ph = 1) (hs : Stepd R ws C G ov ph sp cy W out R' ws' C' G' ov' p s yy) : p = 1 ∧ s = sp ∧ yy = cy ∧ R' = R ∧ ws' = ws ∧ At C' G' ov' y (k + 1) := by
 obtain ⟨a,ha,hG⟩ := h.g
 obtain ⟨b,hb⟩ : ∃ b,y[k + 1]? = some b := ⟨_,List.getElem?_eq_getElem hk⟩
 have ham := List.mem_of_getElem? ha
 have hbm := List.mem_of_getElem? hb
 have hKa := hc.box a ham
 cases hs with
 | mark _ _ _ _ _ _ _ hp hm =>
  cases hm with
  | scan v A0 X _ _ o1 _ hg hX hs =>
   have hvA : v = a ∧ A0 = [] ∧ o1 = false := by
    cases hg with
    | pop _ _ hGA =>
     rw [hG] at hGA
     have hl : A0.length = 0 := by have := congrArg List.length hGA; simp at this; exact this ▸ rfl
     have hA0 : A0 = [] := List.eq_nil_of_length_eq_zero hl
     subst hA0
     exact ⟨(by simpa using hGA.symm),rfl,h.ov⟩
    | found _ _ hG0 _ _ _ _ => rw [hG] at hG0; cases hG0
   obtain ⟨rfl,rfl,rfl⟩ := hvA
   have hX2 : X = [b * 2 + 1,0] := by
    have hl2 : X.length = 2 := by
     have hl := hX.1
     generalize hxl : (X.length : Int) = xl at hl
     cases hl with
     | no hn => exact absurd hKa.obj6 hn
     | is k2 l2 hK2 => have := (hKa.det9 hK2).2; omega
    match X,hl2,hX with
    | [x0,x1],_,hX =>
     have e0 := loaded_one (hX.2 0 x0 rfl) (hc.nxt k _ b hP ha hb)
     have e1 := loaded_one (hX.2 1 x1 rfl) (hc.fin _ ham)
     rw [e0,e1]
   have hbo : b ∈ objs R := (obj_iff hA b).2 (hc.box b hbm).obj6
   have hb0 := h.wh (k + 1) b (by omega) hb
   have hsh : ∀ s : List Int × List Int × Bool,shadeW R 1 0 s = s := fun s => by unfold shadeW; rw [if_neg (by decide)]
   have hs1 : shadeW R 1 (b * 2 + 1) (C,[],false) = (C.set b.toNat 1,[b],false) := by
    unfold shadeW
    rw [if_pos (by omega),show (b * 2 + 1 - 1) / 2 = b by omega]
    unfold shade
    rw [if_pos ⟨rfl,hbo,hb0⟩]
    rfl
   have hF : scanS R 1 v X (C,[],false) = ((C.set b.toNat 1).set v.toNat 2,[b],false) := by
    unfold scanS
    rw [hX2]
    simp only [List.foldl_cons,List.foldl_nil,hs1,hsh]
   rw [hF] at hs
   cases hs
   refine ⟨rfl,rfl,rfl,rfl,rfl,⟨b,hb,rfl⟩,rfl,fun j c hj hcy => ?_⟩
   have hcm := List.mem_of_getElem? hcy
   have hne : ∀ (i : Nat) d,i < j → y[i]? = some d → d.toNat ≠ c.toNat := by
    intro i d hi hd e
    have b1 := (hc.box d (List.mem_of_getElem? hd)).bounds hA
    have b2 := (hc.box c hcm).bounds hA
    have e : d = c := by omega
    subst e
    have := (List.getElem?_inj (List.getElem?_eq_some_iff.1 hd).1 hc.nd).1 (hd.trans hcy.symm)
    omega
   rw [List.getElem?_set_ne (hne k _ (by omega) ha),List.getElem?_set_ne (hne (k + 1) _ (by omega) hb)]
   exact h.wh j c (by omega) hcy
  | keep a2 A0 X _ _ _ o1 _ hg hf hX hst hs =>
   exfalso
   cases hg with
   | none h1 _ => rw [hG] at h1; cases h1
   | settle h1 _ _ => rw [hG] at h1; cases h1
  | sweep A0 o1 hg hf =>
   exfalso
   cases hg with
   | none h1 _ => rw [hG] at h1; cases h1
   | settle h1 _ _ => rw [hG] at h1; cases h1
 | sweep _ _ hp _ => omega
 | idle h1 _ => exact absurd hph h1
theorem At.begin {R : List Rw} {ws C G y : List Int} {ov : Bool} {W N a : Int} {P : Nat → Prop} (hA : AOk R ws) (hW : W = 32 * R.length) (hc : Chn R ws y P) (ha : y[0]? = some a) (h : (C,G,ov) = begS R W [a]) : At C G ov y 0 ∧ CyI R C G 1 0 0 N ∧ C[a.toNat]? ≠ some 0 := by
 have ham := List.mem_of_getElem? ha
 have hrep : ∀ b ∈ y,(List.replicate W.toNat (0 : Int))[b.toNat]? = some 0 := by
  intro b hb
  have := (hc.box b hb).bounds hA
  rw [List.getElem?_replicate,if_pos (by omega)]
 have hao : a ∈ objs R := (obj_iff hA a).2 (hc.box a ham).obj6
 have h : (C,G,ov) = ((List.replicate W.toNat 0).set a.toNat 1,[a],false) := by
  rw [h]
  show shade R 1 a (List.replicate W.toNat 0,[],false) = _
  unfold shade
  rw [if_pos ⟨rfl,hao,hrep a ham⟩]
  rfl
 cases h
 have hl := (List.getElem?_eq_some_iff.1 (hrep a ham)).1
 have hself : ((List.replicate W.toNat (0 : Int)).set a.toNat 1)[a.toNat]? = some 1 := List.getElem?_set_self hl
 refine ⟨⟨⟨a,ha,rfl⟩,rfl,fun j b hj hb => ?_⟩,.inl ⟨rfl,⟨fun x hx => ?_,fun x hx => ?_,by simp⟩,rfl⟩,by rw [hself]; decide⟩
 ·have hbm := List.mem_of_getElem? hb
  rw [List.getElem?_set_ne]
  ·exact hrep b hbm
  ·intro e
   have b1 := (hc.box a ham).bounds hA
   have b2 := (hc.box b hbm).bounds hA
   have e : a = b := by omega
   subst e
   have := (List.getElem?_inj (List.getElem?_eq_some_iff.1 ha).1 hc.nd).1 (ha.trans hb.symm)
   omega
 ·rw [List.mem_singleton.1 hx]; exact hao
 ·rw [List.mem_singleton.1 hx]; exact hself
structure Grown (R : List Rw) (ws l : List Int) : Prop where
 box : ∀ b ∈ l,Kept R ws b 5 2
 nd : l.Nodup
 zero : ∀ a ∈ l,∀ j,0 ≤ j → j < 2 → ws[(a + 1 + j).toNat]? = some 0
 cnt : objCount R = l.length
theorem Grown.alloc {R R' : List Rw} {ws ws' l : List Int} {a e : Int} (hA : AOk R ws) (h : Grown R ws l) (hr : l.length < R.length) (hs : Alloct R ws 5 2 a e R' ws') : e = 0 ∧ Grown R' ws' (l ++ [a]) := by
 have he : e = 0 := by have := alloct_err hA hs (by rw [h.cnt]; omega); rw [if_pos (by decide)] at this; exact this
 obtain ⟨h1,h2,h3,h4,h5,_,h7⟩ := alloct_ok hA hs he
 refine ⟨he,fun b hb => ?_,?_,fun b hb j hj0 hj1 => ?_,?_⟩
 ·rcases List.mem_append.1 hb with hb | hb
  ·exact h5 b 5 2 (h.box b hb)
  ·rw [List.mem_singleton.1 hb]; exact h1
 ·rw [List.nodup_append]
  refine ⟨h.nd,by simp,fun x hx y hy e => ?_⟩
  rw [List.mem_singleton.1 hy] at e
  subst e
  exact h2 (h.box x hx).obj6
 ·rcases List.mem_append.1 hb with hb | hb
  ·rw [h7 b 5 2 j (h.box b hb) hj0 hj1]; exact h.zero b hb j hj0 hj1
  ·rw [List.mem_singleton.1 hb]; exact h4 j hj0 hj1
 ·rw [h3,h.cnt,List.length_append]; rfl
theorem Grown.chn {R : List Rw} {ws l : List Int} (h : Grown R ws l) : Chn R ws l (fun _ => False) :=
 ⟨h.box,h.nd,fun a ha => .ok 5 2 0 (h.box a ha) (by omega) (h.zero a ha 1 (by omega) (by omega)),fun _ _ _ k => k.elim⟩
theorem Stepd.cy0 {R R' : List Rw} {ws ws' C C' G G' : List Int} {ov ov' : Bool} {ph sp cy W p s y : Int} {out : List Gn} (h : Stepd R ws C G ov ph sp cy W out R' ws' C' G' ov' p s y) : ∃ y0,Stepd R ws C G ov ph sp 0 W out R' ws' C' G' ov' p s y0 := by
 cases h with
 | mark _ _ _ _ _ _ _ hp hm => exact ⟨_,.mark _ _ _ _ _ _ _ hp hm⟩
 | sweep _ _ hp hs => exact ⟨_,.sweep _ _ hp hs⟩
 | idle h1 h2 => exact ⟨_,.idle h1 h2⟩
theorem stepd_spF {R R' : List Rw} {ws ws' C C' G G' : List Int} {ov ov' : Bool} {ph sp cy W N p s y : Int} {out : List Gn} (h : CyI R C G ph sp cy N) (hs0 : 0 ≤ sp ∧ sp ≤ N) (hs : Stepd R ws C G ov ph sp cy W out R' ws' C' G' ov' p s y) : 0 ≤ s ∧ s ≤ N := by
 cases hs with
 | mark _ _ _ _ _ _ _ _ hm => cases hm with
  | scan _ _ _ _ _ _ _ _ _ _ => exact hs0
  | keep _ _ _ _ _ _ _ _ _ _ _ _ _ => exact hs0
  | sweep _ _ _ _ => exact ⟨Int.le_refl _,by omega⟩
 | sweep _ _ hp _ =>
  rcases h with ⟨q,_⟩ | ⟨_,_,h0,h1⟩ | ⟨q,_⟩
  ·omega
  ·exact ⟨by omega,by omega⟩
  ·omega
 | idle _ _ => exact hs0
theorem loadedF_det {R : List Rw} {ws : List Int} {a i x y : Int} (h : Loaded R ws a i x 0) (h' : Loaded R ws a i y 0) : x = y := by
 cases h with
 | ok _ _ _ _ _ h1 =>
  cases h' with
  | ok _ _ _ _ _ h2 => rw [h1] at h2; exact Option.some.inj h2
structure Run (R : List Rw) (ws wh K : List Int) (out : List Gn) : Prop where
 ke : ∀ a k l,Kept R ws a k l → Kept R wh a k l
 w0 : ∀ a j y,j ≠ 1 → Loaded R ws a j y 0 → Loaded R wh a j y 0
 w1 : ∀ a y,a ∉ K → Loaded R ws a 1 y 0 → Loaded R wh a 1 y 0
 wk : ∀ a ∈ K,Loaded R wh a 1 0 0 ∧ (∃ l,Kept R ws a 5 l) ∧ ∃ y,Loaded R ws a 1 y 0 ∧ y ≠ 0
 nd : K.Nodup
 ou : ∀ g ∈ out,g.2.2.2 = true → g.2.1 ∈ K ∧ ∃ l,Kept R ws g.2.1 5 l ∧ (g.2.2.1.length : Int) = l ∧ ∀ (i : Nat) (x : Int),g.2.2.1[i]? = some x → (i ≠ 1 → Loaded R ws g.2.1 i x 0) ∧ (i = 1 → x ≠ 0)
theorem Run.start (R : List Rw) (ws : List Int) : Run R ws ws [] [] :=
 ⟨fun _ _ _ h => h,fun _ _ _ _ h => h,fun _ _ _ h => h,fun a h => (by cases h),List.nodup_nil,fun g h => (by cases h)⟩
theorem Run.kb {R : List Rw} {ws wh K : List Int} {out : List Gn} (hA : AOk R ws) (h : Run R ws wh K out) {a k l : Int} (hk : Kept R wh a k l) : Kept R ws a k l := by
 obtain ⟨k',l',h2⟩ := Kept.of hA hk.obj6
 obtain ⟨e1,e2⟩ := (h.ke _ _ _ h2).det9 hk
 subst e1 e2; exact h2
theorem Run.lb {R : List Rw} {ws wh K : List Int} {out : List Gn} (hA : AOk R ws) (h : Run R ws wh K out) {a j y : Int} (hj : j ≠ 1) (hl : Loaded R wh a j y 0) : Loaded R ws a j y 0 := by
 have hl0 := hl
 cases hl with
 | ok k l _ hK hi hx =>
  have hK2 := h.kb hA hK
  have hb := hK2.bounds hA
  have hlen := hA.len
  obtain ⟨v,hv⟩ : ∃ v,ws[(a + 1 + j).toNat]? = some v := ⟨_,List.getElem?_eq_getElem (by omega)⟩
  have h2 : Loaded R ws a j v 0 := .ok k l v hK2 hi hv
  rw [loadedF_det hl0 (h.w0 a j v hj h2)]; exact h2
theorem Run.skip {R : List Rw} {ws wh K : List Int} {out o2 : List Gn} (h : Run R ws wh K out) (ho : ∀ g ∈ o2,g.2.2.2 = false) : Run R ws wh K (out ++ o2) :=
 ⟨h.ke,h.w0,h.w1,h.wk,h.nd,fun g hg ht => by
  rcases List.mem_append.1 hg with q | q
  ·exact h.ou g q ht
  ·rw [ho g q] at ht; cases ht⟩
theorem Run.keep {R : List Rw} {ws wh w2 K Y C : List Int} {out : List Gn} {a e : Int} (hA : AOk R ws) (hAh : AOk R wh) (h : Run R ws wh K out) (hY : Wrds R wh a Y) (hS : Stored R wh a 1 0 e w2) (hD : Due R wh C a) : Run R ws w2 (K ++ [a]) (out ++ [(5,a,Y,true)]) := by
 obtain ⟨⟨l,hk⟩,_,x,hx,hx0⟩ := hD
 have hnk : a ∉ K := fun q => hx0 (loadedF_det hx (h.wk a q).1)
 have hi : (0 : Int) ≤ 1 ∧ 1 < l := by
  cases hx with
  | ok k2 l2 _ hK2 hi2 _ => have := (hK2.det9 hk).2; omega
 obtain ⟨s1,s2⟩ := stored_to hAh hS
 obtain ⟨_,o1,o2⟩ := stored_own hAh hk hi hS
 have hk0 := h.kb hA hk
 have hx2 : Loaded R ws a 1 x 0 := by
  have hb := hk0.bounds hA
  have hlen := hA.len
  obtain ⟨v,hv⟩ : ∃ v,ws[(a + 1 + 1).toNat]? = some v := ⟨_,List.getElem?_eq_getElem (by omega)⟩
  have h2 : Loaded R ws a 1 v 0 := .ok 5 l v hk0 hi hv
  rw [loadedF_det hx (h.w1 a v hnk h2)]; exact h2
 refine ⟨fun b k m hb => s1 _ _ _ (h.ke b k m hb),fun b j y hj hl => ?_,fun b y hb hl => ?_,fun b hb => ?_,?_,fun g hg ht => ?_⟩
 ·by_cases e : b = a
  ·subst e; exact o2 j y hj (h.w0 _ j y hj hl)
  ·exact s2 b j y e (h.w0 b j y hj hl)
 ·rw [List.mem_append,List.mem_singleton] at hb
  exact s2 b 1 y (fun q => hb (.inr q)) (h.w1 b y (fun q => hb (.inl q)) hl)
 ·rcases List.mem_append.1 hb with q | q
  ·obtain ⟨q1,q2⟩ := h.wk b q
   refine ⟨s2 b 1 0 (fun w => hnk (by rw [← w]; exact q)) q1,q2⟩
  ·rw [List.mem_singleton.1 q]
   exact ⟨o1,⟨l,hk0⟩,x,hx2,hx0⟩
 ·exact List.nodup_append.2 ⟨h.nd,by simp,fun p hp q hq w => hnk (by rw [← List.mem_singleton.1 hq,← w]; exact hp)⟩
 ·rcases List.mem_append.1 hg with q | q
  ·obtain ⟨q1,q2⟩ := h.ou g q ht
   exact ⟨List.mem_append_left _ q1,q2⟩
  ·rw [List.mem_singleton.1 q]
   refine ⟨List.mem_append_right _ (List.mem_singleton.2 rfl),l,hk0,?_,fun i y hy => ⟨fun hne => ?_,fun he => ?_⟩⟩
   ·have h1 := hY.1
    show (Y.length : Int) = l
    generalize hq : (Y.length : Int) = m at h1
    cases h1 with
    | no hno => exact absurd hk.obj6 hno
    | is k2 _ hK2 => exact (hK2.det9 hk).2
   ·exact h.lb hA (by omega) (hY.2 i y hy)
   ·have h1 := hY.2 i y hy
    rw [he] at h1
    have := loadedF_det h1 hx
    omega
theorem swept_count {ws C : List Int} {R : List Rw} {p : Int} {n : Nat} {out : List Gn} {R' : List Rw} (hR : RowsOk R) (h : SweptTo ws C R p n out R') : RowsOk R' ∧ objCount R' + out.length = objCount R := by
 induction h with
 | zero => exact ⟨hR,rfl⟩
 | skip _ _ _ _ _ ih => exact ih
 | free i out R1 R2 k X h hw hk hX hf ih =>
  obtain ⟨i1,i2⟩ := ih
  cases hf with
  | ok q s e he hs hat =>
   obtain ⟨f1,_,f3,_⟩ := free_objs i1 he hs _ hat
   refine ⟨f1,?_⟩
   rw [List.length_append]
   show _ + (out.length + 1) = _
   omega
theorem gone_kept (out : List Gn) : out.length = (keptOf out).length + (goneOf out).length := by
 induction out with
 | nil => rfl
 | cons g out ih =>
  unfold keptOf goneOf at *
  cases hg : g.2.2.2 with
  | true => simp [hg] at *; omega
  | false => simp [hg] at *; omega
theorem Stepd.count {R R' : List Rw} {ws ws' C C' G G' : List Int} {ov ov' : Bool} {ph sp cy W p s y : Int} {out : List Gn} (hA : AOk R ws) (h : Stepd R ws C G ov ph sp cy W out R' ws' C' G' ov' p s y) : objCount R' + (goneOf out).length = objCount R := by
 cases h with
 | mark _ _ _ _ _ _ _ hp hm =>
  cases hm with
  | scan _ _ _ _ _ _ _ _ _ _ => rfl
  | keep _ _ _ _ _ _ _ _ _ _ _ _ _ => rfl
  | sweep _ _ _ _ => rfl
 | sweep _ _ hp hs =>
  have f := hs.facts hA
  have hg : goneOf out = spots out := by
   unfold goneOf
   rw [List.filter_eq_self.2 (fun g hg => by rw [(f.each g hg).2.2]; decide)]
  have h2 := (swept_count hA.rows hs).2
  rw [hg,spots,List.length_map]; exact h2
 | idle _ _ => rfl
theorem stepd_numsF {R R' : List Rw} {ws C G ws' C' G' : List Int} {ov ov' : Bool} {ph sp cy W p s y : Int} {out : List Gn} (hsp : 0 ≤ sp) (hcy : 0 ≤ cy) (h : Stepd R ws C G ov ph sp cy W out R' ws' C' G' ov' p s y) : 0 ≤ s ∧ s ≤ sp + 1 ∧ 0 ≤ y ∧ y ≤ cy + 1 := by
 cases h with
 | mark _ _ _ _ _ _ _ _ hm => cases hm with
  | scan _ _ _ _ _ _ _ _ _ _ => exact ⟨hsp,by omega,hcy,by omega⟩
  | keep _ _ _ _ _ _ _ _ _ _ _ _ _ => exact ⟨hsp,by omega,hcy,by omega⟩
  | sweep _ _ _ _ => exact ⟨by omega,by omega,hcy,by omega⟩
 | sweep _ _ _ _ =>
  unfold swCy
  split <;> exact ⟨by omega,by omega,by omega,by omega⟩
 | idle _ _ => exact ⟨hsp,by omega,hcy,by omega⟩
theorem stepd_lenF {R R' : List Rw} {ws ws' C C' G G' : List Int} {ov ov' : Bool} {ph sp cy W p s y : Int} {out : List Gn} (h : Stepd R ws C G ov ph sp cy W out R' ws' C' G' ov' p s y) : out.length ≤ 32 := by
 cases h with
 | mark _ _ _ _ _ _ _ hp hm =>
  cases hm with
  | scan _ _ _ _ _ _ _ _ _ _ => exact Nat.zero_le _
  | keep _ _ _ _ _ _ _ _ _ _ _ _ _ => show 1 ≤ 32; omega
  | sweep _ _ _ _ => exact Nat.zero_le _
 | sweep _ _ hp hs => exact hs.le
 | idle _ _ => exact Nat.zero_le _
theorem cycle_lx (R : List Rw) (ws C G : List Int) (N W sp cy : Int) (L D Q : List PV) (z : ByteArray) (ov : Bool) (h : HM R ws C G N W L D Q z) (o : Unit → Obj) (ho : IsPow o) (A : List Int) (j : Int) (ca : List PV) (hca : ca = ipv A) (hj : j = A.length) (hAl : (A.length : Int) < 1000000) (hN : 1 ≤ N ∧ N ≤ 20) (hob : objCount R ≤ 40) (hcy : 0 ≤ cy ∧ cy ≤ 1000000) (hsp : 0 ≤ sp ∧ sp ≤ N) :
  CallF (fun _ => Tryz.prog) 17 [.p (.vsl (.sym j) true ca),.ptr 8 (.lit 0)] [hpA 0 1 5 6 3 W 0 sp cy,hpB 1 2 4 3 W,hpC 2 3 179 2 N,hpP 3 L,hpP 4 D,hpF 5 z ov,hpP 6 Q,(7,.fix 0 o),(8,.mix [.ptr 0 (.lit 0)])] 9 (fun r h n => ∃ (out : List Gn) (k cy' : Int) (R' : List Rw) (ws' C' G' : List Int) (ov' : Bool) (cells L' D' Q' : List PV) (z' : ByteArray) (sp' : Int),r = .p (.vsl (.sym k) true cells) ∧ h = [hpA 0 1 9 6 3 W 0 sp' cy',hpB 1 2 4 3 W,hpC 2 3 179 2 N,hpP 3 L',hpP 4 D',hpF 9 z' ov',hpP 6 Q',(7,.fix 0 o),(8,.mix [.ptr 0 (.lit 0)])] ∧ n = 10 ∧ HM R' ws' C' G' N W L' D' Q' z' ∧ cells = gpv out ∧ k = out.length ∧ 0 ≤ sp' ∧ sp' ≤ N ∧ 0 ≤ cy' ∧ cy' ≤ cy + 300 ∧ Cy2 R R' ws' C' (A ++ keptOf out) (32 * N) (goneOf out) ∧ Run R ws ws' (keptOf out) out ∧ objCount R' + (goneOf out).length = objCount R) := by
 refine callF_of_body tok Tryz.func17 (by kernel_rfl) rfl rfl rfl ?_; conv => cbv
 refine cfr (begin_lx R ws C G N W 0 sp cy L D Q z ov h o ho A j ca hca hj hAl rfl) [(0,0),(1,1),(2,2),(3,3),(4,4),(5,5),(6,6),(7,7)] (fun r h' n' hrr => ?_)
 obtain ⟨C3,G3,ov3,Q3,z3,e1,e2,e3,h3,hb1⟩ := hrr
 subst e1 e2 e3
 have hb := Cy1.begin (ws := ws) h3.a (by have := h3.n; have := h3.w; omega) hb1
 conv => cbv
 have hNR := h.n
 have hW0 := h.w
 have hol : ((objs R).length : Int) = objCount R := by unfold objs; rw [objs_length h.a.rows]
 have hcyc0 : Cyc R R ws C3 G3 ov3 1 sp N A [] [] := .inl ⟨rfl,rfl,rfl,by rw [List.append_nil]; exact hb⟩
 have hI0 : CyI R C3 G3 1 sp 0 N := .inl ⟨rfl,hb.g,rfl⟩
 have hlft := left_le (R := R) (C := C3) (ph := 1) (sp := sp) (N := N) (by omega) (by omega)
 refine LoopF.mk (fun kk s => ∃ (i m ph sp2 cy2 : Int) (Rh : List Rw) (wh Ch Gh : List Int) (out : List Gn) (Lh Dh Qh : List PV) (zh : ByteArray) (ovh : Bool) (cells : List PV),s = ⟨.undef :: .ptr 8 (.lit 0) :: (undefs 2 ++ .sl 10 42 4 (.lit 0) (.sym m) :: .p (.int .i64 (.sym i)) :: undefs 17),[hpA 0 1 9 6 3 W ph sp2 cy2,hpB 1 2 4 3 W,hpC 2 3 179 2 N,hpP 3 Lh,hpP 4 Dh,hpF 9 zh ovh,hpP 6 Qh,(7,.fix 0 o),(8,.mix [.ptr 0 (.lit 0)]),hpP 10 cells],11⟩ ∧ 0 ≤ i ∧ i ≤ 300 ∧ kk = (300 - i).toNat ∧ HM Rh wh Ch Gh N W Lh Dh Qh zh ∧ (ph = 0 ∨ CyI Rh Ch Gh ph sp2 0 N) ∧ 0 ≤ sp2 ∧ sp2 ≤ N ∧ 0 ≤ cy2 ∧ cy2 ≤ cy + i ∧ left_ Rh Ch ph sp2 N + i ≤ 2 * objCount R + 1 + N ∧ Cyc R Rh wh Ch Gh ovh ph sp2 N A (keptOf out) (goneOf out) ∧ Run R ws wh (keptOf out) out ∧ objCount Rh + (goneOf out).length = objCount R ∧ cells = gpv out ∧ m = out.length ∧ m ≤ 400 * i) 300 _
  (Re.at [(0,0),(1,1),(2,2),(3,3),(4,4),(6,6),(7,7),(8,8),(9,9)] [10]) ⟨0,0,1,sp,cy,R,ws,C3,G3,[],L,D,Q3,z3,ov3,[],rfl,by omega,by omega,by omega,h3,.inr hI0,by omega,by omega,by omega,by omega,by omega,hcyc0,Run.start R ws,rfl,rfl,rfl,by omega⟩ ?_
 clear h3 hcyc0 hI0 hlft hb hb1
 rintro kk s ⟨i,m,ph,sp2,cy2,Rh,wh,Ch,Gh,out,Lh,Dh,Qh,zh,ovh,cells,rfl,hi0,hi1,hkk,hh,hI,hs0,hs1,hc0,hc1,hl,hcyc,hrun,hcnt,hcells,hm,hmb⟩
 have hl : left_ Rh Ch ph sp2 N + i ≤ 2 * ((objCount R : Nat) : Int) + 1 + N := hl
 have hNRh := hh.n
 have hl0 : 0 ≤ left_ Rh Ch ph sp2 N := by
  unfold left_
  split
  ·omega
  ·split <;> omega
 conv => cbv
 refine Br.mk (fun q => ?_) (fun q => ?_)
 case refine_2 =>
  have q : ¬ i < 300 := q
  omega
 have q : i < 300 := q
 conv => cbv
 refine cfr (phase_lx Rh wh Ch Gh N W ph sp2 cy2 Lh Dh Qh zh ovh) [(0,0),(1,1),(2,2),(3,3),(4,4),(5,9),(6,6)] (fun r h' n' ⟨e1,e2,e3⟩ => ?_)
 subst e1 e2 e3
 conv => cbv
 refine Br.mk (fun q2 => ?_) (fun q2 => ?_)
 case refine_2 =>
  have q2 : ph = 0 := Classical.byContradiction q2
  have hfin : Cy2 R Rh wh Ch (A ++ keptOf out) (32 * N) (goneOf out) := by
   rcases hcyc with ⟨k,_⟩ | ⟨k,_⟩ | ⟨_,k⟩
   ·omega
   ·omega
   ·exact k
  subst q2
  conv => cbv
  refine RetF.mk [.p (.vsl (.sym m) true cells)] [hpA 0 1 9 6 3 W 0 sp2 cy2,hpB 1 2 4 3 W,hpC 2 3 179 2 N,hpP 3 Lh,hpP 4 Dh,hpF 9 zh ovh,hpP 6 Qh,(7,.fix 0 o),(8,.mix [.ptr 0 (.lit 0)])] 10 (Re.at [(0,0),(1,1),(2,2),(3,3),(4,4),(6,6),(7,7),(8,8),(9,9)] []) rfl ⟨out,m,cy2,Rh,wh,Ch,Gh,ovh,cells,Lh,Dh,Qh,zh,sp2,rfl,rfl,rfl,hh,hcells,hm,hs0,hs1,hc0,by omega,hfin,hrun,hcnt⟩
 have q2 : ¬ ph = 0 := q2
 have hI2 : CyI Rh Ch Gh ph sp2 0 N := hI.resolve_left q2
 have hlp : 1 ≤ left_ Rh Ch ph sp2 N := by
  unfold left_
  rcases hI2 with ⟨k,_⟩ | ⟨k,_,_,k2⟩ | ⟨k,_⟩
  ·rw [if_pos k]; omega
  ·rw [if_neg (by omega),if_pos k]; omega
  ·exact absurd k q2
 conv => cbv
 refine cfr (step_lx Rh wh Ch Gh N W ph sp2 cy2 Lh Dh Qh zh ovh hh o ho ⟨hs0,by omega⟩ ⟨hc0,by omega⟩) [(0,0),(1,1),(2,2),(3,3),(4,4),(5,9),(6,6),(7,7)] (fun r h' n' hrr => ?_)
 obtain ⟨o2,kx,ph',sp',cy',R2,w2,C2,G2,ov2,cells',Lx,Dx,Qx,z2,e1,e2,e3,h2,hcs2,hkx,hst⟩ := hrr
 subst e1 e2 e3
 have hhc := hh.c
 have hhw := hh.w
 obtain ⟨y0,hst0⟩ := hst.cy0
 have hgo := stepd_cy (at_ := []) hh.a (by omega) (by omega) hh.w hI2 (fun x hx => by cases hx) hst0
 have hsp := stepd_spF hI2 ⟨hs0,hs1⟩ hst0
 have hl2 := hgo.2.1 q2
 have hcc := hcyc.stepd hh.a hNRh hh.w hh.c ⟨hs0,hs1⟩ (fun hp => by rcases hI2 with ⟨k,_⟩ | ⟨_,_,_,k⟩ | ⟨k,_⟩ <;> omega) hst0
 have hct := hst.count hh.a
 have hnum := stepd_numsF hs0 hc0 hst
 have hsl := stepd_lenF hst0
 have hI3 : ph' = 0 ∨ CyI R2 C2 G2 ph' sp' 0 N := by
  rcases hgo.1 with ⟨k1,k2,_⟩ | ⟨k1,_,k2⟩ | ⟨k,_⟩
  ·exact .inr (.inl ⟨k1,k2,rfl⟩)
  ·exact .inr (.inr (.inl ⟨k1,rfl,k2⟩))
  ·exact .inl k
 conv => cbv
 have hcl2 : cells'.length = 4 * o2.length := by rw [hcs2,gpv_length]
 have hcl1 : cells.length = 4 * out.length := by rw [hcells,gpv_length]
 refine Need.mk (by show (cells'.length : Int) = kx * 4; omega) ?_
 conv => cbv
 refine Room.new ⟨by show (cells.length : Int) = m * 4; omega,by show (m + kx) * 48 ≤ 140737488355328; omega,by show m + kx ≤ 9223372036854775807; omega⟩ ?_
 conv => cbv
 refine Upd.mk fun c2 hc2 => ?_
 have hc2 : c2 = gpv (out ++ o2) := by rw [show c2 = cells ++ cells' from hc2,hcells,hcs2,gpv_app]
 conv => cbv
 refine Sum.mk fun m2 hm2 => ?_
 have hm2 : m2 = m + kx := hm2
 have hm3 : m2 = ((out ++ o2).length : Int) := by rw [hm2,hm,hkx,List.length_append]; rfl
 conv => cbv
 refine Fit.mk (by show (-9223372036854775808 : Int) ≤ i + 1; omega) (by show i + 1 ≤ 9223372036854775807; omega) fun i2 hi2 => ?_
 have hi2 : i2 = i + 1 := hi2
 conv => cbv
 obtain ⟨hcy2,_,hc3⟩ := hcc
 have hrun2 : Run R ws w2 (keptOf out ++ keptOf o2) (out ++ o2) := by
  rcases hc3 with ⟨hw,hk0⟩ | ⟨hp,a,Y,hout,hY,hSt,hD⟩
  ·rw [hw,hk0,List.append_nil]
   refine hrun.skip (fun g hg => ?_)
   cases hgb : g.2.2.2 with
   | false => rfl
   | true =>
    have : g.2.1 ∈ keptOf o2 := List.mem_map.2 ⟨g,List.mem_filter.2 ⟨hg,hgb⟩,rfl⟩
    rw [hk0] at this; cases this
  ·have hRR : Rh = R := by rcases hcyc with ⟨_,e,_⟩ | ⟨k,_⟩ | ⟨k,_⟩ <;> first | exact e | omega
   have hAh := hh.a
   rw [hRR] at hY hSt hD hAh
   rw [hout]
   exact hrun.keep h.a hAh hY hSt hD
 have hka : keptOf (out ++ o2) = keptOf out ++ keptOf o2 := by unfold keptOf; rw [List.filter_append,List.map_append]
 have hga : goneOf (out ++ o2) = goneOf out ++ goneOf o2 := by unfold goneOf; rw [List.filter_append,List.map_append]
 have hcnt2 : objCount R2 + (goneOf (out ++ o2)).length = objCount R := by rw [hga,List.length_append]; omega
 rw [← hka] at hrun2 hcy2
 rw [← hga] at hcy2
 refine Again.mk (300 - i2).toNat _ (by omega) (Re.at [(0,0),(1,1),(2,2),(3,3),(4,4),(6,6),(7,7),(8,8),(9,9),(11,10)] []) ⟨i2,m2,ph',sp',cy',R2,w2,C2,G2,out ++ o2,Lx,Dx,Qx,z2,ov2,c2,rfl,by omega,by omega,rfl,h2,hI3,hsp.1,hsp.2,hnum.2.2.1,(by have := hnum.2.2.2; omega),(show left_ R2 C2 ph' sp' N + i2 ≤ 2 * ((objCount R : Nat) : Int) + 1 + N by omega),hcy2,hrun2,hcnt2,hc2,hm3,by omega⟩
end Go.Proofs.YtjfdfbpgckilpaaGreatDoor
