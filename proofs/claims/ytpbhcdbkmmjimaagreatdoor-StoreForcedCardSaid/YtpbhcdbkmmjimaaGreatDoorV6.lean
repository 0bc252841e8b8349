/-
  Layer 21: boxes with finalisers, and the goroutines that make them go (pure).
-/
import Derived.Test.YtpbhcdbkmmjimaaGreatDoorV2
import Derived.Test.YtpbhcdbkmmjimaaGreatDoorVw
namespace Go.Proofs.YtpbhcdbkmmjimaaGreatDoor
open Go Go.LX
set_option maxRecDepth 100000
set_option linter.unusedVariables false
set_option linter.unusedSimpArgs false
set_option maxHeartbeats 32000000
theorem allot_one {s t : Hst} {p : Int × Int} {x : List Int} (h : Allot s [p] false x t) : t = s := by
 cases h with
 | no i k n a e y u R R' ws hi h ha he hb =>
  have hi0 : i = 0 := by
   have := (List.getElem?_eq_some_iff.1 hi).1
   have h1 : [p].length = 1 := rfl
   omega
  subst hi0
  have hu : y = [] ∧ u = s := by
   generalize hq : List.take 0 [p] = q at h
   cases h with
   | nil => exact ⟨rfl,rfl⟩
   | snoc l x t k n a R ws h ha =>
    have : ([] : List (Int × Int)) = l ++ [(k,n)] := hq
    simp at this
  obtain ⟨rfl,rfl⟩ := hu
  have hR : R' = u.R := by
   generalize hq : (0 : Nat) = q at hb
   cases hb with
   | zero => rfl
   | next i a e R1 R2 h ha hf => simp at ha
  rw [hR]
theorem usedW_mono {c : Int} : ∀ {R : List Rw},Mono c R → usedW R = objCount R * wordsOf c
 | [],_ => by unfold usedW objCount; simp
 | e :: R,h => by
  have h1 := usedW_mono (R := R) fun x hx => h x (List.mem_cons_of_mem _ hx)
  unfold usedW objCount at h1 ⊢
  rw [List.map_cons,List.sum_cons,List.map_cons,List.sum_cons,h1,Int.natCast_add,Int.add_mul]
  congr 1
  by_cases hn : e.2 = []
  ·rw [hn]; simp
  ·rw [h e (List.mem_cons_self ..) hn]
theorem row_words {c : Int} (h : wordsOf c ≠ 0) : (slotsOf c : Int) * wordsOf c = 32 ∧ 1 ≤ wordsOf c := by
 have hc : c = 0 ∨ c = 1 ∨ c = 2 ∨ c = 3 := by
  refine Classical.byContradiction fun k => h ?_
  unfold wordsOf
  rw [if_neg (fun q => k (.inl q)),if_neg (fun q => k (.inr (.inl q))),if_neg (fun q => k (.inr (.inr (.inl q)))),if_neg (fun q => k (.inr (.inr (.inr q))))]
 rcases hc with e | e | e | e <;> (rw [e]; decide)
theorem row_le {e : Rw} (h : e.2 ≠ [] → wordsOf e.1 ≠ 0 ∧ e.2.length = slotsOf e.1 ∧ true ∈ e.2) : (e.2.count true : Int) * wordsOf e.1 ≤ 32 ∧ (32 ≤ (e.2.count true : Int) * wordsOf e.1 → e.2 ≠ [] ∧ false ∉ e.2) := by
 by_cases hn : e.2 = []
 ·rw [hn]
  refine ⟨by simp,fun q => ?_⟩
  exfalso
  simp at q
 ·obtain ⟨h1,h2,_⟩ := h hn
  obtain ⟨w1,w2⟩ := row_words h1
  have hc := List.count_le_length (a := true) (l := e.2)
  rw [h2] at hc
  have hm : (e.2.count true : Int) * wordsOf e.1 ≤ (slotsOf e.1 : Int) * wordsOf e.1 := Int.mul_le_mul_of_nonneg_right (by omega) (by omega)
  refine ⟨by omega,fun q => ⟨hn,fun hf => ?_⟩⟩
  have hlt : e.2.count true < slotsOf e.1 := by
   rcases Nat.lt_or_ge (e.2.count true) (slotsOf e.1) with k | k
   ·exact k
   ·have := List.count_eq_length.1 (show e.2.count true = e.2.length by omega) false hf
    cases this
  have hm2 : ((e.2.count true : Int) + 1) * wordsOf e.1 ≤ (slotsOf e.1 : Int) * wordsOf e.1 := Int.mul_le_mul_of_nonneg_right (by omega) (by omega)
  rw [Int.add_mul,Int.one_mul] at hm2
  omega
theorem used_le : ∀ {R : List Rw},RowsOk R → usedW R ≤ 32 * R.length ∧ (32 * R.length ≤ usedW R → ∀ e ∈ R,e.2 ≠ [] ∧ false ∉ e.2)
 | [],_ => ⟨Int.le_refl _,fun _ e he => by cases he⟩
 | e :: R,h => by
  obtain ⟨h1,h2⟩ := used_le (R := R) fun x hx => h x (List.mem_cons_of_mem _ hx)
  obtain ⟨g1,g2⟩ := row_le (h e (List.mem_cons_self ..)).2
  unfold usedW at h1 h2 ⊢
  rw [List.map_cons,List.sum_cons,List.length_cons]
  refine ⟨by omega,fun q x hx => ?_⟩
  rcases List.mem_cons.1 hx with rfl | hx
  ·exact g2 (by omega)
  ·exact h2 (by omega) x hx
theorem full_no {R R' : List Rw} {ws ws' : List Int} {k n a e : Int} (hR : RowsOk R) (hf : 32 * R.length ≤ usedW R) (h : Alloct R ws k n a e R' ws') : e ≠ 0 := by
 have hall := (used_le hR).2 hf
 cases h with
 | arg _ => decide
 | room _ _ _ _ _ => decide
 | ok i s _ R' h ha hib hat =>
  exfalso
  cases ha with
  | old i s l h0 hi hs h1 h2 => exact (hall _ (List.mem_of_getElem? hi)).2 (List.mem_of_getElem? hs)
  | fresh i d h0 h2 hi h3 => exact (hall _ (List.mem_of_getElem? hi)).1 rfl
structure FbI (N : Int) (s : Hst) (l : List Int) : Prop where
 g : Good N s
 p : s.ph = 0
 bx : ∀ b ∈ l,Kept s.R s.ws b 5 2
 on : ∀ a k,Kept s.R s.ws a 5 k → a ∈ l
 w0 : ∀ b ∈ l,Loaded s.R s.ws b 0 0 0
 w1 : ∀ b ∈ l,Loaded s.R s.ws b 1 10 0
 nd : l.Nodup
theorem FbI.new {N : Int} {s : Hst} (h : Bare0 N s) : FbI N s [] :=
 ⟨h.g,h.p,fun b hb => (by cases hb),fun a k hk => absurd hk.obj6 (h.none a),fun b hb => (by cases hb),fun b hb => (by cases hb),List.nodup_nil⟩
theorem FbI.cycle {N W : Int} {s t u : Hst} {l : List Int} {n : Nat} {out : List Gn} (hW : W = 32 * N) (h : FbI N s l) (hb : Bgn W s [] t) (hm : Many W t n out u) (hp : u.ph = 0) : (∀ x,x ∈ keptOf out ↔ x ∈ l) ∧ (keptOf out).length = l.length ∧ Nf u.R u.ws ∧ (∀ x ∈ l,x ∈ objs u.R ∧ Kept u.R u.ws x 5 2) ∧ Good N u := by
 have hA := h.g.a
 have hgt := hb.good hW h.g
 have hgu := (hm.good hW hgt).1
 obtain ⟨hc,hr,_⟩ := hm.cyc hW hgt hb.p (hb.cy1 hW h.g)
 rcases hc with ⟨k,_⟩ | ⟨k,_⟩ | ⟨_,h2⟩
 ·omega
 ·omega
 rw [hb.r,List.nil_append] at h2
 rw [hb.r,hb.w] at hr
 have hKl : ∀ x ∈ keptOf out,x ∈ l := by
  intro x hx
  obtain ⟨_,⟨m,hk⟩,_⟩ := hr.wk x hx
  exact h.on x m hk
 have hev : ∀ a ∈ keptOf out,∀ i x,Loaded s.R u.ws a i x 0 → x % 2 = 0 := by
  intro a ha i x hx
  have hal := hKl a ha
  have hk := hr.ke _ _ _ (h.bx a hal)
  have hi : i = 0 ∨ i = 1 := by
   cases hx with
   | ok k l _ hK hi _ => have := (hK.det9 hk).2; omega
  rcases hi with e | e
  ·rw [e] at hx
   rw [loadedF_det hx (hr.w0 a 0 0 (by decide) (h.w0 a hal))]; decide
  ·rw [e] at hx
   rw [loadedF_det hx (hr.wk a ha).1]; decide
 have hlK : ∀ x ∈ l,x ∈ keptOf out := by
  intro x hx
  refine Classical.byContradiction fun hn => ?_
  have hxo : x ∈ objs s.R := (obj_iff hA x).2 (h.bx x hx).obj6
  have hc0 : ¬ u.C[x.toNat]? = some 0 := fun q => h2.done.due x ⟨⟨2,hr.ke _ _ _ (h.bx x hx)⟩,q,10,hr.w1 x 10 hn (h.w1 x hx),by decide⟩
  have hrch : Rch s.R u.ws (keptOf out) x := Classical.byContradiction fun q => hc0 ((h2.done.iff x hxo).2 q)
  exact hn (rch_even hev hrch)
 have hiff : ∀ x,x ∈ keptOf out ↔ x ∈ l := fun x => ⟨hKl x,hlK x⟩
 refine ⟨hiff,((List.perm_ext_iff_of_nodup hr.nd h.nd).2 hiff).length_eq,fun a m x hk hx => ?_,fun x hx => ?_,hgu⟩
 ·have hk0 := h2.kept a 5 m hk
  have hal := h.on a m (hr.kb hA hk0)
  have hx0 := loaded_to (R := s.R) (ws := u.ws) h2.kept rfl hx
  exact loadedF_det hx0 (hr.wk a (hlK a hal)).1
 ·have hxo : x ∈ objs s.R := (obj_iff hA x).2 (h.bx x hx).obj6
  have hxu : x ∈ objs u.R := by
   rw [h2.rest x]
   refine ⟨hxo,fun q => ?_⟩
   have := ((h2.go x).1 q).2.1
   exact (h2.done.iff x hxo).1 this (.root x (hlK x hx) hxo)
  exact ⟨hxu,kept_to hgu.a h2.kept hxu (hr.ke _ _ _ (h.bx x hx))⟩
theorem More.fb {N : Int} {s t : Hst} {l : List Int} {a k m : Int} (h : FbI N s l) (hm : More s t [a]) (hk : Kept t.R t.ws a k m) (hk5 : k ≠ 5) : FbI N t l := by
 refine ⟨hm.good h.g,by rw [hm.ph]; exact h.p,fun b hb => hm.kept _ _ _ (h.bx b hb),fun b q hq => ?_,fun b hb => hm.ld _ _ _ (h.w0 b hb),fun b hb => hm.ld _ _ _ (h.w1 b hb),h.nd⟩
 rcases (hm.obj b).1 ((obj_iff hm.a b).2 hq.obj6) with w | w
 ·obtain ⟨k2,l2,h2⟩ := Kept.of h.g.a ((obj_iff h.g.a b).1 w)
  obtain ⟨e1,e2⟩ := (hm.kept b k2 l2 h2).det9 hq
  exact h.on b l2 (by rw [← e1]; exact h2)
 ·rw [List.mem_singleton.1 w] at hq
  exact absurd ((hk.det9 hq).1) hk5
theorem FbI.gor {N W : Int} {s t : Hst} {l x : List Int} {o : List Gn} {e : Int} (hW : W = 32 * N) (h : FbI N s l) (hA : Alcd W 100 0 [(4,10)] [] s x o e t) : (e = 0 ∧ o = [] ∧ (∃ a,x = [a]) ∧ FbI N t l ∧ objCount t.R = objCount s.R + 1) ∨ ((∀ y,y ∈ keptOf o ↔ y ∈ l) ∧ (keptOf o).length = l.length ∧ (∀ y ∈ l,Kept t.R t.ws y 5 2) ∧ (e = 0 ∨ e = 9)) := by
 have hn := h.g.n
 have key : ∀ t0 b y o' u,Pre W 100 [] s t0 → Tried W [(4,10)] [] t0 b y o' u → (∃ k,Tried W [(4,10)] [] t0 b y o' u ∧ o' = [] ∧ b = true ∧ Allot t0 [(4,10)] true y u ∧ k = 0 ∧ t0 = s) ∨ ((∀ y,y ∈ keptOf o' ↔ y ∈ l) ∧ (keptOf o').length = l.length ∧ ∀ y ∈ l,Kept u.R u.ws y 5 2) := by
  intro t0 b y o' u hpre htr
  have htr0 := htr
  cases htr with
  | quick y u hal =>
   rcases hpre with ⟨_,hd,hb⟩ | ⟨_,rfl⟩
   ·exfalso
    cases hal with
    | ok y u hal =>
     generalize hq : [((4 : Int),(10 : Int))] = q at hal
     cases hal with
     | nil => cases hq
     | snoc l' x' t' k n a R ws hal2 ha =>
      have hl0 : l' = [] ∧ (k,n) = (4,10) := by
       cases l' with
       | nil => exact ⟨rfl,by simpa using hq.symm⟩
       | cons p l' => simp at hq
      obtain ⟨rfl,hkn⟩ := hl0
      have ht' : t' = t0 := by
       generalize hq2 : ([] : List (Int × Int)) = q2 at hal2
       cases hal2 with
       | nil => rfl
       | snoc _ _ _ _ _ _ _ _ _ _ => simp at hq2
      subst ht'
      refine full_no (by rw [hb.r]; exact h.g.a.rows) ?_ ha rfl
      rw [hb.r]
      omega
   ·exact .inl ⟨0,htr0,rfl,rfl,hal,rfl,rfl⟩
  | forced b y o1 o2 k1 k2 t1 t2 t3 t4 t5 h1 h2 p2 h3 h4 p4 h5 =>
   refine .inr ?_
   have e1 := allot_one h1
   subst e1
   rcases hpre with ⟨_,_,hb⟩ | ⟨_,rfl⟩
   ·obtain ⟨c1,c2,c3,c4,c5⟩ := h.cycle hW hb h2 p2
    have g3 := h3.good hW c5
    have n3 := h3.shr.nf c3
    have n4 := h4.nf hW g3 n3
    have g4 := (h4.good hW g3).1
    have hm5 := (h5.good g4).2.1
    rw [keptOf_app,n4.2,List.append_nil]
    refine ⟨c1,c2,fun z hz => hm5.kept _ _ _ ?_⟩
    have hpr : Prot t4 z := (h3.prot hW c5 (by rw [List.nil_append]; exact (c1 z).2 hz) (c4 z hz).1).many hW g3 h4
    exact kept_to g4.a n4.1.k hpr.1 (by rw [h3.r,h3.w]; exact (c4 z hz).2)
   ·obtain ⟨_,rfl,rfl⟩ := h2.idle h.p
    obtain ⟨c1,c2,c3,c4,c5⟩ := h.cycle hW h3 h4 p4
    have hm5 := (h5.good c5).2.1
    rw [List.nil_append]
    exact ⟨c1,c2,fun z hz => hm5.kept _ _ _ (c4 z hz).2⟩
 cases hA with
 | ok x o1 o2 t0 t1 t h0 h1 h2 =>
  obtain ⟨e2,e3⟩ := h2.none
  subst e2 e3
  rw [List.append_nil]
  rcases key _ _ _ _ _ h0 h1 with ⟨_,_,rfl,_,hal,_,rfl⟩ | ⟨c1,c2,c3⟩
  ·obtain ⟨g1,m1,xl⟩ := hal.good h.g
   have xl := xl rfl
   obtain ⟨a,rfl⟩ : ∃ a,x = [a] := by
    match x,xl with
    | [a],_ => exact ⟨a,rfl⟩
   have hk := hal.kinds h.g 0 a (4,10) rfl rfl
   exact .inl ⟨rfl,rfl,⟨a,rfl⟩,m1.fb h hk (by decide),m1.cnt⟩
  ·exact .inr ⟨c1,c2,c3,.inl rfl⟩
 | room x o t0 t h0 h1 =>
  rcases key _ _ _ _ _ h0 h1 with ⟨_,_,_,q,_⟩ | ⟨c1,c2,c3⟩
  ·cases q
  ·exact .inr ⟨c1,c2,c3,.inr rfl⟩
theorem FbI.box {N W : Int} {s t : Hst} {l x : List Int} {o : List Gn} {e : Int} (hW : W = 32 * N) (hN : 2 ≤ N) (h : FbI N s l) (hm : Mono 0 s.R) (hc : objCount s.R = l.length) (hl : l.length < 8) (hA : Alcd W 100 0 [(5,2)] l s x o e t) : e = 0 ∧ (∃ a,x = [a] ∧ a ∉ l ∧ More s t [a] ∧ Kept t.R t.ws a 5 2) ∧ ¬ Renewed W 100 [(5,2)] l s ∧ Good N t ∧ Mono 0 t.R := by
 have hn := h.g.n
 have hu : usedW s.R = objCount s.R * 4 := usedW_mono hm
 have hl2 : ∀ p ∈ [((5 : Int),(2 : Int))],Val p ∧ ofN p.2 = 0 := by
  intro p hp
  rw [List.mem_singleton.1 hp]
  exact ⟨⟨by decide,by decide,by decide,by decide⟩,by decide⟩
 have hnd : ¬ (s.ph = 0 ∧ 100 * W ≤ 100 * usedW s.R) := by
  rintro ⟨_,q⟩
  rw [hu] at q
  omega
 have hs0 : slotsOf 0 = 8 := rfl
 have first : ∀ b y v,Allot s [(5,2)] b y v → b = true := by
  intro b y v hq
  refine (hm.allot h.g.a h.g.n h.g.c hl2 hq).2.2 ?_
  rw [hs0]
  show objCount s.R + 1 ≤ _
  omega
 have hren : ¬ Renewed W 100 [(5,2)] l s := by
  rintro (q | ⟨t0,t1,q1,q2⟩)
  ·exact hnd q
  ·have e0 := q1.not hnd
   subst e0
   have := first _ _ _ q2
   cases this
 cases hA with
 | ok x o1 o2 t0 t1 t h0 h1 h2 =>
  have e0 := h0.not hnd
  subst e0
  obtain ⟨e2,e3⟩ := h2.none
  subst e2 e3
  cases h1 with
  | quick x t hal =>
   obtain ⟨g1,m1,xl⟩ := hal.good h.g
   have xl := xl rfl
   obtain ⟨a,rfl⟩ : ∃ a,x = [a] := by
    match x,xl with
    | [a],_ => exact ⟨a,rfl⟩
   have hk := hal.kinds h.g 0 a (5,2) rfl rfl
   exact ⟨rfl,⟨a,rfl,fun q => m1.new a (List.mem_singleton.2 rfl) ((obj_iff h.g.a a).2 (h.bx a q).obj6),m1,hk⟩,hren,g1,(hm.allot h.g.a h.g.n h.g.c hl2 hal).1⟩
  | forced b x o1 o2 k1 k2 t1 t2 t3 t4 t5 h1 h2 p2 h3 h4 p4 h5 =>
   have := first _ _ _ h1
   cases this
 | room x o t0 t h0 h1 =>
  have e0 := h0.not hnd
  subst e0
  cases h1 with
  | forced b x o1 o2 k1 k2 t1 t2 t3 t4 t5 h1 h2 p2 h3 h4 p4 h5 =>
   have := first _ _ _ h1
   cases this
theorem FbI.add {N : Int} {s t u : Hst} {l : List Int} {a e : Int} (h : FbI N s l) (hna : a ∉ l) (hm : More s t [a]) (hk : Kept t.R t.ws a 5 2) (hs : Stored t.R t.ws a 1 10 e u.ws) (hR : u.R = t.R) (hp : u.ph = 0) (hg : Good N u) : e = 0 ∧ FbI N u (l ++ [a]) := by
 obtain ⟨s1,s2⟩ := stored_to hm.a hs
 obtain ⟨he,o1,o2⟩ := stored_own hm.a hk ⟨by omega,by omega⟩ hs
 have hA := h.g.a
 have ha : a ∈ [a] := List.mem_singleton.2 rfl
 have hne : ∀ b ∈ l,b ≠ a := fun b hb q => hna (by rw [← q]; exact hb)
 have hw0 : Loaded t.R t.ws a 0 0 0 := by
  have hbd := hk.bounds hm.a
  have hlen := hm.a.len
  obtain ⟨v,hv⟩ : ∃ v,t.ws[(a + 1 + (0 : Int)).toNat]? = some v := ⟨_,List.getElem?_eq_getElem (by omega)⟩
  have hl : Loaded t.R t.ws a 0 v 0 := .ok 5 2 v hk ⟨by omega,by omega⟩ hv
  rcases hm.dl a 0 v hl with ⟨_,q⟩ | q
  ·rw [q] at hl; exact hl
  ·cases q with
   | ok k l _ hK _ _ => exact absurd ((obj_iff hA a).2 hK.obj6) (hm.new a ha)
 refine ⟨he,hg,hp,fun b hb => ?_,fun b q hq => ?_,fun b hb => ?_,fun b hb => ?_,?_⟩
 ·rw [hR]
  rcases List.mem_append.1 hb with w | w
  ·exact s1 _ _ _ (hm.kept _ _ _ (h.bx b w))
  ·rw [List.mem_singleton.1 w]; exact s1 _ _ _ hk
 ·have hq2 := hq
  rw [hR] at hq2
  rcases (hm.obj b).1 ((obj_iff hm.a b).2 hq2.obj6) with w | w
  ·obtain ⟨k2,l2,h2⟩ := Kept.of hA ((obj_iff hA b).1 w)
   obtain ⟨e1,e2⟩ := (s1 _ _ _ (hm.kept b k2 l2 h2)).det9 hq2
   exact List.mem_append_left _ (h.on b l2 (by rw [← e1]; exact h2))
  ·exact List.mem_append_right _ w
 ·rw [hR]
  rcases List.mem_append.1 hb with w | w
  ·exact s2 b 0 0 (hne b w) (hm.ld _ _ _ (h.w0 b w))
  ·rw [List.mem_singleton.1 w]; exact o2 0 0 (by omega) hw0
 ·rw [hR]
  rcases List.mem_append.1 hb with w | w
  ·exact s2 b 1 10 (hne b w) (hm.ld _ _ _ (h.w1 b w))
  ·rw [List.mem_singleton.1 w]; exact o1
 ·exact List.nodup_append.2 ⟨h.nd,by simp,fun p hp q hq w => hna (by rw [← List.mem_singleton.1 hq,← w]; exact hp)⟩
end Go.Proofs.YtpbhcdbkmmjimaaGreatDoor
