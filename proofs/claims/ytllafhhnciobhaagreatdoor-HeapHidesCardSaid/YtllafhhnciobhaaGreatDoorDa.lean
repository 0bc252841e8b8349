/-
  Layer 9: while it is Mark, no black object leads to a white one.
-/
import Derived.Test.YtllafhhnciobhaaGreatDoorHv

import Derived.Test.YtllafhhnciobhaaGreatDoorAg

namespace Go.Proofs.YtllafhhnciobhaaGreatDoor

open Go Go.LX
set_option maxRecDepth 100000
set_option linter.unusedVariables false
set_option linter.unusedSimpArgs false

def Dk (R : List Rw) (ws C : List Int) : Prop := ∀ (a x i : Int), a ∈ objs R → C[a.toNat]? = some 2 → Loaded R ws a i x 0 → x % 2 = 1 → (x - 1) / 2 ∈ objs R → C[((x - 1) / 2).toNat]? ≠ some 0
/-- Colours that went on: nothing is white anew, nothing black anew. -/
def CLe (C C' : List Int) : Prop := (∀ p : Nat, C'[p]? = some 0 → C[p]? = some 0) ∧ (∀ p : Nat, C'[p]? = some 2 → C[p]? = some 2)
theorem CLe.refl (C : List Int) : CLe C C := ⟨fun _ h => h, fun _ h => h⟩
theorem CLe.trans {A B C : List Int} (h : CLe A B) (k : CLe B C) : CLe A C := ⟨fun p q => h.1 p (k.1 p q), fun p q => h.2 p (k.2 p q)⟩
theorem shade_le (R : List Rw) (ph a : Int) (s : List Int × List Int × Bool) : CLe s.1 (shade R ph a s).1 := by
  unfold shade
  split
  · rename_i hc
    have h0 := hc.2.2
    have hl := (List.getElem?_eq_some_iff.1 h0).1
    refine ⟨fun p hp => ?_, fun p hp => ?_⟩
    · by_cases e : a.toNat = p
      · subst e; exact h0
      · have hp : (s.1.set a.toNat 1)[p]? = some 0 := hp
        rw [List.getElem?_set_ne e] at hp; exact hp
    · have hp : (s.1.set a.toNat 1)[p]? = some 2 := hp
      by_cases e : a.toNat = p
      · subst e
        rw [List.getElem?_set_self hl] at hp
        exact absurd (Option.some.inj hp) (by decide)
      · rw [List.getElem?_set_ne e] at hp; exact hp
  · exact CLe.refl _
theorem shade_hit (R : List Rw) (a : Int) (s : List Int × List Int × Bool) (ha : a ∈ objs R) : (shade R 1 a s).1[a.toNat]? ≠ some 0 := by
  unfold shade
  split
  · rename_i hc
    have hl := (List.getElem?_eq_some_iff.1 hc.2.2).1
    show (s.1.set a.toNat 1)[a.toNat]? ≠ some 0
    rw [List.getElem?_set_self hl]
    exact fun h => absurd (Option.some.inj h) (by decide)
  · rename_i hc
    exact fun h => hc ⟨rfl, ha, h⟩
theorem shadeW_le (R : List Rw) (ph w : Int) (s : List Int × List Int × Bool) : CLe s.1 (shadeW R ph w s).1 := by
  unfold shadeW
  split
  · exact shade_le _ _ _ _
  · exact CLe.refl _
theorem shadeW_hit (R : List Rw) (w : Int) (s : List Int × List Int × Bool) (hw : w % 2 = 1) (ha : (w - 1) / 2 ∈ objs R) : (shadeW R 1 w s).1[((w - 1) / 2).toNat]? ≠ some 0 := by
  unfold shadeW
  rw [if_pos hw]
  exact shade_hit _ _ _ ha
theorem fold_le (R : List Rw) (ph : Int) : ∀ (X : List Int) (s : List Int × List Int × Bool), CLe s.1 (X.foldl (fun s w => shadeW R ph w s) s).1
  | [], s => CLe.refl _
  | w :: X, s => (shadeW_le R ph w s).trans (fold_le R ph X _)
theorem fold_hit (R : List Rw) : ∀ (X : List Int) (s : List Int × List Int × Bool) (w : Int), w ∈ X → w % 2 = 1 → (w - 1) / 2 ∈ objs R → (X.foldl (fun s w => shadeW R 1 w s) s).1[((w - 1) / 2).toNat]? ≠ some 0
  | [], s, w, hw, _, _ => by cases hw
  | v :: X, s, w, hw, h1, h2 => by
    rcases List.mem_cons.1 hw with rfl | hw
    · exact fun h => shadeW_hit R w s h1 h2 ((fold_le R 1 X _).1 _ h)
    · exact fold_hit R X _ w hw h1 h2
theorem Dk.le {R : List Rw} {ws C C' : List Int} (h : Dk R ws C) (hc : CLe C C') : Dk R ws C' :=
  fun a x i ha h2 hl hx hp h0 => h a x i ha (hc.2 _ h2) hl hx hp (hc.1 _ h0)
theorem beg_le (R : List Rw) : ∀ (A : List Int) (s : List Int × List Int × Bool), CLe s.1 (A.foldl (fun s a => shade R 1 a s) s).1
  | [], s => CLe.refl _
  | a :: A, s => (shade_le R 1 a s).trans (beg_le R A _)
theorem Dk.begin {R : List Rw} {ws C G A : List Int} {ov : Bool} {W : Int} (h : (C, G, ov) = begS R W A) : Dk R ws C := by
  intro a x i ha h2 hl hx hp
  have hc : C = (begS R W A).1 := congrArg Prod.fst h
  have hle := beg_le R A (List.replicate W.toNat 0, [], false)
  rw [hc] at h2
  have h3 : (List.replicate W.toNat (0 : Int))[a.toNat]? = some 2 := hle.2 _ h2
  rw [List.getElem?_replicate] at h3
  split at h3
  · exact absurd (Option.some.inj h3) (by decide)
  · cases h3
theorem stored_kept {R : List Rw} {ws ws' : List Int} {a i x e : Int} (hA : AOk R ws) (h : Stored R ws a i x e ws') : ∀ b k l, Kept R ws' b k l → Kept R ws b k l := by
  cases h with
  | none _ => exact fun _ _ _ hk => hk
  | arg _ _ _ _ => exact fun _ _ _ hk => hk
  | ok k l hka hi =>
    intro b k' l' hb
    have hbn := hka.bounds hA
    obtain ⟨w, q1, q2, q3, q4, q5, q6⟩ := hb
    have hne : (a + 1 + i).toNat ≠ b.toNat := by
      obtain ⟨wa, p1, p2, p3, p4, p5, p6⟩ := hka
      have := within_not hA.rows p1 q1 (j := a + 1 + i) (by omega) (by omega)
      have := q1.facts hA.rows
      omega
    rw [List.getElem?_set_ne hne] at q2
    exact .mk k' l' w q1 q2 q3 q4 q5 q6
theorem stored_loaded {R : List Rw} {ws ws' : List Int} {a i x e b j y : Int} (hA : AOk R ws) (h : Stored R ws a i x e ws') (hl : Loaded R ws' b j y 0) : (e = 0 ∧ y = x) ∨ Loaded R ws b j y 0 := by
  have hk := stored_kept hA h
  cases h with
  | none _ => exact .inr hl
  | arg _ _ _ _ => exact .inr hl
  | ok k l hka hi =>
    cases hl with
    | ok k' l' _ hK hj hy =>
      have hbn := hka.bounds hA
      have hlen := hA.len
      rcases set_get (by omega) hy with ⟨_, e⟩ | ⟨_, e⟩
      · exact .inl ⟨rfl, e⟩
      · exact .inr (.ok k' l' y (hk _ _ _ hK) hj e)
theorem Dk.store {R : List Rw} {ws ws' C C' G G' : List Int} {ov ov' : Bool} {a i x e : Int} (hA : AOk R ws) (h : Dk R ws C) (hs : Stored R ws a i x e ws') (hc : (C', G', ov') = storeS R 1 e x (C, G, ov)) : Dk R ws' C' := by
  have hC : C' = (storeS R 1 e x (C, G, ov)).1 := congrArg Prod.fst hc
  have hle : CLe C C' := by
    rw [hC]; unfold storeS
    split
    · exact shadeW_le R 1 x (C, G, ov)
    · exact CLe.refl _
  intro b y j hb h2 hl hy hp
  rcases stored_loaded hA hs hl with ⟨he, rfl⟩ | hl
  · rw [hC]; unfold storeS
    rw [if_pos he]
    exact shadeW_hit R y _ hy hp
  · exact (h.le hle) b y j hb h2 hl hy hp
theorem Dk.alloc {R R' : List Rw} {ws ws' C C' : List Int} {kind n a e ph : Int} (hA : AOk R ws) (hCl : (C.length : Int) = 32 * R.length) (h : Dk R ws C) (hs : Alloct R ws kind n a e R' ws') (hph : ph = 1) (hc : C' = allocC ph a e C) : Dk R' ws' C' := by
  by_cases he : e = 0
  · obtain ⟨h1, h2, _, h4, h5, h6, h7⟩ := alloct_ok hA hs he
    obtain ⟨hA', hlR⟩ := hA.alloct hs
    have hab := h1.bounds hA'
    have hC : C' = C.set a.toNat 2 := by rw [hc, allocC, if_pos he, hph]; rfl
    have hself : C'[a.toNat]? = some 2 := by rw [hC]; exact List.getElem?_set_self (by omega)
    intro b x i hb hb2 hl hx hp
    have hpl : (x - 1) / 2 = a ∨ ((x - 1) / 2 ≠ a ∧ (x - 1) / 2 ∈ objs R) := by
      by_cases q : (x - 1) / 2 = a
      · exact .inl q
      · rcases h6 _ ((obj_iff hA' _).1 hp) with q2 | q2
        · exact .inl q2
        · exact .inr ⟨q, (obj_iff hA _).2 q2⟩
    rcases h6 b ((obj_iff hA' b).1 hb) with rfl | hbo
    · exfalso
      cases hl with
      | ok k l _ hK hi hxw =>
        obtain ⟨_, rfl⟩ := hK.det9 h1
        rw [h4 i hi.1 hi.2] at hxw
        obtain rfl := Option.some.inj hxw
        omega
    · have hbR := (obj_iff hA b).2 hbo
      have hbb := obj_bd hA hbR
      have hne : b ≠ a := fun q => h2 (q ▸ hbo)
      have hlR : Loaded R ws b i x 0 := by
        cases hl with
        | ok k l _ hK hi hxw =>
          obtain ⟨k', l', hK'⟩ := Kept.of hA hbo
          obtain ⟨_, rfl⟩ := (h5 b k' l' hK').det9 hK
          exact .ok k' l' x hK' hi (by rw [← h7 b k' l' i hK' hi.1 hi.2]; exact hxw)
      have hcb : C[b.toNat]? = some 2 := by rw [hC, List.getElem?_set_ne (by omega)] at hb2; exact hb2
      rcases hpl with q | ⟨q1, q2⟩
      · rw [q, hself]; exact fun k => absurd (Option.some.inj k) (by decide)
      · have hpb := obj_bd hA q2
        rw [hC, List.getElem?_set_ne (by omega)]
        exact h b x i hbR hcb hlR hx q2
  · have hg := alloct_gen9 hA hs
    rcases hg with ⟨_, _, rfl, rfl⟩ | ⟨q, _⟩
    · rw [hc, allocC, if_neg he]; exact h
    · exact absurd q he
theorem Dk.marked {R : List Rw} {ws ws' C C' G G' : List Int} {ov ov' : Bool} {sp p s : Int} {out : List Gn} (hA : AOk R ws) (hg0 : ∀ x ∈ G, 0 ≤ x) (hCl : (C.length : Int) = 32 * R.length) (h : Dk R ws C) (hm : Marked R ws C G ov sp out p s ws' C' G' ov') (hp : p = 1) : Dk R ws' C' := by
  cases hm with
  | scan v A X _ _ o1 _ hg hX hs =>
    have hC : C' = (X.foldl (fun s w => shadeW R 1 w s) (C, A, o1)).1.set v.toNat 2 := congrArg Prod.fst hs
    have hle := fold_le R 1 X (C, A, o1)
    have hhit := fold_hit R X (C, A, o1)
    generalize (X.foldl (fun s w => shadeW R 1 w s) (C, A, o1)).1 = F at hC hle hhit
    have hset : ∀ q : Nat, C'[q]? = some 0 → F[q]? = some 0 := by
      intro q hq
      rw [hC] at hq
      by_cases e : v.toNat = q
      · subst e
        by_cases hl : v.toNat < F.length
        · rw [List.getElem?_set_self hl] at hq; exact absurd (Option.some.inj hq) (by decide)
        · rw [List.getElem?_eq_none (by rw [List.length_set]; omega)] at hq; cases hq
      · rw [List.getElem?_set_ne e] at hq; exact hq
    intro b x i hb hb2 hl hx hpl h0
    by_cases e : v.toNat = b.toNat
    · have hbb := obj_bd hA hb
      have hv : 0 ≤ v := by
        cases hg with
        | pop A' _ hG => exact hg0 v (by rw [hG]; simp)
        | found _ _ _ _ ha _ _ => exact (obj_bd hA (List.mem_of_getElem? ha)).1
      have hvb : v = b := by omega
      subst hvb
      have hxX : x ∈ X := by
        have hlen := hX.1
        cases hl with
        | ok k l _ hK hi hxw =>
          generalize hxl : (X.length : Int) = xl at hlen
          cases hlen with
          | no hn => exact absurd hK.obj6 hn
          | is k' l' hK' =>
            obtain ⟨_, rfl⟩ := hK.det9 hK'
            obtain ⟨y, hy⟩ : ∃ y, X[i.toNat]? = some y := ⟨_, List.getElem?_eq_getElem (by omega)⟩
            have hld := hX.2 _ _ hy
            rw [show ((i.toNat : Nat) : Int) = i by omega] at hld
            obtain ⟨rfl, _⟩ := loaded_det hld (.ok k l x hK hi hxw)
            exact List.mem_of_getElem? hy
      exact hhit x hxX hx hpl (hset _ h0)
    · rw [hC, List.getElem?_set_ne e] at hb2
      exact h b x i hb (hle.2 _ hb2) hl hx hpl (hle.1 _ (hset _ h0))
  | keep a A X _ _ _ o1 _ hg hf hX hst hs =>
    have hC : C' = (shade R 1 a (C, A, o1)).1 := congrArg Prod.fst hs
    have h2 : Dk R ws' C := by
      intro b y j hb hb2 hl hy hpl
      rcases stored_loaded hA hst hl with ⟨_, rfl⟩ | hl
      · exact absurd hy (by decide)
      · exact h b y j hb hb2 hl hy hpl
    rw [hC]
    exact h2.le (shade_le R 1 a (C, A, o1))
  | sweep _ _ _ _ => exact absurd hp (by decide)
theorem Dk.stepd {R R' : List Rw} {ws ws' C C' G G' : List Int} {ov ov' : Bool} {ph sp cy W p s y : Int} {out : List Gn} (hA : AOk R ws) (hg0 : ∀ x ∈ G, 0 ≤ x) (hCl : (C.length : Int) = 32 * R.length) (h : ph = 1 → Dk R ws C) (hs : Stepd R ws C G ov ph sp cy W out R' ws' C' G' ov' p s y) (hp : p = 1) : Dk R' ws' C' := by
  cases hs with
  | mark _ _ _ _ _ _ _ hph hm => exact (h hph).marked hA hg0 hCl hm hp
  | sweep _ _ _ _ =>
    unfold swPh at hp
    split at hp <;> exact absurd hp (by decide)
  | idle h1 _ => exact absurd hp h1
end Go.Proofs.YtllafhhnciobhaaGreatDoor
