/-
  Layer 7: the reference's arena.
-/
import Derived.Test.YtllafhhnciobhaaGreatDoorAf

import Derived.Test.YtllafhhnciobhaaGreatDoorRe

namespace Go.Proofs.YtllafhhnciobhaaGreatDoor

open Go Go.LX
set_option maxRecDepth 100000
set_option linter.unusedVariables false
set_option linter.unusedSimpArgs false

theorem rok_of {R : List Rw} (h : RowsOk R) : ROk R := fun e he => ⟨(h e he).1, fun hne => by
  obtain ⟨h1, h2, _⟩ := (h e he).2 hne
  refine ⟨?_, h2⟩
  intro h0
  rw [h0] at h2
  exact hne (List.length_eq_zero_iff.1 h2)⟩
theorem slot_spec {R : List Rw} {a w : Int} {e : Rw} (h0 : 0 ≤ a) (h1 : a < 32 * R.length) (he : R[(a / 32).toNat]? = some e) (hw : w = wordsOf (clsOf e)) :
    ((w = 0 ∨ (a % 32) % w ≠ 0) → SlotAt R a 0 0 false) ∧ (w ≠ 0 → (a % 32) % w = 0 → SlotAt R a (a / 32) ((a % 32) / w) true) := by
  have hw5 := wordsOf_cases (clsOf e)
  rw [← hw] at hw5
  constructor
  · intro hno
    refine .no (fun q' s' e' he' hs' hlt' hat' => ?_)
    have hs0 : 0 ≤ (s' : Int) * wordsOf (clsOf e') := Int.mul_nonneg (by omega) (wordsOf_bd _).1
    have : q' = (a / 32).toNat := by omega
    subst this
    rw [he] at he'
    cases he'
    rw [← hw] at hat' hs0 hlt' hs'
    rcases hno with h | h
    · exact hs' h
    · have : a % 32 = s' * w := by omega
      rw [this, Int.mul_emod_left] at h
      exact h rfl
  · intro hw0 hz
    have hwz : w * ((a % 32) / w) + (a % 32) % w = a % 32 := Int.mul_ediv_add_emod (a % 32) w
    have hd0 : 0 ≤ (a % 32) / w := Int.ediv_nonneg (by omega) (by omega)
    obtain ⟨sn, hsn⟩ : ∃ sn : Nat, (sn : Int) = (a % 32) / w := ⟨((a % 32) / w).toNat, by omega⟩
    rw [← hsn] at hwz
    have hmul : (sn : Int) * w = a % 32 := by rw [Int.mul_comm]; omega
    rw [← hsn, show a / 32 = ((a / 32).toNat : Int) by omega]
    refine .is (a / 32).toNat sn e he ?_ ?_ ?_
    · rw [← hw]; exact hw0
    · rw [← hw, hmul]; omega
    · rw [← hw, hmul]; omega
theorem obj_in {R : List Rw} (hR : RowsOk R) {a : Int} (h : IsObj R a) : 0 ≤ a ∧ a < 32 * R.length := by
  obtain ⟨w, h⟩ := isObj_iff.1 h
  obtain ⟨h1, h2, h3, _⟩ := h.facts hR
  omega
set_option maxHeartbeats 4000000 in
theorem ris_lx (R : List Rw) (vs : List Int) (n at_ W : Int) (C B V : List PV) (hC : C = cpv R) (hB : B = bpv R) (hV : V = ipv vs) (hn : n = R.length) (hR : R.length ≤ 1000) (hA : AOk R vs) (hW : W = 32 * n) : CallF (fun _ => Tryz.prog) 64 [.ptr 0 (.lit 0), .p (.int .i64 (.sym at_))] [(0, .mix [.ptr 1 (.lit 0), .sl 4 3 1 (.lit 0) (.sym W)]), (1, .mix [.sl 2 3 1 (.lit 0) (.sym n), .sl 3 120 8 (.lit 0) (.sym n)]), (2, .pure true C), (3, .pure true B), (4, .pure true V)] 5
    (fun r h n' => ∃ b : Bool, r = .p (.bool b) ∧ h = [(0, .mix [.ptr 1 (.lit 0), .sl 4 3 1 (.lit 0) (.sym W)]), (1, .mix [.sl 2 3 1 (.lit 0) (.sym n), .sl 3 120 8 (.lit 0) (.sym n)]), (2, .pure true C), (3, .pure true B), (4, .pure true V)] ∧ n' = 5 ∧ (b = true ↔ IsObj R at_)) := by
  refine callF_of_body tok Tryz.func64 (by kernel_rfl) rfl rfl rfl ?_; conv => cbv
  refine Br.mk (fun g => ?_) (fun g => ?_)
  · have g : at_ < 0 := g
    have hno : ¬ IsObj R at_ := fun h => by have := obj_in hA.rows h; omega
    conv => cbv
    refine RetF.mk [.p (.bool false)] [(0, .mix [.ptr 1 (.lit 0), .sl 4 3 1 (.lit 0) (.sym W)]), (1, .mix [.sl 2 3 1 (.lit 0) (.sym n), .sl 3 120 8 (.lit 0) (.sym n)]), (2, .pure true C), (3, .pure true B), (4, .pure true V)] 5 (Re.at [(0, 0), (1, 1), (2, 2), (3, 3), (4, 4)] []) rfl ⟨false, rfl, rfl, rfl, iff_of_false (by decide) hno⟩
  have g : ¬ at_ < 0 := g
  conv => cbv
  refine Br.mk (fun g2 => ?_) (fun g2 => ?_)
  · have g2 : W ≤ at_ := g2
    have hno : ¬ IsObj R at_ := fun h => by have := obj_in hA.rows h; omega
    conv => cbv
    refine RetF.mk [.p (.bool false)] [(0, .mix [.ptr 1 (.lit 0), .sl 4 3 1 (.lit 0) (.sym W)]), (1, .mix [.sl 2 3 1 (.lit 0) (.sym n), .sl 3 120 8 (.lit 0) (.sym n)]), (2, .pure true C), (3, .pure true B), (4, .pure true V)] 5 (Re.at [(0, 0), (1, 1), (2, 2), (3, 3), (4, 4)] []) rfl ⟨false, rfl, rfl, rfl, iff_of_false (by decide) hno⟩
  have g2 : ¬ W ≤ at_ := g2
  conv => cbv
  have ht : Int.tdiv at_ 32 = at_ / 32 := Int.tdiv_eq_ediv_of_nonneg (by omega)
  refine Fit.mk (by show (-9223372036854775808 : Int) ≤ Int.tdiv at_ 32; omega) (by show Int.tdiv at_ 32 ≤ 9223372036854775807; omega) fun q hq => ?_
  have hq : q = at_ / 32 := (show q = Int.tdiv at_ 32 from hq).trans ht
  clear ht
  obtain ⟨e, he⟩ : ∃ e, R[q.toNat]? = some e := ⟨_, List.getElem?_eq_getElem (by omega)⟩
  obtain ⟨cv, hcv⟩ : ∃ cv, cv = clsOf e := ⟨_, rfl⟩
  obtain ⟨w, hw⟩ : ∃ w, w = wordsOf cv := ⟨_, rfl⟩
  have hcc := cpv_get he
  rw [← hC, ← hcv] at hcc
  have hw5 := wordsOf_cases cv
  rw [← hw] at hw5
  obtain ⟨sp1, sp2⟩ := slot_spec (R := R) (a := at_) (w := w) (by omega) (by omega) (hq ▸ he) (by rw [hw, hcv])
  conv => cbv
  refine Need.mk ⟨by show 0 ≤ q; omega, by show q < n; omega⟩ ?_
  conv => cbv
  refine Cell.at q _ hcc (by simp [I.val]) rfl ?_
  conv => cbv
  refine callF_frame (refWordsA_lx cv w hw) [] rfl trivial rfl rfl (fun r h' n' ⟨e1, e2, e3⟩ => ?_)
  subst e1 e2 e3
  conv => cbv
  refine drawn_sound tok (by kernel_rfl) [(19, [])] [0, 1, 2, 3, 4, 5, 6, 7, 8, 9, 10, 11, 12, 13, 14, 15, 16, 17, 18, 19, 20, 21] (by kernel_rfl) ?_; conv => cbv
  refine Br.mk (fun g3 => ?_) (fun g3 => ?_)
  case refine_2 =>
    have g3 : ¬ 0 < w := g3
    have hno : ¬ IsObj R at_ := by
      rcases obj_slot hA.rows (sp1 (.inl (by omega))) with ⟨h, _⟩ | ⟨_, h⟩
      · cases h
      · exact h
    conv => cbv
    refine RetF.mk [.p (.bool false)] [(0, .mix [.ptr 1 (.lit 0), .sl 4 3 1 (.lit 0) (.sym W)]), (1, .mix [.sl 2 3 1 (.lit 0) (.sym n), .sl 3 120 8 (.lit 0) (.sym n)]), (2, .pure true C), (3, .pure true B), (4, .pure true V)] 5 (Re.at [(0, 0), (1, 1), (2, 2), (3, 3), (4, 4)] []) rfl ⟨false, rfl, rfl, rfl, iff_of_false (by decide) hno⟩
  have g3 : 0 < w := g3
  conv => cbv
  refine Sum.mk fun z hz => ?_
  have hz : z = at_ % 32 := (show z = Int.tmod at_ 32 from hz).trans (Int.tmod_eq_emod_of_nonneg (by omega))
  conv => cbv
  refine Need.mk (show w ≠ 0 by omega) ?_
  conv => cbv
  refine Sum.mk fun y hy => ?_
  have hy : y = z % w := (show y = Int.tmod z w from hy).trans (Int.tmod_eq_emod_of_nonneg (by omega))
  conv => cbv
  refine Br.mk (fun g4 => ?_) (fun g4 => ?_)
  case refine_2 =>
    have g4 : ¬ y = 0 := g4
    have hno : ¬ IsObj R at_ := by
      rcases obj_slot hA.rows (sp1 (.inr (by rw [← hz, ← hy]; exact g4))) with ⟨h, _⟩ | ⟨_, h⟩
      · cases h
      · exact h
    conv => cbv
    refine RetF.mk [.p (.bool false)] [(0, .mix [.ptr 1 (.lit 0), .sl 4 3 1 (.lit 0) (.sym W)]), (1, .mix [.sl 2 3 1 (.lit 0) (.sym n), .sl 3 120 8 (.lit 0) (.sym n)]), (2, .pure true C), (3, .pure true B), (4, .pure true V)] 5 (Re.at [(0, 0), (1, 1), (2, 2), (3, 3), (4, 4)] []) rfl ⟨false, rfl, rfl, rfl, iff_of_false (by decide) hno⟩
  have g4 : y = 0 := g4
  have hsl := sp2 (by omega) (by rw [← hz, ← hy]; exact g4)
  rw [← hz, ← hq] at hsl
  have hd0 : 0 ≤ z / w := Int.ediv_nonneg (by omega) (by omega)
  have hdz : z / w ≤ z := Int.ediv_le_self _ (by omega)
  have ht2 : Int.tdiv z w = z / w := Int.tdiv_eq_ediv_of_nonneg (by omega)
  have hiff : UsedAt R q (z / w) ↔ IsObj R at_ := by
    rcases obj_slot hA.rows hsl with ⟨_, h1, h2, h3, h4, h5, e', h6, h7, h8⟩ | ⟨h, _⟩
    · rw [h8]
      constructor
      · rintro ⟨e2, _, he2, _, hs2⟩
        rw [h6] at he2; cases he2; exact hs2
      · intro hs2; exact ⟨e', h1, h6, h2, hs2⟩
    · cases h
  conv => cbv
  refine Sum.mk fun z2 hz2 => ?_
  have hz2 : z2 = z := (show z2 = Int.tmod at_ 32 from hz2).trans ((Int.tmod_eq_emod_of_nonneg (by omega)).trans hz.symm)
  conv => cbv
  refine Need.mk (show w ≠ 0 by omega) ?_
  conv => cbv
  have ht3 : Int.tdiv z2 w = z / w := by rw [hz2]; exact ht2
  refine Fit.mk (by show (-9223372036854775808 : Int) ≤ Int.tdiv z2 w; omega) (by show Int.tdiv z2 w ≤ 9223372036854775807; omega) fun s0 hs0 => ?_
  have hs0 : s0 = z / w := (show s0 = Int.tdiv z2 w from hs0).trans ht3
  rw [← hs0] at hiff
  conv => cbv
  refine callF_frame (rused_lx q s0 R n C B hC hB hn hR (rok_of hA.rows)) [(0, 1), (1, 2), (2, 3)] rfl (by simp [hmapOk, nget, hget, renB, okB, renV, renVs, rn, okVs, okV]) rfl rfl (fun r h' n' hrr => ?_)
  obtain ⟨b, e1, e2, e3, hb⟩ := hrr
  subst e1 e2 e3
  have hbi := hb.trans hiff
  clear hb
  cases b with
  | true =>
    conv => cbv
    refine RetF.mk [.p (.bool true)] [(0, .mix [.ptr 1 (.lit 0), .sl 4 3 1 (.lit 0) (.sym W)]), (1, .mix [.sl 2 3 1 (.lit 0) (.sym n), .sl 3 120 8 (.lit 0) (.sym n)]), (2, .pure true C), (3, .pure true B), (4, .pure true V)] 5 (Re.at [(0, 0), (1, 1), (2, 2), (3, 3), (4, 4)] []) rfl ⟨true, rfl, rfl, rfl, hbi⟩
  | false =>
    conv => cbv
    refine RetF.mk [.p (.bool false)] [(0, .mix [.ptr 1 (.lit 0), .sl 4 3 1 (.lit 0) (.sym W)]), (1, .mix [.sl 2 3 1 (.lit 0) (.sym n), .sl 3 120 8 (.lit 0) (.sym n)]), (2, .pure true C), (3, .pure true B), (4, .pure true V)] 5 (Re.at [(0, 0), (1, 1), (2, 2), (3, 3), (4, 4)] []) rfl ⟨false, rfl, rfl, rfl, hbi⟩
end Go.Proofs.YtllafhhnciobhaaGreatDoor
