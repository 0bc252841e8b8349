/-
  Layer 2: the reference's lines as they are written.
-/
import Derived.Test.YtfjdifeofnpcnaaDoorBf

namespace Go.Proofs.YtfjdifeofnpcnaaDoor

open Go Go.LX
set_option maxRecDepth 100000
set_option linter.unusedVariables false
set_option linter.unusedSimpArgs false

theorem itoa_negstep (v : Int) (h : v < -9) : Lib.itoa v = Lib.itoa (v.tdiv 10) ++ [UInt8.ofNat (48 - v.tmod 10).toNat] := by
  obtain ⟨u, hu⟩ : ∃ u : Nat, v = -(u : Int) := ⟨v.natAbs, by omega⟩
  subst hu
  have h1 : (-(u : Int)).tdiv 10 = -((u / 10 : Nat) : Int) := by rw [Int.neg_tdiv, Int.tdiv_eq_ediv_of_nonneg (by omega)]; rfl
  have h2 : (-(u : Int)).tmod 10 = -((u % 10 : Nat) : Int) := by rw [Int.neg_tmod, Int.tmod_eq_emod_of_nonneg (by omega)]; rfl
  rw [h1, h2]
  unfold Lib.itoa
  rw [if_pos (by omega), if_pos (by omega)]
  rw [show (-(u : Int)).natAbs = u by omega, show (-((u / 10 : Nat) : Int)).natAbs = u / 10 by omega]
  rw [Lib.decDigits, dif_neg (by omega), show (48 - -((u % 10 : Nat) : Int)).toNat = 48 + u % 10 by omega]
  rfl
theorem itoa_negone (v : Int) (h : v < 0) (h2 : ¬ v < -9) : Lib.itoa v = [45, UInt8.ofNat (48 - v).toNat] := by
  unfold Lib.itoa
  rw [if_pos h, Lib.decDigits_one (by omega), show (48 - v).toNat = 48 + v.natAbs by omega]
theorem itoa_len21 (n : Int) (h : I64 n) : (Lib.itoa n).length ≤ 21 := Lib.itoa_length_le n h.1 h.2
/-- A register's letter, or that there is none. -/
def letL (v : Int) : List UInt8 := if 0 ≤ v ∧ v < 6 then [regB v] else [63]
set_option maxHeartbeats 2000000 in
theorem digitsN_lx (m : Nat) : ∀ (v : Int), v < 0 → -9223372036854775808 ≤ v → -v < m → CallF (fun _ => Tryd.prog) 14 [.p (.int .i64 (.sym v))] [] 0 (fun r h n => (∃ y : ByteArray, r = .p (.str fun _ => y) ∧ y = bytesOfL (Lib.itoa v)) ∧ h = [] ∧ n = 0) := by
  induction m with
  | zero =>
    intro v h0 h1 h2
    have gf : False := by omega
    cases gf
  | succ m ih =>
    intro v h0 h1 h2
    refine callF_of_body tok Tryd.func14 (by kernel_rfl) rfl rfl rfl ?_; conv => cbv
    refine Br.yes (by show v < 0; exact h0) ?_
    conv => cbv
    refine Br.mk (fun g => ?_) (fun g => ?_)
    · have g : v < -9 := g
      conv => cbv
      obtain ⟨u, hu⟩ : ∃ u : Int, u = v.tdiv 10 := ⟨_, rfl⟩
      have hub : u < 0 ∧ v < 10 * u + 10 ∧ 10 * u - 10 < v := by
        obtain ⟨t, ht⟩ : ∃ t : Nat, v = -(t : Int) := ⟨v.natAbs, by omega⟩
        rw [ht, Int.neg_tdiv, Int.tdiv_eq_ediv_of_nonneg (by omega)] at hu
        omega
      have hmb : -9 ≤ v.tmod 10 ∧ v.tmod 10 ≤ 0 := by
        obtain ⟨t, ht⟩ : ∃ t : Nat, v = -(t : Int) := ⟨v.natAbs, by omega⟩
        rw [ht, Int.neg_tmod, Int.tmod_eq_emod_of_nonneg (by omega)]
        omega
      obtain ⟨Y, hY⟩ : ∃ Y, Y = bytesOfL (Lib.itoa u) := ⟨_, rfl⟩
      have hYs : Y.size ≤ 3000000 := by
        have := itoa_len21 u ⟨by omega, by omega⟩
        rw [hY, bol_size]; omega
      have hD := (ih u hub.1 (by omega) (by omega)).mono (fun r h n (hrr : (∃ y : ByteArray, r = .p (.str fun _ => y) ∧ y = bytesOfL (Lib.itoa u)) ∧ h = [] ∧ n = 0) => (by
        obtain ⟨⟨y, e1, hy⟩, e2, e3⟩ := hrr
        exact ⟨by rw [e1, hy, hY], e2, e3⟩ : r = .p (.str fun _ => Y) ∧ h = [] ∧ n = 0))
      refine read_sound tok (by kernel_rfl) [] [2, 7] [] [0, 1, 2, 3, 4, 5, 6, 7, 8, 9, 10] (by kernel_rfl) ?_
      conv => cbv
      refine Fit.mk (by show (-9223372036854775808 : Int) ≤ v.tdiv 10; omega) (by show v.tdiv 10 ≤ 9223372036854775807; omega) fun u2 hu2 => ?_
      have hu2 : u2 = u := by have : u2 = v.tdiv 10 := hu2; omega
      rw [← hu2] at hD
      conv => cbv
      refine ReadF.mk (.p (.str fun _ => Y)) (fun h' n' hbR hnR => callF_read hD [] rfl trivial rfl rfl rfl rfl) ?_
      conv => cbv
      refine Sum.mk fun w hw => ?_
      have hw : w = v.tmod 10 := hw
      conv => cbv
      refine Fit.mk (by show (-9223372036854775808 : Int) ≤ 48 - w; omega) (by show 48 - w ≤ 9223372036854775807; omega) fun t1 ht1 => ?_
      have ht1 : t1 = 48 - w := ht1
      conv => cbv
      refine Fit.mk (by show (0 : Int) ≤ t1; omega) (by show t1 ≤ 255; omega) fun t2 ht2 => ?_
      have ht2 : t2 = t1 := ht2
      conv => cbv
      refine Need.mk (by show (1 : Int) ≤ ((1 : Nat) : Int); omega) ?_
      conv => cbv
      refine Bytes.mk [UInt8.ofNat (48 - v.tmod 10).toNat] ⟨by show t2 = ((UInt8.ofNat (48 - v.tmod 10).toNat).toNat : Int); rw [UInt8.toNat_ofNat']; omega, trivial⟩ fun y2 hy2 => ?_
      have hy2 : y2 = bytesOfL [UInt8.ofNat (48 - v.tmod 10).toNat] := hy2
      have hy2s : y2.size = 1 := by rw [hy2, bol_size]; rfl
      conv => cbv
      refine Need.mk (by show Y.size + y2.size ≤ 9223372036854775807; omega) ?_
      conv => cbv
      refine Str.mk fun y3 hy3 => ?_
      have hy3 : y3 = bytesOfL (Lib.itoa v) := by
        have : y3 = Y ++ y2 := hy3
        rw [this, hY, hy2, hu, bol_add, ← itoa_negstep v g]
      conv => cbv
      refine RetF.mk [.p (.str fun _ => y3)] [] 0 (Re.at [] []) rfl ⟨⟨y3, rfl, hy3⟩, rfl, rfl⟩
    · have g : ¬ v < -9 := g
      conv => cbv
      refine Fit.mk (by show (-9223372036854775808 : Int) ≤ 48 - v; omega) (by show 48 - v ≤ 9223372036854775807; omega) fun t1 ht1 => ?_
      have ht1 : t1 = 48 - v := ht1
      conv => cbv
      refine Fit.mk (by show (0 : Int) ≤ t1; omega) (by show t1 ≤ 255; omega) fun t2 ht2 => ?_
      have ht2 : t2 = t1 := ht2
      conv => cbv
      refine Need.mk (by show (1 : Int) ≤ ((1 : Nat) : Int); omega) ?_
      conv => cbv
      refine Bytes.mk [UInt8.ofNat (48 - v).toNat] ⟨by show t2 = ((UInt8.ofNat (48 - v).toNat).toNat : Int); rw [UInt8.toNat_ofNat']; omega, trivial⟩ fun y2 hy2 => ?_
      have hy2 : y2 = bytesOfL [UInt8.ofNat (48 - v).toNat] := hy2
      have hy2s : y2.size = 1 := by rw [hy2, bol_size]; rfl
      conv => cbv
      refine Need.mk (by show 1 + y2.size ≤ 9223372036854775807; omega) ?_
      conv => cbv
      refine Str.mk fun y3 hy3 => ?_
      have hy3 : y3 = bytesOfL (Lib.itoa v) := by
        have : y3 = bytesOfL [45] ++ y2 := hy3
        rw [this, hy2, bol_add, itoa_negone v h0 g]; rfl
      conv => cbv
      refine RetF.mk [.p (.str fun _ => y3)] [] 0 (Re.at [] []) rfl ⟨⟨y3, rfl, hy3⟩, rfl, rfl⟩
theorem digitsA_ok (v : Int) (h : I64 v) : CallF (fun _ => Tryd.prog) 14 [.p (.int .i64 (.sym v))] [] 0 (fun r h n => (∃ y : ByteArray, r = .p (.str fun _ => y) ∧ y = bytesOfL (Lib.itoa v)) ∧ h = [] ∧ n = 0) := by
  have h1 := h.1
  have h2 := h.2
  by_cases g : 0 ≤ v
  · exact digits_ok v g (by omega)
  · exact digitsN_lx ((-v).toNat + 1) v (by omega) (by omega) (by omega)
theorem letter_lx (v : Int) : CallF (fun _ => Tryd.prog) 57 [.p (.int .i64 (.sym v))] [] 0 (fun r h n => (∃ y : ByteArray, r = .p (.str fun _ => y) ∧ y = bytesOfL (letL v)) ∧ h = [] ∧ n = 0) := by
  refine callF_of_body tok Tryd.func57 (by kernel_rfl) rfl rfl rfl ?_; conv => cbv
  refine Br.mk (fun g => ?_) (fun g => ?_)
  · have g : v < 0 := g
    conv => cbv
    refine RetF.mk [.p (.str fun _ => ⟨⟨[63]⟩⟩)] [] 0 (Re.at [] []) rfl ⟨⟨_, rfl, by rw [letL, if_neg (by omega)]; rfl⟩, rfl, rfl⟩
  · have g : ¬ v < 0 := g
    conv => cbv
    refine Br.mk (fun g2 => ?_) (fun g2 => ?_)
    · have g2 : 6 ≤ v := g2
      conv => cbv
      refine RetF.mk [.p (.str fun _ => ⟨⟨[63]⟩⟩)] [] 0 (Re.at [] []) rfl ⟨⟨_, rfl, by rw [letL, if_neg (by omega)]; rfl⟩, rfl, rfl⟩
    · have g2 : ¬ 6 ≤ v := g2
      conv => cbv
      refine Fit.mk (by show (-9223372036854775808 : Int) ≤ 97 + v; omega) (by show 97 + v ≤ 9223372036854775807; omega) fun t1 ht1 => ?_
      have ht1 : t1 = 97 + v := ht1
      conv => cbv
      refine Fit.mk (by show (0 : Int) ≤ t1; omega) (by show t1 ≤ 255; omega) fun t2 ht2 => ?_
      have ht2 : t2 = t1 := ht2
      conv => cbv
      refine Need.mk (by show (1 : Int) ≤ ((1 : Nat) : Int); omega) ?_
      conv => cbv
      refine Bytes.mk [regB v] ⟨by show t2 = ((regB v).toNat : Int); rw [regB_nat (by omega) (by omega)]; omega, trivial⟩ fun y2 hy2 => ?_
      have hy2 : y2 = bytesOfL (letL v) := by rw [letL, if_pos (by omega)]; exact hy2
      conv => cbv
      refine RetF.mk [.p (.str fun _ => y2)] [] 0 (Re.at [] []) rfl ⟨⟨y2, rfl, hy2⟩, rfl, rfl⟩
end Go.Proofs.YtfjdifeofnpcnaaDoor
