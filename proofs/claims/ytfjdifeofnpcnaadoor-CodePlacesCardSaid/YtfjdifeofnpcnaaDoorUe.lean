/-
  Law 2, CodePlaces.
-/
import Derived.Test.YtfjdifeofnpcnaaDoorUc

import Derived.Test.YtfjdifeofnpcnaaDoorUd

import Derived.Test.YtfjdifeofnpcnaaDoorEd

namespace Go.Proofs.YtfjdifeofnpcnaaDoor

open Go Go.LX
set_option maxRecDepth 100000
set_option linter.unusedVariables false
set_option linter.unusedSimpArgs false
theorem isV_drop : ∀ (B : List Is) (i : Nat), (isV B).drop (i * 5) = isV (B.drop i)
  | B, 0 => by simp
  | [], i + 1 => by simp [isV]
  | x :: B, i + 1 => by
    have e : isV (x :: B) = isC x ++ isV B := by simp [isV]
    rw [e, show (i + 1) * 5 = 5 + i * 5 by omega, ← List.drop_drop, show (isC x ++ isV B).drop 5 = isV B by simp [isC], isV_drop B i]
    rfl
theorem isV_one {B : List Is} {i : Nat} {x : Is} (h : B[i]? = some x) : ((isV B).drop (i * 5)).take 5 = isV [x] := by
  have hi := (List.getElem?_eq_some_iff.1 h).1
  rw [isV_drop, List.drop_eq_getElem_cons hi, (List.getElem?_eq_some_iff.1 h).2]
  simp [isV, isC]
theorem okay_single {x : Is} (h : Shp x) (h2 : (lineOf x).length ≤ 16) : Okay [x] := by
  refine ⟨by simp, fun y hy => by rw [List.mem_singleton] at hy; subst hy; exact h, ?_, by show 1 ≤ 60; decide⟩
  have := join_le [x] 16 (fun y hy => by rw [List.mem_singleton] at hy; subst hy; exact h2)
  have e : [x].length = 1 := rfl
  omega
set_option maxHeartbeats 8000000 in
theorem codePlaces_lx (A : List Is) (q : Int) (z : ByteArray) (k : Int) (L : List PV) (o : Unit → Obj) (ho : IsPow o) (hk : k = A.length) (hL : L = isV A) (hwf : ∀ x ∈ A, x.wf ∧ (∀ c ∈ x.cs, c.wf) ∧ x.cs.length ≤ maxLen) (hm : A.length ≤ maxLen) (hz : z.size ≤ maxLen) :
    CallF (fun _ => Tryd.prog) 5 [.p (.vsl (.sym k) true L), .p (.int .i64 (.sym q)), .p (.str fun _ => z)] [(0, .fix 0 o)] 1 (fun r h n => r = .p (.bool true)) := by
  refine callF_of_body tok Tryd.func5 (by kernel_rfl) rfl rfl rfl ?_; conv => cbv
  refine Br.mk (fun g => ?_) (fun g => ?_)
  · conv => cbv
    refine callF_frame (awake02_lx o ho) [(0, 0)] rfl (by simp [hmapOk, nget, hget, renB, okB, renV, renVs, rn, okVs, okV]) rfl rfl (fun r2 h' n' ⟨e1, e2, e3⟩ => ?_)
    subst e1 e2 e3
    conv => cbv
    refine RetF.mk [.p (.bool true)] [(0, .fix 0 o)] 1 (Re.at [(0, 0)] []) rfl rfl
  have g : ¬ 50 < k := g
  conv => cbv
  refine callF_frame (code_lx A k L hk hL (fun x hx => (hwf x hx).2.2)) [] rfl trivial rfl rfl (fun r2 h' n' hrr => ?_)
  obtain ⟨⟨k2, L2, e1, hk2, hL2⟩, e2, e3⟩ := hrr
  subst e1 e2 e3
  obtain ⟨B, hB⟩ : ∃ B, B = codeV A := ⟨_, rfl⟩
  have hBok : Okay B := by rw [hB]; exact codeV_okay A
  have hBx : ∀ x ∈ B, XI64 x ∧ x.cs.length ≤ 3 := by rw [hB]; exact codeV_x64 A
  have hBl : 0 < B.length ∧ B.length ≤ 40 := by rw [hB]; exact codeV_40 A
  have hBg : ∀ x ∈ B, Shp x ∧ (lineOf x).length ≤ 16 := by rw [hB]; exact fun x hx => ⟨(codeV_good A x hx).shp, (codeV_good A x hx).line⟩
  rw [← hB] at hk2 hL2
  clear hB hk hL hwf
  conv => cbv
  refine Fit.wrap fun xn hxn => ?_
  have hxn : xn = IntKind.u64.wrap q := hxn
  have hx0 : 0 ≤ xn := by rw [hxn]; simp [IntKind.wrap, IntKind.bits, IntKind.signed]; omega
  clear hxn
  conv => cbv
  refine Fit.mk (by show (-9223372036854775808 : Int) ≤ k2 + 1; omega) (by show k2 + 1 ≤ 9223372036854775807; omega) fun k3 hk3 => ?_
  have hk3 : k3 = k2 + 1 := hk3
  conv => cbv
  refine Fit.mk (by show (0 : Int) ≤ k3; omega) (by show k3 ≤ 18446744073709551615; omega) fun yn hyn => ?_
  have hyn : yn = k3 := hyn
  conv => cbv
  refine Need.mk (by show yn ≠ 0; omega) ?_
  conv => cbv
  refine Sum.mk fun tn htn => ?_
  have htn : tn = xn % yn := (show tn = xn.tmod yn from htn).trans (Int.tmod_eq_emod_of_nonneg hx0)
  have ht0 := Int.emod_nonneg xn (show yn ≠ 0 by omega)
  have ht1 := Int.emod_lt_of_pos xn (show (0 : Int) < yn by omega)
  conv => cbv
  refine Fit.mk (by show (-9223372036854775808 : Int) ≤ tn; omega) (by show tn ≤ 9223372036854775807; omega) fun w hw => ?_
  have hw : w = tn := hw
  have hw0 : 0 ≤ w := by omega
  have hw1 : w ≤ k2 := by omega
  clear hw htn ht0 ht1 hyn hk3 hx0
  conv => cbv
  refine LoopF.mk (fun kk s => ∃ (i : Int) (y : ByteArray), s = ⟨.undef :: .p (.int .i64 (.sym w)) :: .p (.str fun _ => z) :: (undefs 4 ++ .p (.vsl (.sym k2) true L2) :: .p (.str fun _ => y) :: .p (.int .i64 (.sym i)) :: undefs 119), [(0, .fix 0 o)], 1⟩ ∧ (i ≤ k2 → y = bytesOfL (placeT B w.toNat i.toNat)) ∧ (i = k2 + 1 → y = bytesOfL (placeW B w.toNat B.length)) ∧ 0 ≤ i ∧ i ≤ k2 + 1 ∧ kk = (k2 + 1 - i).toNat) (k2 + 1).toNat _
    (Re.at [(0, 0)] []) ⟨0, ⟨⟨[]⟩⟩, rfl, (fun _ => by rw [show (0 : Int).toNat = 0 from rfl, placeT_zero]; rfl), (fun h => by omega), by omega, by omega, by omega⟩ ?_
  rintro kk s ⟨i, y, rfl, hyA, hyE, hi0, hik, hkk⟩
  conv => cbv
  refine Br.mk (fun g3 => ?_) (fun g3 => ?_)
  case refine_2 =>
    have g3 : ¬ i ≤ k2 := g3
    have hy9 := hyE (by omega)
    have hd9 : decodeV y = ([], w + 1, 5) := by
      rw [hy9, place_dec (by omega) hBg hBl.2, Int.toNat_of_nonneg hw0]
    have hys9 : y.size ≤ 2000 := by
      have := (place_len (w := w.toNat) (Nat.le_refl B.length) (fun x hx => (hBg x hx).2) hBl.2).2
      rw [hy9, bol_size]; omega
    conv => cbv
    refine callF_frame (decode_lx y (by omega)) [] rfl trivial rfl rfl (fun r2 h' n' hrr => ?_)
    obtain ⟨e1, e2, e3⟩ := hrr
    subst e2 e3
    rw [hd9] at e1
    cases e1 with
    | mk k1 a1 e1 L1 x1 hx1 hk1 hL1 =>
    obtain ⟨r1, r2⟩ := Prod.mk.inj hx1
    obtain ⟨r3, r4⟩ := Prod.mk.inj r2
    clear hd9 hy9 hyA hyE hk1 hL1
    conv => cbv
    refine LoopF.mk (fun kk s => ∃ (i : Int) (y : ByteArray), s = ⟨.undef :: .p (.int .i64 (.sym w)) :: .p (.str fun _ => z) :: (undefs 10 ++ .p (.int .i64 (.sym a1)) :: .p (.int .i64 (.sym e1)) :: .p (.str fun _ => y) :: .p (.int .i64 (.sym i)) :: undefs 112), [(0, .fix 0 o)], 1⟩ ∧ y.size = i.toNat ∧ 0 ≤ i ∧ i ≤ 8 ∧ kk = (8 - i).toNat) 8 _
      (Re.at [(0, 0)] []) ⟨0, ⟨⟨[]⟩⟩, rfl, rfl, by omega, by omega, by omega⟩ ?_
    rintro kk s ⟨i, y, rfl, hys, hi0, hi8, hkk⟩
    conv => cbv
    refine Sum.mk fun zn hzn => ?_
    have hzn : zn = (z.size : Int) := hzn
    conv => cbv
    refine Br.mk (fun g6 => ?_) (fun g6 => ?_)
    case refine_2 =>
      have hyz : y.size ≤ 8 := by omega
      conv => cbv
      refine callF_frame (decode_lx y (by omega)) [] rfl trivial rfl rfl (fun r2 h' n' hrr => ?_)
      obtain ⟨f1, f2, f3⟩ := hrr
      subst f2 f3
      obtain ⟨D, hD⟩ : ∃ D, D = decodeV y := ⟨_, rfl⟩
      rw [← hD] at f1
      cases f1 with
      | mk k5 a5 e5 L5 x5 hx5 hk5 hL5 =>
      conv => cbv
      refine callF_frame (rDecode_lx y (by omega)) [] rfl trivial rfl rfl (fun r2 h' n' hrr => ?_)
      obtain ⟨f1, f2, f3⟩ := hrr
      subst f2 f3
      rw [← hD] at f1
      cases f1 with
      | mk k6 a6 e6 L6 x6 hx6 hk6 hL6 =>
      obtain ⟨s1, s2⟩ := Prod.mk.inj (hx5.symm.trans hx6)
      obtain ⟨s3, s4⟩ := Prod.mk.inj s2
      have hb5 := decode_bound (hD.symm.trans hx5)
      conv => cbv
      refine callF_frame (awake02_lx o ho) [(0, 0)] rfl (by simp [hmapOk, nget, hget, renB, okB, renV, renVs, rn, okVs, okV]) rfl rfl (fun r2 h' n' ⟨d1, d2, d3⟩ => ?_)
      subst d1 d2 d3
      conv => cbv
      refine Br.yes (by show e1 = 5; exact r4.symm) ?_
      conv => cbv
      refine Fit.mk (by show (-9223372036854775808 : Int) ≤ w + 1; omega) (by show w + 1 ≤ 9223372036854775807; omega) fun w1 hw9 => ?_
      have hw9 : w1 = w + 1 := hw9
      conv => cbv
      refine Br.yes (by show a1 = w1; rw [hw9]; exact r3.symm) ?_
      conv => cbv
      refine callF_frame (instrs_lx x5 x6 k5 k6 L5 L6 hk5 hk6 hL5 hL6 (by omega) (fun x hx => by have := hb5.2 x hx; omega)) [] rfl trivial rfl rfl (fun r2 h' n' hrr => ?_)
      obtain ⟨⟨q2, d1, hq2⟩, d2, d3⟩ := hrr
      subst d1 d2 d3
      cases q2 with
      | false =>
        have := hq2.2 s1
        cases this
      | true =>
      conv => cbv
      refine Br.yes (by show a5 = a6; exact s3) ?_
      conv => cbv
      refine Br.mk (fun g9 => ?_) (fun g9 => ?_)
      · conv => cbv
        refine RetF.mk [.p (.bool true)] [(0, .fix 0 o)] 1 (Re.at [(0, 0)] []) rfl rfl
      · have g9 : ¬ e5 = e6 := g9
        exact absurd s4 g9
    have g6 : i < zn := g6
    conv => cbv
    refine Br.mk (fun g7 => ?_) (fun g7 => ?_)
    case refine_2 =>
      have hyz : y.size ≤ 8 := by omega
      conv => cbv
      refine callF_frame (decode_lx y (by omega)) [] rfl trivial rfl rfl (fun r2 h' n' hrr => ?_)
      obtain ⟨f1, f2, f3⟩ := hrr
      subst f2 f3
      obtain ⟨D, hD⟩ : ∃ D, D = decodeV y := ⟨_, rfl⟩
      rw [← hD] at f1
      cases f1 with
      | mk k5 a5 e5 L5 x5 hx5 hk5 hL5 =>
      conv => cbv
      refine callF_frame (rDecode_lx y (by omega)) [] rfl trivial rfl rfl (fun r2 h' n' hrr => ?_)
      obtain ⟨f1, f2, f3⟩ := hrr
      subst f2 f3
      rw [← hD] at f1
      cases f1 with
      | mk k6 a6 e6 L6 x6 hx6 hk6 hL6 =>
      obtain ⟨s1, s2⟩ := Prod.mk.inj (hx5.symm.trans hx6)
      obtain ⟨s3, s4⟩ := Prod.mk.inj s2
      have hb5 := decode_bound (hD.symm.trans hx5)
      conv => cbv
      refine callF_frame (awake02_lx o ho) [(0, 0)] rfl (by simp [hmapOk, nget, hget, renB, okB, renV, renVs, rn, okVs, okV]) rfl rfl (fun r2 h' n' ⟨d1, d2, d3⟩ => ?_)
      subst d1 d2 d3
      conv => cbv
      refine Br.yes (by show e1 = 5; exact r4.symm) ?_
      conv => cbv
      refine Fit.mk (by show (-9223372036854775808 : Int) ≤ w + 1; omega) (by show w + 1 ≤ 9223372036854775807; omega) fun w1 hw9 => ?_
      have hw9 : w1 = w + 1 := hw9
      conv => cbv
      refine Br.yes (by show a1 = w1; rw [hw9]; exact r3.symm) ?_
      conv => cbv
      refine callF_frame (instrs_lx x5 x6 k5 k6 L5 L6 hk5 hk6 hL5 hL6 (by omega) (fun x hx => by have := hb5.2 x hx; omega)) [] rfl trivial rfl rfl (fun r2 h' n' hrr => ?_)
      obtain ⟨⟨q2, d1, hq2⟩, d2, d3⟩ := hrr
      subst d1 d2 d3
      cases q2 with
      | false =>
        have := hq2.2 s1
        cases this
      | true =>
      conv => cbv
      refine Br.yes (by show a5 = a6; exact s3) ?_
      conv => cbv
      refine Br.mk (fun g9 => ?_) (fun g9 => ?_)
      · conv => cbv
        refine RetF.mk [.p (.bool true)] [(0, .fix 0 o)] 1 (Re.at [(0, 0)] []) rfl rfl
      · have g9 : ¬ e5 = e6 := g9
        exact absurd s4 g9
    have g7 : i < 8 := g7
    obtain ⟨k', rfl⟩ : ∃ k', kk = k' + 1 := ⟨kk - 1, by omega⟩
    conv => cbv
    refine Need.mk ⟨by show (0 : Int) ≤ i; omega, by show i < (z.size : Int); omega⟩ ?_
    conv => cbv
    refine Sum.mk fun b hb => ?_
    have hb : b = ((z.get! i.toNat).toNat : Int) := hb
    have hb2 : 0 ≤ b ∧ b ≤ 255 := by have := (z.get! i.toNat).toNat_lt; omega
    clear hb
    conv => cbv
    refine Fit.mk (by show (-9223372036854775808 : Int) ≤ b; omega) (by show b ≤ 9223372036854775807; omega) fun c hc => ?_
    have hc : c = b := hc
    conv => cbv
    refine Sum.mk fun d hd => ?_
    have hd : d = c % 9 := (show d = c.tmod 9 from hd).trans (Int.tmod_eq_emod_of_nonneg (by omega))
    conv => cbv
    refine Need.mk ⟨by show (0 : Int) ≤ d; omega, by show d < ((9 : Nat) : Int); omega⟩ ?_
    conv => cbv
    refine Sum.mk fun v hv => ?_
    obtain ⟨c0, hc0⟩ : ∃ c0 : UInt8, v = (c0.toNat : Int) := ⟨_, hv⟩
    clear hv
    conv => cbv
    refine Need.mk (by show (1 : Int) ≤ ((1 : Nat) : Int); omega) ?_
    conv => cbv
    refine Bytes.mk [c0] ⟨by show v = (c0.toNat : Int); exact hc0, trivial⟩ fun y2 hy2 => ?_
    have hy2s : y2.size = 1 := by rw [hy2]; rfl
    conv => cbv
    refine Need.mk (by show y.size + y2.size ≤ 9223372036854775807; omega) ?_
    conv => cbv
    refine Str.mk fun y3 hy3 => ?_
    have hy3 : y3 = y ++ y2 := hy3
    conv => cbv
    refine Fit.mk (by show (-9223372036854775808 : Int) ≤ i + 1; omega) (by show i + 1 ≤ 9223372036854775807; omega) fun i2 hi2 => ?_
    have hi2 : i2 = i + 1 := hi2
    conv => cbv
    refine Again.mk k' _ (Nat.lt_succ_self _) (Re.at [(0, 0)] []) ⟨i2, y3, rfl, by rw [hy3, ByteArray.size_append]; omega, by omega, by omega, by omega⟩
  have g3 : i ≤ k2 := g3
  have hy := hyA g3
  clear hyA hyE
  have hys : y.size ≤ 1400 := by
    have := (place_len (w := w.toNat) (show i.toNat ≤ B.length by omega) (fun x hx => (hBg x hx).2) hBl.2).1
    rw [hy, bol_size]; exact this
  obtain ⟨k', rfl⟩ : ∃ k', kk = k' + 1 := ⟨kk - 1, by omega⟩
  conv => cbv
  refine Br.mk (fun g4 => ?_) (fun g4 => ?_)
  · have g4 : i = w := g4
    conv => cbv
    refine Need.mk (by show y.size + 3 ≤ 9223372036854775807; omega) ?_
    conv => cbv
    refine Str.mk fun y2 hy2 => ?_
    have hy2 : y2 = y ++ bytesOfL [10, 32, 63] := hy2
    have hy2s : y2.size ≤ 1500 := by rw [hy2, ByteArray.size_append]; show y.size + 3 ≤ 1500; omega
    conv => cbv
    refine Need.mk (by show y2.size + 1 ≤ 9223372036854775807; omega) ?_
    conv => cbv
    refine Str.mk fun y3 hy3 => ?_
    have hy3 : y3 = y2 ++ bytesOfL [10] := hy3
    have hYY : y3 = bytesOfL (placeW B w.toNat i.toNat) := by
      rw [hy3, hy2, hy, bol_add, bol_add, show i.toNat = w.toNat by omega, place_eq]
      simp
    have hYs : y3.size ≤ 1600 := by rw [hy3, ByteArray.size_append]; show y2.size + 1 ≤ 1600; omega
    conv => cbv
    refine Br.mk (fun g5 => ?_) (fun g5 => ?_)
    · have g5 : i < k2 := g5
      obtain ⟨x, hx⟩ : ∃ x, B[i.toNat]? = some x := ⟨_, List.getElem?_eq_getElem (by omega)⟩
      have hxm := List.mem_of_getElem? hx
      conv => cbv
      refine Fit.mk (by show (-9223372036854775808 : Int) ≤ i + 1; omega) (by show i + 1 ≤ 9223372036854775807; omega) fun i1 hi1 => ?_
      have hi1 : i1 = i + 1 := hi1
      conv => cbv
      refine Need.mk ⟨by show (0 : Int) ≤ i; omega, by show i ≤ i1; omega, by show i1 ≤ k2; omega⟩ ?_
      conv => cbv
      refine Upd.mk fun Lx hLx => ?_
      have hLx : Lx = isV [x] := by
        have e : Lx = (L2.drop (i.toNat * 5)).take ((i1 - i).toNat * 5) := hLx
        rw [e, hL2, show (i1 - i).toNat * 5 = 5 by omega]; exact isV_one hx
      conv => cbv
      refine Sum.mk fun kx hkx => ?_
      have hkx : kx = (([x] : List Is).length : Int) := by have : kx = i1 - i := hkx; rw [this]; show i1 - i = 1; omega
      conv => cbv
      refine callF_frame (rWrite_lx [x] 3 kx Lx hkx hLx (by show 1 * (64 * 3 + 65) ≤ 3000000; decide) (by decide) (by show 1 ≤ 100; decide) (fun y hy => by rw [List.mem_singleton] at hy; subst hy; exact hBx _ hxm)) [] rfl trivial rfl rfl (fun r2 h' n' hrr => ?_)
      obtain ⟨⟨yt, et, d1, hWt⟩, d2, d3⟩ := hrr
      subst d1 d2 d3
      obtain ⟨hyt, _⟩ := hWt.okay (okay_single (hBg x hxm).1 (hBg x hxm).2)
      have hyts : yt.size ≤ 100 := by
        rw [hyt, bol_size]
        have := join_le [x] 16 (fun y hy => by rw [List.mem_singleton] at hy; subst hy; exact (hBg _ hxm).2)
        have e : [x].length = 1 := rfl
        omega
      conv => cbv
      refine Need.mk (by show y3.size + yt.size ≤ 9223372036854775807; omega) ?_
      conv => cbv
      refine Str.mk fun y4 hy4 => ?_
      have hy4 : y4 = y3 ++ yt := hy4
      have hy5 : y4 = bytesOfL (placeT B w.toNat (i.toNat + 1)) := by rw [hy4, hYY, hyt, bol_add, place_step hx]
      conv => cbv
      refine Fit.mk (by show (-9223372036854775808 : Int) ≤ i + 1; omega) (by show i + 1 ≤ 9223372036854775807; omega) fun i2 hi2 => ?_
      have hi2 : i2 = i + 1 := hi2
      rw [show i.toNat + 1 = i2.toNat by omega] at hy5
      conv => cbv
      refine Again.mk k' _ (Nat.lt_succ_self _) (Re.at [(0, 0)] []) ⟨i2, y4, rfl, (fun _ => hy5), (fun h => by omega), by omega, by omega, by omega⟩
    · have g5 : ¬ i < k2 := g5
      have hik : i = k2 := by omega
      conv => cbv
      refine Fit.mk (by show (-9223372036854775808 : Int) ≤ i + 1; omega) (by show i + 1 ≤ 9223372036854775807; omega) fun i2 hi2 => ?_
      have hi2 : i2 = i + 1 := hi2
      have hy5 : y3 = bytesOfL (placeW B w.toNat B.length) := by rw [hYY, show i.toNat = B.length by omega]
      conv => cbv
      refine Again.mk k' _ (Nat.lt_succ_self _) (Re.at [(0, 0)] []) ⟨i2, y3, rfl, (fun h => by omega), (fun _ => hy5), by omega, by omega, by omega⟩
  · have g4 : ¬ i = w := g4
    have hYY : y = bytesOfL (placeW B w.toNat i.toNat) := by rw [hy, place_ne (by omega)]
    conv => cbv
    refine Br.mk (fun g5 => ?_) (fun g5 => ?_)
    · have g5 : i < k2 := g5
      obtain ⟨x, hx⟩ : ∃ x, B[i.toNat]? = some x := ⟨_, List.getElem?_eq_getElem (by omega)⟩
      have hxm := List.mem_of_getElem? hx
      conv => cbv
      refine Fit.mk (by show (-9223372036854775808 : Int) ≤ i + 1; omega) (by show i + 1 ≤ 9223372036854775807; omega) fun i1 hi1 => ?_
      have hi1 : i1 = i + 1 := hi1
      conv => cbv
      refine Need.mk ⟨by show (0 : Int) ≤ i; omega, by show i ≤ i1; omega, by show i1 ≤ k2; omega⟩ ?_
      conv => cbv
      refine Upd.mk fun Lx hLx => ?_
      have hLx : Lx = isV [x] := by
        have e : Lx = (L2.drop (i.toNat * 5)).take ((i1 - i).toNat * 5) := hLx
        rw [e, hL2, show (i1 - i).toNat * 5 = 5 by omega]; exact isV_one hx
      conv => cbv
      refine Sum.mk fun kx hkx => ?_
      have hkx : kx = (([x] : List Is).length : Int) := by have : kx = i1 - i := hkx; rw [this]; show i1 - i = 1; omega
      conv => cbv
      refine callF_frame (rWrite_lx [x] 3 kx Lx hkx hLx (by show 1 * (64 * 3 + 65) ≤ 3000000; decide) (by decide) (by show 1 ≤ 100; decide) (fun y hy => by rw [List.mem_singleton] at hy; subst hy; exact hBx _ hxm)) [] rfl trivial rfl rfl (fun r2 h' n' hrr => ?_)
      obtain ⟨⟨yt, et, d1, hWt⟩, d2, d3⟩ := hrr
      subst d1 d2 d3
      obtain ⟨hyt, _⟩ := hWt.okay (okay_single (hBg x hxm).1 (hBg x hxm).2)
      have hyts : yt.size ≤ 100 := by
        rw [hyt, bol_size]
        have := join_le [x] 16 (fun y hy => by rw [List.mem_singleton] at hy; subst hy; exact (hBg _ hxm).2)
        have e : [x].length = 1 := rfl
        omega
      conv => cbv
      refine Need.mk (by show y.size + yt.size ≤ 9223372036854775807; omega) ?_
      conv => cbv
      refine Str.mk fun y4 hy4 => ?_
      have hy4 : y4 = y ++ yt := hy4
      have hy5 : y4 = bytesOfL (placeT B w.toNat (i.toNat + 1)) := by rw [hy4, hYY, hyt, bol_add, place_step hx]
      conv => cbv
      refine Fit.mk (by show (-9223372036854775808 : Int) ≤ i + 1; omega) (by show i + 1 ≤ 9223372036854775807; omega) fun i2 hi2 => ?_
      have hi2 : i2 = i + 1 := hi2
      rw [show i.toNat + 1 = i2.toNat by omega] at hy5
      conv => cbv
      refine Again.mk k' _ (Nat.lt_succ_self _) (Re.at [(0, 0)] []) ⟨i2, y4, rfl, (fun _ => hy5), (fun h => by omega), by omega, by omega, by omega⟩
    · have g5 : ¬ i < k2 := g5
      have hik : i = k2 := by omega
      conv => cbv
      refine Fit.mk (by show (-9223372036854775808 : Int) ≤ i + 1; omega) (by show i + 1 ≤ 9223372036854775807; omega) fun i2 hi2 => ?_
      have hi2 : i2 = i + 1 := hi2
      have hy5 : y = bytesOfL (placeW B w.toNat B.length) := by rw [hYY, show i.toNat = B.length by omega]
      conv => cbv
      refine Again.mk k' _ (Nat.lt_succ_self _) (Re.at [(0, 0)] []) ⟨i2, y, rfl, (fun h => by omega), (fun _ => hy5), by omega, by omega, by omega⟩
end Go.Proofs.YtfjdifeofnpcnaaDoor
