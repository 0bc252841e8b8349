/-
  Layer 9: HeapPlays.
-/
import Derived.Test.YtllafhhnciobhaaGreatDoorIe

import Derived.Test.YtllafhhnciobhaaGreatDoorIg

import Derived.Test.YtllafhhnciobhaaGreatDoorLxO
namespace Go.Proofs.YtllafhhnciobhaaGreatDoor

open Go Go.LX
set_option maxRecDepth 100000
set_option linter.unusedVariables false
set_option linter.unusedSimpArgs false

theorem Sim.new9 (n : Nat) : Sim (List.replicate n (0, [])) (List.replicate (32 * n) 0) (List.replicate (32 * n) 0) :=
  ⟨AOk.new n, AOk.new n, fun _ _ _ h => absurd h.obj6 (new_none n _), fun _ _ _ _ h => absurd h.obj6 (new_none n _)⟩
set_option maxHeartbeats 8000000 in
theorem heapPlays_law (o : Unit → Obj) (ho : IsPow o) (n k1 : Int) (ops : List (Int × Int × Int × Int × Int × Int)) (L1 : List PV) (hn : -9223372036854775808 ≤ n ∧ n ≤ 9223372036854775807) (hk1 : k1 = ops.length) (hL1 : L1 = sixes ops) (hkb : k1 ≤ 9223372036854775807) (hob : ∀ o ∈ ops, (-9223372036854775808 ≤ o.1 ∧ o.1 ≤ 9223372036854775807) ∧ (-9223372036854775808 ≤ o.2.1 ∧ o.2.1 ≤ 9223372036854775807) ∧ (-9223372036854775808 ≤ o.2.2.1 ∧ o.2.2.1 ≤ 9223372036854775807) ∧ (-9223372036854775808 ≤ o.2.2.2.1 ∧ o.2.2.2.1 ≤ 9223372036854775807) ∧ (-9223372036854775808 ≤ o.2.2.2.2.1 ∧ o.2.2.2.2.1 ≤ 9223372036854775807) ∧ (-9223372036854775808 ≤ o.2.2.2.2.2 ∧ o.2.2.2.2.2 ≤ 9223372036854775807)) :
    CallF (fun _ => Tryz.prog) 3 [.p (.int .i64 (.sym n)), .p (.vsl (.sym k1) true L1)] [(0, .fix 0 o)] 1 (fun r _ _ => r = .p (.bool true)) := by
  have hL1l : L1.length = 6 * ops.length := by rw [hL1, sixes_length]
  refine callF_of_body tok Tryz.func3 (by kernel_rfl) rfl rfl rfl ?_; conv => cbv
  refine Fit.wrap fun xn hxn => ?_
  have hxn : xn = IntKind.u64.wrap n := hxn
  have hyn : 0 ≤ xn := by rw [hxn]; simp [IntKind.wrap, IntKind.bits, IntKind.signed]; omega
  clear hxn
  conv => cbv
  refine Sum.mk fun tn htn => ?_
  have htn : tn = xn % 5 := (show tn = xn.tmod 5 from htn).trans (Int.tmod_eq_emod_of_nonneg hyn)
  conv => cbv
  refine Fit.mk (by show (-9223372036854775808 : Int) ≤ tn; omega) (by show tn ≤ 9223372036854775807; omega) fun un hun => ?_
  have hun : un = tn := hun
  have h0n : 0 ≤ un := by omega
  have h1n : un < 5 := by omega
  clear hun htn hyn
  conv => cbv
  refine Fit.mk (by show (-9223372036854775808 : Int) ≤ 2 + un; omega) (by show 2 + un ≤ 9223372036854775807; omega) fun N hN => ?_
  have hN : N = 2 + un := hN
  have hN0 : 2 ≤ N := by omega
  have hN1 : N ≤ 6 := by omega
  clear hN h0n h1n
  obtain ⟨W, hW⟩ : ∃ W, W = 32 * N := ⟨_, rfl⟩
  obtain ⟨L0, hL0⟩ : ∃ L0, L0 = rpv (List.replicate N.toNat ((0, []) : Rw)) := ⟨_, rfl⟩
  obtain ⟨D0, hD0⟩ : ∃ D0, D0 = ipv (List.replicate W.toNat (0 : Int)) := ⟨_, rfl⟩
  obtain ⟨z0, hz0⟩ : ∃ z0 : ByteArray, z0 = ⟨(enc []).toArray⟩ := ⟨_, rfl⟩
  have hM0 := HM.new hN0 (by omega) hW hL0 hD0 hD0 hz0
  conv => cbv
  refine callF_frame (newH_lx N W hN0 (by omega) hW L0 D0 D0 z0 hL0 hD0 hD0 hz0) [] rfl trivial rfl rfl (fun r h' n' ⟨e1, e2, e3⟩ => ?_)
  subst e1 e2 e3
  conv => cbv
  refine callF_frame (rnewH_lx N W hN0 (by omega) hW) [] rfl trivial rfl rfl (fun r h' n' hrr => ?_)
  obtain ⟨P0, B0, V0, Q0, e1, e2, e3, hR0⟩ := hrr
  subst e1 e2 e3
  conv => cbv
  refine callF_frame (awake09_lx o ho) [(0, 0)] rfl (by simp [hmapOk, nget, hget, renB, okB, renV, renVs, rn, okVs, okV]) rfl rfl (fun r h' n' ⟨e1, e2, e3⟩ => ?_)
  subst e1 e2 e3
  conv => cbv
  refine callF_frame (arena_lx (List.replicate N.toNat ((0, []) : Rw)) (List.replicate W.toNat 0) (List.replicate W.toNat 0) [] N W 0 0 0 L0 D0 D0 z0 false) [(0, 1), (1, 2), (2, 3), (3, 4), (4, 5), (5, 6), (6, 7)] rfl (by simp [hmapOk, nget, hget, renB, okB, renV, renVs, rn, okVs, okV]) rfl rfl (fun r h' n' ⟨e1, e2, e3⟩ => ?_)
  subst e1 e2 e3
  conv => cbv
  have hS0 : Sim (List.replicate N.toNat ((0, []) : Rw)) (List.replicate W.toNat 0) (List.replicate W.toNat 0) := by rw [show W.toNat = 32 * N.toNat by omega]; exact Sim.new9 _
  refine LoopF.mk (fun kk s => ∃ (i ph sp cy m : Int) (R : List Rw) (ws vs C G : List Int) (L D Q : List PV) (z : ByteArray) (ov : Bool) (P B V Qr la : List PV), s = ⟨.undef :: .p (.vsl (.sym k1) true L1) :: (undefs 3 ++ .ptr 1 (.lit 0) :: .undef :: .ptr 8 (.lit 0) :: .undef :: .p (.int .i64 (.sym i)) :: undefs 55), [(1, .mix [.ptr 2 (.lit 0), .ptr 6 (.lit 0), .sl 7 3 1 (.lit 0) (.sym W), .p (.int .i64 (.sym ph)), .p (.int .i64 (.sym sp)), .p (.int .i64 (.sym cy))]), (2, .mix [.ptr 3 (.lit 0), .sl 5 3 1 (.lit 0) (.sym W)]), (3, .mix [.sl 4 101 2 (.lit 0) (.sym N)]), (4, .pure true L), (5, .pure true D), (6, .pure false [.str fun _ => z, .bool ov]), (7, .pure true Q), (8, .mix [.ptr 9 (.lit 0), .sl 14 3 1 (.lit 0) (.sym W), .ptr 15 (.lit 0), .p (.int .i64 (.sym ph)), .p (.int .i64 (.sym sp)), .p (.int .i64 (.sym cy))]), (9, .mix [.ptr 10 (.lit 0), .sl 13 3 1 (.lit 0) (.sym W)]), (10, .mix [.sl 11 3 1 (.lit 0) (.sym N), .sl 12 120 8 (.lit 0) (.sym N)]), (11, .pure true P), (12, .pure true B), (13, .pure true V), (14, .pure true Qr), (15, .mix [.p (.vsl (.sym m) true la), .p (.bool ov)]), (0, .fix 0 o)], 16⟩ ∧ HM R ws C G N W L D Q z ∧ RM R vs C G N W P B V Qr la m ∧ Sim R ws vs ∧ 0 ≤ i ∧ i ≤ 100 ∧ 0 ≤ sp ∧ sp ≤ i ∧ 0 ≤ cy ∧ cy ≤ i ∧ kk = (100 - i).toNat) 100 _
    (Re.at [(0, 0), (1, 1), (2, 2), (3, 3), (4, 4), (5, 5), (6, 6), (7, 7), (8, 8), (9, 9), (10, 10), (11, 11), (12, 12), (13, 13), (14, 14), (15, 15)] []) ⟨0, 0, 0, 0, 0, _, _, _, _, [], L0, D0, D0, z0, false, P0, B0, V0, Q0, [], rfl, hM0, hR0, hS0, by omega, by omega, by omega, by omega, by omega, by omega, by omega⟩ ?_
  clear hM0 hR0 hS0 hL0 hD0 hz0
  rintro kk s ⟨i, ph, sp, cy, m, R, ws, vs, C, G, L, D, Q, z, ov, P, B, V, Qr, la, rfl, h, hr, hS, hi0, hi1, hs0, hs1, hc0, hc1, hkk⟩
  conv => cbv
  refine Br.mk (fun gi => ?_) (fun gi => ?_)
  case refine_2 =>
    conv => cbv
    refine RetF.mk [.p (.bool true)] [(0, .fix 0 o)] 1 (Re.at [(0, 0)] []) rfl rfl
  have gi : i < k1 := gi
  conv => cbv
  refine Br.mk (fun gi2 => ?_) (fun gi2 => ?_)
  case refine_2 =>
    conv => cbv
    refine RetF.mk [.p (.bool true)] [(0, .fix 0 o)] 1 (Re.at [(0, 0)] []) rfl rfl
  have gi2 : i < 100 := gi2
  obtain ⟨k', rfl⟩ : ∃ k', kk = k' + 1 := ⟨kk - 1, by omega⟩
  obtain ⟨⟨kd, oo, oa, oi, ow, ot⟩, ho6⟩ : ∃ o, ops[i.toNat]? = some o := ⟨_, List.getElem?_eq_getElem (by omega)⟩
  have hb6 := hob _ (List.mem_of_getElem? ho6)
  obtain ⟨c0, c1, c2, c3, c4, c5⟩ := sixes_get ops i.toNat _ ho6
  rw [← hL1] at c0 c1 c2 c3 c4 c5
  dsimp only at c0 c1 c2 c3 c4 c5 hb6
  conv => cbv
  refine Need.mk ⟨hi0, by show i < k1; omega⟩ ?_
  conv => cbv
  refine Sum.mk fun w hw => ?_
  have hw : w = i * 6 := hw
  conv => cbv
  refine Cell.at (w + 0) _ c0 rfl (by omega) ?_
  conv => cbv
  refine Cell.at (w + 1) _ c1 rfl (by omega) ?_
  conv => cbv
  refine Cell.at (w + 2) _ c2 rfl (by omega) ?_
  conv => cbv
  refine Cell.at (w + 3) _ c3 rfl (by omega) ?_
  conv => cbv
  refine Cell.at (w + 4) _ c4 rfl (by omega) ?_
  conv => cbv
  refine Cell.at (w + 5) _ c5 rfl (by omega) ?_
  conv => cbv
  refine callF_frame (play_lx R ws vs C G N W ph sp cy L D Q z ov P B V Qr la m h hr hS o ho kd oo oa oi ow ot hb6.2.1 hb6.2.2.1 hb6.2.2.2.1 hb6.2.2.2.2.1 hb6.2.2.2.2.2 ⟨hs0, by omega⟩ ⟨hc0, by omega⟩) [(0, 1), (1, 2), (2, 3), (3, 4), (4, 5), (5, 6), (6, 7), (7, 8), (8, 9), (9, 10), (10, 11), (11, 12), (12, 13), (13, 14), (14, 15), (15, 0)] rfl (by simp [hmapOk, nget, hget, renB, okB, renV, renVs, rn, okVs, okV]) rfl rfl (fun r h' n' hrr => ?_)
  obtain ⟨R', ws', vs', C', G', ph', sp', cy', L', D', Q', z', ov', P', B', V', Qr', la', m', e1, hh, h2, h3, hS2, q1, q2, q3, q4⟩ := hrr
  subst e1
  rcases hh with ⟨e2, e3⟩ | ⟨e2, e3⟩
  · subst e2 e3
    conv => cbv
    refine callF_frame (alike_lx R' ws' vs' C' G' N W ph' sp' cy' L' D' Q' z' ov' P' B' V' Qr' la' m' h2 h3 hS2) [(0, 1), (1, 2), (2, 3), (3, 4), (4, 5), (5, 6), (6, 7), (7, 8), (8, 9), (9, 10), (10, 11), (11, 12), (12, 13), (13, 14), (14, 15)] rfl (by simp [hmapOk, nget, hget, renB, okB, renV, renVs, rn, okVs, okV]) rfl rfl (fun r h' n' ⟨e1, e2, e3⟩ => ?_)
    subst e1 e2 e3
    conv => cbv
    refine Fit.mk (by show (-9223372036854775808 : Int) ≤ i + 1; omega) (by show i + 1 ≤ 9223372036854775807; omega) fun i2 hi2 => ?_
    have hi2 : i2 = i + 1 := hi2
    conv => cbv
    refine Again.mk k' _ (Nat.lt_succ_self _) (Re.at [(0, 0), (1, 1), (2, 2), (3, 3), (4, 4), (5, 5), (6, 6), (7, 7), (8, 8), (9, 9), (10, 10), (11, 11), (12, 12), (13, 13), (14, 14), (15, 15)] []) ⟨i2, ph', sp', cy', m', R', ws', vs', C', G', L', D', Q', z', ov', P', B', V', Qr', la', rfl, h2, h3, hS2, by omega, by omega, by omega, by omega, by omega, by omega, by omega⟩
  · subst e2 e3
    conv => cbv
    refine callF_frame (alike_lx R' ws' vs' C' G' N W ph' sp' cy' L' D' Q' z' ov' P' B' V' Qr' la' m' h2 h3 hS2) [(0, 1), (1, 2), (2, 3), (3, 4), (4, 5), (5, 16), (6, 7), (7, 8), (8, 9), (9, 10), (10, 11), (11, 12), (12, 13), (13, 14), (14, 17)] rfl (by simp [hmapOk, nget, hget, renB, okB, renV, renVs, rn, okVs, okV]) rfl rfl (fun r h' n' ⟨e1, e2, e3⟩ => ?_)
    subst e1 e2 e3
    conv => cbv
    refine Fit.mk (by show (-9223372036854775808 : Int) ≤ i + 1; omega) (by show i + 1 ≤ 9223372036854775807; omega) fun i2 hi2 => ?_
    have hi2 : i2 = i + 1 := hi2
    conv => cbv
    refine Again.mk k' _ (Nat.lt_succ_self _) (Re.at [(0, 0), (1, 1), (2, 2), (3, 3), (4, 4), (5, 5), (7, 7), (8, 8), (9, 9), (10, 10), (11, 11), (12, 12), (13, 13), (14, 14), (16, 6), (17, 15)] []) ⟨i2, ph', sp', cy', m', R', ws', vs', C', G', L', D', Q', z', ov', P', B', V', Qr', la', rfl, h2, h3, hS2, by omega, by omega, by omega, by omega, by omega, by omega, by omega⟩
end Go.Proofs.YtllafhhnciobhaaGreatDoor
