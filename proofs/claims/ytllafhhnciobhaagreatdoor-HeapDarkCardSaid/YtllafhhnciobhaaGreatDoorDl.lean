/-
  Layer 9: HeapDark.
-/
import Derived.Test.YtllafhhnciobhaaGreatDoorJe

import Derived.Test.YtllafhhnciobhaaGreatDoorLxO
namespace Go.Proofs.YtllafhhnciobhaaGreatDoor

open Go Go.LX
set_option maxRecDepth 100000
set_option linter.unusedVariables false
set_option linter.unusedSimpArgs false

theorem Sim.newD (n : Nat) : Sim (List.replicate n (0, [])) (List.replicate (32 * n) 0) (List.replicate (32 * n) 0) :=
  ⟨AOk.new n, AOk.new n, fun _ _ _ h => absurd h.obj6 (new_none n _), fun _ _ _ _ h => absurd h.obj6 (new_none n _)⟩
set_option maxHeartbeats 8000000 in
theorem heapDark_law (o : Unit → Obj) (ho : IsPow o) (n k1 : Int) (ops : List (Int × Int × Int × Int × Int × Int)) (L1 : List PV) (hn : -9223372036854775808 ≤ n ∧ n ≤ 9223372036854775807) (hk1 : k1 = ops.length) (hL1 : L1 = sixes ops) (hkb : k1 ≤ 9223372036854775807) (hob : ∀ o ∈ ops, (-9223372036854775808 ≤ o.1 ∧ o.1 ≤ 9223372036854775807) ∧ (-9223372036854775808 ≤ o.2.1 ∧ o.2.1 ≤ 9223372036854775807) ∧ (-9223372036854775808 ≤ o.2.2.1 ∧ o.2.2.1 ≤ 9223372036854775807) ∧ (-9223372036854775808 ≤ o.2.2.2.1 ∧ o.2.2.2.1 ≤ 9223372036854775807) ∧ (-9223372036854775808 ≤ o.2.2.2.2.1 ∧ o.2.2.2.2.1 ≤ 9223372036854775807) ∧ (-9223372036854775808 ≤ o.2.2.2.2.2 ∧ o.2.2.2.2.2 ≤ 9223372036854775807)) :
    CallF (fun _ => Tryz.prog) 4 [.p (.int .i64 (.sym n)), .p (.vsl (.sym k1) true L1)] [(0, .fix 0 o)] 1 (fun r _ _ => r = .p (.bool true)) := by
  have hL1l : L1.length = 6 * ops.length := by rw [hL1, sixes_length]
  refine callF_of_bodyB tok Tryz.func4 (by kernel_rfl) rfl rfl rfl [10, 12] ?_; conv => cbv
  refine Fit.wrap fun xn hxn => ?_
  have hxn : xn = IntKind.u64.wrap n := hxn
  have hyn : 0 ≤ xn := by rw [hxn]; simp [IntKind.wrap, IntKind.bits, IntKind.signed]; omega
  clear hxn
  conv => cbv
  refine Sum.mk fun tn htn => ?_
  have htn : tn = xn % 5 := (show tn = xn.tmod 5 from htn).trans (Int.tmod_eq_emod_of_nonneg hyn)
  conv => cbv
  refine Fit.mk (by show (-9223372036854775808 : Int) ≤ tn; omega) (by show tn ≤ 9223372036854775807; omega) fun un hun => ?_
  have hun : un = tn := hun
  have h0n : 0 ≤ un := by omega
  have h1n : un < 5 := by omega
  clear hun htn hyn
  conv => cbv
  refine Fit.mk (by show (-9223372036854775808 : Int) ≤ 2 + un; omega) (by show 2 + un ≤ 9223372036854775807; omega) fun N hN => ?_
  have hN : N = 2 + un := hN
  have hN0 : 2 ≤ N := by omega
  have hN1 : N ≤ 6 := by omega
  clear hN h0n h1n
  obtain ⟨W, hW⟩ : ∃ W, W = 32 * N := ⟨_, rfl⟩
  obtain ⟨L0, hL0⟩ : ∃ L0, L0 = rpv (List.replicate N.toNat ((0, []) : Rw)) := ⟨_, rfl⟩
  obtain ⟨D0, hD0⟩ : ∃ D0, D0 = ipv (List.replicate W.toNat (0 : Int)) := ⟨_, rfl⟩
  obtain ⟨z0, hz0⟩ : ∃ z0 : ByteArray, z0 = ⟨(enc []).toArray⟩ := ⟨_, rfl⟩
  have hM0 := HM.new hN0 (by omega) hW hL0 hD0 hD0 hz0
  conv => cbv
  refine callF_frame (newH_lx N W hN0 (by omega) hW L0 D0 D0 z0 hL0 hD0 hD0 hz0) [] rfl trivial rfl rfl (fun r h' n' ⟨e1, e2, e3⟩ => ?_)
  subst e1 e2 e3
  conv => cbv
  refine callF_frame (rnewH_lx N W hN0 (by omega) hW) [] rfl trivial rfl rfl (fun r h' n' hrr => ?_)
  obtain ⟨P0, B0, V0, Q0, e1, e2, e3, hR0⟩ := hrr
  subst e1 e2 e3
  conv => cbv
  refine callF_frame (awake09_lx o ho) [(0, 0)] rfl (by simp [hmapOk, nget, hget, renB, okB, renV, renVs, rn, okVs, okV]) rfl rfl (fun r h' n' ⟨e1, e2, e3⟩ => ?_)
  subst e1 e2 e3
  conv => cbv
  refine callF_frame (arena_lx (List.replicate N.toNat ((0, []) : Rw)) (List.replicate W.toNat 0) (List.replicate W.toNat 0) [] N W 0 0 0 L0 D0 D0 z0 false) [(0, 1), (1, 2), (2, 3), (3, 4), (4, 5), (5, 6), (6, 7)] rfl (by simp [hmapOk, nget, hget, renB, okB, renV, renVs, rn, okVs, okV]) rfl rfl (fun r h' n' ⟨e1, e2, e3⟩ => ?_)
  subst e1 e2 e3
  conv => cbv
  have hS0 : Sim (List.replicate N.toNat ((0, []) : Rw)) (List.replicate W.toNat 0) (List.replicate W.toNat 0) := by rw [show W.toNat = 32 * N.toNat by omega]; exact Sim.newD _
  refine LoopF.mk (fun kk s => ∃ (i ph sp cy m : Int) (R : List Rw) (ws vs C G : List Int) (L D Q : List PV) (z : ByteArray) (ov : Bool) (P B V Qr la : List PV), s = ⟨.undef :: .p (.vsl (.sym k1) true L1) :: (undefs 3 ++ .ptr 1 (.lit 0) :: .undef :: .ptr 8 (.lit 0) :: .undef :: .p (.int .i64 (.sym i)) :: undefs 121), [(1, .mix [.ptr 2 (.lit 0), .ptr 6 (.lit 0), .sl 7 3 1 (.lit 0) (.sym W), .p (.int .i64 (.sym ph)), .p (.int .i64 (.sym sp)), .p (.int .i64 (.sym cy))]), (2, .mix [.ptr 3 (.lit 0), .sl 5 3 1 (.lit 0) (.sym W)]), (3, .mix [.sl 4 101 2 (.lit 0) (.sym N)]), (4, .pure true L), (5, .pure true D), (6, .pure false [.str fun _ => z, .bool ov]), (7, .pure true Q), (8, .mix [.ptr 9 (.lit 0), .sl 14 3 1 (.lit 0) (.sym W), .ptr 15 (.lit 0), .p (.int .i64 (.sym ph)), .p (.int .i64 (.sym sp)), .p (.int .i64 (.sym cy))]), (9, .mix [.ptr 10 (.lit 0), .sl 13 3 1 (.lit 0) (.sym W)]), (10, .mix [.sl 11 3 1 (.lit 0) (.sym N), .sl 12 120 8 (.lit 0) (.sym N)]), (11, .pure true P), (12, .pure true B), (13, .pure true V), (14, .pure true Qr), (15, .mix [.p (.vsl (.sym m) true la), .p (.bool ov)]), (0, .fix 0 o)], 16⟩ ∧ HM R ws C G N W L D Q z ∧ RM R vs C G N W P B V Qr la m ∧ Sim R ws vs ∧ (ph = 1 → Dk R ws C) ∧ 0 ≤ i ∧ i ≤ 100 ∧ 0 ≤ sp ∧ sp ≤ i ∧ 0 ≤ cy ∧ cy ≤ i ∧ kk = (100 - i).toNat) 100 _
    (Re.at [(0, 0), (1, 1), (2, 2), (3, 3), (4, 4), (5, 5), (6, 6), (7, 7), (8, 8), (9, 9), (10, 10), (11, 11), (12, 12), (13, 13), (14, 14), (15, 15)] []) ⟨0, 0, 0, 0, 0, _, _, _, _, [], L0, D0, D0, z0, false, P0, B0, V0, Q0, [], rfl, hM0, hR0, hS0, fun h => absurd h (by decide), by omega, by omega, by omega, by omega, by omega, by omega, by omega⟩ ?_
  clear hM0 hR0 hS0 hL0 hD0 hz0
  rintro kk s ⟨i, ph, sp, cy, m, R, ws, vs, C, G, L, D, Q, z, ov, P, B, V, Qr, la, rfl, h, hr, hS, hD, hi0, hi1, hs0, hs1, hc0, hc1, hkk⟩
  conv => cbv
  refine Br.mk (fun gi => ?_) (fun gi => ?_)
  case refine_2 =>
    conv => cbv
    refine RetF.mk [.p (.bool true)] [(0, .fix 0 o)] 1 (Re.at [(0, 0)] []) rfl rfl
  have gi : i < k1 := gi
  conv => cbv
  refine Br.mk (fun gi2 => ?_) (fun gi2 => ?_)
  case refine_2 =>
    conv => cbv
    refine RetF.mk [.p (.bool true)] [(0, .fix 0 o)] 1 (Re.at [(0, 0)] []) rfl rfl
  have gi2 : i < 100 := gi2
  obtain ⟨k', rfl⟩ : ∃ k', kk = k' + 1 := ⟨kk - 1, by omega⟩
  obtain ⟨⟨kd, oo, oa, oi, ow, ot⟩, ho6⟩ : ∃ o, ops[i.toNat]? = some o := ⟨_, List.getElem?_eq_getElem (by omega)⟩
  have hb6 := hob _ (List.mem_of_getElem? ho6)
  obtain ⟨c0, c1, c2, c3, c4, c5⟩ := sixes_get ops i.toNat _ ho6
  rw [← hL1] at c0 c1 c2 c3 c4 c5
  dsimp only at c0 c1 c2 c3 c4 c5 hb6
  conv => cbv
  refine Need.mk ⟨hi0, by show i < k1; omega⟩ ?_
  conv => cbv
  refine Sum.mk fun w hw => ?_
  have hw : w = i * 6 := hw
  conv => cbv
  refine Cell.at (w + 0) _ c0 rfl (by omega) ?_
  conv => cbv
  refine Cell.at (w + 1) _ c1 rfl (by omega) ?_
  conv => cbv
  refine Cell.at (w + 2) _ c2 rfl (by omega) ?_
  conv => cbv
  refine Cell.at (w + 3) _ c3 rfl (by omega) ?_
  conv => cbv
  refine Cell.at (w + 4) _ c4 rfl (by omega) ?_
  conv => cbv
  refine Cell.at (w + 5) _ c5 rfl (by omega) ?_
  conv => cbv
  refine JoinF.mk (fun s => ∃ kd2 : Int, s = ⟨.undef :: .p (.vsl (.sym k1) true L1) :: (undefs 3 ++ .ptr 1 (.lit 0) :: .undef :: .ptr 8 (.lit 0) :: .undef :: .p (.int .i64 (.sym i)) :: .ptr 16 (.lit 0) :: undefs 120), [(1, .mix [.ptr 2 (.lit 0), .ptr 6 (.lit 0), .sl 7 3 1 (.lit 0) (.sym W), .p (.int .i64 (.sym ph)), .p (.int .i64 (.sym sp)), .p (.int .i64 (.sym cy))]), (2, .mix [.ptr 3 (.lit 0), .sl 5 3 1 (.lit 0) (.sym W)]), (3, .mix [.sl 4 101 2 (.lit 0) (.sym N)]), (4, .pure true L), (5, .pure true D), (6, .pure false [.str fun _ => z, .bool ov]), (7, .pure true Q), (8, .mix [.ptr 9 (.lit 0), .sl 14 3 1 (.lit 0) (.sym W), .ptr 15 (.lit 0), .p (.int .i64 (.sym ph)), .p (.int .i64 (.sym sp)), .p (.int .i64 (.sym cy))]), (9, .mix [.ptr 10 (.lit 0), .sl 13 3 1 (.lit 0) (.sym W)]), (10, .mix [.sl 11 3 1 (.lit 0) (.sym N), .sl 12 120 8 (.lit 0) (.sym N)]), (11, .pure true P), (12, .pure true B), (13, .pure true V), (14, .pure true Qr), (15, .mix [.p (.vsl (.sym m) true la), .p (.bool ov)]), (0, .fix 0 o), (16, .pure false [.int .i64 (.sym kd2), .int .i64 (.sym oo), .int .i64 (.sym oa), .int .i64 (.sym oi), .int .i64 (.sym ow), .int .i64 (.sym ot)])], 17⟩) ?_ ?_
  · conv => cbv
    refine Br.mk (fun g1 => ?_) (fun g1 => ?_)
    · conv => cbv
      refine Joined.mk _ (Re.at [(0, 0), (1, 1), (2, 2), (3, 3), (4, 4), (5, 5), (6, 6), (7, 7), (8, 8), (9, 9), (10, 10), (11, 11), (12, 12), (13, 13), (14, 14), (15, 15), (16, 16)] []) ⟨5, rfl⟩
    · conv => cbv
      refine Joined.mk _ (Re.at [(0, 0), (1, 1), (2, 2), (3, 3), (4, 4), (5, 5), (6, 6), (7, 7), (8, 8), (9, 9), (10, 10), (11, 11), (12, 12), (13, 13), (14, 14), (15, 15), (16, 16)] []) ⟨kd, rfl⟩
  · skip
    rintro s ⟨kd2, rfl⟩
    conv => cbv
    refine JoinF.mk (fun s => ∃ (ph sp cy m : Int) (R : List Rw) (ws vs C G : List Int) (L D Q : List PV) (z : ByteArray) (ov : Bool) (P B V Qr la : List PV), s = ⟨.undef :: .p (.vsl (.sym k1) true L1) :: (undefs 3 ++ .ptr 1 (.lit 0) :: .undef :: .ptr 8 (.lit 0) :: .undef :: .p (.int .i64 (.sym i)) :: undefs 121), [(1, .mix [.ptr 2 (.lit 0), .ptr 6 (.lit 0), .sl 7 3 1 (.lit 0) (.sym W), .p (.int .i64 (.sym ph)), .p (.int .i64 (.sym sp)), .p (.int .i64 (.sym cy))]), (2, .mix [.ptr 3 (.lit 0), .sl 5 3 1 (.lit 0) (.sym W)]), (3, .mix [.sl 4 101 2 (.lit 0) (.sym N)]), (4, .pure true L), (5, .pure true D), (6, .pure false [.str fun _ => z, .bool ov]), (7, .pure true Q), (8, .mix [.ptr 9 (.lit 0), .sl 14 3 1 (.lit 0) (.sym W), .ptr 15 (.lit 0), .p (.int .i64 (.sym ph)), .p (.int .i64 (.sym sp)), .p (.int .i64 (.sym cy))]), (9, .mix [.ptr 10 (.lit 0), .sl 13 3 1 (.lit 0) (.sym W)]), (10, .mix [.sl 11 3 1 (.lit 0) (.sym N), .sl 12 120 8 (.lit 0) (.sym N)]), (11, .pure true P), (12, .pure true B), (13, .pure true V), (14, .pure true Qr), (15, .mix [.p (.vsl (.sym m) true la), .p (.bool ov)]), (0, .fix 0 o)], 16⟩ ∧ HM R ws C G N W L D Q z ∧ RM R vs C G N W P B V Qr la m ∧ Sim R ws vs ∧ (ph = 1 → Dk R ws C) ∧ 0 ≤ sp ∧ sp ≤ i + 1 ∧ 0 ≤ cy ∧ cy ≤ i + 1) ?_ ?_
    · conv => cbv
      refine callF_frame (playD_lx R ws vs C G N W ph sp cy L D Q z ov P B V Qr la m h hr hS o ho kd2 oo oa oi ow ot hb6.2.1 hb6.2.2.1 hb6.2.2.2.1 hb6.2.2.2.2.1 hb6.2.2.2.2.2 ⟨hs0, by omega⟩ ⟨hc0, by omega⟩) [(0, 1), (1, 2), (2, 3), (3, 4), (4, 5), (5, 6), (6, 7), (7, 8), (8, 9), (9, 10), (10, 11), (11, 12), (12, 13), (13, 14), (14, 15), (15, 0)] rfl (by simp [hmapOk, nget, hget, renB, okB, renV, renVs, rn, okVs, okV]) rfl rfl (fun r h' n' hrr => ?_)
      obtain ⟨R', ws', vs', C', G', ph', sp', cy', L', D', Q', z', ov', P', B', V', Qr', la', m', e1, hh, h2, h3, hS2, q1, q2, q3, q4, hdk⟩ := hrr
      subst e1
      rcases hh with ⟨e2, e3⟩ | ⟨e2, e3⟩
      · subst e2 e3
        conv => cbv
        refine Joined.mk _ (Re.at [(0, 0), (1, 1), (2, 2), (3, 3), (4, 4), (5, 5), (6, 6), (7, 7), (8, 8), (9, 9), (10, 10), (11, 11), (12, 12), (13, 13), (14, 14), (15, 15)] []) ⟨ph', sp', cy', m', R', ws', vs', C', G', L', D', Q', z', ov', P', B', V', Qr', la', rfl, h2, h3, hS2, hdk hD, q1, by omega, q3, by omega⟩
      · subst e2 e3
        conv => cbv
        refine Joined.mk _ (Re.at [(0, 0), (1, 1), (2, 2), (3, 3), (4, 4), (5, 5), (7, 7), (8, 8), (9, 9), (10, 10), (11, 11), (12, 12), (13, 13), (14, 14), (17, 6), (18, 15)] []) ⟨ph', sp', cy', m', R', ws', vs', C', G', L', D', Q', z', ov', P', B', V', Qr', la', rfl, h2, h3, hS2, hdk hD, q1, by omega, q3, by omega⟩
    clear h hr hS hD hs0 hs1 hc0 hc1
    rintro s ⟨ph, sp, cy, m, R, ws, vs, C, G, L, D, Q, z, ov, P, B, V, Qr, la, rfl, h, hr, hS, hD, hs0, hs1, hc0, hc1⟩
    obtain ⟨mo, hmo⟩ : ∃ m : Int, m = objCount R := ⟨_, rfl⟩
    conv => cbv
    refine callF_frame (arena_lx R ws C G N W ph sp cy L D Q z ov) [(0, 1), (1, 2), (2, 3), (3, 4), (4, 5), (5, 6), (6, 7)] rfl (by simp [hmapOk, nget, hget, renB, okB, renV, renVs, rn, okVs, okV]) rfl rfl (fun r h' n' ⟨e1, e2, e3⟩ => ?_)
    subst e1 e2 e3
    conv => cbv
    refine callF_frame (objects_lx mo R N W L D h.l h.n h.r h.a.rows h.w hmo) [(0, 2), (1, 3), (2, 4), (3, 5)] rfl (by simp [hmapOk, nget, hget, renB, okB, renV, renVs, rn, okVs, okV]) rfl rfl (fun r h' n' hrr => ?_)
    obtain ⟨O, e1, e2, e3, hO⟩ := hrr
    subst e1 e2 e3
    have hOl : (O.length : Int) = mo := by rw [hO, ipv_length, objs_length h.a.rows, hmo]
    have hO : O = ipv (objs R) := hO
    have hol : ((objs R).length : Int) = mo := by rw [← hOl, hO, ipv_length]
    have hRr := h.r
    have hob2 : mo ≤ 8000 := by have := objsTo_le R R.length; rw [objs_length h.a.rows] at this; omega
    conv => cbv
    refine LoopF.mk (fun kk s => ∃ k : Int, s = ⟨.undef :: .p (.vsl (.sym k1) true L1) :: (undefs 3 ++ .ptr 1 (.lit 0) :: .undef :: .ptr 8 (.lit 0) :: .undef :: .p (.int .i64 (.sym i)) :: .undef :: .sl 16 3 1 (.lit 0) (.sym mo) :: .p (.int .i64 (.sym k)) :: undefs 118), [(1, .mix [.ptr 2 (.lit 0), .ptr 6 (.lit 0), .sl 7 3 1 (.lit 0) (.sym W), .p (.int .i64 (.sym ph)), .p (.int .i64 (.sym sp)), .p (.int .i64 (.sym cy))]), (2, .mix [.ptr 3 (.lit 0), .sl 5 3 1 (.lit 0) (.sym W)]), (3, .mix [.sl 4 101 2 (.lit 0) (.sym N)]), (4, .pure true L), (5, .pure true D), (6, .pure false [.str fun _ => z, .bool ov]), (7, .pure true Q), (8, .mix [.ptr 9 (.lit 0), .sl 14 3 1 (.lit 0) (.sym W), .ptr 15 (.lit 0), .p (.int .i64 (.sym ph)), .p (.int .i64 (.sym sp)), .p (.int .i64 (.sym cy))]), (9, .mix [.ptr 10 (.lit 0), .sl 13 3 1 (.lit 0) (.sym W)]), (10, .mix [.sl 11 3 1 (.lit 0) (.sym N), .sl 12 120 8 (.lit 0) (.sym N)]), (11, .pure true P), (12, .pure true B), (13, .pure true V), (14, .pure true Qr), (15, .mix [.p (.vsl (.sym m) true la), .p (.bool ov)]), (0, .fix 0 o), (16, .pure true O)], 17⟩ ∧ 0 ≤ k ∧ k ≤ mo ∧ kk = (mo - k).toNat) mo.toNat _
      (Re.at [(0, 0), (1, 1), (2, 2), (3, 3), (4, 4), (5, 5), (6, 6), (7, 7), (8, 8), (9, 9), (10, 10), (11, 11), (12, 12), (13, 13), (14, 14), (15, 15), (16, 16)] []) ⟨0, rfl, by omega, by omega, by omega⟩ ?_
    rintro kk2 s ⟨k, rfl, hk0, hk1', hkk2⟩
    conv => cbv
    refine Br.mk (fun gk => ?_) (fun gk => ?_)
    case refine_2 =>
      have gk : ¬ k < mo := gk
      conv => cbv
      refine Fit.mk (by show (-9223372036854775808 : Int) ≤ i + 1; omega) (by show i + 1 ≤ 9223372036854775807; omega) fun i2 hi2 => ?_
      have hi2 : i2 = i + 1 := hi2
      conv => cbv
      refine Again.mk k' _ (Nat.lt_succ_self _) (Re.at [(0, 0), (1, 1), (2, 2), (3, 3), (4, 4), (5, 5), (6, 6), (7, 7), (8, 8), (9, 9), (10, 10), (11, 11), (12, 12), (13, 13), (14, 14), (15, 15)] []) ⟨i2, ph, sp, cy, m, R, ws, vs, C, G, L, D, Q, z, ov, P, B, V, Qr, la, rfl, h, hr, hS, hD, by omega, by omega, by omega, by omega, by omega, by omega, by omega⟩
    have gk : k < mo := gk
    conv => cbv
    refine callF_frame (phase_lx R ws C G N W ph sp cy L D Q z ov) [(0, 1), (1, 2), (2, 3), (3, 4), (4, 5), (5, 6), (6, 7)] rfl (by simp [hmapOk, nget, hget, renB, okB, renV, renVs, rn, okVs, okV]) rfl rfl (fun r h' n' ⟨e1, e2, e3⟩ => ?_)
    subst e1 e2 e3
    conv => cbv
    refine Br.mk (fun gp => ?_) (fun gp => ?_)
    case refine_2 =>
      have gp : ¬ ph = 1 := gp
      conv => cbv
      refine Fit.mk (by show (-9223372036854775808 : Int) ≤ i + 1; omega) (by show i + 1 ≤ 9223372036854775807; omega) fun i2 hi2 => ?_
      have hi2 : i2 = i + 1 := hi2
      conv => cbv
      refine Again.mk k' _ (Nat.lt_succ_self _) (Re.at [(0, 0), (1, 1), (2, 2), (3, 3), (4, 4), (5, 5), (6, 6), (7, 7), (8, 8), (9, 9), (10, 10), (11, 11), (12, 12), (13, 13), (14, 14), (15, 15)] []) ⟨i2, ph, sp, cy, m, R, ws, vs, C, G, L, D, Q, z, ov, P, B, V, Qr, la, rfl, h, hr, hS, hD, by omega, by omega, by omega, by omega, by omega, by omega, by omega⟩
    have gp : ph = 1 := gp
    have hD1 := hD gp
    obtain ⟨kq1, rfl⟩ : ∃ k', kk2 = k' + 1 := ⟨kk2 - 1, by omega⟩
    obtain ⟨a, ha⟩ : ∃ a, (objs R)[k.toNat]? = some a := ⟨_, List.getElem?_eq_getElem (by omega)⟩
    have hc : O[k.toNat]? = some (.int .i64 (.sym a)) := by rw [hO]; exact ipv_get ha
    have hao := List.mem_of_getElem? ha
    obtain ⟨kd0, l0, hK⟩ := Kept.of h.a ((obj_iff h.a a).1 hao)
    have hll := hK.bounds h.a
    conv => cbv
    refine LoopF.mk (fun kq s => ∃ q : Int, s = ⟨.undef :: .p (.vsl (.sym k1) true L1) :: (undefs 3 ++ .ptr 1 (.lit 0) :: .undef :: .ptr 8 (.lit 0) :: .undef :: .p (.int .i64 (.sym i)) :: .undef :: .sl 16 3 1 (.lit 0) (.sym mo) :: .p (.int .i64 (.sym k)) :: .p (.int .i64 (.sym q)) :: undefs 117), [(1, .mix [.ptr 2 (.lit 0), .ptr 6 (.lit 0), .sl 7 3 1 (.lit 0) (.sym W), .p (.int .i64 (.sym ph)), .p (.int .i64 (.sym sp)), .p (.int .i64 (.sym cy))]), (2, .mix [.ptr 3 (.lit 0), .sl 5 3 1 (.lit 0) (.sym W)]), (3, .mix [.sl 4 101 2 (.lit 0) (.sym N)]), (4, .pure true L), (5, .pure true D), (6, .pure false [.str fun _ => z, .bool ov]), (7, .pure true Q), (8, .mix [.ptr 9 (.lit 0), .sl 14 3 1 (.lit 0) (.sym W), .ptr 15 (.lit 0), .p (.int .i64 (.sym ph)), .p (.int .i64 (.sym sp)), .p (.int .i64 (.sym cy))]), (9, .mix [.ptr 10 (.lit 0), .sl 13 3 1 (.lit 0) (.sym W)]), (10, .mix [.sl 11 3 1 (.lit 0) (.sym N), .sl 12 120 8 (.lit 0) (.sym N)]), (11, .pure true P), (12, .pure true B), (13, .pure true V), (14, .pure true Qr), (15, .mix [.p (.vsl (.sym m) true la), .p (.bool ov)]), (0, .fix 0 o), (16, .pure true O)], 17⟩ ∧ 0 ≤ q ∧ q ≤ 32 ∧ kq = (32 - q).toNat) 32 _
      (Re.at [(0, 0), (1, 1), (2, 2), (3, 3), (4, 4), (5, 5), (6, 6), (7, 7), (8, 8), (9, 9), (10, 10), (11, 11), (12, 12), (13, 13), (14, 14), (15, 15), (16, 16)] []) ⟨0, rfl, by omega, by omega, by omega⟩ ?_
    rintro kq s ⟨q, rfl, hq0, hq1, hkq⟩
    conv => cbv
    refine drawn_sound tok (by kernel_rfl) [(2, [6, 5, 4, 3, 0]), (7, [0])] [0, 1, 3, 4, 5, 6, 2, 7, 8] (by kernel_rfl) ?_; conv => cbv
    refine Need.mk ⟨hk0, gk⟩ ?_
    conv => cbv
    refine Cell.at k _ hc (by simp [I.val]) rfl ?_
    conv => cbv
    refine callF_frame (arena_lx R ws C G N W ph sp cy L D Q z ov) [(0, 1), (1, 2), (2, 3), (3, 4), (4, 5), (5, 6), (6, 7)] rfl (by simp [hmapOk, nget, hget, renB, okB, renV, renVs, rn, okVs, okV]) rfl rfl (fun r h' n' ⟨e1, e2, e3⟩ => ?_)
    subst e1 e2 e3
    conv => cbv
    refine callF_frame (len_lx R ws N a W L D h.l h.d h.n h.r h.a h.w) [(0, 2), (1, 3), (2, 4), (3, 5)] rfl (by simp [hmapOk, nget, hget, renB, okB, renV, renVs, rn, okVs, okV]) rfl rfl (fun r h' n' hrr => ?_)
    obtain ⟨y, e1, e2, e3, hy⟩ := hrr
    subst e1 e2 e3
    have hyl : y = l0 := lenR_of6 hK hy
    conv => cbv
    refine Br.mk (fun gq => ?_) (fun gq => ?_)
    case refine_2 =>
      have gq : ¬ q < y := gq
      conv => cbv
      refine Fit.mk (by show (-9223372036854775808 : Int) ≤ k + 1; omega) (by show k + 1 ≤ 9223372036854775807; omega) fun k2 hk2 => ?_
      have hk2 : k2 = k + 1 := hk2
      conv => cbv
      refine Again.mk kq1 _ (Nat.lt_succ_self _) (Re.at [(0, 0), (1, 1), (2, 2), (3, 3), (4, 4), (5, 5), (6, 6), (7, 7), (8, 8), (9, 9), (10, 10), (11, 11), (12, 12), (13, 13), (14, 14), (15, 15), (16, 16)] []) ⟨k2, rfl, by omega, by omega, by omega⟩
    have gq : q < y := gq
    obtain ⟨kq', rfl⟩ : ∃ k', kq = k' + 1 := ⟨kq - 1, by omega⟩
    conv => cbv
    refine Need.mk ⟨hk0, gk⟩ ?_
    conv => cbv
    refine Cell.at k _ hc (by simp [I.val]) rfl ?_
    conv => cbv
    refine callF_frame (load9_lx R ws C G N W ph sp cy L D Q z ov h a q) [(0, 1), (1, 2), (2, 3), (3, 4), (4, 5), (5, 6), (6, 7)] rfl (by simp [hmapOk, nget, hget, renB, okB, renV, renVs, rn, okVs, okV]) rfl rfl (fun r h' n' hrr => ?_)
    obtain ⟨v, f8, e1, e2, e3, hx8⟩ := hrr
    subst e1 e2 e3
    have hvb : (-9223372036854775808 ≤ v ∧ v ≤ 9223372036854775807) := by
      cases hx8 with
      | none _ => exact ⟨by decide, by decide⟩
      | arg _ _ _ _ => exact ⟨by decide, by decide⟩
      | ok _ _ _ _ _ hx => exact h.a.bd v (List.mem_of_getElem? hx)
    have hf8 : f8 = 0 := by
      cases hx8 with
      | none hn => exact absurd hK.obj6 hn
      | arg k3 l3 hK3 hi3 => exact absurd ⟨hq0, by have := (hK3.det9 hK).2; omega⟩ hi3
      | ok _ _ _ _ _ _ => rfl
    conv => cbv
    refine callF_frame (rAt_lx v hvb) [] rfl trivial rfl rfl (fun r h' n' hrr => ?_)
    obtain ⟨to_, e1, e2, e3, hto1, hto2⟩ := hrr
    subst e1 e2 e3
    conv => cbv
    refine Need.mk ⟨hk0, gk⟩ ?_
    conv => cbv
    refine Cell.at k _ hc (by simp [I.val]) rfl ?_
    conv => cbv
    refine callF_frame (colour_lx R ws C G N W ph sp cy L D Q z ov h a) [(0, 1), (1, 2), (2, 3), (3, 4), (4, 5), (5, 6), (6, 7)] rfl (by simp [hmapOk, nget, hget, renB, okB, renV, renVs, rn, okVs, okV]) rfl rfl (fun r h' n' hrr => ?_)
    obtain ⟨ca, e1, e2, e3, hca, _⟩ := hrr
    subst e1 e2 e3
    have hca := hca hao
    conv => cbv
    refine Br.mk (fun g2 => ?_) (fun g2 => ?_)
    case refine_2 =>
      conv => cbv
      refine Fit.mk (by show (-9223372036854775808 : Int) ≤ q + 1; omega) (by show q + 1 ≤ 9223372036854775807; omega) fun q2 hq2 => ?_
      have hq2 : q2 = q + 1 := hq2
      conv => cbv
      refine Again.mk kq' _ (Nat.lt_succ_self _) (Re.at [(0, 0), (1, 1), (2, 2), (3, 3), (4, 4), (5, 5), (6, 6), (7, 7), (8, 8), (9, 9), (10, 10), (11, 11), (12, 12), (13, 13), (14, 14), (15, 15), (16, 16)] []) ⟨q2, rfl, by omega, by omega, by omega⟩
    have g2 : ca = 2 := g2
    conv => cbv
    refine callF_frame (rIsPtr_lx v) [] rfl trivial rfl rfl (fun r h' n' hrr => ?_)
    obtain ⟨b, e1, e2, e3, hb⟩ := hrr
    subst e1 e2 e3
    cases b with
    | false =>
      conv => cbv
      refine Fit.mk (by show (-9223372036854775808 : Int) ≤ q + 1; omega) (by show q + 1 ≤ 9223372036854775807; omega) fun q2 hq2 => ?_
      have hq2 : q2 = q + 1 := hq2
      conv => cbv
      refine Again.mk kq' _ (Nat.lt_succ_self _) (Re.at [(0, 0), (1, 1), (2, 2), (3, 3), (4, 4), (5, 5), (6, 6), (7, 7), (8, 8), (9, 9), (10, 10), (11, 11), (12, 12), (13, 13), (14, 14), (15, 15), (16, 16)] []) ⟨q2, rfl, by omega, by omega, by omega⟩
    | true =>
      conv => cbv
      have hb := hb.1 rfl
      have hto := hto1 hb
      refine callF_frame (arena_lx R ws C G N W ph sp cy L D Q z ov) [(0, 1), (1, 2), (2, 3), (3, 4), (4, 5), (5, 6), (6, 7)] rfl (by simp [hmapOk, nget, hget, renB, okB, renV, renVs, rn, okVs, okV]) rfl rfl (fun r h' n' ⟨e1, e2, e3⟩ => ?_)
      subst e1 e2 e3
      conv => cbv
      refine callF_frame (kind_lx R ws N to_ W L D h.l h.d h.n h.r h.a h.w) [(0, 2), (1, 3), (2, 4), (3, 5)] rfl (by simp [hmapOk, nget, hget, renB, okB, renV, renVs, rn, okVs, okV]) rfl rfl (fun r h' n' hrr => ?_)
      obtain ⟨kt, e1, e2, e3, hkt⟩ := hrr
      subst e1 e2 e3
      conv => cbv
      refine Br.mk (fun g3 => ?_) (fun g3 => ?_)
      case refine_2 =>
        conv => cbv
        refine Fit.mk (by show (-9223372036854775808 : Int) ≤ q + 1; omega) (by show q + 1 ≤ 9223372036854775807; omega) fun q2 hq2 => ?_
        have hq2 : q2 = q + 1 := hq2
        conv => cbv
        refine Again.mk kq' _ (Nat.lt_succ_self _) (Re.at [(0, 0), (1, 1), (2, 2), (3, 3), (4, 4), (5, 5), (6, 6), (7, 7), (8, 8), (9, 9), (10, 10), (11, 11), (12, 12), (13, 13), (14, 14), (15, 15), (16, 16)] []) ⟨q2, rfl, by omega, by omega, by omega⟩
      have g3 : kt ≠ 0 := g3
      have htoo : to_ ∈ objs R := by
        refine (obj_iff h.a to_).2 ?_
        cases hkt with
        | no _ => exact absurd rfl g3
        | is _ _ hKt => exact hKt.obj6
      conv => cbv
      refine callF_frame (colour_lx R ws C G N W ph sp cy L D Q z ov h to_) [(0, 1), (1, 2), (2, 3), (3, 4), (4, 5), (5, 6), (6, 7)] rfl (by simp [hmapOk, nget, hget, renB, okB, renV, renVs, rn, okVs, okV]) rfl rfl (fun r h' n' hrr => ?_)
      obtain ⟨ct, e1, e2, e3, hct, _⟩ := hrr
      subst e1 e2 e3
      have hct := hct htoo
      have hne : ct ≠ 0 := by
        intro e0
        refine hD1 a v q hao (by rw [hca, g2]) (hf8 ▸ hx8) hb (hto ▸ htoo) ?_
        rw [← hto, hct, e0]
      conv => cbv
      refine Br.no (show ¬ ct = 0 from hne) ?_
      conv => cbv
      refine Fit.mk (by show (-9223372036854775808 : Int) ≤ q + 1; omega) (by show q + 1 ≤ 9223372036854775807; omega) fun q2 hq2 => ?_
      have hq2 : q2 = q + 1 := hq2
      conv => cbv
      refine Again.mk kq' _ (Nat.lt_succ_self _) (Re.at [(0, 0), (1, 1), (2, 2), (3, 3), (4, 4), (5, 5), (6, 6), (7, 7), (8, 8), (9, 9), (10, 10), (11, 11), (12, 12), (13, 13), (14, 14), (15, 15), (16, 16)] []) ⟨q2, rfl, by omega, by omega, by omega⟩
end Go.Proofs.YtllafhhnciobhaaGreatDoor
