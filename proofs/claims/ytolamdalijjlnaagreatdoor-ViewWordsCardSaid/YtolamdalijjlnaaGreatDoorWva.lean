/-
  Layer 11: ViewWords, some cases.
-/
import Derived.Test.YtolamdalijjlnaaGreatDoorBg


namespace Go.Proofs.YtolamdalijjlnaaGreatDoor

open Go Go.LX
set_option maxRecDepth 100000
set_option linter.unusedVariables false
set_option linter.unusedSimpArgs false

set_option maxHeartbeats 16000000 in
theorem viewWords_0 (o : Unit → Obj) (ho : IsPow o) (k v : Int) (hk : IntKind.u64.wrap k % 9 = 0) : CallF (fun _ => Tryz.prog) 9 [.p (.int .i64 (.sym k)), .p (.int .i64 (.sym v))] [(0, .fix 0 o)] 1 (fun r _ _ => r = .p (.bool true)) := by
  refine callF_of_body tok Tryz.func9 (by kernel_rfl) rfl rfl rfl ?_; conv => cbv
  refine callF_frame (both_lx o ho false) [(0, 0)] rfl (by simp [hmapOk, nget, hget, renB, okB, renV, renVs, rn, okVs, okV]) rfl rfl (fun r h' n' hrr => ?_)
  obtain ⟨R, ws, vs, C, N, W, ph, L, D, Q, z, ov, P, B, V, Qr, la, m, r1, r2, r3, r4, e1, e2, e3, h, hr, hS, hQ, hC, hN, hph⟩ := hrr
  subst e1 e2 e3
  conv => cbv
  refine callF_frame (awake11_lx o ho) [(0, 0)] rfl (by simp [hmapOk, nget, hget, renB, okB, renV, renVs, rn, okVs, okV]) rfl rfl (fun r h' n' ⟨e1, e2, e3⟩ => ?_)
  subst e1 e2 e3
  conv => cbv
  refine callF_frame (places_lx R vs C [] N W ph 0 0 P B V Qr la m ov hr r1 r2 r3 r4 (hQ.sim hS)) [(0, 8), (1, 9), (2, 10), (3, 11), (4, 12), (5, 13), (6, 14), (7, 15)] rfl (by simp [hmapOk, nget, hget, renB, okB, renV, renVs, rn, okVs, okV]) rfl rfl (fun r h' n' ⟨e1, e2, e3⟩ => ?_)
  subst e1 e2 e3
  conv => cbv
  refine Fit.wrap fun xn hxn => ?_
  have hxn : xn = IntKind.u64.wrap v := hxn
  have hyn : 0 ≤ xn := by rw [hxn]; simp [IntKind.wrap, IntKind.bits, IntKind.signed]; omega
  clear hxn
  conv => cbv
  refine Sum.mk fun tn htn => ?_
  have htn : tn = xn % 1000 := (show tn = xn.tmod 1000 from htn).trans (Int.tmod_eq_emod_of_nonneg hyn)
  conv => cbv
  refine Fit.mk (by show (-9223372036854775808 : Int) ≤ tn; omega) (by show tn ≤ 9223372036854775807; omega) fun u hu => ?_
  have hu : u = tn := hu
  have hu0 : 0 ≤ u := by omega
  have hu1 : u < 1000 := by omega
  clear hu htn hyn
  conv => cbv
  refine Fit.wrap fun xn hxn => ?_
  have hxn : xn = IntKind.u64.wrap k := hxn
  have hyn : 0 ≤ xn := by rw [hxn]; simp [IntKind.wrap, IntKind.bits, IntKind.signed]; omega
  have hxn0 := hxn
  clear hxn
  conv => cbv
  refine Sum.mk fun tn htn => ?_
  have htn : tn = xn % 9 := (show tn = xn.tmod 9 from htn).trans (Int.tmod_eq_emod_of_nonneg hyn)
  conv => cbv
  refine Fit.mk (by show (-9223372036854775808 : Int) ≤ tn; omega) (by show tn ≤ 9223372036854775807; omega) fun q hq => ?_
  have hq : q = tn := hq
  have hq0 : 0 ≤ q := by omega
  have hq1 : q < 9 := by omega
  have e : q = 0 := by rw [hq, htn, hxn0]; exact hk
  clear hq htn hyn hxn0
  conv => cbv
  refine LoopF.rounds 6 ?_
  conv => cbv
  refine Need.mk (by simp [I.val]) ?_
  conv => cbv
  refine Need.mk (by simp [I.val]) ?_
  conv => cbv
  refine Need.mk (by simp [I.val]) ?_
  conv => cbv
  refine Need.mk (by simp [I.val]) ?_
  conv => cbv
  refine Need.mk (by simp [I.val]) ?_
  conv => cbv
  refine Need.mk (show 0 ≤ q ∧ q < 9 from ⟨hq0, hq1⟩) ?_
  conv => cbv
  refine WhichF.mk 0 (show q = 0 from e) ?_
  conv => cbv
  have hb : ∀ x ∈ [u, 0, 0, 0, -1, -1, -1, -1, -1], b62 x := by simp [b62]; omega
  refine CallF.le (args0 := [.ptr 1 (.lit 0), .p (.int .i64 (.sym r1)), .agg [.p (.int .i64 (.sym u)), .p (.int .i64 (.sym 0)), .p (.int .i64 (.sym 0)), .p (.int .i64 (.sym 0)), .p (.int .i64 (.sym (-1))), .p (.int .i64 (.sym (-1))), .p (.int .i64 (.sym (-1))), .p (.int .i64 (.sym (-1))), .p (.int .i64 (.sym (-1)))]]) (callF_frame (putChan_lx R ws C [] N W ph 0 0 L D Q z ov h o ho r1 u 0 0 0 (-1) (-1) (-1) (-1) (-1) hb) [(0, 1), (1, 2), (2, 3), (3, 4), (4, 5), (5, 6), (6, 7), (7, 0)] rfl (by simp [hmapOk, nget, hget, renB, okB, renV, renVs, rn, okVs, okV]) rfl rfl (fun r h' n' hrr => ?_)) (by simp [ales, ale, pvle, I.val])
  obtain ⟨p1, ws1, C1, G1, ov1, D1, Q1, z1, e1, e2, e3, h1, hP⟩ := hrr
  subst e1 e2 e3
  obtain ⟨hp1, hH1, ot1, up1⟩ := hP.hld h.a (hQ.k1) rfl (chanWs_bd u 0 0 0 (-1) (-1) (-1) (-1) (-1) hb)
  clear hP
  conv => cbv
  refine LoopF.mk (fun kk s => ∃ i : Int, s = ⟨.p (.int .i64 (.sym q)) :: .p (.int .i64 (.sym u)) :: (undefs 3 ++ .ptr 1 (.lit 0) :: .undef :: .p (.int .i64 (.sym r1)) :: .p (.int .i64 (.sym r2)) :: .p (.int .i64 (.sym r3)) :: (undefs 4 ++ .p (.int .i64 (.sym p1)) :: .p (.int .i64 (.sym i)) :: undefs 197)), [(1, .mix [.ptr 2 (.lit 0), .ptr 6 (.lit 0), .sl 7 3 1 (.lit 0) (.sym W), .p (.int .i64 (.sym ph)), .p (.int .i64 (.sym 0)), .p (.int .i64 (.sym 0))]), (2, .mix [.ptr 3 (.lit 0), .sl 5 3 1 (.lit 0) (.sym W)]), (3, .mix [.sl 4 161 2 (.lit 0) (.sym N)]), (4, .pure true L), (5, .pure true D1), (6, .pure false [.str fun _ => z1, .bool ov1]), (7, .pure true Q1), (0, .fix 0 o)], 18⟩ ∧ 0 ≤ i ∧ i ≤ 9 ∧ kk = (9 - i).toNat) 9 _
    (Re.at [(0, 0), (1, 1), (2, 2), (3, 3), (4, 4), (5, 5), (6, 6), (7, 7)] []) ⟨0, rfl, by omega, by omega, by omega⟩ ?_
  rintro kk s ⟨i, rfl, hi0, hi1, hkk⟩
  conv => cbv
  have hz : ∀ i : Nat, i < 9 → i ≠ 0 → (chanWs [u, 0, 0, 0, -1, -1, -1, -1, -1])[i]? = some 0 := by
    intro i h1 h2
    have h3 : i = 0 ∨ i = 1 ∨ i = 2 ∨ i = 3 ∨ i = 4 ∨ i = 5 ∨ i = 6 ∨ i = 7 ∨ i = 8 := by omega
    rcases h3 with h | h | h | h | h | h | h | h | h <;> subst h <;> first | omega | rfl
  have hv : (chanWs [u, 0, 0, 0, -1, -1, -1, -1, -1])[0]? = some (u * 2) := rfl
  refine Br.mk (fun gi => ?_) (fun gi => ?_)
  · have gi : i < 9 := gi
    conv => cbv
    obtain ⟨ii, hii⟩ : ∃ n : Nat, i = (n : Int) := ⟨i.toNat, by omega⟩
    refine callF_frame (load9_lx R ws1 C1 G1 N W ph 0 0 L D1 Q1 z1 ov1 h1 r1 i) [(0, 1), (1, 2), (2, 3), (3, 4), (4, 5), (5, 6), (6, 7)] rfl (by simp [hmapOk, nget, hget, renB, okB, renV, renVs, rn, okVs, okV]) rfl rfl (fun r h' n' hrr => ?_)
    obtain ⟨x, ex, e1, e2, e3, hL⟩ := hrr
    subst e1 e2 e3
    rw [hii] at hL
    conv => cbv
    refine Br.mk (fun gq => ?_) (fun gq => ?_)
    · have gq : i = q := gq
      have hx : x = u * 2 := hH1.word ii _ (by rw [show ii = 0 by omega]; exact hv) hL
      conv => cbv
      refine Fit.mk (by show (-9223372036854775808 : Int) ≤ 2 * u; omega) (by show 2 * u ≤ 9223372036854775807; omega) fun w1 hw1 => ?_
      have hw1 : w1 = 2 * u := hw1
      conv => cbv
      refine Br.no (show ¬ 3 < q by omega) ?_
      conv => cbv
      refine Br.no (show ¬ ¬ (x = w1) by omega) ?_
      conv => cbv
      refine Fit.mk (by show (-9223372036854775808 : Int) ≤ i + 1; omega) (by show i + 1 ≤ 9223372036854775807; omega) fun i2 hi2 => ?_
      have hi2 : i2 = i + 1 := hi2
      conv => cbv
      refine Again.mk (9 - i2).toNat _ (by omega) (Re.at [(0, 0), (1, 1), (2, 2), (3, 3), (4, 4), (5, 5), (6, 6), (7, 7)] []) ⟨i2, rfl, by omega, by omega, rfl⟩
    · have gq : ¬ i = q := gq
      have hx : x = 0 := hH1.word ii _ (hz ii (by omega) (by omega)) hL
      conv => cbv
      refine Br.no (show ¬ ¬ (x = 0) by omega) ?_
      conv => cbv
      refine Fit.mk (by show (-9223372036854775808 : Int) ≤ i + 1; omega) (by show i + 1 ≤ 9223372036854775807; omega) fun i2 hi2 => ?_
      have hi2 : i2 = i + 1 := hi2
      conv => cbv
      refine Again.mk (9 - i2).toNat _ (by omega) (Re.at [(0, 0), (1, 1), (2, 2), (3, 3), (4, 4), (5, 5), (6, 6), (7, 7)] []) ⟨i2, rfl, by omega, by omega, rfl⟩
  · have gi : ¬ i < 9 := gi
    conv => cbv
    refine CallF.le (args0 := [.ptr 1 (.lit 0), .p (.int .i64 (.sym r2)), .agg [.p (.int .i64 (.sym u)), .p (.int .i64 (.sym (-1))), .p (.int .i64 (.sym u)), .p (.int .i64 (.sym (-1))), .p (.int .i64 (.sym u)), .p (.int .i64 (.sym (-1))), .p (.int .i64 (.sym (-1)))]]) (callF_frame (putSudog_lx R ws1 C1 G1 N W ph 0 0 L D1 Q1 z1 ov1 h1 o ho r2 u (-1) u (-1) u (-1) (-1) (by simp [b62]; omega) (by simp; omega)) [(0, 1), (1, 2), (2, 3), (3, 4), (4, 5), (5, 6), (6, 7), (7, 0)] rfl (by simp [hmapOk, nget, hget, renB, okB, renV, renVs, rn, okVs, okV]) rfl rfl (fun r h' n' hrr => ?_)) (by simp [ales, ale, pvle, I.val])
    obtain ⟨p2, ws2, C2, G2, ov2, D2, Q2, z2, e1, e2, e3, h2, hP⟩ := hrr
    subst e1 e2 e3
    obtain ⟨hp2, hH2, ot2, up2⟩ := hP.hld h1.a (up1 _ _ _ hQ.k2) rfl (sudogWs_bd u (-1) u (-1) u (-1) (-1) (by simp [b62]; omega) (by simp; omega))
    clear hP
    conv => cbv
    refine CallF.le (args0 := [.ptr 1 (.lit 0), .p (.int .i64 (.sym r2)), .p (.int .i64 (.sym 0))]) (callF_frame (load9_lx R ws2 C2 G2 N W ph 0 0 L D2 Q2 z2 ov2 h2 r2 0) [(0, 1), (1, 2), (2, 3), (3, 4), (4, 5), (5, 6), (6, 7)] rfl (by simp [hmapOk, nget, hget, renB, okB, renV, renVs, rn, okVs, okV]) rfl rfl (fun r h' n' hrr => ?_)) (by simp [ales, ale, pvle, I.val])
    obtain ⟨xa, exa, e1, e2, e3, hL⟩ := hrr
    subst e1 e2 e3
    have hxa := hH2.word 0 _ rfl hL
    clear hL
    conv => cbv
    refine CallF.le (args0 := [.ptr 1 (.lit 0), .p (.int .i64 (.sym r2)), .p (.int .i64 (.sym 2))]) (callF_frame (load9_lx R ws2 C2 G2 N W ph 0 0 L D2 Q2 z2 ov2 h2 r2 2) [(0, 1), (1, 2), (2, 3), (3, 4), (4, 5), (5, 6), (6, 7)] rfl (by simp [hmapOk, nget, hget, renB, okB, renV, renVs, rn, okVs, okV]) rfl rfl (fun r h' n' hrr => ?_)) (by simp [ales, ale, pvle, I.val])
    obtain ⟨xb, exb, e1, e2, e3, hL⟩ := hrr
    subst e1 e2 e3
    have hxb := hH2.word 2 _ rfl hL
    clear hL
    conv => cbv
    refine CallF.le (args0 := [.ptr 1 (.lit 0), .p (.int .i64 (.sym r2)), .p (.int .i64 (.sym 4))]) (callF_frame (load9_lx R ws2 C2 G2 N W ph 0 0 L D2 Q2 z2 ov2 h2 r2 4) [(0, 1), (1, 2), (2, 3), (3, 4), (4, 5), (5, 6), (6, 7)] rfl (by simp [hmapOk, nget, hget, renB, okB, renV, renVs, rn, okVs, okV]) rfl rfl (fun r h' n' hrr => ?_)) (by simp [ales, ale, pvle, I.val])
    obtain ⟨xd, exd, e1, e2, e3, hL⟩ := hrr
    subst e1 e2 e3
    have hxd := hH2.word 4 _ rfl hL
    clear hL
    conv => cbv
    refine CallF.le (args0 := [.ptr 1 (.lit 0), .p (.int .i64 (.sym r2)), .p (.int .i64 (.sym 5))]) (callF_frame (load9_lx R ws2 C2 G2 N W ph 0 0 L D2 Q2 z2 ov2 h2 r2 5) [(0, 1), (1, 2), (2, 3), (3, 4), (4, 5), (5, 6), (6, 7)] rfl (by simp [hmapOk, nget, hget, renB, okB, renV, renVs, rn, okVs, okV]) rfl rfl (fun r h' n' hrr => ?_)) (by simp [ales, ale, pvle, I.val])
    obtain ⟨xg, exg, e1, e2, e3, hL⟩ := hrr
    subst e1 e2 e3
    have hxg := hH2.word 5 _ rfl hL
    clear hL
    conv => cbv
    refine Need.mk (by simp [I.val]) ?_
    conv => cbv
    refine CallF.le (args0 := [.ptr 1 (.lit 0), .p (.int .i64 (.sym r3)), .agg [.p (.int .i64 (.sym u)), .p (.int .i64 (.sym 0)), .p (.int .i64 (.sym 0)), .p (.int .i64 (.sym 0)), .p (.int .i64 (.sym 0)), .p (.int .i64 (.sym 0)), .p (.int .i64 (.sym 0)), .p (.int .i64 (.sym 0)), .p (.int .i64 (.sym u)), .p (.int .i64 (.sym (-1)))]]) (callF_frame (putGor_lx R ws2 C2 G2 N W ph 0 0 L D2 Q2 z2 ov2 h2 o ho r3 u 0 0 0 0 0 0 0 u (-1) (by simp [b62]; omega) (by simp; omega)) [(0, 1), (1, 2), (2, 3), (3, 4), (4, 5), (5, 6), (6, 7), (7, 0)] rfl (by simp [hmapOk, nget, hget, renB, okB, renV, renVs, rn, okVs, okV]) rfl rfl (fun r h' n' hrr => ?_)) (by simp [ales, ale, pvle, I.val])
    obtain ⟨p3, ws3, C3, G3, ov3, D3, Q3, z3, e1, e2, e3, h3, hP⟩ := hrr
    subst e1 e2 e3
    obtain ⟨hp3, hH3, ot3, up3⟩ := hP.hld h2.a (up2 _ _ _ (up1 _ _ _ hQ.k3)) rfl (gorWs_bd u 0 0 0 0 0 0 0 u (-1) (by simp [b62]; omega) (by simp; omega))
    clear hP
    conv => cbv
    refine CallF.le (args0 := [.ptr 1 (.lit 0), .p (.int .i64 (.sym r3)), .p (.int .i64 (.sym 0))]) (callF_frame (load9_lx R ws3 C3 G3 N W ph 0 0 L D3 Q3 z3 ov3 h3 r3 0) [(0, 1), (1, 2), (2, 3), (3, 4), (4, 5), (5, 6), (6, 7)] rfl (by simp [hmapOk, nget, hget, renB, okB, renV, renVs, rn, okVs, okV]) rfl rfl (fun r h' n' hrr => ?_)) (by simp [ales, ale, pvle, I.val])
    obtain ⟨xi, exi, e1, e2, e3, hL⟩ := hrr
    subst e1 e2 e3
    have hxi := hH3.word 0 _ rfl hL
    clear hL
    conv => cbv
    refine CallF.le (args0 := [.ptr 1 (.lit 0), .p (.int .i64 (.sym r3)), .p (.int .i64 (.sym 8))]) (callF_frame (load9_lx R ws3 C3 G3 N W ph 0 0 L D3 Q3 z3 ov3 h3 r3 8) [(0, 1), (1, 2), (2, 3), (3, 4), (4, 5), (5, 6), (6, 7)] rfl (by simp [hmapOk, nget, hget, renB, okB, renV, renVs, rn, okVs, okV]) rfl rfl (fun r h' n' hrr => ?_)) (by simp [ales, ale, pvle, I.val])
    obtain ⟨xl, exl, e1, e2, e3, hL⟩ := hrr
    subst e1 e2 e3
    have hxl := hH3.word 8 _ rfl hL
    clear hL
    conv => cbv
    refine CallF.le (args0 := [.ptr 1 (.lit 0), .p (.int .i64 (.sym r3)), .p (.int .i64 (.sym 9))]) (callF_frame (load9_lx R ws3 C3 G3 N W ph 0 0 L D3 Q3 z3 ov3 h3 r3 9) [(0, 1), (1, 2), (2, 3), (3, 4), (4, 5), (5, 6), (6, 7)] rfl (by simp [hmapOk, nget, hget, renB, okB, renV, renVs, rn, okVs, okV]) rfl rfl (fun r h' n' hrr => ?_)) (by simp [ales, ale, pvle, I.val])
    obtain ⟨xm, exm, e1, e2, e3, hL⟩ := hrr
    subst e1 e2 e3
    have hxm := hH3.word 9 _ rfl hL
    clear hL
    conv => cbv
    have hpl : plW u = u * 2 + 1 := by unfold plW; rw [if_neg (by omega)]
    have gxa : xa = u * 2 + 1 := hxa.trans hpl
    have gxb : xb = u := hxb
    have gxd : xd = u * 2 := hxd
    have gxg : xg = -2 := hxg
    have gxi : xi = u * 2 := hxi
    have gxl : xl = u := hxl
    have gxm : xm = 0 := hxm
    refine Br.yes (show p1 = 0 from hp1) ?_
    conv => cbv
    refine Fit.mk (by show (-9223372036854775808 : Int) ≤ 2 * u; omega) (by show 2 * u ≤ 9223372036854775807; omega) fun t1 ht1 => ?_
    have ht1 : t1 = 2 * u := ht1
    conv => cbv
    refine Fit.mk (by show (-9223372036854775808 : Int) ≤ t1 + 1; omega) (by show t1 + 1 ≤ 9223372036854775807; omega) fun t2 ht2 => ?_
    have ht2 : t2 = t1 + 1 := ht2
    conv => cbv
    refine Br.yes (show xa = t2 from by omega) ?_
    conv => cbv
    refine Br.yes (show xb = u from gxb) ?_
    conv => cbv
    refine Fit.mk (by show (-9223372036854775808 : Int) ≤ 2 * u; omega) (by show 2 * u ≤ 9223372036854775807; omega) fun t3 ht3 => ?_
    have ht3 : t3 = 2 * u := ht3
    conv => cbv
    refine Br.yes (show xd = t3 from by omega) ?_
    conv => cbv
    refine Br.yes (show xg = -2 from gxg) ?_
    conv => cbv
    refine Fit.mk (by show (-9223372036854775808 : Int) ≤ 2 * u; omega) (by show 2 * u ≤ 9223372036854775807; omega) fun t4 ht4 => ?_
    have ht4 : t4 = 2 * u := ht4
    conv => cbv
    refine Br.yes (show xi = t4 from by omega) ?_
    conv => cbv
    refine Br.yes (show xl = u from gxl) ?_
    conv => cbv
    refine Br.yes (show xm = 0 from gxm) ?_
    conv => cbv
    refine RetF.mk [.p (.bool true)] [(0, .fix 0 o)] 1 (Re.at [(0, 0)] []) rfl rfl
set_option maxHeartbeats 16000000 in
theorem viewWords_1 (o : Unit → Obj) (ho : IsPow o) (k v : Int) (hk : IntKind.u64.wrap k % 9 = 1) : CallF (fun _ => Tryz.prog) 9 [.p (.int .i64 (.sym k)), .p (.int .i64 (.sym v))] [(0, .fix 0 o)] 1 (fun r _ _ => r = .p (.bool true)) := by
  refine callF_of_body tok Tryz.func9 (by kernel_rfl) rfl rfl rfl ?_; conv => cbv
  refine callF_frame (both_lx o ho false) [(0, 0)] rfl (by simp [hmapOk, nget, hget, renB, okB, renV, renVs, rn, okVs, okV]) rfl rfl (fun r h' n' hrr => ?_)
  obtain ⟨R, ws, vs, C, N, W, ph, L, D, Q, z, ov, P, B, V, Qr, la, m, r1, r2, r3, r4, e1, e2, e3, h, hr, hS, hQ, hC, hN, hph⟩ := hrr
  subst e1 e2 e3
  conv => cbv
  refine callF_frame (awake11_lx o ho) [(0, 0)] rfl (by simp [hmapOk, nget, hget, renB, okB, renV, renVs, rn, okVs, okV]) rfl rfl (fun r h' n' ⟨e1, e2, e3⟩ => ?_)
  subst e1 e2 e3
  conv => cbv
  refine callF_frame (places_lx R vs C [] N W ph 0 0 P B V Qr la m ov hr r1 r2 r3 r4 (hQ.sim hS)) [(0, 8), (1, 9), (2, 10), (3, 11), (4, 12), (5, 13), (6, 14), (7, 15)] rfl (by simp [hmapOk, nget, hget, renB, okB, renV, renVs, rn, okVs, okV]) rfl rfl (fun r h' n' ⟨e1, e2, e3⟩ => ?_)
  subst e1 e2 e3
  conv => cbv
  refine Fit.wrap fun xn hxn => ?_
  have hxn : xn = IntKind.u64.wrap v := hxn
  have hyn : 0 ≤ xn := by rw [hxn]; simp [IntKind.wrap, IntKind.bits, IntKind.signed]; omega
  clear hxn
  conv => cbv
  refine Sum.mk fun tn htn => ?_
  have htn : tn = xn % 1000 := (show tn = xn.tmod 1000 from htn).trans (Int.tmod_eq_emod_of_nonneg hyn)
  conv => cbv
  refine Fit.mk (by show (-9223372036854775808 : Int) ≤ tn; omega) (by show tn ≤ 9223372036854775807; omega) fun u hu => ?_
  have hu : u = tn := hu
  have hu0 : 0 ≤ u := by omega
  have hu1 : u < 1000 := by omega
  clear hu htn hyn
  conv => cbv
  refine Fit.wrap fun xn hxn => ?_
  have hxn : xn = IntKind.u64.wrap k := hxn
  have hyn : 0 ≤ xn := by rw [hxn]; simp [IntKind.wrap, IntKind.bits, IntKind.signed]; omega
  have hxn0 := hxn
  clear hxn
  conv => cbv
  refine Sum.mk fun tn htn => ?_
  have htn : tn = xn % 9 := (show tn = xn.tmod 9 from htn).trans (Int.tmod_eq_emod_of_nonneg hyn)
  conv => cbv
  refine Fit.mk (by show (-9223372036854775808 : Int) ≤ tn; omega) (by show tn ≤ 9223372036854775807; omega) fun q hq => ?_
  have hq : q = tn := hq
  have hq0 : 0 ≤ q := by omega
  have hq1 : q < 9 := by omega
  have e : q = 1 := by rw [hq, htn, hxn0]; exact hk
  clear hq htn hyn hxn0
  conv => cbv
  refine LoopF.rounds 6 ?_
  conv => cbv
  refine Need.mk (by simp [I.val]) ?_
  conv => cbv
  refine Need.mk (by simp [I.val]) ?_
  conv => cbv
  refine Need.mk (by simp [I.val]) ?_
  conv => cbv
  refine Need.mk (by simp [I.val]) ?_
  conv => cbv
  refine Need.mk (by simp [I.val]) ?_
  conv => cbv
  refine Need.mk (show 0 ≤ q ∧ q < 9 from ⟨hq0, hq1⟩) ?_
  conv => cbv
  refine WhichF.mk 1 (show q = 1 from e) ?_
  conv => cbv
  have hb : ∀ x ∈ [0, u, 0, 0, -1, -1, -1, -1, -1], b62 x := by simp [b62]; omega
  refine CallF.le (args0 := [.ptr 1 (.lit 0), .p (.int .i64 (.sym r1)), .agg [.p (.int .i64 (.sym 0)), .p (.int .i64 (.sym u)), .p (.int .i64 (.sym 0)), .p (.int .i64 (.sym 0)), .p (.int .i64 (.sym (-1))), .p (.int .i64 (.sym (-1))), .p (.int .i64 (.sym (-1))), .p (.int .i64 (.sym (-1))), .p (.int .i64 (.sym (-1)))]]) (callF_frame (putChan_lx R ws C [] N W ph 0 0 L D Q z ov h o ho r1 0 u 0 0 (-1) (-1) (-1) (-1) (-1) hb) [(0, 1), (1, 2), (2, 3), (3, 4), (4, 5), (5, 6), (6, 7), (7, 0)] rfl (by simp [hmapOk, nget, hget, renB, okB, renV, renVs, rn, okVs, okV]) rfl rfl (fun r h' n' hrr => ?_)) (by simp [ales, ale, pvle, I.val])
  obtain ⟨p1, ws1, C1, G1, ov1, D1, Q1, z1, e1, e2, e3, h1, hP⟩ := hrr
  subst e1 e2 e3
  obtain ⟨hp1, hH1, ot1, up1⟩ := hP.hld h.a (hQ.k1) rfl (chanWs_bd 0 u 0 0 (-1) (-1) (-1) (-1) (-1) hb)
  clear hP
  conv => cbv
  refine LoopF.mk (fun kk s => ∃ i : Int, s = ⟨.p (.int .i64 (.sym q)) :: .p (.int .i64 (.sym u)) :: (undefs 3 ++ .ptr 1 (.lit 0) :: .undef :: .p (.int .i64 (.sym r1)) :: .p (.int .i64 (.sym r2)) :: .p (.int .i64 (.sym r3)) :: (undefs 4 ++ .p (.int .i64 (.sym p1)) :: .p (.int .i64 (.sym i)) :: undefs 197)), [(1, .mix [.ptr 2 (.lit 0), .ptr 6 (.lit 0), .sl 7 3 1 (.lit 0) (.sym W), .p (.int .i64 (.sym ph)), .p (.int .i64 (.sym 0)), .p (.int .i64 (.sym 0))]), (2, .mix [.ptr 3 (.lit 0), .sl 5 3 1 (.lit 0) (.sym W)]), (3, .mix [.sl 4 161 2 (.lit 0) (.sym N)]), (4, .pure true L), (5, .pure true D1), (6, .pure false [.str fun _ => z1, .bool ov1]), (7, .pure true Q1), (0, .fix 0 o)], 18⟩ ∧ 0 ≤ i ∧ i ≤ 9 ∧ kk = (9 - i).toNat) 9 _
    (Re.at [(0, 0), (1, 1), (2, 2), (3, 3), (4, 4), (5, 5), (6, 6), (7, 7)] []) ⟨0, rfl, by omega, by omega, by omega⟩ ?_
  rintro kk s ⟨i, rfl, hi0, hi1, hkk⟩
  conv => cbv
  have hz : ∀ i : Nat, i < 9 → i ≠ 1 → (chanWs [0, u, 0, 0, -1, -1, -1, -1, -1])[i]? = some 0 := by
    intro i h1 h2
    have h3 : i = 0 ∨ i = 1 ∨ i = 2 ∨ i = 3 ∨ i = 4 ∨ i = 5 ∨ i = 6 ∨ i = 7 ∨ i = 8 := by omega
    rcases h3 with h | h | h | h | h | h | h | h | h <;> subst h <;> first | omega | rfl
  have hv : (chanWs [0, u, 0, 0, -1, -1, -1, -1, -1])[1]? = some (u * 2) := rfl
  refine Br.mk (fun gi => ?_) (fun gi => ?_)
  · have gi : i < 9 := gi
    conv => cbv
    obtain ⟨ii, hii⟩ : ∃ n : Nat, i = (n : Int) := ⟨i.toNat, by omega⟩
    refine callF_frame (load9_lx R ws1 C1 G1 N W ph 0 0 L D1 Q1 z1 ov1 h1 r1 i) [(0, 1), (1, 2), (2, 3), (3, 4), (4, 5), (5, 6), (6, 7)] rfl (by simp [hmapOk, nget, hget, renB, okB, renV, renVs, rn, okVs, okV]) rfl rfl (fun r h' n' hrr => ?_)
    obtain ⟨x, ex, e1, e2, e3, hL⟩ := hrr
    subst e1 e2 e3
    rw [hii] at hL
    conv => cbv
    refine Br.mk (fun gq => ?_) (fun gq => ?_)
    · have gq : i = q := gq
      have hx : x = u * 2 := hH1.word ii _ (by rw [show ii = 1 by omega]; exact hv) hL
      conv => cbv
      refine Fit.mk (by show (-9223372036854775808 : Int) ≤ 2 * u; omega) (by show 2 * u ≤ 9223372036854775807; omega) fun w1 hw1 => ?_
      have hw1 : w1 = 2 * u := hw1
      conv => cbv
      refine Br.no (show ¬ 3 < q by omega) ?_
      conv => cbv
      refine Br.no (show ¬ ¬ (x = w1) by omega) ?_
      conv => cbv
      refine Fit.mk (by show (-9223372036854775808 : Int) ≤ i + 1; omega) (by show i + 1 ≤ 9223372036854775807; omega) fun i2 hi2 => ?_
      have hi2 : i2 = i + 1 := hi2
      conv => cbv
      refine Again.mk (9 - i2).toNat _ (by omega) (Re.at [(0, 0), (1, 1), (2, 2), (3, 3), (4, 4), (5, 5), (6, 6), (7, 7)] []) ⟨i2, rfl, by omega, by omega, rfl⟩
    · have gq : ¬ i = q := gq
      have hx : x = 0 := hH1.word ii _ (hz ii (by omega) (by omega)) hL
      conv => cbv
      refine Br.no (show ¬ ¬ (x = 0) by omega) ?_
      conv => cbv
      refine Fit.mk (by show (-9223372036854775808 : Int) ≤ i + 1; omega) (by show i + 1 ≤ 9223372036854775807; omega) fun i2 hi2 => ?_
      have hi2 : i2 = i + 1 := hi2
      conv => cbv
      refine Again.mk (9 - i2).toNat _ (by omega) (Re.at [(0, 0), (1, 1), (2, 2), (3, 3), (4, 4), (5, 5), (6, 6), (7, 7)] []) ⟨i2, rfl, by omega, by omega, rfl⟩
  · have gi : ¬ i < 9 := gi
    conv => cbv
    refine CallF.le (args0 := [.ptr 1 (.lit 0), .p (.int .i64 (.sym r2)), .agg [.p (.int .i64 (.sym u)), .p (.int .i64 (.sym (-1))), .p (.int .i64 (.sym u)), .p (.int .i64 (.sym (-1))), .p (.int .i64 (.sym u)), .p (.int .i64 (.sym (-1))), .p (.int .i64 (.sym (-1)))]]) (callF_frame (putSudog_lx R ws1 C1 G1 N W ph 0 0 L D1 Q1 z1 ov1 h1 o ho r2 u (-1) u (-1) u (-1) (-1) (by simp [b62]; omega) (by simp; omega)) [(0, 1), (1, 2), (2, 3), (3, 4), (4, 5), (5, 6), (6, 7), (7, 0)] rfl (by simp [hmapOk, nget, hget, renB, okB, renV, renVs, rn, okVs, okV]) rfl rfl (fun r h' n' hrr => ?_)) (by simp [ales, ale, pvle, I.val])
    obtain ⟨p2, ws2, C2, G2, ov2, D2, Q2, z2, e1, e2, e3, h2, hP⟩ := hrr
    subst e1 e2 e3
    obtain ⟨hp2, hH2, ot2, up2⟩ := hP.hld h1.a (up1 _ _ _ hQ.k2) rfl (sudogWs_bd u (-1) u (-1) u (-1) (-1) (by simp [b62]; omega) (by simp; omega))
    clear hP
    conv => cbv
    refine CallF.le (args0 := [.ptr 1 (.lit 0), .p (.int .i64 (.sym r2)), .p (.int .i64 (.sym 0))]) (callF_frame (load9_lx R ws2 C2 G2 N W ph 0 0 L D2 Q2 z2 ov2 h2 r2 0) [(0, 1), (1, 2), (2, 3), (3, 4), (4, 5), (5, 6), (6, 7)] rfl (by simp [hmapOk, nget, hget, renB, okB, renV, renVs, rn, okVs, okV]) rfl rfl (fun r h' n' hrr => ?_)) (by simp [ales, ale, pvle, I.val])
    obtain ⟨xa, exa, e1, e2, e3, hL⟩ := hrr
    subst e1 e2 e3
    have hxa := hH2.word 0 _ rfl hL
    clear hL
    conv => cbv
    refine CallF.le (args0 := [.ptr 1 (.lit 0), .p (.int .i64 (.sym r2)), .p (.int .i64 (.sym 2))]) (callF_frame (load9_lx R ws2 C2 G2 N W ph 0 0 L D2 Q2 z2 ov2 h2 r2 2) [(0, 1), (1, 2), (2, 3), (3, 4), (4, 5), (5, 6), (6, 7)] rfl (by simp [hmapOk, nget, hget, renB, okB, renV, renVs, rn, okVs, okV]) rfl rfl (fun r h' n' hrr => ?_)) (by simp [ales, ale, pvle, I.val])
    obtain ⟨xb, exb, e1, e2, e3, hL⟩ := hrr
    subst e1 e2 e3
    have hxb := hH2.word 2 _ rfl hL
    clear hL
    conv => cbv
    refine CallF.le (args0 := [.ptr 1 (.lit 0), .p (.int .i64 (.sym r2)), .p (.int .i64 (.sym 4))]) (callF_frame (load9_lx R ws2 C2 G2 N W ph 0 0 L D2 Q2 z2 ov2 h2 r2 4) [(0, 1), (1, 2), (2, 3), (3, 4), (4, 5), (5, 6), (6, 7)] rfl (by simp [hmapOk, nget, hget, renB, okB, renV, renVs, rn, okVs, okV]) rfl rfl (fun r h' n' hrr => ?_)) (by simp [ales, ale, pvle, I.val])
    obtain ⟨xd, exd, e1, e2, e3, hL⟩ := hrr
    subst e1 e2 e3
    have hxd := hH2.word 4 _ rfl hL
    clear hL
    conv => cbv
    refine CallF.le (args0 := [.ptr 1 (.lit 0), .p (.int .i64 (.sym r2)), .p (.int .i64 (.sym 5))]) (callF_frame (load9_lx R ws2 C2 G2 N W ph 0 0 L D2 Q2 z2 ov2 h2 r2 5) [(0, 1), (1, 2), (2, 3), (3, 4), (4, 5), (5, 6), (6, 7)] rfl (by simp [hmapOk, nget, hget, renB, okB, renV, renVs, rn, okVs, okV]) rfl rfl (fun r h' n' hrr => ?_)) (by simp [ales, ale, pvle, I.val])
    obtain ⟨xg, exg, e1, e2, e3, hL⟩ := hrr
    subst e1 e2 e3
    have hxg := hH2.word 5 _ rfl hL
    clear hL
    conv => cbv
    refine Need.mk (by simp [I.val]) ?_
    conv => cbv
    refine CallF.le (args0 := [.ptr 1 (.lit 0), .p (.int .i64 (.sym r3)), .agg [.p (.int .i64 (.sym u)), .p (.int .i64 (.sym 0)), .p (.int .i64 (.sym 0)), .p (.int .i64 (.sym 0)), .p (.int .i64 (.sym 0)), .p (.int .i64 (.sym 0)), .p (.int .i64 (.sym 0)), .p (.int .i64 (.sym 0)), .p (.int .i64 (.sym u)), .p (.int .i64 (.sym (-1)))]]) (callF_frame (putGor_lx R ws2 C2 G2 N W ph 0 0 L D2 Q2 z2 ov2 h2 o ho r3 u 0 0 0 0 0 0 0 u (-1) (by simp [b62]; omega) (by simp; omega)) [(0, 1), (1, 2), (2, 3), (3, 4), (4, 5), (5, 6), (6, 7), (7, 0)] rfl (by simp [hmapOk, nget, hget, renB, okB, renV, renVs, rn, okVs, okV]) rfl rfl (fun r h' n' hrr => ?_)) (by simp [ales, ale, pvle, I.val])
    obtain ⟨p3, ws3, C3, G3, ov3, D3, Q3, z3, e1, e2, e3, h3, hP⟩ := hrr
    subst e1 e2 e3
    obtain ⟨hp3, hH3, ot3, up3⟩ := hP.hld h2.a (up2 _ _ _ (up1 _ _ _ hQ.k3)) rfl (gorWs_bd u 0 0 0 0 0 0 0 u (-1) (by simp [b62]; omega) (by simp; omega))
    clear hP
    conv => cbv
    refine CallF.le (args0 := [.ptr 1 (.lit 0), .p (.int .i64 (.sym r3)), .p (.int .i64 (.sym 0))]) (callF_frame (load9_lx R ws3 C3 G3 N W ph 0 0 L D3 Q3 z3 ov3 h3 r3 0) [(0, 1), (1, 2), (2, 3), (3, 4), (4, 5), (5, 6), (6, 7)] rfl (by simp [hmapOk, nget, hget, renB, okB, renV, renVs, rn, okVs, okV]) rfl rfl (fun r h' n' hrr => ?_)) (by simp [ales, ale, pvle, I.val])
    obtain ⟨xi, exi, e1, e2, e3, hL⟩ := hrr
    subst e1 e2 e3
    have hxi := hH3.word 0 _ rfl hL
    clear hL
    conv => cbv
    refine CallF.le (args0 := [.ptr 1 (.lit 0), .p (.int .i64 (.sym r3)), .p (.int .i64 (.sym 8))]) (callF_frame (load9_lx R ws3 C3 G3 N W ph 0 0 L D3 Q3 z3 ov3 h3 r3 8) [(0, 1), (1, 2), (2, 3), (3, 4), (4, 5), (5, 6), (6, 7)] rfl (by simp [hmapOk, nget, hget, renB, okB, renV, renVs, rn, okVs, okV]) rfl rfl (fun r h' n' hrr => ?_)) (by simp [ales, ale, pvle, I.val])
    obtain ⟨xl, exl, e1, e2, e3, hL⟩ := hrr
    subst e1 e2 e3
    have hxl := hH3.word 8 _ rfl hL
    clear hL
    conv => cbv
    refine CallF.le (args0 := [.ptr 1 (.lit 0), .p (.int .i64 (.sym r3)), .p (.int .i64 (.sym 9))]) (callF_frame (load9_lx R ws3 C3 G3 N W ph 0 0 L D3 Q3 z3 ov3 h3 r3 9) [(0, 1), (1, 2), (2, 3), (3, 4), (4, 5), (5, 6), (6, 7)] rfl (by simp [hmapOk, nget, hget, renB, okB, renV, renVs, rn, okVs, okV]) rfl rfl (fun r h' n' hrr => ?_)) (by simp [ales, ale, pvle, I.val])
    obtain ⟨xm, exm, e1, e2, e3, hL⟩ := hrr
    subst e1 e2 e3
    have hxm := hH3.word 9 _ rfl hL
    clear hL
    conv => cbv
    have hpl : plW u = u * 2 + 1 := by unfold plW; rw [if_neg (by omega)]
    have gxa : xa = u * 2 + 1 := hxa.trans hpl
    have gxb : xb = u := hxb
    have gxd : xd = u * 2 := hxd
    have gxg : xg = -2 := hxg
    have gxi : xi = u * 2 := hxi
    have gxl : xl = u := hxl
    have gxm : xm = 0 := hxm
    refine Br.yes (show p1 = 0 from hp1) ?_
    conv => cbv
    refine Fit.mk (by show (-9223372036854775808 : Int) ≤ 2 * u; omega) (by show 2 * u ≤ 9223372036854775807; omega) fun t1 ht1 => ?_
    have ht1 : t1 = 2 * u := ht1
    conv => cbv
    refine Fit.mk (by show (-9223372036854775808 : Int) ≤ t1 + 1; omega) (by show t1 + 1 ≤ 9223372036854775807; omega) fun t2 ht2 => ?_
    have ht2 : t2 = t1 + 1 := ht2
    conv => cbv
    refine Br.yes (show xa = t2 from by omega) ?_
    conv => cbv
    refine Br.yes (show xb = u from gxb) ?_
    conv => cbv
    refine Fit.mk (by show (-9223372036854775808 : Int) ≤ 2 * u; omega) (by show 2 * u ≤ 9223372036854775807; omega) fun t3 ht3 => ?_
    have ht3 : t3 = 2 * u := ht3
    conv => cbv
    refine Br.yes (show xd = t3 from by omega) ?_
    conv => cbv
    refine Br.yes (show xg = -2 from gxg) ?_
    conv => cbv
    refine Fit.mk (by show (-9223372036854775808 : Int) ≤ 2 * u; omega) (by show 2 * u ≤ 9223372036854775807; omega) fun t4 ht4 => ?_
    have ht4 : t4 = 2 * u := ht4
    conv => cbv
    refine Br.yes (show xi = t4 from by omega) ?_
    conv => cbv
    refine Br.yes (show xl = u from gxl) ?_
    conv => cbv
    refine Br.yes (show xm = 0 from gxm) ?_
    conv => cbv
    refine RetF.mk [.p (.bool true)] [(0, .fix 0 o)] 1 (Re.at [(0, 0)] []) rfl rfl
set_option maxHeartbeats 16000000 in
theorem viewWords_2 (o : Unit → Obj) (ho : IsPow o) (k v : Int) (hk : IntKind.u64.wrap k % 9 = 2) : CallF (fun _ => Tryz.prog) 9 [.p (.int .i64 (.sym k)), .p (.int .i64 (.sym v))] [(0, .fix 0 o)] 1 (fun r _ _ => r = .p (.bool true)) := by
  refine callF_of_body tok Tryz.func9 (by kernel_rfl) rfl rfl rfl ?_; conv => cbv
  refine callF_frame (both_lx o ho false) [(0, 0)] rfl (by simp [hmapOk, nget, hget, renB, okB, renV, renVs, rn, okVs, okV]) rfl rfl (fun r h' n' hrr => ?_)
  obtain ⟨R, ws, vs, C, N, W, ph, L, D, Q, z, ov, P, B, V, Qr, la, m, r1, r2, r3, r4, e1, e2, e3, h, hr, hS, hQ, hC, hN, hph⟩ := hrr
  subst e1 e2 e3
  conv => cbv
  refine callF_frame (awake11_lx o ho) [(0, 0)] rfl (by simp [hmapOk, nget, hget, renB, okB, renV, renVs, rn, okVs, okV]) rfl rfl (fun r h' n' ⟨e1, e2, e3⟩ => ?_)
  subst e1 e2 e3
  conv => cbv
  refine callF_frame (places_lx R vs C [] N W ph 0 0 P B V Qr la m ov hr r1 r2 r3 r4 (hQ.sim hS)) [(0, 8), (1, 9), (2, 10), (3, 11), (4, 12), (5, 13), (6, 14), (7, 15)] rfl (by simp [hmapOk, nget, hget, renB, okB, renV, renVs, rn, okVs, okV]) rfl rfl (fun r h' n' ⟨e1, e2, e3⟩ => ?_)
  subst e1 e2 e3
  conv => cbv
  refine Fit.wrap fun xn hxn => ?_
  have hxn : xn = IntKind.u64.wrap v := hxn
  have hyn : 0 ≤ xn := by rw [hxn]; simp [IntKind.wrap, IntKind.bits, IntKind.signed]; omega
  clear hxn
  conv => cbv
  refine Sum.mk fun tn htn => ?_
  have htn : tn = xn % 1000 := (show tn = xn.tmod 1000 from htn).trans (Int.tmod_eq_emod_of_nonneg hyn)
  conv => cbv
  refine Fit.mk (by show (-9223372036854775808 : Int) ≤ tn; omega) (by show tn ≤ 9223372036854775807; omega) fun u hu => ?_
  have hu : u = tn := hu
  have hu0 : 0 ≤ u := by omega
  have hu1 : u < 1000 := by omega
  clear hu htn hyn
  conv => cbv
  refine Fit.wrap fun xn hxn => ?_
  have hxn : xn = IntKind.u64.wrap k := hxn
  have hyn : 0 ≤ xn := by rw [hxn]; simp [IntKind.wrap, IntKind.bits, IntKind.signed]; omega
  have hxn0 := hxn
  clear hxn
  conv => cbv
  refine Sum.mk fun tn htn => ?_
  have htn : tn = xn % 9 := (show tn = xn.tmod 9 from htn).trans (Int.tmod_eq_emod_of_nonneg hyn)
  conv => cbv
  refine Fit.mk (by show (-9223372036854775808 : Int) ≤ tn; omega) (by show tn ≤ 9223372036854775807; omega) fun q hq => ?_
  have hq : q = tn := hq
  have hq0 : 0 ≤ q := by omega
  have hq1 : q < 9 := by omega
  have e : q = 2 := by rw [hq, htn, hxn0]; exact hk
  clear hq htn hyn hxn0
  conv => cbv
  refine LoopF.rounds 6 ?_
  conv => cbv
  refine Need.mk (by simp [I.val]) ?_
  conv => cbv
  refine Need.mk (by simp [I.val]) ?_
  conv => cbv
  refine Need.mk (by simp [I.val]) ?_
  conv => cbv
  refine Need.mk (by simp [I.val]) ?_
  conv => cbv
  refine Need.mk (by simp [I.val]) ?_
  conv => cbv
  refine Need.mk (show 0 ≤ q ∧ q < 9 from ⟨hq0, hq1⟩) ?_
  conv => cbv
  refine WhichF.mk 2 (show q = 2 from e) ?_
  conv => cbv
  have hb : ∀ x ∈ [0, 0, u, 0, -1, -1, -1, -1, -1], b62 x := by simp [b62]; omega
  refine CallF.le (args0 := [.ptr 1 (.lit 0), .p (.int .i64 (.sym r1)), .agg [.p (.int .i64 (.sym 0)), .p (.int .i64 (.sym 0)), .p (.int .i64 (.sym u)), .p (.int .i64 (.sym 0)), .p (.int .i64 (.sym (-1))), .p (.int .i64 (.sym (-1))), .p (.int .i64 (.sym (-1))), .p (.int .i64 (.sym (-1))), .p (.int .i64 (.sym (-1)))]]) (callF_frame (putChan_lx R ws C [] N W ph 0 0 L D Q z ov h o ho r1 0 0 u 0 (-1) (-1) (-1) (-1) (-1) hb) [(0, 1), (1, 2), (2, 3), (3, 4), (4, 5), (5, 6), (6, 7), (7, 0)] rfl (by simp [hmapOk, nget, hget, renB, okB, renV, renVs, rn, okVs, okV]) rfl rfl (fun r h' n' hrr => ?_)) (by simp [ales, ale, pvle, I.val])
  obtain ⟨p1, ws1, C1, G1, ov1, D1, Q1, z1, e1, e2, e3, h1, hP⟩ := hrr
  subst e1 e2 e3
  obtain ⟨hp1, hH1, ot1, up1⟩ := hP.hld h.a (hQ.k1) rfl (chanWs_bd 0 0 u 0 (-1) (-1) (-1) (-1) (-1) hb)
  clear hP
  conv => cbv
  refine LoopF.mk (fun kk s => ∃ i : Int, s = ⟨.p (.int .i64 (.sym q)) :: .p (.int .i64 (.sym u)) :: (undefs 3 ++ .ptr 1 (.lit 0) :: .undef :: .p (.int .i64 (.sym r1)) :: .p (.int .i64 (.sym r2)) :: .p (.int .i64 (.sym r3)) :: (undefs 4 ++ .p (.int .i64 (.sym p1)) :: .p (.int .i64 (.sym i)) :: undefs 197)), [(1, .mix [.ptr 2 (.lit 0), .ptr 6 (.lit 0), .sl 7 3 1 (.lit 0) (.sym W), .p (.int .i64 (.sym ph)), .p (.int .i64 (.sym 0)), .p (.int .i64 (.sym 0))]), (2, .mix [.ptr 3 (.lit 0), .sl 5 3 1 (.lit 0) (.sym W)]), (3, .mix [.sl 4 161 2 (.lit 0) (.sym N)]), (4, .pure true L), (5, .pure true D1), (6, .pure false [.str fun _ => z1, .bool ov1]), (7, .pure true Q1), (0, .fix 0 o)], 18⟩ ∧ 0 ≤ i ∧ i ≤ 9 ∧ kk = (9 - i).toNat) 9 _
    (Re.at [(0, 0), (1, 1), (2, 2), (3, 3), (4, 4), (5, 5), (6, 6), (7, 7)] []) ⟨0, rfl, by omega, by omega, by omega⟩ ?_
  rintro kk s ⟨i, rfl, hi0, hi1, hkk⟩
  conv => cbv
  have hz : ∀ i : Nat, i < 9 → i ≠ 2 → (chanWs [0, 0, u, 0, -1, -1, -1, -1, -1])[i]? = some 0 := by
    intro i h1 h2
    have h3 : i = 0 ∨ i = 1 ∨ i = 2 ∨ i = 3 ∨ i = 4 ∨ i = 5 ∨ i = 6 ∨ i = 7 ∨ i = 8 := by omega
    rcases h3 with h | h | h | h | h | h | h | h | h <;> subst h <;> first | omega | rfl
  have hv : (chanWs [0, 0, u, 0, -1, -1, -1, -1, -1])[2]? = some (u * 2) := rfl
  refine Br.mk (fun gi => ?_) (fun gi => ?_)
  · have gi : i < 9 := gi
    conv => cbv
    obtain ⟨ii, hii⟩ : ∃ n : Nat, i = (n : Int) := ⟨i.toNat, by omega⟩
    refine callF_frame (load9_lx R ws1 C1 G1 N W ph 0 0 L D1 Q1 z1 ov1 h1 r1 i) [(0, 1), (1, 2), (2, 3), (3, 4), (4, 5), (5, 6), (6, 7)] rfl (by simp [hmapOk, nget, hget, renB, okB, renV, renVs, rn, okVs, okV]) rfl rfl (fun r h' n' hrr => ?_)
    obtain ⟨x, ex, e1, e2, e3, hL⟩ := hrr
    subst e1 e2 e3
    rw [hii] at hL
    conv => cbv
    refine Br.mk (fun gq => ?_) (fun gq => ?_)
    · have gq : i = q := gq
      have hx : x = u * 2 := hH1.word ii _ (by rw [show ii = 2 by omega]; exact hv) hL
      conv => cbv
      refine Fit.mk (by show (-9223372036854775808 : Int) ≤ 2 * u; omega) (by show 2 * u ≤ 9223372036854775807; omega) fun w1 hw1 => ?_
      have hw1 : w1 = 2 * u := hw1
      conv => cbv
      refine Br.no (show ¬ 3 < q by omega) ?_
      conv => cbv
      refine Br.no (show ¬ ¬ (x = w1) by omega) ?_
      conv => cbv
      refine Fit.mk (by show (-9223372036854775808 : Int) ≤ i + 1; omega) (by show i + 1 ≤ 9223372036854775807; omega) fun i2 hi2 => ?_
      have hi2 : i2 = i + 1 := hi2
      conv => cbv
      refine Again.mk (9 - i2).toNat _ (by omega) (Re.at [(0, 0), (1, 1), (2, 2), (3, 3), (4, 4), (5, 5), (6, 6), (7, 7)] []) ⟨i2, rfl, by omega, by omega, rfl⟩
    · have gq : ¬ i = q := gq
      have hx : x = 0 := hH1.word ii _ (hz ii (by omega) (by omega)) hL
      conv => cbv
      refine Br.no (show ¬ ¬ (x = 0) by omega) ?_
      conv => cbv
      refine Fit.mk (by show (-9223372036854775808 : Int) ≤ i + 1; omega) (by show i + 1 ≤ 9223372036854775807; omega) fun i2 hi2 => ?_
      have hi2 : i2 = i + 1 := hi2
      conv => cbv
      refine Again.mk (9 - i2).toNat _ (by omega) (Re.at [(0, 0), (1, 1), (2, 2), (3, 3), (4, 4), (5, 5), (6, 6), (7, 7)] []) ⟨i2, rfl, by omega, by omega, rfl⟩
  · have gi : ¬ i < 9 := gi
    conv => cbv
    refine CallF.le (args0 := [.ptr 1 (.lit 0), .p (.int .i64 (.sym r2)), .agg [.p (.int .i64 (.sym u)), .p (.int .i64 (.sym (-1))), .p (.int .i64 (.sym u)), .p (.int .i64 (.sym (-1))), .p (.int .i64 (.sym u)), .p (.int .i64 (.sym (-1))), .p (.int .i64 (.sym (-1)))]]) (callF_frame (putSudog_lx R ws1 C1 G1 N W ph 0 0 L D1 Q1 z1 ov1 h1 o ho r2 u (-1) u (-1) u (-1) (-1) (by simp [b62]; omega) (by simp; omega)) [(0, 1), (1, 2), (2, 3), (3, 4), (4, 5), (5, 6), (6, 7), (7, 0)] rfl (by simp [hmapOk, nget, hget, renB, okB, renV, renVs, rn, okVs, okV]) rfl rfl (fun r h' n' hrr => ?_)) (by simp [ales, ale, pvle, I.val])
    obtain ⟨p2, ws2, C2, G2, ov2, D2, Q2, z2, e1, e2, e3, h2, hP⟩ := hrr
    subst e1 e2 e3
    obtain ⟨hp2, hH2, ot2, up2⟩ := hP.hld h1.a (up1 _ _ _ hQ.k2) rfl (sudogWs_bd u (-1) u (-1) u (-1) (-1) (by simp [b62]; omega) (by simp; omega))
    clear hP
    conv => cbv
    refine CallF.le (args0 := [.ptr 1 (.lit 0), .p (.int .i64 (.sym r2)), .p (.int .i64 (.sym 0))]) (callF_frame (load9_lx R ws2 C2 G2 N W ph 0 0 L D2 Q2 z2 ov2 h2 r2 0) [(0, 1), (1, 2), (2, 3), (3, 4), (4, 5), (5, 6), (6, 7)] rfl (by simp [hmapOk, nget, hget, renB, okB, renV, renVs, rn, okVs, okV]) rfl rfl (fun r h' n' hrr => ?_)) (by simp [ales, ale, pvle, I.val])
    obtain ⟨xa, exa, e1, e2, e3, hL⟩ := hrr
    subst e1 e2 e3
    have hxa := hH2.word 0 _ rfl hL
    clear hL
    conv => cbv
    refine CallF.le (args0 := [.ptr 1 (.lit 0), .p (.int .i64 (.sym r2)), .p (.int .i64 (.sym 2))]) (callF_frame (load9_lx R ws2 C2 G2 N W ph 0 0 L D2 Q2 z2 ov2 h2 r2 2) [(0, 1), (1, 2), (2, 3), (3, 4), (4, 5), (5, 6), (6, 7)] rfl (by simp [hmapOk, nget, hget, renB, okB, renV, renVs, rn, okVs, okV]) rfl rfl (fun r h' n' hrr => ?_)) (by simp [ales, ale, pvle, I.val])
    obtain ⟨xb, exb, e1, e2, e3, hL⟩ := hrr
    subst e1 e2 e3
    have hxb := hH2.word 2 _ rfl hL
    clear hL
    conv => cbv
    refine CallF.le (args0 := [.ptr 1 (.lit 0), .p (.int .i64 (.sym r2)), .p (.int .i64 (.sym 4))]) (callF_frame (load9_lx R ws2 C2 G2 N W ph 0 0 L D2 Q2 z2 ov2 h2 r2 4) [(0, 1), (1, 2), (2, 3), (3, 4), (4, 5), (5, 6), (6, 7)] rfl (by simp [hmapOk, nget, hget, renB, okB, renV, renVs, rn, okVs, okV]) rfl rfl (fun r h' n' hrr => ?_)) (by simp [ales, ale, pvle, I.val])
    obtain ⟨xd, exd, e1, e2, e3, hL⟩ := hrr
    subst e1 e2 e3
    have hxd := hH2.word 4 _ rfl hL
    clear hL
    conv => cbv
    refine CallF.le (args0 := [.ptr 1 (.lit 0), .p (.int .i64 (.sym r2)), .p (.int .i64 (.sym 5))]) (callF_frame (load9_lx R ws2 C2 G2 N W ph 0 0 L D2 Q2 z2 ov2 h2 r2 5) [(0, 1), (1, 2), (2, 3), (3, 4), (4, 5), (5, 6), (6, 7)] rfl (by simp [hmapOk, nget, hget, renB, okB, renV, renVs, rn, okVs, okV]) rfl rfl (fun r h' n' hrr => ?_)) (by simp [ales, ale, pvle, I.val])
    obtain ⟨xg, exg, e1, e2, e3, hL⟩ := hrr
    subst e1 e2 e3
    have hxg := hH2.word 5 _ rfl hL
    clear hL
    conv => cbv
    refine Need.mk (by simp [I.val]) ?_
    conv => cbv
    refine CallF.le (args0 := [.ptr 1 (.lit 0), .p (.int .i64 (.sym r3)), .agg [.p (.int .i64 (.sym u)), .p (.int .i64 (.sym 0)), .p (.int .i64 (.sym 0)), .p (.int .i64 (.sym 0)), .p (.int .i64 (.sym 0)), .p (.int .i64 (.sym 0)), .p (.int .i64 (.sym 0)), .p (.int .i64 (.sym 0)), .p (.int .i64 (.sym u)), .p (.int .i64 (.sym (-1)))]]) (callF_frame (putGor_lx R ws2 C2 G2 N W ph 0 0 L D2 Q2 z2 ov2 h2 o ho r3 u 0 0 0 0 0 0 0 u (-1) (by simp [b62]; omega) (by simp; omega)) [(0, 1), (1, 2), (2, 3), (3, 4), (4, 5), (5, 6), (6, 7), (7, 0)] rfl (by simp [hmapOk, nget, hget, renB, okB, renV, renVs, rn, okVs, okV]) rfl rfl (fun r h' n' hrr => ?_)) (by simp [ales, ale, pvle, I.val])
    obtain ⟨p3, ws3, C3, G3, ov3, D3, Q3, z3, e1, e2, e3, h3, hP⟩ := hrr
    subst e1 e2 e3
    obtain ⟨hp3, hH3, ot3, up3⟩ := hP.hld h2.a (up2 _ _ _ (up1 _ _ _ hQ.k3)) rfl (gorWs_bd u 0 0 0 0 0 0 0 u (-1) (by simp [b62]; omega) (by simp; omega))
    clear hP
    conv => cbv
    refine CallF.le (args0 := [.ptr 1 (.lit 0), .p (.int .i64 (.sym r3)), .p (.int .i64 (.sym 0))]) (callF_frame (load9_lx R ws3 C3 G3 N W ph 0 0 L D3 Q3 z3 ov3 h3 r3 0) [(0, 1), (1, 2), (2, 3), (3, 4), (4, 5), (5, 6), (6, 7)] rfl (by simp [hmapOk, nget, hget, renB, okB, renV, renVs, rn, okVs, okV]) rfl rfl (fun r h' n' hrr => ?_)) (by simp [ales, ale, pvle, I.val])
    obtain ⟨xi, exi, e1, e2, e3, hL⟩ := hrr
    subst e1 e2 e3
    have hxi := hH3.word 0 _ rfl hL
    clear hL
    conv => cbv
    refine CallF.le (args0 := [.ptr 1 (.lit 0), .p (.int .i64 (.sym r3)), .p (.int .i64 (.sym 8))]) (callF_frame (load9_lx R ws3 C3 G3 N W ph 0 0 L D3 Q3 z3 ov3 h3 r3 8) [(0, 1), (1, 2), (2, 3), (3, 4), (4, 5), (5, 6), (6, 7)] rfl (by simp [hmapOk, nget, hget, renB, okB, renV, renVs, rn, okVs, okV]) rfl rfl (fun r h' n' hrr => ?_)) (by simp [ales, ale, pvle, I.val])
    obtain ⟨xl, exl, e1, e2, e3, hL⟩ := hrr
    subst e1 e2 e3
    have hxl := hH3.word 8 _ rfl hL
    clear hL
    conv => cbv
    refine CallF.le (args0 := [.ptr 1 (.lit 0), .p (.int .i64 (.sym r3)), .p (.int .i64 (.sym 9))]) (callF_frame (load9_lx R ws3 C3 G3 N W ph 0 0 L D3 Q3 z3 ov3 h3 r3 9) [(0, 1), (1, 2), (2, 3), (3, 4), (4, 5), (5, 6), (6, 7)] rfl (by simp [hmapOk, nget, hget, renB, okB, renV, renVs, rn, okVs, okV]) rfl rfl (fun r h' n' hrr => ?_)) (by simp [ales, ale, pvle, I.val])
    obtain ⟨xm, exm, e1, e2, e3, hL⟩ := hrr
    subst e1 e2 e3
    have hxm := hH3.word 9 _ rfl hL
    clear hL
    conv => cbv
    have hpl : plW u = u * 2 + 1 := by unfold plW; rw [if_neg (by omega)]
    have gxa : xa = u * 2 + 1 := hxa.trans hpl
    have gxb : xb = u := hxb
    have gxd : xd = u * 2 := hxd
    have gxg : xg = -2 := hxg
    have gxi : xi = u * 2 := hxi
    have gxl : xl = u := hxl
    have gxm : xm = 0 := hxm
    refine Br.yes (show p1 = 0 from hp1) ?_
    conv => cbv
    refine Fit.mk (by show (-9223372036854775808 : Int) ≤ 2 * u; omega) (by show 2 * u ≤ 9223372036854775807; omega) fun t1 ht1 => ?_
    have ht1 : t1 = 2 * u := ht1
    conv => cbv
    refine Fit.mk (by show (-9223372036854775808 : Int) ≤ t1 + 1; omega) (by show t1 + 1 ≤ 9223372036854775807; omega) fun t2 ht2 => ?_
    have ht2 : t2 = t1 + 1 := ht2
    conv => cbv
    refine Br.yes (show xa = t2 from by omega) ?_
    conv => cbv
    refine Br.yes (show xb = u from gxb) ?_
    conv => cbv
    refine Fit.mk (by show (-9223372036854775808 : Int) ≤ 2 * u; omega) (by show 2 * u ≤ 9223372036854775807; omega) fun t3 ht3 => ?_
    have ht3 : t3 = 2 * u := ht3
    conv => cbv
    refine Br.yes (show xd = t3 from by omega) ?_
    conv => cbv
    refine Br.yes (show xg = -2 from gxg) ?_
    conv => cbv
    refine Fit.mk (by show (-9223372036854775808 : Int) ≤ 2 * u; omega) (by show 2 * u ≤ 9223372036854775807; omega) fun t4 ht4 => ?_
    have ht4 : t4 = 2 * u := ht4
    conv => cbv
    refine Br.yes (show xi = t4 from by omega) ?_
    conv => cbv
    refine Br.yes (show xl = u from gxl) ?_
    conv => cbv
    refine Br.yes (show xm = 0 from gxm) ?_
    conv => cbv
    refine RetF.mk [.p (.bool true)] [(0, .fix 0 o)] 1 (Re.at [(0, 0)] []) rfl rfl
end Go.Proofs.YtolamdalijjlnaaGreatDoor
