/-
  Layer 15: SendNone.
-/
import Derived.Test.YtmcljlflcbdpiaaGreatDoorBg

namespace Go.Proofs.YtmcljlflcbdpiaaGreatDoor

open Go Go.LX
set_option maxRecDepth 100000
set_option linter.unusedVariables false
set_option linter.unusedSimpArgs false

theorem and255 (x : Int) : 0 ≤ IntKind.i64.wrap ((BitVec.ofInt 64 x &&& BitVec.ofInt 64 255).toNat : Int) ∧ IntKind.i64.wrap ((BitVec.ofInt 64 x &&& BitVec.ofInt 64 255).toNat : Int) ≤ 255 := by
  have h : (BitVec.ofInt 64 x &&& BitVec.ofInt 64 255).toNat ≤ 255 := by rw [BitVec.toNat_and]; exact Nat.le_trans Nat.and_le_right (by decide)
  generalize (BitVec.ofInt 64 x &&& BitVec.ofInt 64 255).toNat = n at h ⊢
  simp [IntKind.wrap, IntKind.bits, IntKind.signed]
  omega
set_option maxHeartbeats 16000000 in
theorem sendNone_law (o : Unit → Obj) (ho : IsPow o) (w v : Int) (hw : (-9223372036854775808 ≤ w ∧ w ≤ 9223372036854775807)) (hv : (-9223372036854775808 ≤ v ∧ v ≤ 9223372036854775807)) : CallF (fun _ => Tryz.prog) 5 [.p (.int .i64 (.sym w)), .p (.int .i64 (.sym v))] [(0, .fix 0 o)] 1 (fun r _ _ => r = .p (.bool true)) := by
  refine callF_of_body tok Tryz.func5 (by kernel_rfl) rfl rfl rfl ?_; conv => cbv
  refine CallF.re (args0 := [.p (.vsl (.sym 1) true [.int .i64 (.sym 2)]), .p (.int .i64 (.sym 1))]) (h' := [(0, .fix 0 o)]) (Re.at [(0, 0)] []) (callF_frame (made15_lx o ho [2] 1 1 [.int .i64 (.sym 2)] rfl rfl) [(0, 0)] rfl (by simp [hmapOk, nget, hget, renB, okB, renV, renVs, rn, okVs, okV]) rfl rfl (fun r h' n' hrr => ?_))
  obtain ⟨N, W, C, R, ws, vs, L, D, Q, z, P, B, V, Qr, M, CS, GS, chs, bufs, grs, nc, ng, e1, e2, e3, S, hB, hY, hcs, hgs, hnc, hng, hnm, hn1, hn4, hngo, hcnt, hR, hW⟩ := hrr
  subst e1 e2 e3
  conv => cbv
  refine callF_frame (awake15_lx o ho) [(0, 0)] rfl (by simp [hmapOk, nget, hget, renB, okB, renV, renVs, rn, okVs, okV]) rfl rfl (fun r h' n' ⟨e1, e2, e3⟩ => ?_)
  subst e1 e2 e3
  conv => cbv
  have hnc1 : nc = 1 := by omega
  obtain ⟨c, hcc⟩ := chA1 hnc hnc1
  have hc0 : chs[0]? = some c := by rw [hcc]; rfl
  obtain ⟨b, hb0, hBC⟩ := hB.ch 0 c 2 hc0 rfl
  have hMc := hBC.c
  rw [capS (by decide)] at hMc
  have hcl := S.c.len S.h.a hMc
  have hcw : atW (2 * c + 1) = c := atW_ptr c
  have hngb := ngor_bd 1
  obtain ⟨g, hg0⟩ : ∃ g, grs[0]? = some g := ⟨_, List.getElem?_eq_getElem (by omega)⟩
  have hMg := hB.gr 0 g hg0
  have hgl := S.c.len S.h.a hMg
  have hgw : atW (2 * g + 1) = g := atW_ptr g
  have hgn : ∀ F, M g ≠ some (1, F) := fun F q => by rw [hMg] at q; cases q
  have hh := S.h
  have hc := S.c
  have hMb : ∀ F, M (-1) ≠ some (1, F) := fun F e => by rw [neg_none S.h.a S.c] at e; cases e
  refine CallF.le (args0 := [.ptr 2 (.lit 0), .p (.int .i64 (.sym 0)), .p (.int .i64 (.sym v))]) (callF_frame (sendZero_lx R ws C [] N W 0 0 0 L D Q z false hh M hc o 0 v rfl) [(0, 2), (1, 3), (2, 4), (3, 5), (4, 6), (5, 7), (6, 8), (7, 0)] rfl (by simp [hmapOk, nget, hget, renB, okB, renV, renVs, rn, okVs, okV]) rfl rfl (fun r h' n' hrr => ?_)) (by simp [ales, ale, pvle, I.val])
  obtain ⟨e1, e2, e3⟩ := hrr
  subst e1 e2 e3
  conv => cbv
  refine drawn_sound tok (by kernel_rfl) [(5, [8, 3, 2, 1, 0]), (9, [])] [0, 1, 2, 3, 4, 8, 5, 6, 7, 9, 10, 11, 12, 13, 14] (by kernel_rfl) ?_; conv => cbv
  refine CallF.le (args0 := [.ptr 17 (.lit 0), .p (.int .i64 (.sym 0))]) (callF_frame (gor15_lx R ws vs C N W 0 0 0 L D Q z false P B V Qr [] 0 M nc ng CS GS o 0 grs hgs hng (by omega) (by omega)) [(0, 2), (1, 3), (2, 4), (3, 5), (4, 6), (5, 7), (6, 8), (7, 9), (8, 10), (9, 11), (10, 12), (11, 13), (12, 14), (13, 15), (14, 16), (15, 0), (16, 17), (17, 18), (18, 19)] rfl (by simp [hmapOk, nget, hget, renB, okB, renV, renVs, rn, okVs, okV]) rfl rfl (fun r h' n' hrr => ?_)) (by simp [ales, ale, pvle, I.val])
  obtain ⟨⟨x1, e1, hx1⟩, e2, e3⟩ := hrr
  subst e1 e2 e3
  conv => cbv
  obtain rfl : g = x1 := (ix0 hx1 hg0).symm
  refine Fit.mk (by show (-9223372036854775808 : Int) ≤ 2 * g; omega) (by show 2 * g ≤ 9223372036854775807; omega) fun a1 ha1 => ?_
  have ha1 : a1 = 2 * g := ha1
  conv => cbv
  refine Fit.mk (by show (-9223372036854775808 : Int) ≤ a1 + 1; omega) (by show a1 + 1 ≤ 9223372036854775807; omega) fun w1 hw1 => ?_
  have hw1 : w1 = a1 + 1 := hw1
  conv => cbv
  refine CallF.le (args0 := [.ptr 2 (.lit 0), .p (.int .i64 (.sym w1)), .p (.int .i64 (.sym v))]) (callF_frame (sendStray_lx R ws C [] N W 0 0 0 L D Q z false hh M hc o w1 v (by omega) hv (by omega) (by rw [show w1 = 2 * g + 1 by omega, hgw]; exact hgn)) [(0, 2), (1, 3), (2, 4), (3, 5), (4, 6), (5, 7), (6, 8), (7, 0)] rfl (by simp [hmapOk, nget, hget, renB, okB, renV, renVs, rn, okVs, okV]) rfl rfl (fun r h' n' hrr => ?_)) (by simp [ales, ale, pvle, I.val])
  obtain ⟨e1, e2, e3⟩ := hrr
  subst e1 e2 e3
  conv => cbv
  refine Sum.mk fun m1 hm1 => ?_
  conv => cbv
  refine Sum.mk fun u1 hu1 => ?_
  have hu2 : 0 ≤ u1 ∧ u1 ≤ 255 := by rw [hu1]; exact and255 m1
  conv => cbv
  refine Fit.mk (by show (-9223372036854775808 : Int) ≤ 1 + u1; omega) (by show 1 + u1 ≤ 9223372036854775807; omega) fun s1 hs1 => ?_
  have hs1 : s1 = 1 + u1 := hs1
  conv => cbv
  refine Fit.mk (by show (-9223372036854775808 : Int) ≤ 2 * s1; omega) (by show 2 * s1 ≤ 9223372036854775807; omega) fun w3 hw3 => ?_
  have hw3 : w3 = 2 * s1 := hw3
  conv => cbv
  refine CallF.le (args0 := [.ptr 2 (.lit 0), .p (.int .i64 (.sym w3)), .p (.int .i64 (.sym v))]) (callF_frame (sendStray_lx R ws C [] N W 0 0 0 L D Q z false hh M hc o w3 v (by omega) hv (by omega) (by rw [atW_even (by omega)]; exact hMb)) [(0, 2), (1, 3), (2, 4), (3, 5), (4, 6), (5, 7), (6, 8), (7, 0)] rfl (by simp [hmapOk, nget, hget, renB, okB, renV, renVs, rn, okVs, okV]) rfl rfl (fun r h' n' hrr => ?_)) (by simp [ales, ale, pvle, I.val])
  obtain ⟨e1, e2, e3⟩ := hrr
  subst e1 e2 e3
  conv => cbv
  refine read_sound tok (by kernel_rfl) [0, 2, 3, 4, 5, 6, 7, 8, 9, 10, 11, 12, 13, 14, 15, 16, 17, 18, 19] [5, 6] [(10, [9, 8, 7, 6, 5, 4, 3, 2, 1, 0]), (11, [9])] [0, 1, 2, 3, 4, 5, 6, 7, 8, 9, 10, 11, 12] (by kernel_rfl) ?_
  conv => cbv
  refine ReadF.mk (.p (.int .i64 (.sym c))) (fun h' n' hbR hnR => CallF.le (args0 := [.ptr 17 (.lit 0), .p (.int .i64 (.sym 0))]) (callF_read ((ch15_lx R ws vs C N W 0 0 0 L D Q z false P B V Qr [] 0 M nc ng CS GS o 0 chs hcs hnc (by omega) (by omega)).mono (fun r h n ⟨⟨x, e1, hx⟩, e2, e3⟩ => ⟨by rw [e1, ix0 hx hc0], e2, e3⟩)) [(0, 2), (1, 3), (2, 4), (3, 5), (4, 6), (5, 7), (6, 8), (7, 9), (8, 10), (9, 11), (10, 12), (11, 13), (12, 14), (13, 15), (14, 16), (15, 0), (16, 17), (17, 18), (18, 19)] (by simp [fok, nget, nback]; omega) (by simp [hmapOk, nget, hbR, hget, renB, okB, renV, renVs, rn, okVs, okV]) rfl rfl rfl rfl) (by simp [ales, ale, pvle, I.val])) ?_
  conv => cbv
  refine ReadF.mk (.tup [.agg [.p (.int .i64 (.sym 2)), .p (.int .i64 (.sym 0)), .p (.int .i64 (.sym 0)), .p (.int .i64 (.sym 0)), .p (.int .i64 (.sym b)), .p (.int .i64 (.sym (-1))), .p (.int .i64 (.sym (-1))), .p (.int .i64 (.sym (-1))), .p (.int .i64 (.sym (-1)))], .p (.int .i64 (.sym 0))]) (fun h' n' hbR hnR => CallF.le (args0 := [.ptr 2 (.lit 0), .p (.int .i64 (.sym c))]) (callF_read ((chanM_lx R ws C [] N W 0 0 0 L D Q z false hh M hc c 2 0 0 0 b (-1) (-1) (-1) (-1) hMc).mono (fun r h n ⟨⟨e, e1, he⟩, e2, e3⟩ => ⟨by rw [e1, he], e2, e3⟩)) [(0, 2), (1, 3), (2, 4), (3, 5), (4, 6), (5, 7), (6, 8)] (by simp [fok, nget, nback]; omega) (by simp [hmapOk, nget, hbR, hget, renB, okB, renV, renVs, rn, okVs, okV]) rfl rfl rfl rfl) (by simp [ales, ale, pvle, I.val])) ?_
  conv => cbv
  refine drawn_sound tok (by kernel_rfl) [(5, [6, 3, 2, 1, 0]), (7, [])] [0, 1, 2, 3, 4, 6, 5, 7] (by kernel_rfl) ?_; conv => cbv
  refine CallF.le (args0 := [.ptr 17 (.lit 0), .p (.int .i64 (.sym 0))]) (callF_frame (ch15_lx R ws vs C N W 0 0 0 L D Q z false P B V Qr [] 0 M nc ng CS GS o 0 chs hcs hnc (by omega) (by omega)) [(0, 2), (1, 3), (2, 4), (3, 5), (4, 6), (5, 7), (6, 8), (7, 9), (8, 10), (9, 11), (10, 12), (11, 13), (12, 14), (13, 15), (14, 16), (15, 0), (16, 17), (17, 18), (18, 19)] rfl (by simp [hmapOk, nget, hget, renB, okB, renV, renVs, rn, okVs, okV]) rfl rfl (fun r h' n' hrr => ?_)) (by simp [ales, ale, pvle, I.val])
  obtain ⟨⟨x3, e1, hx3⟩, e2, e3⟩ := hrr
  subst e1 e2 e3
  conv => cbv
  obtain rfl : c = x3 := (ix0 hx3 hc0).symm
  obtain ⟨hp, hb⟩ := S.c.chan S.h.a hMc
  have hb' : ∀ q ∈ [2, 1, 0, 0, b, -1, -1, -1, -1], b62 q := by
    simp only [List.forall_mem_cons] at hb ⊢
    obtain ⟨b0, b1, b2, b3, b4, b5, b6, b7, b8, _⟩ := hb
    exact ⟨b0, by unfold b62; omega, b2, b3, b4, b5, b6, b7, b8, fun q hq => by cases hq⟩
  refine CallF.le (args0 := [.ptr 2 (.lit 0), .p (.int .i64 (.sym c)), .agg [.p (.int .i64 (.sym 2)), .p (.int .i64 (.sym 1)), .p (.int .i64 (.sym 0)), .p (.int .i64 (.sym 0)), .p (.int .i64 (.sym b)), .p (.int .i64 (.sym (-1))), .p (.int .i64 (.sym (-1))), .p (.int .i64 (.sym (-1))), .p (.int .i64 (.sym (-1)))]]) (callF_frame (putChanM_lx R ws C [] N W 0 0 0 L D Q z false hh M hc o ho rfl c 2 1 0 0 b (-1) (-1) (-1) (-1) [2, 0, 0, 0, b, -1, -1, -1, -1] hMc rfl hb' hp) [(0, 2), (1, 3), (2, 4), (3, 5), (4, 6), (5, 7), (6, 8), (7, 0)] rfl (by simp [hmapOk, nget, hget, renB, okB, renV, renVs, rn, okVs, okV]) rfl rfl (fun r h' n' hrr => ?_)) (by simp [ales, ale, pvle, I.val])
  obtain ⟨e8, ws1, D1, e1, he8, e2, e3, hh1, hc1⟩ := hrr
  subst e1 e2 e3
  conv => cbv
  generalize hM1 : upd M c (1, [2, 1, 0, 0, b, -1, -1, -1, -1]) = M1 at hc1
  have hMc1 : M1 c = some (1, [2, 1, 0, 0, b, -1, -1, -1, -1]) := by rw [← hM1]; exact upd_same _ _ _
  refine drawn_sound tok (by kernel_rfl) [(5, [8, 3, 2, 1, 0]), (9, [])] [0, 1, 2, 3, 4, 8, 5, 6, 7, 9, 10, 11, 12, 13, 14] (by kernel_rfl) ?_; conv => cbv
  refine CallF.le (args0 := [.ptr 17 (.lit 0), .p (.int .i64 (.sym 0))]) (callF_frame (ch15_lx R ws1 vs C N W 0 0 0 L D1 Q z false P B V Qr [] 0 M nc ng CS GS o 0 chs hcs hnc (by omega) (by omega)) [(0, 2), (1, 3), (2, 4), (3, 5), (4, 6), (5, 7), (6, 8), (7, 9), (8, 10), (9, 11), (10, 12), (11, 13), (12, 14), (13, 15), (14, 16), (15, 0), (16, 17), (17, 18), (18, 19)] rfl (by simp [hmapOk, nget, hget, renB, okB, renV, renVs, rn, okVs, okV]) rfl rfl (fun r h' n' hrr => ?_)) (by simp [ales, ale, pvle, I.val])
  obtain ⟨⟨x4, e1, hx4⟩, e2, e3⟩ := hrr
  subst e1 e2 e3
  conv => cbv
  obtain rfl : c = x4 := (ix0 hx4 hc0).symm
  refine Fit.mk (by show (-9223372036854775808 : Int) ≤ 2 * c; omega) (by show 2 * c ≤ 9223372036854775807; omega) fun a4 ha4 => ?_
  have ha4 : a4 = 2 * c := ha4
  conv => cbv
  refine Fit.mk (by show (-9223372036854775808 : Int) ≤ a4 + 1; omega) (by show a4 + 1 ≤ 9223372036854775807; omega) fun w4 hw4 => ?_
  have hw4 : w4 = a4 + 1 := hw4
  conv => cbv
  have hat4 : atW w4 = c := by rw [show w4 = 2 * c + 1 by omega]; exact hcw
  refine CallF.le (args0 := [.ptr 2 (.lit 0), .p (.int .i64 (.sym w4)), .p (.int .i64 (.sym v))]) (callF_frame (sendClosed_lx R ws1 C [] N W 0 0 0 L D1 Q z false hh1 M1 hc1 o w4 v (by omega) hv (by omega) c 2 1 0 0 b (-1) (-1) (-1) (-1) hat4 hMc1 (by decide)) [(0, 2), (1, 3), (2, 4), (3, 5), (4, 6), (5, 7), (6, 8), (7, 0)] rfl (by simp [hmapOk, nget, hget, renB, okB, renV, renVs, rn, okVs, okV]) rfl rfl (fun r h' n' hrr => ?_)) (by simp [ales, ale, pvle, I.val])
  obtain ⟨e1, e2, e3⟩ := hrr
  subst e1 e2 e3
  conv => cbv
  refine callF_frame (sendNil_lx (.sym w) (.sym v)) [] rfl trivial rfl rfl (fun r h' n' ⟨e1, e2, e3⟩ => ?_)
  subst e1 e2 e3
  conv => cbv
  refine drawn_sound tok (by kernel_rfl) [(24, []), (32, [30, 29, 28, 27]), (35, [])] [0, 1, 2, 3, 4, 5, 6, 7, 8, 9, 10, 11, 12, 13, 14, 15, 16, 17, 18, 19, 20, 21, 22, 23, 24, 25, 26, 27, 28, 29, 30, 31, 32, 33, 34, 35, 36, 37] (drawnOKF_ok (by kernel_rfl)) ?_; conv => cbv
  refine Br.yes (show (0 : Int) = 0 from rfl) ?_
  conv => cbv
  refine Br.yes (show (6 : Int) = 6 from rfl) ?_
  conv => cbv
  refine Br.yes (show (6 : Int) = 6 from rfl) ?_
  conv => cbv
  refine Br.yes (show (3 : Int) = 3 from rfl) ?_
  conv => cbv
  refine Br.yes (show (-1 : Int) = -1 from rfl) ?_
  conv => cbv
  refine Br.yes (show (6 : Int) = 6 from rfl) ?_
  conv => cbv
  refine callF_frame (sendRNil_lx (.sym w)) [] rfl trivial rfl rfl (fun r h' n' ⟨e1, e2, e3⟩ => ?_)
  subst e1 e2 e3
  conv => cbv
  refine CallF.le (args0 := [.ptr 17 (.lit 0), .p (.int .i64 (.sym 0))]) (callF_frame (ch15_lx R ws1 vs C N W 0 0 0 L D1 Q z false P B V Qr [] 0 M nc ng CS GS o 0 chs hcs hnc (by omega) (by omega)) [(0, 2), (1, 3), (2, 4), (3, 5), (4, 6), (5, 7), (6, 8), (7, 9), (8, 10), (9, 11), (10, 12), (11, 13), (12, 14), (13, 15), (14, 16), (15, 0), (16, 17), (17, 18), (18, 19)] rfl (by simp [hmapOk, nget, hget, renB, okB, renV, renVs, rn, okVs, okV]) rfl rfl (fun r h' n' hrr => ?_)) (by simp [ales, ale, pvle, I.val])
  obtain ⟨⟨x5, e1, hx5⟩, e2, e3⟩ := hrr
  subst e1 e2 e3
  conv => cbv
  obtain rfl : c = x5 := (ix0 hx5 hc0).symm
  refine Fit.mk (by show (-9223372036854775808 : Int) ≤ 2 * c; omega) (by show 2 * c ≤ 9223372036854775807; omega) fun a5 ha5 => ?_
  have ha5 : a5 = 2 * c := ha5
  conv => cbv
  refine Fit.mk (by show (-9223372036854775808 : Int) ≤ a5 + 1; omega) (by show a5 + 1 ≤ 9223372036854775807; omega) fun w5 hw5 => ?_
  have hw5 : w5 = a5 + 1 := hw5
  conv => cbv
  have hat5 : atW w5 = c := by rw [show w5 = 2 * c + 1 by omega]; exact hcw
  refine CallF.le (args0 := [.ptr 2 (.lit 0), .p (.int .i64 (.sym w5))]) (callF_frame (sendRClosed_lx R ws1 C [] N W 0 0 0 L D1 Q z false hh1 M1 hc1 o w5 (by omega) (by omega) c 2 1 0 0 b (-1) (-1) (-1) (-1) hat5 hMc1 (by decide)) [(0, 2), (1, 3), (2, 4), (3, 5), (4, 6), (5, 7), (6, 8), (7, 0)] rfl (by simp [hmapOk, nget, hget, renB, okB, renV, renVs, rn, okVs, okV]) rfl rfl (fun r h' n' hrr => ?_)) (by simp [ales, ale, pvle, I.val])
  obtain ⟨e1, e2, e3⟩ := hrr
  subst e1 e2 e3
  conv => cbv
  refine RetF.mk [.p (.bool true)] [(0, .fix 0 o)] 1 (Re.at [(0, 0)] []) rfl rfl
end Go.Proofs.YtmcljlflcbdpiaaGreatDoor
