/-
  Layer 13: ListRefuses.
-/
import Derived.Test.YtmcljlflcbdpiaaGreatDoorBg

namespace Go.Proofs.YtmcljlflcbdpiaaGreatDoor

open Go Go.LX
set_option maxRecDepth 100000
set_option linter.unusedVariables false
set_option linter.unusedSimpArgs false

set_option maxHeartbeats 16000000 in
theorem listRefuses_law (o : Unit → Obj) (ho : IsPow o) (at_ : Int) (sd : Bool) : CallF (fun _ => Tryz.prog) 3 [.p (.int .i64 (.sym at_)), .p (.bool sd)] [(0, .fix 0 o)] 1 (fun r _ _ => r = .p (.bool true)) := by
  refine callF_of_body tok Tryz.func3 (by kernel_rfl) rfl rfl rfl ?_; conv => cbv
  refine CallF.re (args0 := [.p (.vsl (.sym 1) true [.int .i64 (.sym 1)]), .p (.int .i64 (.sym 1))]) (h' := [(0, .fix 0 o)]) (Re.at [(0, 0)] []) (callF_frame (made13_lx o ho [1] 1 1 [.int .i64 (.sym 1)] rfl rfl) [(0, 0)] rfl (by simp [hmapOk, nget, hget, renB, okB, renV, renVs, rn, okVs, okV]) rfl rfl (fun r h' n' hrr => ?_))
  obtain ⟨N, W, C, R, ws, vs, L, D, Q, z, P, B, V, Qr, M, CS, GS, chs, bufs, grs, nc, ng, e1, e2, e3, S, hB, hY, hcs, hgs, hnc, hng, hnm, hn1, hn4, hngo, hcnt, hR, hW⟩ := hrr
  subst e1 e2 e3
  conv => cbv
  refine callF_frame (awake13_lx o ho) [(0, 0)] rfl (by simp [hmapOk, nget, hget, renB, okB, renV, renVs, rn, okVs, okV]) rfl rfl (fun r h' n' ⟨e1, e2, e3⟩ => ?_)
  subst e1 e2 e3
  conv => cbv
  have hnc1 : nc = 1 := by omega
  obtain ⟨c, hcc⟩ := chans1 hnc hnc1
  have hc0 : chs[0]? = some c := by rw [hcc]; rfl
  obtain ⟨b, hb0, hBC⟩ := hB.ch 0 c 1 hc0 rfl
  have hMc := hBC.c
  rw [capW_small (by decide)] at hMc
  have hngb := ngor_bd 1
  have hng1 : 1 ≤ ng ∧ ng ≤ 6 := by omega
  obtain ⟨g, hg0⟩ : ∃ g, grs[0]? = some g := ⟨_, List.getElem?_eq_getElem (by omega)⟩
  have hMg := hB.gr 0 g hg0
  have hgl := S.c.len S.h.a hMg
  have hcl := S.c.len S.h.a hMc
  have hgp : -1 ≤ g ∧ b62 g := ⟨by omega, by unfold b62; omega⟩
  have hcp : -1 ≤ c ∧ b62 c := ⟨by omega, by unfold b62; omega⟩
  refine CallF.le (args0 := [.ptr 17 (.lit 0), .p (.int .i64 (.sym 0))]) (callF_frame (ch13_lx R ws vs C N W 0 0 0 L D Q z false P B V Qr [] 0 M nc ng CS GS o 0 chs hcs hnc (by omega) (by omega)) [(0, 2), (1, 3), (2, 4), (3, 5), (4, 6), (5, 7), (6, 8), (7, 9), (8, 10), (9, 11), (10, 12), (11, 13), (12, 14), (13, 15), (14, 16), (15, 0), (16, 17), (17, 18), (18, 19)] rfl (by simp [hmapOk, nget, hget, renB, okB, renV, renVs, rn, okVs, okV]) rfl rfl (fun r h' n' hrr => ?_)) (by simp [ales, ale, pvle, I.val])
  obtain ⟨⟨x1, e1, hx1⟩, e2, e3⟩ := hrr
  subst e1 e2 e3
  conv => cbv
  obtain rfl : c = x1 := (ch0 hx1 hc0).symm
  refine callF_frame (sudog13_lx R ws vs C N W 0 0 0 L D Q z false P B V Qr [] 0 M nc ng CS GS o S ho c g grs hgs hng ⟨by omega, by omega⟩ hg0 hgp hcp (by rw [hR]; omega)) [(0, 2), (1, 3), (2, 4), (3, 5), (4, 6), (5, 7), (6, 8), (7, 9), (8, 10), (9, 11), (10, 12), (11, 13), (12, 14), (13, 15), (14, 16), (15, 0), (16, 17), (17, 18), (18, 19)] rfl (by simp [hmapOk, nget, hget, renB, okB, renV, renVs, rn, okVs, okV]) rfl rfl (fun r h' n' hrr => ?_)
  obtain ⟨s0, R1, ws1, vs1, L1, D1, P1, B1, V1, e1, e2, e3, S1, hk1, hs0, hp1, hq1, hl1⟩ := hrr
  subst e1 e2 e3
  conv => cbv
  obtain ⟨hY1, hns⟩ := hY.newSu (g := g) (c := c) hs0
  have hcs0 : c ≠ s0 := fun e => by rw [e, hs0] at hMc; cases hMc
  have hgs0 : g ≠ s0 := fun e => by rw [e, hs0] at hMg; cases hMg
  obtain ⟨M1, hM1⟩ : ∃ M1, M1 = upd M s0 (3, [g, c, 0, -1, 0, 0, -1]) := ⟨_, rfl⟩
  rw [← hM1] at hY1
  have hM1c : M1 c = some (1, [1, 0, 0, 0, b, -1, -1, -1, -1]) := by rw [hM1, upd_ne hcs0]; exact hMc
  have hM1s : M1 s0 = some (3, [g, c, 0, -1, 0, 0, -1]) := by rw [hM1]; exact upd_same _ _ _
  obtain ⟨Fg, hM1g⟩ : ∃ F, M1 g = some (4, F) := ⟨_, by rw [hM1, upd_ne hgs0]; exact hMg⟩
  have hg1 : ∀ F, M1 g ≠ some (1, F) := fun F e => by rw [hM1g] at e; cases e
  have hg3 : ∀ F, M1 g ≠ some (3, F) := fun F e => by rw [hM1g] at e; cases e
  have hs1 : ∀ F, M1 s0 ≠ some (1, F) := fun F e => by rw [hM1s] at e; cases e
  have hh1 := S1.h
  have hc1 : Cont R1 ws1 M1 := by rw [hM1]; exact S1.c
  refine drawn_sound tok (by kernel_rfl) [(5, [7, 6, 3, 2, 1, 0]), (8, [])] [0, 1, 2, 3, 4, 6, 7, 5, 8, 9] (by kernel_rfl) ?_; conv => cbv
  refine CallF.le (args0 := [.ptr 17 (.lit 0), .p (.int .i64 (.sym 0))]) (callF_frame (gor13_lx R1 ws1 vs1 C N W 0 0 0 L1 D1 Q z false P1 B1 V1 Qr [] 0 M nc ng CS GS o 0 grs hgs hng (by omega) (by omega)) [(0, 2), (1, 3), (2, 4), (3, 5), (4, 6), (5, 7), (6, 8), (7, 9), (8, 10), (9, 11), (10, 12), (11, 13), (12, 14), (13, 15), (14, 16), (15, 0), (16, 17), (17, 18), (18, 19)] rfl (by simp [hmapOk, nget, hget, renB, okB, renV, renVs, rn, okVs, okV]) rfl rfl (fun r h' n' hrr => ?_)) (by simp [ales, ale, pvle, I.val])
  obtain ⟨⟨x2, e1, hx2⟩, e2, e3⟩ := hrr
  subst e1 e2 e3
  conv => cbv
  obtain rfl : g = x2 := (ch0 hx2 hg0).symm
  refine callF_frame (listPushNoCh_lx R1 ws1 C [] N W 0 0 0 L1 D1 Q z false hh1 M1 hc1 o g s0 sd hg1) [(0, 2), (1, 3), (2, 4), (3, 5), (4, 6), (5, 7), (6, 8), (7, 0)] rfl (by simp [hmapOk, nget, hget, renB, okB, renV, renVs, rn, okVs, okV]) rfl rfl (fun r h' n' hrr => ?_)
  obtain ⟨e8, e1, he8, e2, e3⟩ := hrr
  subst e1 e2 e3
  conv => cbv
  refine drawn_sound tok (by kernel_rfl) [(5, [7, 6, 3, 2, 1, 0]), (8, [6, 3, 2, 1, 0]), (9, [])] [0, 1, 2, 3, 4, 6, 7, 5, 8, 9, 10] (by kernel_rfl) ?_; conv => cbv
  refine CallF.le (args0 := [.ptr 17 (.lit 0), .p (.int .i64 (.sym 0))]) (callF_frame (ch13_lx R1 ws1 vs1 C N W 0 0 0 L1 D1 Q z false P1 B1 V1 Qr [] 0 M nc ng CS GS o 0 chs hcs hnc (by omega) (by omega)) [(0, 2), (1, 3), (2, 4), (3, 5), (4, 6), (5, 7), (6, 8), (7, 9), (8, 10), (9, 11), (10, 12), (11, 13), (12, 14), (13, 15), (14, 16), (15, 0), (16, 17), (17, 18), (18, 19)] rfl (by simp [hmapOk, nget, hget, renB, okB, renV, renVs, rn, okVs, okV]) rfl rfl (fun r h' n' hrr => ?_)) (by simp [ales, ale, pvle, I.val])
  obtain ⟨⟨x3, e1, hx3⟩, e2, e3⟩ := hrr
  subst e1 e2 e3
  conv => cbv
  obtain rfl : c = x3 := (ch0 hx3 hc0).symm
  refine CallF.le (args0 := [.ptr 17 (.lit 0), .p (.int .i64 (.sym 0))]) (callF_frame (gor13_lx R1 ws1 vs1 C N W 0 0 0 L1 D1 Q z false P1 B1 V1 Qr [] 0 M nc ng CS GS o 0 grs hgs hng (by omega) (by omega)) [(0, 2), (1, 3), (2, 4), (3, 5), (4, 6), (5, 7), (6, 8), (7, 9), (8, 10), (9, 11), (10, 12), (11, 13), (12, 14), (13, 15), (14, 16), (15, 0), (16, 17), (17, 18), (18, 19)] rfl (by simp [hmapOk, nget, hget, renB, okB, renV, renVs, rn, okVs, okV]) rfl rfl (fun r h' n' hrr => ?_)) (by simp [ales, ale, pvle, I.val])
  obtain ⟨⟨x4, e1, hx4⟩, e2, e3⟩ := hrr
  subst e1 e2 e3
  conv => cbv
  obtain rfl : g = x4 := (ch0 hx4 hg0).symm
  refine callF_frame (listPushNoSu_lx R1 ws1 C [] N W 0 0 0 L1 D1 Q z false hh1 M1 hc1 o c g 1 0 0 0 b (-1) (-1) (-1) (-1) sd hM1c hg3) [(0, 2), (1, 3), (2, 4), (3, 5), (4, 6), (5, 7), (6, 8), (7, 0)] rfl (by simp [hmapOk, nget, hget, renB, okB, renV, renVs, rn, okVs, okV]) rfl rfl (fun r h' n' hrr => ?_)
  obtain ⟨e9, e1, he9, e2, e3⟩ := hrr
  subst e1 e2 e3
  conv => cbv
  refine callF_frame (listPushNil_lx (.sym at_) (.sym at_) sd) [] rfl trivial rfl rfl (fun r h' n' ⟨e1, e2, e3⟩ => ?_)
  subst e1 e2 e3
  conv => cbv
  refine callF_frame (listPopNil_lx (.sym at_) sd) [] rfl trivial rfl rfl (fun r h' n' ⟨e1, e2, e3⟩ => ?_)
  subst e1 e2 e3
  conv => cbv
  refine drawn_sound tok (by kernel_rfl) [(5, [6, 3, 2, 1, 0]), (7, [])] [0, 1, 2, 3, 4, 6, 5, 7, 8, 9, 10, 11, 12] (by kernel_rfl) ?_; conv => cbv
  refine CallF.le (args0 := [.ptr 17 (.lit 0), .p (.int .i64 (.sym 0))]) (callF_frame (gor13_lx R1 ws1 vs1 C N W 0 0 0 L1 D1 Q z false P1 B1 V1 Qr [] 0 M nc ng CS GS o 0 grs hgs hng (by omega) (by omega)) [(0, 2), (1, 3), (2, 4), (3, 5), (4, 6), (5, 7), (6, 8), (7, 9), (8, 10), (9, 11), (10, 12), (11, 13), (12, 14), (13, 15), (14, 16), (15, 0), (16, 17), (17, 18), (18, 19)] rfl (by simp [hmapOk, nget, hget, renB, okB, renV, renVs, rn, okVs, okV]) rfl rfl (fun r h' n' hrr => ?_)) (by simp [ales, ale, pvle, I.val])
  obtain ⟨⟨x5, e1, hx5⟩, e2, e3⟩ := hrr
  subst e1 e2 e3
  conv => cbv
  obtain rfl : g = x5 := (ch0 hx5 hg0).symm
  refine callF_frame (listPopE_lx R1 ws1 C [] N W 0 0 0 L1 D1 Q z false hh1 M1 hc1 (fun _ _ => []) hY1 o (list9h hY1) (list7h hY1) g sd rfl) [(0, 2), (1, 3), (2, 4), (3, 5), (4, 6), (5, 7), (6, 8), (7, 0)] rfl (by simp [hmapOk, nget, hget, renB, okB, renV, renVs, rn, okVs, okV]) rfl rfl (fun r h' n' ⟨e1, e2, e3⟩ => ?_)
  subst e1 e2 e3
  conv => cbv
  refine drawn_sound tok (by kernel_rfl) [(22, []), (31, [33, 32, 29, 28, 27, 26]), (34, []), (40, []), (51, [])] [0, 1, 2, 3, 4, 5, 6, 7, 8, 9, 10, 11, 12, 13, 14, 15, 16, 17, 18, 19, 20, 21, 22, 23, 24, 25, 26, 27, 28, 29, 30, 32, 33, 31, 34, 35, 36, 37, 38, 39, 40, 41, 42, 43, 44, 45, 46, 47, 48, 49, 50, 51, 52, 53, 54, 55] (drawnOKF_ok (by kernel_rfl)) ?_; conv => cbv
  refine Br.yes (show e8 = 10 from he8) ?_
  conv => cbv
  refine Br.yes (show e9 = 10 from he9) ?_
  conv => cbv
  refine Br.yes (show (2 : Int) = 2 from rfl) ?_
  conv => cbv
  refine callF_frame (listRemoveNil_lx at_ at_ sd) [] rfl trivial rfl rfl (fun r h' n' ⟨e1, e2, e3⟩ => ?_)
  subst e1 e2 e3
  conv => cbv
  refine CallF.le (args0 := [.ptr 17 (.lit 0), .p (.int .i64 (.sym 0))]) (callF_frame (ch13_lx R1 ws1 vs1 C N W 0 0 0 L1 D1 Q z false P1 B1 V1 Qr [] 0 M nc ng CS GS o 0 chs hcs hnc (by omega) (by omega)) [(0, 2), (1, 3), (2, 4), (3, 5), (4, 6), (5, 7), (6, 8), (7, 9), (8, 10), (9, 11), (10, 12), (11, 13), (12, 14), (13, 15), (14, 16), (15, 0), (16, 17), (17, 18), (18, 19)] rfl (by simp [hmapOk, nget, hget, renB, okB, renV, renVs, rn, okVs, okV]) rfl rfl (fun r h' n' hrr => ?_)) (by simp [ales, ale, pvle, I.val])
  obtain ⟨⟨x6, e1, hx6⟩, e2, e3⟩ := hrr
  subst e1 e2 e3
  conv => cbv
  obtain rfl : c = x6 := (ch0 hx6 hc0).symm
  refine callF_frame (listRemoveNo_lx R1 ws1 C [] N W 0 0 0 L1 D1 Q z false hh1 M1 hc1 (fun _ _ => []) hY1 o (list9h hY1) (list7h hY1) c s0 sd (hns c sd)) [(0, 2), (1, 3), (2, 4), (3, 5), (4, 6), (5, 7), (6, 8), (7, 0)] rfl (by simp [hmapOk, nget, hget, renB, okB, renV, renVs, rn, okVs, okV]) rfl rfl (fun r h' n' ⟨e1, e2, e3⟩ => ?_)
  subst e1 e2 e3
  conv => cbv
  refine callF_frame (listAllNil_lx (.sym at_) sd) [] rfl trivial rfl rfl (fun r h' n' ⟨e1, e2, e3⟩ => ?_)
  subst e1 e2 e3
  conv => cbv
  refine callF_frame (listAll_lx R1 ws1 C [] N W 0 0 0 L1 D1 Q z false hh1 M1 hc1 (fun _ _ => []) hY1 s0 sd (list9h hY1 s0) (list7h hY1)) [(0, 2), (1, 3), (2, 4), (3, 5), (4, 6), (5, 7), (6, 8)] rfl (by simp [hmapOk, nget, hget, renB, okB, renV, renVs, rn, okVs, okV]) rfl rfl (fun r h' n' hrr => ?_)
  obtain ⟨ml, cells, e1, e2, e3, hml, hcel⟩ := hrr
  subst e1 e2 e3
  conv => cbv
  refine Br.yes (show ml = 0 from hml) ?_
  conv => cbv
  refine RetF.mk [.p (.bool true)] [(0, .fix 0 o)] 1 (Re.at [(0, 0)] []) rfl rfl
end Go.Proofs.YtmcljlflcbdpiaaGreatDoor
