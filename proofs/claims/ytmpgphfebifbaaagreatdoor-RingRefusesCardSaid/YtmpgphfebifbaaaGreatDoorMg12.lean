/-
  Layer 12: RingRefuses.
-/
import Derived.Test.YtmpgphfebifbaaaGreatDoorBg



namespace Go.Proofs.YtmpgphfebifbaaaGreatDoor

open Go Go.LX
set_option maxRecDepth 100000
set_option linter.unusedVariables false
set_option linter.unusedSimpArgs false

theorem chans2 {chs : List Int} {nc : Int} (hn : nc = (chs.length : Int)) (h1 : nc = 2) : ∃ c d, chs = [c, d] := by
  match chs with
  | [c, d] => exact ⟨c, d, rfl⟩
  | [] => simp at hn; omega
  | [_] => simp at hn; omega
  | _ :: _ :: _ :: _ => simp at hn; omega
theorem ch1 {chs : List Int} {nc x d : Int} (h : chs[(IntKind.u64.wrap 1 % nc).toNat]? = some x) (hn : nc = 2) (hd : chs[1]? = some d) : x = d := by
  rw [show IntKind.u64.wrap 1 = 1 by decide, hn] at h
  exact Option.some.inj (h.symm.trans hd)
set_option maxHeartbeats 16000000 in
theorem ringRefuses_law (o : Unit → Obj) (ho : IsPow o) (at_ count start : Int) : CallF (fun _ => Tryz.prog) 7 [.p (.int .i64 (.sym at_)), .p (.int .i64 (.sym count)), .p (.int .i64 (.sym start))] [(0, .fix 0 o)] 1 (fun r _ _ => r = .p (.bool true)) := by
  refine callF_of_body tok Tryz.func7 (by kernel_rfl) rfl rfl rfl ?_; conv => cbv
  refine CallF.re (args0 := [.p (.vsl (.sym 2) true [.int .i64 (.sym 2), .int .i64 (.sym 3)]), .p (.int .i64 (.sym 1))]) (h' := [(0, .fix 0 o)]) (Re.at [(0, 0)] []) (callF_frame (made12_lx o ho [2, 3] 2 1 [.int .i64 (.sym 2), .int .i64 (.sym 3)] rfl rfl) [(0, 0)] rfl (by simp [hmapOk, nget, hget, renB, okB, renV, renVs, rn, okVs, okV]) rfl rfl (fun r h' n' hrr => ?_))
  obtain ⟨N, W, C, R, ws, vs, L, D, Q, z, P, B, V, Qr, M, CS, GS, chs, bufs, grs, nc, ng, e1, e2, e3, S, hB, hY, hcs, hgs, hnc, hng, hnm, hn1, hn4, hngo, hcnt, hR, hW⟩ := hrr
  subst e1 e2 e3
  conv => cbv
  refine callF_frame (awake12_lx o ho) [(0, 0)] rfl (by simp [hmapOk, nget, hget, renB, okB, renV, renVs, rn, okVs, okV]) rfl rfl (fun r h' n' ⟨e1, e2, e3⟩ => ?_)
  subst e1 e2 e3
  conv => cbv
  have hnc1 : nc = 2 := by omega
  obtain ⟨c, d, hcc⟩ := chans2 hnc hnc1
  have hc0 : chs[0]? = some c := by rw [hcc]; rfl
  have hd0 : chs[1]? = some d := by rw [hcc]; rfl
  obtain ⟨b, hb0, hBC⟩ := hB.ch 0 c 2 hc0 rfl
  obtain ⟨b2, hb2, hBD⟩ := hB.ch 1 d 3 hd0 rfl
  have hMc := hBC.c
  have hMd := hBD.c
  rw [capW_small (by decide)] at hMc hMd
  have hMb2 : M b2 = some (2, [0, 0, 0]) := by
    rcases hBD.b with q | ⟨_, _, q⟩
    · rw [capW_small (by decide)] at q; omega
    · rw [capW_small (by decide)] at q; exact q
  have hM2b : (0 : Int) ≤ b2 ∧ b2 ≤ 5000 := by
    have := S.c.len S.h.a hMb2
    omega
  have hcd : c ≠ d := fun q => by
    have := hB.nd
    rw [hcc, q] at this
    simp at this
  have hcb2 : c ≠ b2 := fun q => by rw [q, hMb2] at hMc; cases hMc
  have hngb := ngor_bd 1
  have hng1 : 1 ≤ ng := by omega
  obtain ⟨g, hg0⟩ : ∃ g, grs[0]? = some g := ⟨_, List.getElem?_eq_getElem (by omega)⟩
  have hMg := hB.gr 0 g hg0
  have hgn : ∀ F, M g ≠ some (1, F) := fun F q => by rw [hMg] at q; cases q
  have hh := S.h
  have hc := S.c
  refine drawn_sound tok (by kernel_rfl) [(5, [3, 2, 1, 0]), (6, [])] [0, 1, 2, 3, 4, 5, 6, 7, 8, 9, 10, 11] (by kernel_rfl) ?_; conv => cbv
  refine CallF.le (args0 := [.ptr 17 (.lit 0), .p (.int .i64 (.sym 0))]) (callF_frame (gor12_lx R ws vs C N W 0 0 0 L D Q z false P B V Qr [] 0 M nc ng CS GS o 0 grs hgs hng (by omega) (by omega)) [(0, 2), (1, 3), (2, 4), (3, 5), (4, 6), (5, 7), (6, 8), (7, 9), (8, 10), (9, 11), (10, 12), (11, 13), (12, 14), (13, 15), (14, 16), (15, 0), (16, 17), (17, 18), (18, 19)] rfl (by simp [hmapOk, nget, hget, renB, okB, renV, renVs, rn, okVs, okV]) rfl rfl (fun r h' n' hrr => ?_)) (by simp [ales, ale, pvle, I.val])
  obtain ⟨⟨x1, e1, hx1⟩, e2, e3⟩ := hrr
  subst e1 e2 e3
  conv => cbv
  obtain rfl : g = x1 := (ch0 hx1 hg0).symm
  refine callF_frame (ringTakeNo_lx R ws C [] N W 0 0 0 L D Q z false hh M hc o ho rfl g hgn) [(0, 2), (1, 3), (2, 4), (3, 5), (4, 6), (5, 7), (6, 8), (7, 0)] rfl (by simp [hmapOk, nget, hget, renB, okB, renV, renVs, rn, okVs, okV]) rfl rfl (fun r h' n' hrr => ?_)
  obtain ⟨v0, e0, e1, he0, e2, e3⟩ := hrr
  subst e1 e2 e3
  conv => cbv
  refine callF_frame (ringTakeNil_lx (.sym at_)) [] rfl trivial rfl rfl (fun r h' n' ⟨e1, e2, e3⟩ => ?_)
  subst e1 e2 e3
  conv => cbv
  refine callF_frame (ringPutNil_lx (.sym at_) (.lit 1)) [] rfl trivial rfl rfl (fun r h' n' ⟨e1, e2, e3⟩ => ?_)
  subst e1 e2 e3
  conv => cbv
  refine read_sound tok (by kernel_rfl) [0, 2, 3, 4, 5, 6, 7, 8, 9, 10, 11, 12, 13, 14, 15, 16, 17, 18, 19] [5, 6] [(10, [9, 8, 7, 6, 5, 4, 3, 2, 1, 0]), (11, [9])] [0, 1, 2, 3, 4, 5, 6, 7, 8, 9, 10, 11, 12] (by kernel_rfl) ?_
  conv => cbv
  refine ReadF.mk (.p (.int .i64 (.sym c))) (fun h' n' hbR hnR => CallF.le (args0 := [.ptr 17 (.lit 0), .p (.int .i64 (.sym 0))]) (callF_read ((ch12_lx R ws vs C N W 0 0 0 L D Q z false P B V Qr [] 0 M nc ng CS GS o 0 chs hcs hnc (by omega) (by omega)).mono (fun r h n ⟨⟨x, e1, hx⟩, e2, e3⟩ => ⟨by rw [e1, ch0 hx hc0], e2, e3⟩)) [(0, 2), (1, 3), (2, 4), (3, 5), (4, 6), (5, 7), (6, 8), (7, 9), (8, 10), (9, 11), (10, 12), (11, 13), (12, 14), (13, 15), (14, 16), (15, 0), (16, 17), (17, 18), (18, 19)] (by simp [fok, nget, nback]; omega) (by simp [hmapOk, nget, hbR, hget, renB, okB, renV, renVs, rn, okVs, okV]) rfl rfl rfl rfl) (by simp [ales, ale, pvle, I.val])) ?_
  conv => cbv
  refine ReadF.mk (.tup [.agg [.p (.int .i64 (.sym 2)), .p (.int .i64 (.sym 0)), .p (.int .i64 (.sym 0)), .p (.int .i64 (.sym 0)), .p (.int .i64 (.sym b)), .p (.int .i64 (.sym (-1))), .p (.int .i64 (.sym (-1))), .p (.int .i64 (.sym (-1))), .p (.int .i64 (.sym (-1)))], .p (.int .i64 (.sym 0))]) (fun h' n' hbR hnR => CallF.le (args0 := [.ptr 2 (.lit 0), .p (.int .i64 (.sym c))]) (callF_read ((chanM_lx R ws C [] N W 0 0 0 L D Q z false hh M hc c 2 0 0 0 b (-1) (-1) (-1) (-1) hMc).mono (fun r h n ⟨⟨e, e1, he⟩, e2, e3⟩ => ⟨by rw [e1, he], e2, e3⟩)) [(0, 2), (1, 3), (2, 4), (3, 5), (4, 6), (5, 7), (6, 8)] (by simp [fok, nget, nback]; omega) (by simp [hmapOk, nget, hbR, hget, renB, okB, renV, renVs, rn, okVs, okV]) rfl rfl rfl rfl) (by simp [ales, ale, pvle, I.val])) ?_
  conv => cbv
  refine read_sound tok (by kernel_rfl) [0, 2, 3, 4, 5, 6, 7, 8, 9, 10, 11, 12, 13, 14, 15, 16, 17, 18, 19, 20] [5, 6] [(10, [9, 8, 7, 6, 5, 4, 3, 2, 1, 0]), (11, [9])] [0, 1, 2, 3, 4, 5, 6, 7, 8, 9, 10, 11, 12] (by kernel_rfl) ?_
  conv => cbv
  refine ReadF.mk (.p (.int .i64 (.sym d))) (fun h' n' hbR hnR => CallF.le (args0 := [.ptr 17 (.lit 0), .p (.int .i64 (.sym 1))]) (callF_read ((ch12_lx R ws vs C N W 0 0 0 L D Q z false P B V Qr [] 0 M nc ng CS GS o 1 chs hcs hnc (by omega) (by omega)).mono (fun r h n ⟨⟨x, e1, hx⟩, e2, e3⟩ => ⟨by rw [e1, ch1 hx hnc1 hd0], e2, e3⟩)) [(0, 2), (1, 3), (2, 4), (3, 5), (4, 6), (5, 7), (6, 8), (7, 9), (8, 10), (9, 11), (10, 12), (11, 13), (12, 14), (13, 15), (14, 16), (15, 0), (16, 17), (17, 18), (18, 19)] (by simp [fok, nget, nback]; omega) (by simp [hmapOk, nget, hbR, hget, renB, okB, renV, renVs, rn, okVs, okV]) rfl rfl rfl rfl) (by simp [ales, ale, pvle, I.val])) ?_
  conv => cbv
  refine ReadF.mk (.tup [.agg [.p (.int .i64 (.sym 3)), .p (.int .i64 (.sym 0)), .p (.int .i64 (.sym 0)), .p (.int .i64 (.sym 0)), .p (.int .i64 (.sym b2)), .p (.int .i64 (.sym (-1))), .p (.int .i64 (.sym (-1))), .p (.int .i64 (.sym (-1))), .p (.int .i64 (.sym (-1)))], .p (.int .i64 (.sym 0))]) (fun h' n' hbR hnR => CallF.le (args0 := [.ptr 2 (.lit 0), .p (.int .i64 (.sym d))]) (callF_read ((chanM_lx R ws C [] N W 0 0 0 L D Q z false hh M hc d 3 0 0 0 b2 (-1) (-1) (-1) (-1) hMd).mono (fun r h n ⟨⟨e, e1, he⟩, e2, e3⟩ => ⟨by rw [e1, he], e2, e3⟩)) [(0, 2), (1, 3), (2, 4), (3, 5), (4, 6), (5, 7), (6, 8)] (by simp [fok, nget, nback]; omega) (by simp [hmapOk, nget, hbR, hget, renB, okB, renV, renVs, rn, okVs, okV]) rfl rfl rfl rfl) (by simp [ales, ale, pvle, I.val])) ?_
  conv => cbv
  refine Sum.mk fun k5 hk5 => ?_
  have hk5 : k5 = count.tmod 5 := hk5
  conv => cbv
  refine Sum.mk fun s5 hs5 => ?_
  have hs5 : s5 = start.tmod 5 := hs5
  conv => cbv
  have hk5b : -5 < k5 ∧ k5 < 5 := by rw [hk5]; exact ⟨Int.lt_tmod_of_pos _ (by decide), Int.tmod_lt_of_pos _ (by decide)⟩
  have hs5b : -5 < s5 ∧ s5 < 5 := by rw [hs5]; exact ⟨Int.lt_tmod_of_pos _ (by decide), Int.tmod_lt_of_pos _ (by decide)⟩
  refine drawn_sound tok (by kernel_rfl) [(5, [6, 3, 2, 1, 0]), (7, [])] [0, 1, 2, 3, 4, 6, 5, 7] (by kernel_rfl) ?_; conv => cbv
  refine CallF.le (args0 := [.ptr 17 (.lit 0), .p (.int .i64 (.sym 0))]) (callF_frame (ch12_lx R ws vs C N W 0 0 0 L D Q z false P B V Qr [] 0 M nc ng CS GS o 0 chs hcs hnc (by omega) (by omega)) [(0, 2), (1, 3), (2, 4), (3, 5), (4, 6), (5, 7), (6, 8), (7, 9), (8, 10), (9, 11), (10, 12), (11, 13), (12, 14), (13, 15), (14, 16), (15, 0), (16, 17), (17, 18), (18, 19)] rfl (by simp [hmapOk, nget, hget, renB, okB, renV, renVs, rn, okVs, okV]) rfl rfl (fun r h' n' hrr => ?_)) (by simp [ales, ale, pvle, I.val])
  obtain ⟨⟨x2, e1, hx2⟩, e2, e3⟩ := hrr
  subst e1 e2 e3
  conv => cbv
  obtain rfl : c = x2 := (ch0 hx2 hc0).symm
  have hb2b := (hM2b : (0 : Int) ≤ b2 ∧ b2 ≤ 5000)
  have hbb : ∀ x ∈ [2, 0, k5, s5, b2, -1, -1, -1, -1], b62 x := by
    simp only [List.forall_mem_cons]
    unfold b62
    exact ⟨by omega, by omega, by omega, by omega, by omega, by omega, by omega, by omega, by omega, fun x hx => by cases hx⟩
  have hpp : ∀ x ∈ [b2, -1, -1, -1, -1], -1 ≤ x := by
    simp only [List.forall_mem_cons]
    exact ⟨by omega, by omega, by omega, by omega, by omega, fun x hx => by cases hx⟩
  refine CallF.le (args0 := [.ptr 2 (.lit 0), .p (.int .i64 (.sym c)), .agg [.p (.int .i64 (.sym 2)), .p (.int .i64 (.sym 0)), .p (.int .i64 (.sym k5)), .p (.int .i64 (.sym s5)), .p (.int .i64 (.sym b2)), .p (.int .i64 (.sym (-1))), .p (.int .i64 (.sym (-1))), .p (.int .i64 (.sym (-1))), .p (.int .i64 (.sym (-1)))]]) (callF_frame (putChanM_lx R ws C [] N W 0 0 0 L D Q z false hh M hc o ho rfl c 2 0 k5 s5 b2 (-1) (-1) (-1) (-1) [2, 0, 0, 0, b, -1, -1, -1, -1] hMc rfl hbb hpp) [(0, 2), (1, 3), (2, 4), (3, 5), (4, 6), (5, 7), (6, 8), (7, 0)] rfl (by simp [hmapOk, nget, hget, renB, okB, renV, renVs, rn, okVs, okV]) rfl rfl (fun r h' n' hrr => ?_)) (by simp [ales, ale, pvle, I.val])
  obtain ⟨e8, ws1, D1, e1, he8, e2, e3, hh1, hc1⟩ := hrr
  subst e1 e2 e3
  conv => cbv
  generalize hM1 : upd M c (1, [2, 0, k5, s5, b2, -1, -1, -1, -1]) = M1 at hc1
  have hMc1 : M1 c = some (1, [2, 0, k5, s5, b2, -1, -1, -1, -1]) := by rw [← hM1]; exact upd_same _ _ _
  have hMb1 : M1 b2 = some (2, [0, 0, 0]) := by rw [← hM1, upd_ne hcb2.symm]; exact hMb2
  have hgc : g ≠ c := fun q => by rw [q, hMc] at hMg; cases hMg
  have hgn1 : ∀ F, M1 g ≠ some (1, F) := fun F q => by rw [← hM1, upd_ne hgc] at q; exact hgn F q
  refine drawn_sound tok (by kernel_rfl) [(5, [3, 2, 1, 0]), (6, [])] [0, 1, 2, 3, 4, 5, 6, 7, 8, 9, 10, 11] (by kernel_rfl) ?_; conv => cbv
  refine CallF.le (args0 := [.ptr 17 (.lit 0), .p (.int .i64 (.sym 0))]) (callF_frame (ch12_lx R ws1 vs C N W 0 0 0 L D1 Q z false P B V Qr [] 0 M nc ng CS GS o 0 chs hcs hnc (by omega) (by omega)) [(0, 2), (1, 3), (2, 4), (3, 5), (4, 6), (5, 7), (6, 8), (7, 9), (8, 10), (9, 11), (10, 12), (11, 13), (12, 14), (13, 15), (14, 16), (15, 0), (16, 17), (17, 18), (18, 19)] rfl (by simp [hmapOk, nget, hget, renB, okB, renV, renVs, rn, okVs, okV]) rfl rfl (fun r h' n' hrr => ?_)) (by simp [ales, ale, pvle, I.val])
  obtain ⟨⟨x3, e1, hx3⟩, e2, e3⟩ := hrr
  subst e1 e2 e3
  conv => cbv
  obtain rfl : c = x3 := (ch0 hx3 hc0).symm
  refine callF_frame (ringTakeBad_lx R ws1 C [] N W 0 0 0 L D1 Q z false hh1 M1 hc1 o ho c 2 0 k5 s5 b2 (-1) (-1) (-1) (-1) [0, 0, 0] hMc1 hMb1 (by decide)) [(0, 2), (1, 3), (2, 4), (3, 5), (4, 6), (5, 7), (6, 8), (7, 0)] rfl (by simp [hmapOk, nget, hget, renB, okB, renV, renVs, rn, okVs, okV]) rfl rfl (fun r h' n' hrr => ?_)
  obtain ⟨v3, e9, e1, he9, e2, e3⟩ := hrr
  subst e1 e2 e3
  conv => cbv
  refine drawn_sound tok (by kernel_rfl) [(5, [3, 2, 1, 0]), (6, [])] [0, 1, 2, 3, 4, 5, 6, 7] (by kernel_rfl) ?_; conv => cbv
  refine CallF.le (args0 := [.ptr 17 (.lit 0), .p (.int .i64 (.sym 0))]) (callF_frame (ch12_lx R ws1 vs C N W 0 0 0 L D1 Q z false P B V Qr [] 0 M nc ng CS GS o 0 chs hcs hnc (by omega) (by omega)) [(0, 2), (1, 3), (2, 4), (3, 5), (4, 6), (5, 7), (6, 8), (7, 9), (8, 10), (9, 11), (10, 12), (11, 13), (12, 14), (13, 15), (14, 16), (15, 0), (16, 17), (17, 18), (18, 19)] rfl (by simp [hmapOk, nget, hget, renB, okB, renV, renVs, rn, okVs, okV]) rfl rfl (fun r h' n' hrr => ?_)) (by simp [ales, ale, pvle, I.val])
  obtain ⟨⟨x4, e1, hx4⟩, e2, e3⟩ := hrr
  subst e1 e2 e3
  conv => cbv
  obtain rfl : c = x4 := (ch0 hx4 hc0).symm
  refine CallF.le (args0 := [.ptr 2 (.lit 0), .p (.int .i64 (.sym c)), .p (.int .i64 (.sym 1))]) (callF_frame (ringPutBad_lx R ws1 C [] N W 0 0 0 L D1 Q z false hh1 M1 hc1 o ho c 1 2 0 k5 s5 b2 (-1) (-1) (-1) (-1) [0, 0, 0] hMc1 hMb1 (by decide) (by decide)) [(0, 2), (1, 3), (2, 4), (3, 5), (4, 6), (5, 7), (6, 8), (7, 0)] rfl (by simp [hmapOk, nget, hget, renB, okB, renV, renVs, rn, okVs, okV]) rfl rfl (fun r h' n' hrr => ?_)) (by simp [ales, ale, pvle, I.val])
  obtain ⟨e10, e1, he10, e2, e3⟩ := hrr
  subst e1 e2 e3
  conv => cbv
  refine drawn_sound tok (by kernel_rfl) [(16, [14, 13, 12, 11]), (17, []), (34, [32, 31, 30, 29]), (35, []), (40, [])] [0, 1, 2, 3, 4, 5, 6, 7, 8, 9, 10, 11, 12, 13, 14, 15, 16, 17, 18, 19, 20, 21, 22, 23, 24, 25, 26, 27, 28, 29, 30, 31, 32, 33, 34, 35, 36, 37, 38, 39, 40, 41, 42, 43, 44] (drawnOKF_ok (by kernel_rfl)) ?_; conv => cbv
  refine Br.yes (show e0 = 10 from he0) ?_
  conv => cbv
  refine Br.yes (show (2 : Int) = 2 from rfl) ?_
  conv => cbv
  refine Br.yes (show (2 : Int) = 2 from rfl) ?_
  conv => cbv
  refine CallF.le (args0 := [.ptr 17 (.lit 0), .p (.int .i64 (.sym 0))]) (callF_frame (gor12_lx R ws1 vs C N W 0 0 0 L D1 Q z false P B V Qr [] 0 M nc ng CS GS o 0 grs hgs hng (by omega) (by omega)) [(0, 2), (1, 3), (2, 4), (3, 5), (4, 6), (5, 7), (6, 8), (7, 9), (8, 10), (9, 11), (10, 12), (11, 13), (12, 14), (13, 15), (14, 16), (15, 0), (16, 17), (17, 18), (18, 19)] rfl (by simp [hmapOk, nget, hget, renB, okB, renV, renVs, rn, okVs, okV]) rfl rfl (fun r h' n' hrr => ?_)) (by simp [ales, ale, pvle, I.val])
  obtain ⟨⟨x5, e1, hx5⟩, e2, e3⟩ := hrr
  subst e1 e2 e3
  conv => cbv
  obtain rfl : g = x5 := (ch0 hx5 hg0).symm
  refine CallF.le (args0 := [.ptr 2 (.lit 0), .p (.int .i64 (.sym g)), .p (.int .i64 (.sym 1))]) (callF_frame (ringPutNo_lx R ws1 C [] N W 0 0 0 L D1 Q z false hh1 M1 hc1 o ho rfl g 1 hgn1 (by decide)) [(0, 2), (1, 3), (2, 4), (3, 5), (4, 6), (5, 7), (6, 8), (7, 0)] rfl (by simp [hmapOk, nget, hget, renB, okB, renV, renVs, rn, okVs, okV]) rfl rfl (fun r h' n' hrr => ?_)) (by simp [ales, ale, pvle, I.val])
  obtain ⟨e11, e1, he11, e2, e3⟩ := hrr
  subst e1 e2 e3
  conv => cbv
  refine Br.yes (show e11 = 10 from he11) ?_
  conv => cbv
  refine Br.yes (show e9 = 8 from he9) ?_
  conv => cbv
  refine Br.yes (show e10 = 9 from he10) ?_
  conv => cbv
  refine CallF.le (args0 := [.ptr 17 (.lit 0), .p (.int .i64 (.sym 0))]) (callF_frame (ch12_lx R ws1 vs C N W 0 0 0 L D1 Q z false P B V Qr [] 0 M nc ng CS GS o 0 chs hcs hnc (by omega) (by omega)) [(0, 2), (1, 3), (2, 4), (3, 5), (4, 6), (5, 7), (6, 8), (7, 9), (8, 10), (9, 11), (10, 12), (11, 13), (12, 14), (13, 15), (14, 16), (15, 0), (16, 17), (17, 18), (18, 19)] rfl (by simp [hmapOk, nget, hget, renB, okB, renV, renVs, rn, okVs, okV]) rfl rfl (fun r h' n' hrr => ?_)) (by simp [ales, ale, pvle, I.val])
  obtain ⟨⟨x6, e1, hx6⟩, e2, e3⟩ := hrr
  subst e1 e2 e3
  conv => cbv
  obtain rfl : c = x6 := (ch0 hx6 hc0).symm
  refine callF_frame (ringAllBad_lx R ws1 C [] N W 0 0 0 L D1 Q z false hh1 M1 hc1 c 2 0 k5 s5 b2 (-1) (-1) (-1) (-1) [0, 0, 0] hMc1 hMb1 (by decide)) [(0, 2), (1, 3), (2, 4), (3, 5), (4, 6), (5, 7), (6, 8)] rfl (by simp [hmapOk, nget, hget, renB, okB, renV, renVs, rn, okVs, okV]) rfl rfl (fun r h' n' hrr => ?_)
  obtain ⟨ml, e1, e2, e3, hml⟩ := hrr
  subst e1 e2 e3
  conv => cbv
  refine Br.yes (show ml = 0 from hml) ?_
  conv => cbv
  refine callF_frame (ringAllNil_lx (.lit 0)) [] rfl trivial rfl rfl (fun r h' n' ⟨e1, e2, e3⟩ => ?_)
  subst e1 e2 e3
  conv => cbv
  refine RetF.mk [.p (.bool true)] [(0, .fix 0 o)] 1 (Re.at [(0, 0)] []) rfl rfl
end Go.Proofs.YtmpgphfebifbaaaGreatDoor
