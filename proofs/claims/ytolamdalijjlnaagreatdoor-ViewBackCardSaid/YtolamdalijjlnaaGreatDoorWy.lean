/-
  Layer 11: ViewBack.
-/
import Derived.Test.YtolamdalijjlnaaGreatDoorBg


namespace Go.Proofs.YtolamdalijjlnaaGreatDoor

open Go Go.LX
set_option maxRecDepth 100000
set_option linter.unusedVariables false
set_option linter.unusedSimpArgs false

set_option maxHeartbeats 16000000 in
theorem viewBack_law (o : Unit → Obj) (ho : IsPow o) (c0 c1 c2 c3 c4 c5 c6 c7 c8 s0 s1 s2 s3 s4 s5 s6 g0 g1 g2 g3 g4 g5 g6 g7 g8 g9 : Int) (hw : ∀ x ∈ [s2, g3, g4, g5, g6, g7, g8], -9223372036854775808 ≤ x ∧ x ≤ 9223372036854775807) : CallF (fun _ => Tryz.prog) 7 [.agg [.p (.int .i64 (.sym c0)), .p (.int .i64 (.sym c1)), .p (.int .i64 (.sym c2)), .p (.int .i64 (.sym c3)), .p (.int .i64 (.sym c4)), .p (.int .i64 (.sym c5)), .p (.int .i64 (.sym c6)), .p (.int .i64 (.sym c7)), .p (.int .i64 (.sym c8))], .agg [.p (.int .i64 (.sym s0)), .p (.int .i64 (.sym s1)), .p (.int .i64 (.sym s2)), .p (.int .i64 (.sym s3)), .p (.int .i64 (.sym s4)), .p (.int .i64 (.sym s5)), .p (.int .i64 (.sym s6))], .agg [.p (.int .i64 (.sym g0)), .p (.int .i64 (.sym g1)), .p (.int .i64 (.sym g2)), .p (.int .i64 (.sym g3)), .p (.int .i64 (.sym g4)), .p (.int .i64 (.sym g5)), .p (.int .i64 (.sym g6)), .p (.int .i64 (.sym g7)), .p (.int .i64 (.sym g8)), .p (.int .i64 (.sym g9))]] [(0, .fix 0 o)] 1 (fun r _ _ => r = .p (.bool true)) := by
  refine callF_of_body tok Tryz.func7 (by kernel_rfl) rfl rfl rfl ?_; conv => cbv
  refine callF_frame (both_lx o ho false) [(0, 0)] rfl (by simp [hmapOk, nget, hget, renB, okB, renV, renVs, rn, okVs, okV]) rfl rfl (fun r h' n' hrr => ?_)
  obtain ⟨R, ws, vs, C, N, W, ph, L, D, Q, z, ov, P, B, V, Qr, la, m, r1, r2, r3, r4, e1, e2, e3, h, hr, hS, hQ, hC, hN, hph⟩ := hrr
  subst e1 e2 e3
  conv => cbv
  refine callF_frame (awake11_lx o ho) [(0, 0)] rfl (by simp [hmapOk, nget, hget, renB, okB, renV, renVs, rn, okVs, okV]) rfl rfl (fun r h' n' ⟨e1, e2, e3⟩ => ?_)
  subst e1 e2 e3
  conv => cbv
  refine callF_frame (places_lx R vs C [] N W ph 0 0 P B V Qr la m ov hr r1 r2 r3 r4 (hQ.sim hS)) [(0, 11), (1, 12), (2, 13), (3, 14), (4, 15), (5, 16), (6, 17), (7, 18)] rfl (by simp [hmapOk, nget, hget, renB, okB, renV, renVs, rn, okVs, okV]) rfl rfl (fun r h' n' ⟨e1, e2, e3⟩ => ?_)
  subst e1 e2 e3
  conv => cbv
  refine drawn_sound tok (by kernel_rfl) [(2, [30, 29, 28, 26, 25, 24, 22, 21, 20, 18, 17, 16, 14, 13, 12, 10, 9, 7, 6, 4, 3]), (5, [30, 29, 28, 26, 25, 24, 22, 21, 20, 18, 17, 16, 14, 13, 12, 10, 9, 7, 6]), (8, [30, 29, 28, 26, 25, 24, 22, 21, 20, 18, 17, 16, 14, 13, 12, 10, 9]), (11, [30, 29, 28, 26, 25, 24, 22, 21, 20, 18, 17, 16, 14, 13, 12]), (15, [30, 29, 28, 26, 25, 24, 22, 21, 20, 18, 17, 16]), (19, [30, 29, 28, 26, 25, 24, 22, 21, 20]), (23, [30, 29, 28, 26, 25, 24]), (27, [30, 29, 28]), (31, []), (33, [])] [0, 1, 3, 4, 6, 7, 9, 10, 12, 13, 14, 16, 17, 18, 20, 21, 22, 24, 25, 26, 28, 29, 30, 2, 5, 8, 11, 15, 19, 23, 27, 31, 32, 33] (by kernel_rfl) ?_; conv => cbv
  refine callF_frame (small_lx c0) [] rfl trivial rfl rfl (fun r h' n' ⟨⟨uc0, e1, huc0⟩, e2, e3⟩ => ?_)
  subst e1 e2 e3
  conv => cbv
  refine callF_frame (small_lx c1) [] rfl trivial rfl rfl (fun r h' n' ⟨⟨uc1, e1, huc1⟩, e2, e3⟩ => ?_)
  subst e1 e2 e3
  conv => cbv
  refine callF_frame (small_lx c2) [] rfl trivial rfl rfl (fun r h' n' ⟨⟨uc2, e1, huc2⟩, e2, e3⟩ => ?_)
  subst e1 e2 e3
  conv => cbv
  refine callF_frame (small_lx c3) [] rfl trivial rfl rfl (fun r h' n' ⟨⟨uc3, e1, huc3⟩, e2, e3⟩ => ?_)
  subst e1 e2 e3
  conv => cbv
  refine callF_frame (no_lx c4) [] rfl trivial rfl rfl (fun r h' n' ⟨⟨uc4, e1, huc4⟩, e2, e3⟩ => ?_)
  subst e1 e2 e3
  conv => cbv
  refine callF_frame (no_lx c5) [] rfl trivial rfl rfl (fun r h' n' ⟨⟨uc5, e1, huc5⟩, e2, e3⟩ => ?_)
  subst e1 e2 e3
  conv => cbv
  refine callF_frame (no_lx c6) [] rfl trivial rfl rfl (fun r h' n' ⟨⟨uc6, e1, huc6⟩, e2, e3⟩ => ?_)
  subst e1 e2 e3
  conv => cbv
  refine callF_frame (no_lx c7) [] rfl trivial rfl rfl (fun r h' n' ⟨⟨uc7, e1, huc7⟩, e2, e3⟩ => ?_)
  subst e1 e2 e3
  conv => cbv
  refine callF_frame (no_lx c8) [] rfl trivial rfl rfl (fun r h' n' ⟨⟨uc8, e1, huc8⟩, e2, e3⟩ => ?_)
  subst e1 e2 e3
  conv => cbv
  refine drawn_sound tok (by kernel_rfl) [(3, [22, 21, 20, 18, 17, 15, 14, 12, 11, 10, 9, 8, 6, 5, 4]), (7, [22, 21, 20, 18, 17, 15, 14, 12, 11, 10, 9, 8]), (13, [22, 21, 20, 18, 17, 15, 14, 9, 8]), (16, [22, 21, 20, 18, 17, 9, 8]), (19, [22, 21, 20, 9, 8]), (23, [9, 8]), (25, [])] [0, 1, 2, 4, 5, 6, 8, 9, 10, 11, 12, 14, 15, 17, 18, 20, 21, 22, 3, 7, 13, 16, 19, 23, 24, 25] (by kernel_rfl) ?_; conv => cbv
  refine callF_frame (no_lx s0) [] rfl trivial rfl rfl (fun r h' n' ⟨⟨us0, e1, hus0⟩, e2, e3⟩ => ?_)
  subst e1 e2 e3
  conv => cbv
  refine callF_frame (no_lx s1) [] rfl trivial rfl rfl (fun r h' n' ⟨⟨us1, e1, hus1⟩, e2, e3⟩ => ?_)
  subst e1 e2 e3
  conv => cbv
  refine callF_frame (no_lx s3) [] rfl trivial rfl rfl (fun r h' n' ⟨⟨us3, e1, hus3⟩, e2, e3⟩ => ?_)
  subst e1 e2 e3
  conv => cbv
  refine callF_frame (small_lx s4) [] rfl trivial rfl rfl (fun r h' n' ⟨⟨us4, e1, hus4⟩, e2, e3⟩ => ?_)
  subst e1 e2 e3
  conv => cbv
  refine callF_frame (small_lx s5) [] rfl trivial rfl rfl (fun r h' n' ⟨⟨us5, e1, hus5⟩, e2, e3⟩ => ?_)
  subst e1 e2 e3
  conv => cbv
  refine callF_frame (no_lx s6) [] rfl trivial rfl rfl (fun r h' n' ⟨⟨us6, e1, hus6⟩, e2, e3⟩ => ?_)
  subst e1 e2 e3
  conv => cbv
  refine drawn_sound tok (by kernel_rfl) [(2, [11, 10, 9, 7, 6, 4, 3]), (5, [13, 11, 10, 9, 7, 6]), (8, [13, 11, 10, 9]), (12, [13]), (14, []), (16, []), (18, []), (20, [])] [0, 1, 3, 4, 6, 7, 9, 10, 11, 2, 13, 5, 8, 12, 14, 15, 16, 17, 18, 19, 20] (by kernel_rfl) ?_; conv => cbv
  refine callF_frame (small_lx g0) [] rfl trivial rfl rfl (fun r h' n' ⟨⟨ug0, e1, hug0⟩, e2, e3⟩ => ?_)
  subst e1 e2 e3
  conv => cbv
  refine callF_frame (small_lx g1) [] rfl trivial rfl rfl (fun r h' n' ⟨⟨ug1, e1, hug1⟩, e2, e3⟩ => ?_)
  subst e1 e2 e3
  conv => cbv
  refine callF_frame (small_lx g2) [] rfl trivial rfl rfl (fun r h' n' ⟨⟨ug2, e1, hug2⟩, e2, e3⟩ => ?_)
  subst e1 e2 e3
  conv => cbv
  refine callF_frame (no_lx g9) [] rfl trivial rfl rfl (fun r h' n' ⟨⟨ug9, e1, hug9⟩, e2, e3⟩ => ?_)
  subst e1 e2 e3
  conv => cbv
  have hbc : ∀ x ∈ [uc0, uc1, uc2, uc3, uc4, uc5, uc6, uc7, uc8], b62 x := by
    simp only [List.forall_mem_cons]
    exact ⟨by rw [huc0]; exact smW_b62 _, by rw [huc1]; exact smW_b62 _, by rw [huc2]; exact smW_b62 _, by rw [huc3]; exact smW_b62 _, by rw [huc4]; exact noW_b62 _, by rw [huc5]; exact noW_b62 _, by rw [huc6]; exact noW_b62 _, by rw [huc7]; exact noW_b62 _, by rw [huc8]; exact noW_b62 _, fun x hx => by cases hx⟩
  have hpc : ∀ x ∈ [uc4, uc5, uc6, uc7, uc8], -1 ≤ x := by
    simp only [List.forall_mem_cons]
    exact ⟨by rw [huc4]; exact (noW_bd _).1, by rw [huc5]; exact (noW_bd _).1, by rw [huc6]; exact (noW_bd _).1, by rw [huc7]; exact (noW_bd _).1, by rw [huc8]; exact (noW_bd _).1, fun x hx => by cases hx⟩
  have hbs : ∀ x ∈ [us0, us1, us3, us4, us5, us6], b62 x := by
    simp only [List.forall_mem_cons]
    exact ⟨by rw [hus0]; exact noW_b62 _, by rw [hus1]; exact noW_b62 _, by rw [hus3]; exact noW_b62 _, by rw [hus4]; exact smW_b62 _, by rw [hus5]; exact smW_b62 _, by rw [hus6]; exact noW_b62 _, fun x hx => by cases hx⟩
  have hps : ∀ x ∈ [us0, us1, us3, us6], -1 ≤ x := by
    simp only [List.forall_mem_cons]
    exact ⟨by rw [hus0]; exact (noW_bd _).1, by rw [hus1]; exact (noW_bd _).1, by rw [hus3]; exact (noW_bd _).1, by rw [hus6]; exact (noW_bd _).1, fun x hx => by cases hx⟩
  have hbg : ∀ x ∈ [ug0, ug1, ug2, ug9], b62 x := by
    simp only [List.forall_mem_cons]
    exact ⟨by rw [hug0]; exact smW_b62 _, by rw [hug1]; exact smW_b62 _, by rw [hug2]; exact smW_b62 _, by rw [hug9]; exact noW_b62 _, fun x hx => by cases hx⟩
  have hpg : ∀ x ∈ [ug9], -1 ≤ x := by
    simp only [List.forall_mem_cons]
    exact ⟨by rw [hug9]; exact (noW_bd _).1, fun x hx => by cases hx⟩
  have hws : ∀ x ∈ [s2], -9223372036854775808 ≤ x ∧ x ≤ 9223372036854775807 := fun x hx => hw x (by simp at hx; simp [hx])
  have hwg : ∀ x ∈ [g3, g4, g5, g6, g7, g8], -9223372036854775808 ≤ x ∧ x ≤ 9223372036854775807 := fun x hx => hw x (List.mem_cons_of_mem _ hx)
  refine drawn_sound tok (by kernel_rfl) [(3, [10, 9, 8, 6, 5, 4]), (7, [10, 9, 8]), (11, [])] [0, 1, 2, 4, 5, 6, 8, 9, 10, 3, 7, 11, 12, 13, 14] (by kernel_rfl) ?_; conv => cbv
  refine callF_frame (putChan_lx R ws C [] N W ph 0 0 L D Q z ov h o ho r1 uc0 uc1 uc2 uc3 uc4 uc5 uc6 uc7 uc8 hbc) [(0, 4), (1, 5), (2, 6), (3, 7), (4, 8), (5, 9), (6, 10), (7, 0)] rfl (by simp [hmapOk, nget, hget, renB, okB, renV, renVs, rn, okVs, okV]) rfl rfl (fun r h' n' hrr => ?_)
  obtain ⟨p1, ws1, C1, G1, ov1, D1, Q1, z1, e1, e2, e3, h1, hP⟩ := hrr
  subst e1 e2 e3
  obtain ⟨hp1, hH1, ot1, up1⟩ := hP.hld h.a (hQ.k1) rfl (chanWs_bd uc0 uc1 uc2 uc3 uc4 uc5 uc6 uc7 uc8 hbc)
  clear hP
  conv => cbv
  refine callF_frame (putSudog_lx R ws1 C1 G1 N W ph 0 0 L D1 Q1 z1 ov1 h1 o ho r2 us0 us1 s2 us3 us4 us5 us6 hbs hws) [(0, 4), (1, 5), (2, 6), (3, 7), (4, 8), (5, 9), (6, 10), (7, 0)] rfl (by simp [hmapOk, nget, hget, renB, okB, renV, renVs, rn, okVs, okV]) rfl rfl (fun r h' n' hrr => ?_)
  obtain ⟨p2, ws2, C2, G2, ov2, D2, Q2, z2, e1, e2, e3, h2, hP⟩ := hrr
  subst e1 e2 e3
  obtain ⟨hp2, hH2, ot2, up2⟩ := hP.hld h1.a (up1 _ _ _ (hQ.k2)) rfl (sudogWs_bd us0 us1 s2 us3 us4 us5 us6 hbs hws)
  clear hP
  conv => cbv
  refine callF_frame (putGor_lx R ws2 C2 G2 N W ph 0 0 L D2 Q2 z2 ov2 h2 o ho r3 ug0 ug1 ug2 g3 g4 g5 g6 g7 g8 ug9 hbg hwg) [(0, 4), (1, 5), (2, 6), (3, 7), (4, 8), (5, 9), (6, 10), (7, 0)] rfl (by simp [hmapOk, nget, hget, renB, okB, renV, renVs, rn, okVs, okV]) rfl rfl (fun r h' n' hrr => ?_)
  obtain ⟨p3, ws3, C3, G3, ov3, D3, Q3, z3, e1, e2, e3, h3, hP⟩ := hrr
  subst e1 e2 e3
  obtain ⟨hp3, hH3, ot3, up3⟩ := hP.hld h2.a (up2 _ _ _ (up1 _ _ _ (hQ.k3))) rfl (gorWs_bd ug0 ug1 ug2 g3 g4 g5 g6 g7 g8 ug9 hbg hwg)
  clear hP
  conv => cbv
  have d12 : r1 ≠ r2 := hQ.k1.ne9 hQ.k2 (by decide)
  have d13 : r1 ≠ r3 := hQ.k1.ne9 hQ.k3 (by decide)
  have d23 : r2 ≠ r3 := hQ.k2.ne9 hQ.k3 (by decide)
  have H1 : Hld R ws3 r1 1 9 (chanWs [uc0, uc1, uc2, uc3, uc4, uc5, uc6, uc7, uc8]) := ot3 _ _ _ _ d13 (ot2 _ _ _ _ d12 hH1)
  have H2 : Hld R ws3 r2 3 7 (sudogWs [us0, us1, s2, us3, us4, us5, us6]) := ot3 _ _ _ _ d23 hH2
  have H3 : Hld R ws3 r3 4 10 (gorWs [ug0, ug1, ug2, g3, g4, g5, g6, g7, g8, ug9]) := hH3
  refine callF_frame (chan_lx R ws3 C3 G3 N W ph 0 0 L D3 Q3 z3 ov3 h3 r1) [(0, 4), (1, 5), (2, 6), (3, 7), (4, 8), (5, 9), (6, 10)] rfl (by simp [hmapOk, nget, hget, renB, okB, renV, renVs, rn, okVs, okV]) rfl rfl (fun r h' n' hrr => ?_)
  obtain ⟨⟨yc0, yc1, yc2, yc3, yc4, yc5, yc6, yc7, yc8, f1, e1, hT⟩, e2, e3⟩ := hrr
  subst e1 e2 e3
  obtain ⟨hf1, hy⟩ := TR.hld H1 hT
  clear hT
  rw [chan_back uc0 uc1 uc2 uc3 uc4 uc5 uc6 uc7 uc8 hpc] at hy
  simp only [List.cons.injEq, and_true] at hy
  obtain ⟨iyc0, iyc1, iyc2, iyc3, iyc4, iyc5, iyc6, iyc7, iyc8⟩ := hy
  conv => cbv
  refine callF_frame (sudog_lx R ws3 C3 G3 N W ph 0 0 L D3 Q3 z3 ov3 h3 r2) [(0, 4), (1, 5), (2, 6), (3, 7), (4, 8), (5, 9), (6, 10)] rfl (by simp [hmapOk, nget, hget, renB, okB, renV, renVs, rn, okVs, okV]) rfl rfl (fun r h' n' hrr => ?_)
  obtain ⟨⟨ys0, ys1, ys2, ys3, ys4, ys5, ys6, f2, e1, hT⟩, e2, e3⟩ := hrr
  subst e1 e2 e3
  obtain ⟨hf2, hy⟩ := TR.hld H2 hT
  clear hT
  rw [sudog_back us0 us1 s2 us3 us4 us5 us6 hps] at hy
  simp only [List.cons.injEq, and_true] at hy
  obtain ⟨iys0, iys1, iys2, iys3, iys4, iys5, iys6⟩ := hy
  conv => cbv
  refine callF_frame (gor_lx R ws3 C3 G3 N W ph 0 0 L D3 Q3 z3 ov3 h3 r3) [(0, 4), (1, 5), (2, 6), (3, 7), (4, 8), (5, 9), (6, 10)] rfl (by simp [hmapOk, nget, hget, renB, okB, renV, renVs, rn, okVs, okV]) rfl rfl (fun r h' n' hrr => ?_)
  obtain ⟨⟨yg0, yg1, yg2, yg3, yg4, yg5, yg6, yg7, yg8, yg9, f3, e1, hT⟩, e2, e3⟩ := hrr
  subst e1 e2 e3
  obtain ⟨hf3, hy⟩ := TR.hld H3 hT
  clear hT
  rw [gor_back ug0 ug1 ug2 g3 g4 g5 g6 g7 g8 ug9 hpg] at hy
  simp only [List.cons.injEq, and_true] at hy
  obtain ⟨iyg0, iyg1, iyg2, iyg3, iyg4, iyg5, iyg6, iyg7, iyg8, iyg9⟩ := hy
  conv => cbv
  refine Br.no (show ¬ ¬ (p1 = 0) from fun q => q hp1) ?_
  conv => cbv
  refine Br.no (show ¬ ¬ (p2 = 0) from fun q => q hp2) ?_
  conv => cbv
  refine Br.no (show ¬ ¬ (p3 = 0) from fun q => q hp3) ?_
  conv => cbv
  refine Br.no (show ¬ ¬ (f1 = 0) from fun q => q hf1) ?_
  conv => cbv
  refine Br.no (show ¬ ¬ (f2 = 0) from fun q => q hf2) ?_
  conv => cbv
  refine Br.no (show ¬ ¬ (f3 = 0) from fun q => q hf3) ?_
  conv => cbv
  refine aggYes (by kernel_rfl) ⟨iyc0, iyc1, iyc2, iyc3, iyc4, iyc5, iyc6, iyc7, iyc8, trivial⟩ ?_
  conv => cbv
  refine aggYes (by kernel_rfl) ⟨iys0, iys1, iys2, iys3, iys4, iys5, iys6, trivial⟩ ?_
  conv => cbv
  refine aggYes (by kernel_rfl) ⟨iyg0, iyg1, iyg2, iyg3, iyg4, iyg5, iyg6, iyg7, iyg8, iyg9, trivial⟩ ?_
  conv => cbv
  refine CallF.le (args0 := [.ptr 4 (.lit 0), .p (.vsl (.sym 0) true [])]) (callF_frame (begin_lx R ws3 C3 G3 N W ph 0 0 L D3 Q3 z3 ov3 h3 o ho [] 0 [] rfl rfl (by simp) (by simpa using hph)) [(0, 4), (1, 5), (2, 6), (3, 7), (4, 8), (5, 9), (6, 10), (7, 0)] rfl (by simp [hmapOk, nget, hget, renB, okB, renV, renVs, rn, okVs, okV]) rfl rfl (fun r h' n' hrr => ?_)) (by simp [ales, ale, pvle, I.val])
  obtain ⟨C4, G4, ov4, Q4, z4, e1, e2, e3, h4, hbeg⟩ := hrr
  subst e1 e2 e3
  conv => cbv
  obtain ⟨hC4, hG4, hov4⟩ : C4 = List.replicate W.toNat 0 ∧ G4 = [] ∧ ov4 = false := by
    have : (C4, G4, ov4) = (List.replicate W.toNat 0, [], false) := hbeg
    simpa only [Prod.mk.injEq] using this
  refine callF_frame (putChan_lx R ws3 C4 G4 N W 1 0 0 L D3 Q4 z4 ov4 h4 o ho r1 uc0 uc1 uc2 uc3 uc4 uc5 uc6 uc7 uc8 hbc) [(0, 4), (1, 5), (2, 6), (3, 7), (4, 8), (5, 22), (6, 10), (7, 0)] rfl (by simp [hmapOk, nget, hget, renB, okB, renV, renVs, rn, okVs, okV]) rfl rfl (fun r h' n' hrr => ?_)
  obtain ⟨p5, ws5, C5, G5, ov5, D5, Q5, z5, e1, e2, e3, h5, hP⟩ := hrr
  subst e1 e2 e3
  obtain ⟨hp5, hq⟩ := hP.again H1
  clear hP
  obtain ⟨rfl, rfl, rfl, rfl⟩ : ws3 = ws5 ∧ C4 = C5 ∧ G4 = G5 ∧ ov4 = ov5 := by simpa only [Prod.mk.injEq] using hq.symm
  conv => cbv
  refine Br.no (show ¬ ¬ (p5 = 0) from fun q => q hp5) ?_
  conv => cbv
  refine callF_frame (putSudog_lx R ws3 C4 G4 N W 1 0 0 L D5 Q5 z5 ov4 h5 o ho r2 us0 us1 s2 us3 us4 us5 us6 hbs hws) [(0, 4), (1, 5), (2, 6), (3, 7), (4, 8), (5, 22), (6, 10), (7, 0)] rfl (by simp [hmapOk, nget, hget, renB, okB, renV, renVs, rn, okVs, okV]) rfl rfl (fun r h' n' hrr => ?_)
  obtain ⟨p6, ws6, C6, G6, ov6, D6, Q6, z6, e1, e2, e3, h6, hP⟩ := hrr
  subst e1 e2 e3
  obtain ⟨hp6, hq⟩ := hP.again H2
  clear hP
  obtain ⟨rfl, rfl, rfl, rfl⟩ : ws3 = ws6 ∧ C4 = C6 ∧ G4 = G6 ∧ ov4 = ov6 := by simpa only [Prod.mk.injEq] using hq.symm
  conv => cbv
  refine Br.no (show ¬ ¬ (p6 = 0) from fun q => q hp6) ?_
  conv => cbv
  refine callF_frame (putGor_lx R ws3 C4 G4 N W 1 0 0 L D6 Q6 z6 ov4 h6 o ho r3 ug0 ug1 ug2 g3 g4 g5 g6 g7 g8 ug9 hbg hwg) [(0, 4), (1, 5), (2, 6), (3, 7), (4, 8), (5, 22), (6, 10), (7, 0)] rfl (by simp [hmapOk, nget, hget, renB, okB, renV, renVs, rn, okVs, okV]) rfl rfl (fun r h' n' hrr => ?_)
  obtain ⟨p7, ws7, C7, G7, ov7, D7, Q7, z7, e1, e2, e3, h7, hP⟩ := hrr
  subst e1 e2 e3
  obtain ⟨hp7, hq⟩ := hP.again H3
  clear hP
  obtain ⟨rfl, rfl, rfl, rfl⟩ : ws3 = ws7 ∧ C4 = C7 ∧ G4 = G7 ∧ ov4 = ov7 := by simpa only [Prod.mk.injEq] using hq.symm
  conv => cbv
  refine Br.no (show ¬ ¬ (p7 = 0) from fun q => q hp7) ?_
  conv => cbv
  refine callF_frame (arena_lx R ws3 C4 G4 N W 1 0 0 L D7 Q7 z7 ov4) [(0, 4), (1, 5), (2, 6), (3, 7), (4, 8), (5, 22), (6, 10)] rfl (by simp [hmapOk, nget, hget, renB, okB, renV, renVs, rn, okVs, okV]) rfl rfl (fun r h' n' ⟨e1, e2, e3⟩ => ?_)
  subst e1 e2 e3
  conv => cbv
  obtain ⟨mo, hmo⟩ : ∃ m : Int, m = objCount R := ⟨_, rfl⟩
  have hmo4 : mo = 4 := by rw [hmo, hQ.count h.a]; rfl
  refine callF_frame (objects_lx mo R N W L D7 h7.l h7.n h7.r h7.a.rows h7.w hmo) [(0, 5), (1, 6), (2, 7), (3, 8)] rfl (by simp [hmapOk, nget, hget, renB, okB, renV, renVs, rn, okVs, okV]) rfl rfl (fun r h' n' hrr => ?_)
  obtain ⟨O, e1, e2, e3, hO⟩ := hrr
  subst e1 e2 e3
  have hOl : (O.length : Int) = mo := by rw [hO, ipv_length, objs_length h.a.rows, hmo]
  have hO : O = ipv (objs R) := hO
  have hol : ((objs R).length : Int) = mo := by rw [← hOl, hO, ipv_length]
  obtain ⟨A, hA⟩ : ∃ A, A = objs R := ⟨_, rfl⟩
  rw [← hA] at hO hol
  conv => cbv
  refine LoopF.mk (fun kk s => ∃ i : Int, s = ⟨undefs 7 ++ .ptr 4 (.lit 0) :: (undefs 15 ++ .sl 23 3 1 (.lit 0) (.sym mo) :: .p (.int .i64 (.sym i)) :: undefs 203), [(4, .mix [.ptr 5 (.lit 0), .ptr 22 (.lit 0), .sl 10 3 1 (.lit 0) (.sym W), .p (.int .i64 (.sym 1)), .p (.int .i64 (.sym 0)), .p (.int .i64 (.sym 0))]), (5, .mix [.ptr 6 (.lit 0), .sl 8 3 1 (.lit 0) (.sym W)]), (6, .mix [.sl 7 161 2 (.lit 0) (.sym N)]), (7, .pure true L), (8, .pure true D7), (22, .pure false [.str fun _ => z7, .bool ov4]), (10, .pure true Q7), (23, .pure true O), (0, .fix 0 o)], 24⟩ ∧ 0 ≤ i ∧ i ≤ mo ∧ kk = (mo - i).toNat) mo.toNat _
    (Re.at [(4, 4), (5, 5), (6, 6), (7, 7), (8, 8), (22, 22), (10, 10), (23, 23), (0, 0)] []) ⟨0, rfl, by omega, by omega, by omega⟩ ?_
  rintro kk s ⟨i, rfl, hi0, hi1, hkk⟩
  conv => cbv
  refine Br.mk (fun gi => ?_) (fun gi => ?_)
  · have gi : i < mo := gi
    obtain ⟨x, hx⟩ : ∃ x, A[i.toNat]? = some x := ⟨_, List.getElem?_eq_getElem (by omega)⟩
    have hOx : O[i.toNat]? = some (.int .i64 (.sym x)) := by rw [hO, ipv_getx, hx]; rfl
    have hxo : x ∈ objs R := hA ▸ List.mem_of_getElem? hx
    conv => cbv
    refine Need.mk (show 0 ≤ i ∧ i < mo from ⟨hi0, gi⟩) ?_
    conv => cbv
    refine Cell.at i _ hOx (by simp [I.val]) rfl ?_
    conv => cbv
    refine callF_frame (colour_lx R ws3 C4 G4 N W 1 0 0 L D7 Q7 z7 ov4 h7 x) [(0, 4), (1, 5), (2, 6), (3, 7), (4, 8), (5, 22), (6, 10)] rfl (by simp [hmapOk, nget, hget, renB, okB, renV, renVs, rn, okVs, okV]) rfl rfl (fun r h' n' hrr => ?_)
    obtain ⟨cc, e1, e2, e3, hc1, hc2⟩ := hrr
    subst e1 e2 e3
    have hcc : cc = 0 := by
      have h1 := hc1 hxo
      rw [hC4, List.getElem?_replicate] at h1
      split at h1
      · exact (Option.some.inj h1).symm
      · cases h1
    conv => cbv
    refine Br.no (show ¬ ¬ (cc = 0) from fun q => q hcc) ?_
    conv => cbv
    refine Fit.mk (by show (-9223372036854775808 : Int) ≤ i + 1; omega) (by show i + 1 ≤ 9223372036854775807; omega) fun i2 hi2 => ?_
    have hi2 : i2 = i + 1 := hi2
    conv => cbv
    refine Again.mk (mo - i2).toNat _ (by omega) (Re.at [(4, 4), (5, 5), (6, 6), (7, 7), (8, 8), (22, 22), (10, 10), (23, 23), (0, 0)] []) ⟨i2, rfl, by omega, by omega, rfl⟩
  · have gi : ¬ i < mo := gi
    conv => cbv
    refine Br.yes (show mo = 4 from hmo4) ?_
    conv => cbv
    refine RetF.mk [.p (.bool true)] [(0, .fix 0 o)] 1 (Re.at [(0, 0)] []) rfl rfl
end Go.Proofs.YtolamdalijjlnaaGreatDoor
