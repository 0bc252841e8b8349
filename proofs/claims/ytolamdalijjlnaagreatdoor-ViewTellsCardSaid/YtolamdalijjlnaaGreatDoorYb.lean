/-
  Layer 11: ViewTells.
-/
import Derived.Test.YtolamdalijjlnaaGreatDoorBg



namespace Go.Proofs.YtolamdalijjlnaaGreatDoor

open Go Go.LX
set_option maxRecDepth 100000
set_option linter.unusedVariables false
set_option linter.unusedSimpArgs false

set_option maxHeartbeats 16000000 in
theorem viewTells_law (o : Unit → Obj) (ho : IsPow o) (mk : Bool) (c0 c1 c2 c3 c4 c5 c6 c7 c8 s0 s1 s2 s3 s4 s5 s6 g0 g1 g2 g3 g4 g5 g6 g7 g8 g9 i_ word at_ : Int) (hwd : -9223372036854775808 ≤ word ∧ word ≤ 9223372036854775807) (hw : ∀ x ∈ [s2, g3, g4, g5, g6, g7, g8], -9223372036854775808 ≤ x ∧ x ≤ 9223372036854775807) : CallF (fun _ => Tryz.prog) 6 [.p (.bool mk), .agg [.p (.int .i64 (.sym c0)), .p (.int .i64 (.sym c1)), .p (.int .i64 (.sym c2)), .p (.int .i64 (.sym c3)), .p (.int .i64 (.sym c4)), .p (.int .i64 (.sym c5)), .p (.int .i64 (.sym c6)), .p (.int .i64 (.sym c7)), .p (.int .i64 (.sym c8))], .agg [.p (.int .i64 (.sym s0)), .p (.int .i64 (.sym s1)), .p (.int .i64 (.sym s2)), .p (.int .i64 (.sym s3)), .p (.int .i64 (.sym s4)), .p (.int .i64 (.sym s5)), .p (.int .i64 (.sym s6))], .agg [.p (.int .i64 (.sym g0)), .p (.int .i64 (.sym g1)), .p (.int .i64 (.sym g2)), .p (.int .i64 (.sym g3)), .p (.int .i64 (.sym g4)), .p (.int .i64 (.sym g5)), .p (.int .i64 (.sym g6)), .p (.int .i64 (.sym g7)), .p (.int .i64 (.sym g8)), .p (.int .i64 (.sym g9))], .p (.int .i64 (.sym i_)), .p (.int .i64 (.sym word)), .p (.int .i64 (.sym at_))] [(0, .fix 0 o)] 1 (fun r _ _ => r = .p (.bool true)) := by
  refine callF_of_body tok Tryz.func6 (by kernel_rfl) rfl rfl rfl ?_; conv => cbv
  refine callF_frame (both_lx o ho mk) [(0, 0)] rfl (by simp [hmapOk, nget, hget, renB, okB, renV, renVs, rn, okVs, okV]) rfl rfl (fun r h' n' hrr => ?_)
  obtain ⟨R, ws, vs, C, N, W, ph, L, D, Q, z, ov, P, B, V, Qr, la, m, r1, r2, r3, r4, e1, e2, e3, h, hr, hS, hQ, hC, hN, hph⟩ := hrr
  subst e1 e2 e3
  conv => cbv
  refine callF_frame (awake11_lx o ho) [(0, 0)] rfl (by simp [hmapOk, nget, hget, renB, okB, renV, renVs, rn, okVs, okV]) rfl rfl (fun r h' n' ⟨e1, e2, e3⟩ => ?_)
  subst e1 e2 e3
  conv => cbv
  refine callF_frame (places_lx R vs C [] N W ph 0 0 P B V Qr la m ov hr r1 r2 r3 r4 (hQ.sim hS)) [(0, 11), (1, 12), (2, 13), (3, 14), (4, 15), (5, 16), (6, 17), (7, 18)] rfl (by simp [hmapOk, nget, hget, renB, okB, renV, renVs, rn, okVs, okV]) rfl rfl (fun r h' n' ⟨e1, e2, e3⟩ => ?_)
  subst e1 e2 e3
  conv => cbv
  refine drawn_sound tok (by kernel_rfl) [(2, [10, 9, 7, 6, 4, 3]), (5, [12, 10, 9, 7, 6]), (8, [12, 10, 9]), (11, [12]), (13, []), (15, []), (17, []), (19, [])] [0, 1, 3, 4, 6, 7, 9, 10, 2, 12, 5, 8, 11, 13, 14, 15, 16, 17, 18, 19] (drawnOKF_ok (by kernel_rfl)) ?_; conv => cbv
  refine callF_frame (small_lx c0) [] rfl trivial rfl rfl (fun r h' n' ⟨⟨uc0, e1, huc0⟩, e2, e3⟩ => ?_)
  subst e1 e2 e3
  conv => cbv
  refine callF_frame (small_lx c1) [] rfl trivial rfl rfl (fun r h' n' ⟨⟨uc1, e1, huc1⟩, e2, e3⟩ => ?_)
  subst e1 e2 e3
  conv => cbv
  refine callF_frame (small_lx c2) [] rfl trivial rfl rfl (fun r h' n' ⟨⟨uc2, e1, huc2⟩, e2, e3⟩ => ?_)
  subst e1 e2 e3
  conv => cbv
  refine callF_frame (small_lx c3) [] rfl trivial rfl rfl (fun r h' n' ⟨⟨uc3, e1, huc3⟩, e2, e3⟩ => ?_)
  subst e1 e2 e3
  conv => cbv
  refine drawn_sound tok (by kernel_rfl) [(2, [13, 12, 10, 9, 7, 6, 4, 3]), (5, [15, 13, 12, 10, 9, 7, 6]), (8, [15, 13, 12, 10, 9]), (11, [15, 13, 12]), (14, [15]), (16, []), (18, []), (20, []), (22, []), (24, [])] [0, 1, 3, 4, 6, 7, 9, 10, 12, 13, 2, 15, 5, 8, 11, 14, 16, 17, 18, 19, 20, 21, 22, 23, 24] (drawnOKF_ok (by kernel_rfl)) ?_; conv => cbv
  refine callF_frame (small_lx c4) [] rfl trivial rfl rfl (fun r h' n' ⟨⟨uc4, e1, huc4⟩, e2, e3⟩ => ?_)
  subst e1 e2 e3
  conv => cbv
  refine callF_frame (small_lx c5) [] rfl trivial rfl rfl (fun r h' n' ⟨⟨uc5, e1, huc5⟩, e2, e3⟩ => ?_)
  subst e1 e2 e3
  conv => cbv
  refine callF_frame (small_lx c6) [] rfl trivial rfl rfl (fun r h' n' ⟨⟨uc6, e1, huc6⟩, e2, e3⟩ => ?_)
  subst e1 e2 e3
  conv => cbv
  refine callF_frame (small_lx c7) [] rfl trivial rfl rfl (fun r h' n' ⟨⟨uc7, e1, huc7⟩, e2, e3⟩ => ?_)
  subst e1 e2 e3
  conv => cbv
  refine callF_frame (small_lx c8) [] rfl trivial rfl rfl (fun r h' n' ⟨⟨uc8, e1, huc8⟩, e2, e3⟩ => ?_)
  subst e1 e2 e3
  conv => cbv
  refine drawn_sound tok (by kernel_rfl) [(2, [16, 15, 13, 12, 10, 9, 7, 6, 4, 3]), (5, [18, 16, 15, 13, 12, 10, 9, 7, 6]), (8, [18, 16, 15, 13, 12, 10, 9]), (11, [18, 16, 15, 13, 12]), (14, [18, 16, 15]), (17, [18]), (19, []), (21, []), (23, []), (25, []), (27, []), (29, [])] [0, 1, 3, 4, 6, 7, 9, 10, 12, 13, 15, 16, 2, 18, 5, 8, 11, 14, 17, 19, 20, 21, 22, 23, 24, 25, 26, 27, 28, 29] (drawnOKF_ok (by kernel_rfl)) ?_; conv => cbv
  refine callF_frame (small_lx s0) [] rfl trivial rfl rfl (fun r h' n' ⟨⟨us0, e1, hus0⟩, e2, e3⟩ => ?_)
  subst e1 e2 e3
  conv => cbv
  refine callF_frame (small_lx s1) [] rfl trivial rfl rfl (fun r h' n' ⟨⟨us1, e1, hus1⟩, e2, e3⟩ => ?_)
  subst e1 e2 e3
  conv => cbv
  refine callF_frame (small_lx s3) [] rfl trivial rfl rfl (fun r h' n' ⟨⟨us3, e1, hus3⟩, e2, e3⟩ => ?_)
  subst e1 e2 e3
  conv => cbv
  refine callF_frame (small_lx s4) [] rfl trivial rfl rfl (fun r h' n' ⟨⟨us4, e1, hus4⟩, e2, e3⟩ => ?_)
  subst e1 e2 e3
  conv => cbv
  refine callF_frame (small_lx s5) [] rfl trivial rfl rfl (fun r h' n' ⟨⟨us5, e1, hus5⟩, e2, e3⟩ => ?_)
  subst e1 e2 e3
  conv => cbv
  refine callF_frame (small_lx s6) [] rfl trivial rfl rfl (fun r h' n' ⟨⟨us6, e1, hus6⟩, e2, e3⟩ => ?_)
  subst e1 e2 e3
  conv => cbv
  refine drawn_sound tok (by kernel_rfl) [(2, [10, 9, 7, 6, 4, 3]), (5, [12, 10, 9, 7, 6]), (8, [12, 10, 9]), (11, [12]), (13, []), (15, []), (17, []), (19, [])] [0, 1, 3, 4, 6, 7, 9, 10, 2, 12, 5, 8, 11, 13, 14, 15, 16, 17, 18, 19] (drawnOKF_ok (by kernel_rfl)) ?_; conv => cbv
  refine callF_frame (small_lx g0) [] rfl trivial rfl rfl (fun r h' n' ⟨⟨ug0, e1, hug0⟩, e2, e3⟩ => ?_)
  subst e1 e2 e3
  conv => cbv
  refine callF_frame (small_lx g1) [] rfl trivial rfl rfl (fun r h' n' ⟨⟨ug1, e1, hug1⟩, e2, e3⟩ => ?_)
  subst e1 e2 e3
  conv => cbv
  refine callF_frame (small_lx g2) [] rfl trivial rfl rfl (fun r h' n' ⟨⟨ug2, e1, hug2⟩, e2, e3⟩ => ?_)
  subst e1 e2 e3
  conv => cbv
  refine callF_frame (small_lx g9) [] rfl trivial rfl rfl (fun r h' n' ⟨⟨ug9, e1, hug9⟩, e2, e3⟩ => ?_)
  subst e1 e2 e3
  conv => cbv
  have hbc : ∀ x ∈ [uc0, uc1, uc2, uc3, uc4, uc5, uc6, uc7, uc8], b62 x := by
    simp only [List.forall_mem_cons]
    exact ⟨by rw [huc0]; exact smW_b62 _, by rw [huc1]; exact smW_b62 _, by rw [huc2]; exact smW_b62 _, by rw [huc3]; exact smW_b62 _, by rw [huc4]; exact smW_b62 _, by rw [huc5]; exact smW_b62 _, by rw [huc6]; exact smW_b62 _, by rw [huc7]; exact smW_b62 _, by rw [huc8]; exact smW_b62 _, fun x hx => by cases hx⟩
  have hbs : ∀ x ∈ [us0, us1, us3, us4, us5, us6], b62 x := by
    simp only [List.forall_mem_cons]
    exact ⟨by rw [hus0]; exact smW_b62 _, by rw [hus1]; exact smW_b62 _, by rw [hus3]; exact smW_b62 _, by rw [hus4]; exact smW_b62 _, by rw [hus5]; exact smW_b62 _, by rw [hus6]; exact smW_b62 _, fun x hx => by cases hx⟩
  have hbg : ∀ x ∈ [ug0, ug1, ug2, ug9], b62 x := by
    simp only [List.forall_mem_cons]
    exact ⟨by rw [hug0]; exact smW_b62 _, by rw [hug1]; exact smW_b62 _, by rw [hug2]; exact smW_b62 _, by rw [hug9]; exact smW_b62 _, fun x hx => by cases hx⟩
  have hws : ∀ x ∈ [s2], -9223372036854775808 ≤ x ∧ x ≤ 9223372036854775807 := fun x hx => hw x (by simp at hx; simp [hx])
  have hwg : ∀ x ∈ [g3, g4, g5, g6, g7, g8], -9223372036854775808 ≤ x ∧ x ≤ 9223372036854775807 := fun x hx => hw x (List.mem_cons_of_mem _ hx)
  refine drawn_sound tok (by kernel_rfl) [(3, [6, 5, 4]), (7, []), (13, [16, 15, 14]), (17, []), (24, [27, 26, 25]), (28, [])] [0, 1, 2, 4, 5, 6, 3, 7, 8, 9, 10, 11, 12, 14, 15, 16, 13, 17, 18, 19, 20, 21, 22, 23, 25, 26, 27, 24, 28, 29, 30, 31] (drawnOKF_ok (by kernel_rfl)) ?_; conv => cbv
  refine callF_frame (putChan_lx R ws C [] N W ph 0 0 L D Q z ov h o ho r1 uc0 uc1 uc2 uc3 uc4 uc5 uc6 uc7 uc8 hbc) [(0, 4), (1, 5), (2, 6), (3, 7), (4, 8), (5, 9), (6, 10), (7, 0)] rfl (by simp [hmapOk, nget, hget, renB, okB, renV, renVs, rn, okVs, okV]) rfl rfl (fun r h' n' hrr => ?_)
  obtain ⟨p1, ws1, C1, G1, ov1, D1, Q1, z1, e1, e2, e3, h1, hP⟩ := hrr
  subst e1 e2 e3
  conv => cbv
  refine callF_frame (rPutChan_lx R vs C [] N W ph 0 0 P B V Qr la m ov hr r1 uc0 uc1 uc2 uc3 uc4 uc5 uc6 uc7 uc8 hbc) [(0, 11), (1, 12), (2, 13), (3, 14), (4, 15), (5, 16), (6, 17), (7, 18)] rfl (by simp [hmapOk, nget, hget, renB, okB, renV, renVs, rn, okVs, okV]) rfl rfl (fun r h' n' hrr => ?_)
  obtain ⟨f1, vs1, Cr, Gr, ovr, V1, Qr1, la1, m1, e1, e2, e3, hr1, hP2⟩ := hrr
  subst e1 e2 e3
  obtain ⟨hf1, hcc, hS1⟩ := PT.sim hS rfl (chanWs_bd uc0 uc1 uc2 uc3 uc4 uc5 uc6 uc7 uc8 hbc) hP hP2
  obtain ⟨rfl, rfl, rfl⟩ : C1 = Cr ∧ G1 = Gr ∧ ov1 = ovr := by simpa only [Prod.mk.injEq] using hcc
  clear hP hP2 hcc
  conv => cbv
  refine Br.yes (show p1 = f1 from hf1) ?_
  conv => cbv
  refine callF_frame (putSudog_lx R ws1 C1 G1 N W ph 0 0 L D1 Q1 z1 ov1 h1 o ho r2 us0 us1 s2 us3 us4 us5 us6 hbs hws) [(0, 4), (1, 5), (2, 6), (3, 7), (4, 8), (5, 9), (6, 10), (7, 0)] rfl (by simp [hmapOk, nget, hget, renB, okB, renV, renVs, rn, okVs, okV]) rfl rfl (fun r h' n' hrr => ?_)
  obtain ⟨p2, ws2, C2, G2, ov2, D2, Q2, z2, e1, e2, e3, h2, hP⟩ := hrr
  subst e1 e2 e3
  conv => cbv
  refine callF_frame (rPutSudog_lx R vs1 C1 G1 N W ph 0 0 P B V1 Qr1 la1 m1 ov1 hr1 r2 us0 us1 s2 us3 us4 us5 us6 hbs hws) [(0, 11), (1, 12), (2, 13), (3, 14), (4, 15), (5, 16), (6, 17), (7, 18)] rfl (by simp [hmapOk, nget, hget, renB, okB, renV, renVs, rn, okVs, okV]) rfl rfl (fun r h' n' hrr => ?_)
  obtain ⟨f2, vs2, Cr, Gr, ovr, V2, Qr2, la2, m2, e1, e2, e3, hr2, hP2⟩ := hrr
  subst e1 e2 e3
  obtain ⟨hf2, hcc, hS2⟩ := PT.sim hS1 rfl (sudogWs_bd us0 us1 s2 us3 us4 us5 us6 hbs hws) hP hP2
  obtain ⟨rfl, rfl, rfl⟩ : C2 = Cr ∧ G2 = Gr ∧ ov2 = ovr := by simpa only [Prod.mk.injEq] using hcc
  clear hP hP2 hcc
  conv => cbv
  refine Br.yes (show p2 = f2 from hf2) ?_
  conv => cbv
  refine callF_frame (putGor_lx R ws2 C2 G2 N W ph 0 0 L D2 Q2 z2 ov2 h2 o ho r3 ug0 ug1 ug2 g3 g4 g5 g6 g7 g8 ug9 hbg hwg) [(0, 4), (1, 5), (2, 6), (3, 7), (4, 8), (5, 9), (6, 10), (7, 0)] rfl (by simp [hmapOk, nget, hget, renB, okB, renV, renVs, rn, okVs, okV]) rfl rfl (fun r h' n' hrr => ?_)
  obtain ⟨p3, ws3, C3, G3, ov3, D3, Q3, z3, e1, e2, e3, h3, hP⟩ := hrr
  subst e1 e2 e3
  conv => cbv
  refine callF_frame (rPutGor_lx R vs2 C2 G2 N W ph 0 0 P B V2 Qr2 la2 m2 ov2 hr2 r3 ug0 ug1 ug2 g3 g4 g5 g6 g7 g8 ug9 hbg hwg) [(0, 11), (1, 12), (2, 13), (3, 14), (4, 15), (5, 16), (6, 17), (7, 18)] rfl (by simp [hmapOk, nget, hget, renB, okB, renV, renVs, rn, okVs, okV]) rfl rfl (fun r h' n' hrr => ?_)
  obtain ⟨f3, vs3, Cr, Gr, ovr, V3, Qr3, la3, m3, e1, e2, e3, hr3, hP2⟩ := hrr
  subst e1 e2 e3
  obtain ⟨hf3, hcc, hS3⟩ := PT.sim hS2 rfl (gorWs_bd ug0 ug1 ug2 g3 g4 g5 g6 g7 g8 ug9 hbg hwg) hP hP2
  obtain ⟨rfl, rfl, rfl⟩ : C3 = Cr ∧ G3 = Gr ∧ ov3 = ovr := by simpa only [Prod.mk.injEq] using hcc
  clear hP hP2 hcc
  conv => cbv
  refine Br.yes (show p3 = f3 from hf3) ?_
  conv => cbv
  refine Fit.wrap fun xn hxn => ?_
  have hxn : xn = IntKind.u64.wrap i_ := hxn
  have hyn : 0 ≤ xn := by rw [hxn]; simp [IntKind.wrap, IntKind.bits, IntKind.signed]; omega
  clear hxn
  conv => cbv
  refine Sum.mk fun tn htn => ?_
  have htn : tn = xn % 10 := (show tn = xn.tmod 10 from htn).trans (Int.tmod_eq_emod_of_nonneg hyn)
  conv => cbv
  refine Fit.mk (by show (-9223372036854775808 : Int) ≤ tn; omega) (by show tn ≤ 9223372036854775807; omega) fun kq hkq => ?_
  clear hkq htn hyn
  conv => cbv
  refine callF_frame (store9_lx R ws3 C3 G3 N W ph 0 0 L D3 Q3 z3 ov3 h3 o ho r1 kq word hwd) [(0, 4), (1, 5), (2, 6), (3, 7), (4, 8), (5, 9), (6, 10), (7, 0)] rfl (by simp [hmapOk, nget, hget, renB, okB, renV, renVs, rn, okVs, okV]) rfl rfl (fun r h' n' hrr => ?_)
  obtain ⟨p4, ws4, C4, G4, ov4, D4, Q4, z4, e1, e2, e3, h4, hst, hc1⟩ := hrr
  subst e1 e2 e3
  conv => cbv
  refine callF_frame (rstore9_lx R vs3 C3 G3 N W ph 0 0 P B V3 Qr3 la3 m3 ov3 hr3 r1 kq word hwd) [(0, 11), (1, 12), (2, 13), (3, 14), (4, 15), (5, 16), (6, 17), (7, 18)] rfl (by simp [hmapOk, nget, hget, renB, okB, renV, renVs, rn, okVs, okV]) rfl rfl (fun r h' n' hrr => ?_)
  obtain ⟨f4, vs4, Cr, Gr, ovr, V4, Qr4, la4, m4, e1, e2, e3, hr4, hst2, hc2⟩ := hrr
  subst e1 e2 e3
  obtain ⟨hf4, hS4⟩ := hS3.store hwd hst hst2
  have hcc : (C4, G4, ov4) = (Cr, Gr, ovr) := by rw [hc1, hc2, hf4]
  obtain ⟨rfl, rfl, rfl⟩ : C4 = Cr ∧ G4 = Gr ∧ ov4 = ovr := by simpa only [Prod.mk.injEq] using hcc
  clear hst hst2 hcc hc1 hc2
  conv => cbv
  refine callF_frame (store9_lx R ws4 C4 G4 N W ph 0 0 L D4 Q4 z4 ov4 h4 o ho r2 kq word hwd) [(0, 4), (1, 5), (2, 6), (3, 7), (4, 8), (5, 9), (6, 10), (7, 0)] rfl (by simp [hmapOk, nget, hget, renB, okB, renV, renVs, rn, okVs, okV]) rfl rfl (fun r h' n' hrr => ?_)
  obtain ⟨p5, ws5, C5, G5, ov5, D5, Q5, z5, e1, e2, e3, h5, hst, hc1⟩ := hrr
  subst e1 e2 e3
  conv => cbv
  refine callF_frame (rstore9_lx R vs4 C4 G4 N W ph 0 0 P B V4 Qr4 la4 m4 ov4 hr4 r2 kq word hwd) [(0, 11), (1, 12), (2, 13), (3, 14), (4, 15), (5, 16), (6, 17), (7, 18)] rfl (by simp [hmapOk, nget, hget, renB, okB, renV, renVs, rn, okVs, okV]) rfl rfl (fun r h' n' hrr => ?_)
  obtain ⟨f5, vs5, Cr, Gr, ovr, V5, Qr5, la5, m5, e1, e2, e3, hr5, hst2, hc2⟩ := hrr
  subst e1 e2 e3
  obtain ⟨hf5, hS5⟩ := hS4.store hwd hst hst2
  have hcc : (C5, G5, ov5) = (Cr, Gr, ovr) := by rw [hc1, hc2, hf5]
  obtain ⟨rfl, rfl, rfl⟩ : C5 = Cr ∧ G5 = Gr ∧ ov5 = ovr := by simpa only [Prod.mk.injEq] using hcc
  clear hst hst2 hcc hc1 hc2
  conv => cbv
  refine callF_frame (store9_lx R ws5 C5 G5 N W ph 0 0 L D5 Q5 z5 ov5 h5 o ho r3 kq word hwd) [(0, 4), (1, 5), (2, 6), (3, 7), (4, 8), (5, 9), (6, 10), (7, 0)] rfl (by simp [hmapOk, nget, hget, renB, okB, renV, renVs, rn, okVs, okV]) rfl rfl (fun r h' n' hrr => ?_)
  obtain ⟨p6, ws6, C6, G6, ov6, D6, Q6, z6, e1, e2, e3, h6, hst, hc1⟩ := hrr
  subst e1 e2 e3
  conv => cbv
  refine callF_frame (rstore9_lx R vs5 C5 G5 N W ph 0 0 P B V5 Qr5 la5 m5 ov5 hr5 r3 kq word hwd) [(0, 11), (1, 12), (2, 13), (3, 14), (4, 15), (5, 16), (6, 17), (7, 18)] rfl (by simp [hmapOk, nget, hget, renB, okB, renV, renVs, rn, okVs, okV]) rfl rfl (fun r h' n' hrr => ?_)
  obtain ⟨f6, vs6, Cr, Gr, ovr, V6, Qr6, la6, m6, e1, e2, e3, hr6, hst2, hc2⟩ := hrr
  subst e1 e2 e3
  obtain ⟨hf6, hS6⟩ := hS5.store hwd hst hst2
  have hcc : (C6, G6, ov6) = (Cr, Gr, ovr) := by rw [hc1, hc2, hf6]
  obtain ⟨rfl, rfl, rfl⟩ : C6 = Cr ∧ G6 = Gr ∧ ov6 = ovr := by simpa only [Prod.mk.injEq] using hcc
  clear hst hst2 hcc hc1 hc2
  conv => cbv
  refine callF_frame (alike11_lx R ws6 vs6 C6 G6 N W ph 0 0 L D6 Q6 z6 ov6 P B V6 Qr6 la6 m6 h6 hr6 hS6) [(0, 4), (1, 5), (2, 6), (3, 7), (4, 8), (5, 9), (6, 10), (7, 11), (8, 12), (9, 13), (10, 14), (11, 15), (12, 16), (13, 17), (14, 18)] rfl (by simp [hmapOk, nget, hget, renB, okB, renV, renVs, rn, okVs, okV]) rfl rfl (fun r h' n' ⟨e1, e2, e3⟩ => ?_)
  subst e1 e2 e3
  conv => cbv
  obtain ⟨l4, hl4⟩ : ∃ l4 : List PV, l4 = [.int .i64 (.sym r1), .int .i64 (.sym r2), .int .i64 (.sym r3), .int .i64 (.sym at_)] := ⟨_, rfl⟩
  have hl4l : l4.length = 4 := by rw [hl4]; rfl
  refine LoopF.mk (fun kk s => ∃ i : Int, s = ⟨undefs 15 ++ .ptr 4 (.lit 0) :: .ptr 11 (.lit 0) :: (undefs 6 ++ .sl 19 3 1 (.lit 0) (.lit 4) :: .p (.int .i64 (.sym i)) :: undefs 274), [(4, .mix [.ptr 5 (.lit 0), .ptr 9 (.lit 0), .sl 10 3 1 (.lit 0) (.sym W), .p (.int .i64 (.sym ph)), .p (.int .i64 (.sym 0)), .p (.int .i64 (.sym 0))]), (5, .mix [.ptr 6 (.lit 0), .sl 8 3 1 (.lit 0) (.sym W)]), (6, .mix [.sl 7 161 2 (.lit 0) (.sym N)]), (7, .pure true L), (8, .pure true D6), (9, .pure false [.str fun _ => z6, .bool ov6]), (10, .pure true Q6), (11, .mix [.ptr 12 (.lit 0), .sl 17 3 1 (.lit 0) (.sym W), .ptr 18 (.lit 0), .p (.int .i64 (.sym ph)), .p (.int .i64 (.sym 0)), .p (.int .i64 (.sym 0))]), (12, .mix [.ptr 13 (.lit 0), .sl 16 3 1 (.lit 0) (.sym W)]), (13, .mix [.sl 14 3 1 (.lit 0) (.sym N), .sl 15 189 8 (.lit 0) (.sym N)]), (14, .pure true P), (15, .pure true B), (16, .pure true V6), (17, .pure true Qr6), (18, .mix [.p (.vsl (.sym m6) true la6), .p (.bool ov6)]), (0, .fix 0 o), (19, .pure true l4)], 20⟩ ∧ 0 ≤ i ∧ i ≤ 4 ∧ kk = (4 - i).toNat) 4 _
    (Re.at [(4, 4), (5, 5), (6, 6), (7, 7), (8, 8), (9, 9), (10, 10), (11, 11), (12, 12), (13, 13), (14, 14), (15, 15), (16, 16), (17, 17), (18, 18), (0, 0), (19, 19)] []) ⟨0, rfl, by omega, by omega, by omega⟩ ?_
  rintro kk s ⟨i, rfl, hi0, hi1, hkk⟩
  conv => cbv
  refine Br.mk (fun gi => ?_) (fun gi => ?_)
  · have gi : i < 4 := gi
    have hcl : ∃ a : Int, l4[i.toNat]? = some (.int .i64 (.sym a)) := by
      rw [hl4]
      have h4 : i.toNat = 0 ∨ i.toNat = 1 ∨ i.toNat = 2 ∨ i.toNat = 3 := by omega
      rcases h4 with e | e | e | e <;> rw [e] <;> exact ⟨_, rfl⟩
    obtain ⟨a, ha⟩ := hcl
    conv => cbv
    refine Need.mk (show 0 ≤ i ∧ i < 4 from ⟨hi0, gi⟩) ?_
    conv => cbv
    refine Cell.at i _ ha (by simp [I.val]) rfl ?_
    conv => cbv
    refine callF_frame (chan_lx R ws6 C6 G6 N W ph 0 0 L D6 Q6 z6 ov6 h6 a) [(0, 4), (1, 5), (2, 6), (3, 7), (4, 8), (5, 9), (6, 10)] rfl (by simp [hmapOk, nget, hget, renB, okB, renV, renVs, rn, okVs, okV]) rfl rfl (fun r h' n' hrr => ?_)
    obtain ⟨⟨yc0, yc1, yc2, yc3, yc4, yc5, yc6, yc7, yc8, ec, e1, hT⟩, e2, e3⟩ := hrr
    subst e1 e2 e3
    conv => cbv
    refine Need.mk (show 0 ≤ i ∧ i < 4 from ⟨hi0, gi⟩) ?_
    conv => cbv
    refine Cell.at i _ ha (by simp [I.val]) rfl ?_
    conv => cbv
    refine callF_frame (rchan_lx R vs6 C6 G6 N W ph 0 0 P B V6 Qr6 la6 m6 ov6 hr6 a) [(0, 11), (1, 12), (2, 13), (3, 14), (4, 15), (5, 16), (6, 17), (7, 18)] rfl (by simp [hmapOk, nget, hget, renB, okB, renV, renVs, rn, okVs, okV]) rfl rfl (fun r h' n' hrr => ?_)
    obtain ⟨⟨zc0, zc1, zc2, zc3, zc4, zc5, zc6, zc7, zc8, fc, e1, hT2⟩, e2, e3⟩ := hrr
    subst e1 e2 e3
    obtain ⟨hefc, hy⟩ := TR.sim hS6 hT hT2
    clear hT hT2
    simp only [List.cons.injEq, and_true] at hy
    obtain ⟨iyc0, iyc1, iyc2, iyc3, iyc4, iyc5, iyc6, iyc7, iyc8⟩ := hy
    conv => cbv
    refine Need.mk (show 0 ≤ i ∧ i < 4 from ⟨hi0, gi⟩) ?_
    conv => cbv
    refine Cell.at i _ ha (by simp [I.val]) rfl ?_
    conv => cbv
    refine callF_frame (sudog_lx R ws6 C6 G6 N W ph 0 0 L D6 Q6 z6 ov6 h6 a) [(0, 4), (1, 5), (2, 6), (3, 7), (4, 8), (5, 9), (6, 10)] rfl (by simp [hmapOk, nget, hget, renB, okB, renV, renVs, rn, okVs, okV]) rfl rfl (fun r h' n' hrr => ?_)
    obtain ⟨⟨ys0, ys1, ys2, ys3, ys4, ys5, ys6, es, e1, hT⟩, e2, e3⟩ := hrr
    subst e1 e2 e3
    conv => cbv
    refine Need.mk (show 0 ≤ i ∧ i < 4 from ⟨hi0, gi⟩) ?_
    conv => cbv
    refine Cell.at i _ ha (by simp [I.val]) rfl ?_
    conv => cbv
    refine callF_frame (rsudog_lx R vs6 C6 G6 N W ph 0 0 P B V6 Qr6 la6 m6 ov6 hr6 a) [(0, 11), (1, 12), (2, 13), (3, 14), (4, 15), (5, 16), (6, 17), (7, 18)] rfl (by simp [hmapOk, nget, hget, renB, okB, renV, renVs, rn, okVs, okV]) rfl rfl (fun r h' n' hrr => ?_)
    obtain ⟨⟨zs0, zs1, zs2, zs3, zs4, zs5, zs6, fs, e1, hT2⟩, e2, e3⟩ := hrr
    subst e1 e2 e3
    obtain ⟨hefs, hy⟩ := TR.sim hS6 hT hT2
    clear hT hT2
    simp only [List.cons.injEq, and_true] at hy
    obtain ⟨iys0, iys1, iys2, iys3, iys4, iys5, iys6⟩ := hy
    conv => cbv
    refine Need.mk (show 0 ≤ i ∧ i < 4 from ⟨hi0, gi⟩) ?_
    conv => cbv
    refine Cell.at i _ ha (by simp [I.val]) rfl ?_
    conv => cbv
    refine callF_frame (gor_lx R ws6 C6 G6 N W ph 0 0 L D6 Q6 z6 ov6 h6 a) [(0, 4), (1, 5), (2, 6), (3, 7), (4, 8), (5, 9), (6, 10)] rfl (by simp [hmapOk, nget, hget, renB, okB, renV, renVs, rn, okVs, okV]) rfl rfl (fun r h' n' hrr => ?_)
    obtain ⟨⟨yg0, yg1, yg2, yg3, yg4, yg5, yg6, yg7, yg8, yg9, eg, e1, hT⟩, e2, e3⟩ := hrr
    subst e1 e2 e3
    conv => cbv
    refine Need.mk (show 0 ≤ i ∧ i < 4 from ⟨hi0, gi⟩) ?_
    conv => cbv
    refine Cell.at i _ ha (by simp [I.val]) rfl ?_
    conv => cbv
    refine callF_frame (rgor_lx R vs6 C6 G6 N W ph 0 0 P B V6 Qr6 la6 m6 ov6 hr6 a) [(0, 11), (1, 12), (2, 13), (3, 14), (4, 15), (5, 16), (6, 17), (7, 18)] rfl (by simp [hmapOk, nget, hget, renB, okB, renV, renVs, rn, okVs, okV]) rfl rfl (fun r h' n' hrr => ?_)
    obtain ⟨⟨zg0, zg1, zg2, zg3, zg4, zg5, zg6, zg7, zg8, zg9, fg, e1, hT2⟩, e2, e3⟩ := hrr
    subst e1 e2 e3
    obtain ⟨hefg, hy⟩ := TR.sim hS6 hT hT2
    clear hT hT2
    simp only [List.cons.injEq, and_true] at hy
    obtain ⟨iyg0, iyg1, iyg2, iyg3, iyg4, iyg5, iyg6, iyg7, iyg8, iyg9⟩ := hy
    conv => cbv
    refine aggYes (by kernel_rfl) ⟨iyc0, iyc1, iyc2, iyc3, iyc4, iyc5, iyc6, iyc7, iyc8, trivial⟩ ?_
    conv => cbv
    refine Br.no (show ¬ ¬ (ec = fc) from fun q => q hefc) ?_
    conv => cbv
    refine aggYes (by kernel_rfl) ⟨iys0, iys1, iys2, iys3, iys4, iys5, iys6, trivial⟩ ?_
    conv => cbv
    refine Br.no (show ¬ ¬ (es = fs) from fun q => q hefs) ?_
    conv => cbv
    refine aggYes (by kernel_rfl) ⟨iyg0, iyg1, iyg2, iyg3, iyg4, iyg5, iyg6, iyg7, iyg8, iyg9, trivial⟩ ?_
    conv => cbv
    refine Br.no (show ¬ ¬ (eg = fg) from fun q => q hefg) ?_
    conv => cbv
    refine Fit.mk (by show (-9223372036854775808 : Int) ≤ i + 1; omega) (by show i + 1 ≤ 9223372036854775807; omega) fun i2 hi2 => ?_
    have hi2 : i2 = i + 1 := hi2
    conv => cbv
    refine Again.mk (4 - i2).toNat _ (by omega) (Re.at [(4, 4), (5, 5), (6, 6), (7, 7), (8, 8), (9, 9), (10, 10), (11, 11), (12, 12), (13, 13), (14, 14), (15, 15), (16, 16), (17, 17), (18, 18), (0, 0), (19, 19)] []) ⟨i2, rfl, by omega, by omega, rfl⟩
  · have gi : ¬ i < 4 := gi
    conv => cbv
    refine RetF.mk [.p (.bool true)] [(0, .fix 0 o)] 1 (Re.at [(0, 0)] []) rfl rfl
end Go.Proofs.YtolamdalijjlnaaGreatDoor
