/-
  Layer 11: ViewKinds.
-/
import Derived.Test.YtolamdalijjlnaaGreatDoorBg

namespace Go.Proofs.YtolamdalijjlnaaGreatDoor

open Go Go.LX
set_option maxRecDepth 100000
set_option linter.unusedVariables false
set_option linter.unusedSimpArgs false

theorem TR.none {kd ln kd2 ln2 : Int} {fs : List Int → List Int} {R : List Rw} {ws : List Int} {a e : Int} {y : List Int} (hT : TR kd ln fs R ws a e y) (hK : Kept R ws a kd2 ln2) (hk : kd2 ≠ kd) : e = 10 := by
  rcases hT.two with ⟨_, k⟩ | ⟨e, _⟩
  · exact absurd (hK.det9 k).1 hk
  · exact e
theorem PT.none {kd ln kd2 ln2 : Int} {Wl : List Int} {R : List Rw} {ph a e : Int} {s s' : St4} (hT : PT kd ln Wl R ph a s e s') (hK : Kept R s.1 a kd2 ln2) (hk : kd2 ≠ kd) : e = 10 ∧ s' = s := by
  rcases hT.two with ⟨_, k, _⟩ | ⟨e, _, q⟩
  · exact absurd (hK.det9 k).1 hk
  · exact ⟨e, q⟩
set_option maxHeartbeats 16000000 in
theorem viewKinds_law (o : Unit → Obj) (ho : IsPow o) (at_ : Int) : CallF (fun _ => Tryz.prog) 8 [.p (.int .i64 (.sym at_))] [(0, .fix 0 o)] 1 (fun r _ _ => r = .p (.bool true)) := by
  refine callF_of_body tok Tryz.func8 (by kernel_rfl) rfl rfl rfl ?_; conv => cbv
  refine callF_frame (both_lx o ho false) [(0, 0)] rfl (by simp [hmapOk, nget, hget, renB, okB, renV, renVs, rn, okVs, okV]) rfl rfl (fun r h' n' hrr => ?_)
  obtain ⟨R, ws, vs, C, N, W, ph, L, D, Q, z, ov, P, B, V, Qr, la, m, r1, r2, r3, r4, e1, e2, e3, h, hr, hS, hQ, hC, hN, hph⟩ := hrr
  subst e1 e2 e3
  conv => cbv
  refine callF_frame (awake11_lx o ho) [(0, 0)] rfl (by simp [hmapOk, nget, hget, renB, okB, renV, renVs, rn, okVs, okV]) rfl rfl (fun r h' n' ⟨e1, e2, e3⟩ => ?_)
  subst e1 e2 e3
  conv => cbv
  refine callF_frame (places_lx R vs C [] N W ph 0 0 P B V Qr la m ov hr r1 r2 r3 r4 (hQ.sim hS)) [(0, 8), (1, 9), (2, 10), (3, 11), (4, 12), (5, 13), (6, 14), (7, 15)] rfl (by simp [hmapOk, nget, hget, renB, okB, renV, renVs, rn, okVs, okV]) rfl rfl (fun r h' n' ⟨e1, e2, e3⟩ => ?_)
  subst e1 e2 e3
  conv => cbv
  refine callF_frame (chan_lx R ws C [] N W ph 0 0 L D Q z ov h r2) [(0, 1), (1, 2), (2, 3), (3, 4), (4, 5), (5, 6), (6, 7)] rfl (by simp [hmapOk, nget, hget, renB, okB, renV, renVs, rn, okVs, okV]) rfl rfl (fun r h' n' hrr => ?_)
  obtain ⟨⟨y0, y1, y2, y3, y4, y5, y6, y7, y8, a1, e1, hT⟩, e2, e3⟩ := hrr
  subst e1 e2 e3
  have ha1 := hT.none hQ.k2 (by decide)
  clear hT
  conv => cbv
  refine callF_frame (sudog_lx R ws C [] N W ph 0 0 L D Q z ov h r3) [(0, 1), (1, 2), (2, 3), (3, 4), (4, 5), (5, 6), (6, 7)] rfl (by simp [hmapOk, nget, hget, renB, okB, renV, renVs, rn, okVs, okV]) rfl rfl (fun r h' n' hrr => ?_)
  obtain ⟨⟨y0, y1, y2, y3, y4, y5, y6, a2, e1, hT⟩, e2, e3⟩ := hrr
  subst e1 e2 e3
  have ha2 := hT.none hQ.k3 (by decide)
  clear hT
  conv => cbv
  refine callF_frame (gor_lx R ws C [] N W ph 0 0 L D Q z ov h r4) [(0, 1), (1, 2), (2, 3), (3, 4), (4, 5), (5, 6), (6, 7)] rfl (by simp [hmapOk, nget, hget, renB, okB, renV, renVs, rn, okVs, okV]) rfl rfl (fun r h' n' hrr => ?_)
  obtain ⟨⟨y0, y1, y2, y3, y4, y5, y6, y7, y8, y9, a3, e1, hT⟩, e2, e3⟩ := hrr
  subst e1 e2 e3
  have ha3 := hT.none hQ.k4 (by decide)
  clear hT
  conv => cbv
  refine callF_frame (chanNil_lx (.sym at_)) [] rfl trivial rfl rfl (fun r h' n' ⟨e1, e2, e3⟩ => ?_)
  subst e1 e2 e3
  conv => cbv
  refine callF_frame (sudogNil_lx (.sym at_)) [] rfl trivial rfl rfl (fun r h' n' ⟨e1, e2, e3⟩ => ?_)
  subst e1 e2 e3
  conv => cbv
  refine callF_frame (gorNil_lx (.sym at_)) [] rfl trivial rfl rfl (fun r h' n' ⟨e1, e2, e3⟩ => ?_)
  subst e1 e2 e3
  conv => cbv
  refine Br.yes (show a1 = 10 from ha1) ?_
  conv => cbv
  refine Br.yes (show a2 = 10 from ha2) ?_
  conv => cbv
  refine Br.yes (show a3 = 10 from ha3) ?_
  conv => cbv
  refine Br.yes (show (2 : Int) = 2 from rfl) ?_
  conv => cbv
  refine Br.yes (show (2 : Int) = 2 from rfl) ?_
  conv => cbv
  refine Br.yes (show (2 : Int) = 2 from rfl) ?_
  conv => cbv
  have hQ0 := hQ
  refine CallF.le (args0 := [.ptr 1 (.lit 0), .p (.int .i64 (.sym r4)), .agg [.p (.int .i64 (.sym 0)), .p (.int .i64 (.sym 0)), .p (.int .i64 (.sym 0)), .p (.int .i64 (.sym 0)), .p (.int .i64 (.sym 0)), .p (.int .i64 (.sym 0)), .p (.int .i64 (.sym 0)), .p (.int .i64 (.sym 0)), .p (.int .i64 (.sym 0))]]) (callF_frame (putChan_lx R ws C [] N W ph 0 0 L D Q z ov h o ho r4 0 0 0 0 0 0 0 0 0 (by simp [b62])) [(0, 1), (1, 2), (2, 3), (3, 4), (4, 5), (5, 6), (6, 7), (7, 0)] rfl (by simp [hmapOk, nget, hget, renB, okB, renV, renVs, rn, okVs, okV]) rfl rfl (fun r h' n' hrr => ?_)) (by simp [ales, ale, pvle, I.val])
  obtain ⟨p1, ws1, C1, G1, ov1, D1, Q1, z1, e1, e2, e3, h1, hP⟩ := hrr
  subst e1 e2 e3
  obtain ⟨hp1, hq⟩ := hP.none hQ0.k4 (by decide)
  clear hP
  have hQ1 : Quad R ws1 r1 r2 r3 r4 := by cases hq; exact hQ0
  clear hq
  conv => cbv
  refine Br.yes (show p1 = 10 from hp1) ?_
  conv => cbv
  refine CallF.le (args0 := [.ptr 1 (.lit 0), .p (.int .i64 (.sym r1)), .agg [.p (.int .i64 (.sym 0)), .p (.int .i64 (.sym 0)), .p (.int .i64 (.sym 0)), .p (.int .i64 (.sym 0)), .p (.int .i64 (.sym 0)), .p (.int .i64 (.sym 0)), .p (.int .i64 (.sym 0))]]) (callF_frame (putSudog_lx R ws1 C1 G1 N W ph 0 0 L D1 Q1 z1 ov1 h1 o ho r1 0 0 0 0 0 0 0 (by simp [b62]) (by simp)) [(0, 1), (1, 2), (2, 3), (3, 4), (4, 5), (5, 6), (6, 7), (7, 0)] rfl (by simp [hmapOk, nget, hget, renB, okB, renV, renVs, rn, okVs, okV]) rfl rfl (fun r h' n' hrr => ?_)) (by simp [ales, ale, pvle, I.val])
  obtain ⟨p2, ws2, C2, G2, ov2, D2, Q2, z2, e1, e2, e3, h2, hP⟩ := hrr
  subst e1 e2 e3
  obtain ⟨hp2, hq⟩ := hP.none hQ1.k1 (by decide)
  clear hP
  have hQ2 : Quad R ws2 r1 r2 r3 r4 := by cases hq; exact hQ1
  clear hq
  conv => cbv
  refine Br.yes (show p2 = 10 from hp2) ?_
  conv => cbv
  refine CallF.le (args0 := [.ptr 1 (.lit 0), .p (.int .i64 (.sym r2)), .agg [.p (.int .i64 (.sym 0)), .p (.int .i64 (.sym 0)), .p (.int .i64 (.sym 0)), .p (.int .i64 (.sym 0)), .p (.int .i64 (.sym 0)), .p (.int .i64 (.sym 0)), .p (.int .i64 (.sym 0)), .p (.int .i64 (.sym 0)), .p (.int .i64 (.sym 0)), .p (.int .i64 (.sym 0))]]) (callF_frame (putGor_lx R ws2 C2 G2 N W ph 0 0 L D2 Q2 z2 ov2 h2 o ho r2 0 0 0 0 0 0 0 0 0 0 (by simp [b62]) (by simp)) [(0, 1), (1, 2), (2, 3), (3, 4), (4, 5), (5, 6), (6, 7), (7, 0)] rfl (by simp [hmapOk, nget, hget, renB, okB, renV, renVs, rn, okVs, okV]) rfl rfl (fun r h' n' hrr => ?_)) (by simp [ales, ale, pvle, I.val])
  obtain ⟨p3, ws3, C3, G3, ov3, D3, Q3, z3, e1, e2, e3, h3, hP⟩ := hrr
  subst e1 e2 e3
  obtain ⟨hp3, hq⟩ := hP.none hQ2.k2 (by decide)
  clear hP
  have hQ3 : Quad R ws3 r1 r2 r3 r4 := by cases hq; exact hQ2
  clear hq
  conv => cbv
  refine Br.yes (show p3 = 10 from hp3) ?_
  conv => cbv
  refine CallF.le (args0 := [.p .nilp, .p (.int .i64 (.sym at_)), .agg [.p (.int .i64 (.sym 0)), .p (.int .i64 (.sym 0)), .p (.int .i64 (.sym 0)), .p (.int .i64 (.sym 0)), .p (.int .i64 (.sym 0)), .p (.int .i64 (.sym 0)), .p (.int .i64 (.sym 0)), .p (.int .i64 (.sym 0)), .p (.int .i64 (.sym 0))]]) (callF_frame (putChanNil_lx (.sym at_) 0 0 0 0 0 0 0 0 0 (by simp [b62])) [] rfl trivial rfl rfl (fun r h' n' ⟨e1, e2, e3⟩ => ?_)) (by simp [ales, ale, pvle, I.val])
  subst e1 e2 e3
  conv => cbv
  refine Br.yes (show (2 : Int) = 2 from rfl) ?_
  conv => cbv
  refine CallF.le (args0 := [.p .nilp, .p (.int .i64 (.sym at_)), .agg [.p (.int .i64 (.sym 0)), .p (.int .i64 (.sym 0)), .p (.int .i64 (.sym 0)), .p (.int .i64 (.sym 0)), .p (.int .i64 (.sym 0)), .p (.int .i64 (.sym 0)), .p (.int .i64 (.sym 0))]]) (callF_frame (putSudogNil_lx (.sym at_) 0 0 0 0 0 0 0 (by simp [b62])) [] rfl trivial rfl rfl (fun r h' n' ⟨e1, e2, e3⟩ => ?_)) (by simp [ales, ale, pvle, I.val])
  subst e1 e2 e3
  conv => cbv
  refine Br.yes (show (2 : Int) = 2 from rfl) ?_
  conv => cbv
  refine CallF.le (args0 := [.p .nilp, .p (.int .i64 (.sym at_)), .agg [.p (.int .i64 (.sym 0)), .p (.int .i64 (.sym 0)), .p (.int .i64 (.sym 0)), .p (.int .i64 (.sym 0)), .p (.int .i64 (.sym 0)), .p (.int .i64 (.sym 0)), .p (.int .i64 (.sym 0)), .p (.int .i64 (.sym 0)), .p (.int .i64 (.sym 0)), .p (.int .i64 (.sym 0))]]) (callF_frame (putGorNil_lx (.sym at_) 0 0 0 0 0 0 0 0 0 0 (by simp [b62])) [] rfl trivial rfl rfl (fun r h' n' ⟨e1, e2, e3⟩ => ?_)) (by simp [ales, ale, pvle, I.val])
  subst e1 e2 e3
  conv => cbv
  refine Br.yes (show (2 : Int) = 2 from rfl) ?_
  conv => cbv
  refine RetF.mk [.p (.bool true)] [(0, .fix 0 o)] 1 (Re.at [(0, 0)] []) rfl rfl
end Go.Proofs.YtolamdalijjlnaaGreatDoor
