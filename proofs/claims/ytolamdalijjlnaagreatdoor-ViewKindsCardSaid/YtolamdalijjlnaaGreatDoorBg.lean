/-
  The ground of the proof, part 7: the calculus and what is proved with it.
-/
import Derived.Test.YtolamdalijjlnaaGreatDoorBf
/-
  Layer 11: no heap.
-/
namespace Go.Proofs.YtolamdalijjlnaaGreatDoor

open Go Go.LX
set_option maxRecDepth 100000
set_option linter.unusedVariables false
set_option linter.unusedSimpArgs false

theorem seeNil_lx (a : I) : CallF (fun _ => Tryz.prog) 105 [.p .nilp, .p (.int .i64 a)] [] 0 (fun r h n => r = .iface 181 (.agg []) ∧ h = [] ∧ n = 0) := by
  refine callF_of_body tok Tryz.func105 (by kernel_rfl) rfl rfl rfl ?_; conv => cbv
  refine callF_frame arenaNil_lx [] rfl trivial rfl rfl (fun r h' n' ⟨e1, e2, e3⟩ => ?_)
  subst e1 e2 e3
  conv => cbv
  refine callF_frame (kind_nil a) [] rfl trivial rfl rfl (fun r h' n' ⟨e1, e2, e3⟩ => ?_)
  subst e1 e2 e3
  conv => cbv
  refine callF_frame (need_lx 0) [] rfl trivial rfl rfl (fun r h' n' hrr => ?_)
  obtain ⟨⟨v, b, e1, hv, hb⟩, e2, e3⟩ := hrr
  subst e1 e2 e3
  cases b with
  | true => exact absurd (hb.1 rfl) (by unfold hasV; decide)
  | false =>
    conv => cbv
    refine RetF.mk [.iface 181 (.agg [])] [] 0 (Re.at [] []) rfl ⟨rfl, rfl, rfl⟩
theorem chanNil_lx (a : I) : CallF (fun _ => Tryz.prog) 48 [.p .nilp, .p (.int .i64 a)] [] 0 (fun r h n => r = .tup [.agg [.p (.int .i64 (.sym 0)), .p (.int .i64 (.sym 0)), .p (.int .i64 (.sym 0)), .p (.int .i64 (.sym 0)), .p (.int .i64 (.sym 0)), .p (.int .i64 (.sym 0)), .p (.int .i64 (.sym 0)), .p (.int .i64 (.sym 0)), .p (.int .i64 (.sym 0))], .p (.int .i64 (.sym 2))] ∧ h = [] ∧ n = 0) := by
  refine callF_of_body tok Tryz.func48 (by kernel_rfl) rfl rfl rfl ?_; conv => cbv
  refine callF_frame (seeNil_lx a) [] rfl trivial rfl rfl (fun r h' n' ⟨e1, e2, e3⟩ => ?_)
  subst e1 e2 e3
  conv => cbv
  refine drawn_sound tok (by kernel_rfl) [(3, [0]), (4, [])] [0, 1, 2, 3, 4, 5] (by kernel_rfl) ?_; conv => cbv
  refine callF_frame (verdictNil_lx false) [] rfl trivial rfl rfl (fun r h' n' ⟨e1, e2, e3⟩ => ?_)
  subst e1 e2 e3
  conv => cbv
  refine RetF.mk [.agg [.p (.int .i64 (.sym 0)), .p (.int .i64 (.sym 0)), .p (.int .i64 (.sym 0)), .p (.int .i64 (.sym 0)), .p (.int .i64 (.sym 0)), .p (.int .i64 (.sym 0)), .p (.int .i64 (.sym 0)), .p (.int .i64 (.sym 0)), .p (.int .i64 (.sym 0))], .p (.int .i64 (.sym 2))] [] 0 (Re.at [] []) rfl ⟨rfl, rfl, rfl⟩
theorem sudogNil_lx (a : I) : CallF (fun _ => Tryz.prog) 50 [.p .nilp, .p (.int .i64 a)] [] 0 (fun r h n => r = .tup [.agg [.p (.int .i64 (.sym 0)), .p (.int .i64 (.sym 0)), .p (.int .i64 (.sym 0)), .p (.int .i64 (.sym 0)), .p (.int .i64 (.sym 0)), .p (.int .i64 (.sym 0)), .p (.int .i64 (.sym 0))], .p (.int .i64 (.sym 2))] ∧ h = [] ∧ n = 0) := by
  refine callF_of_body tok Tryz.func50 (by kernel_rfl) rfl rfl rfl ?_; conv => cbv
  refine callF_frame (seeNil_lx a) [] rfl trivial rfl rfl (fun r h' n' ⟨e1, e2, e3⟩ => ?_)
  subst e1 e2 e3
  conv => cbv
  refine drawn_sound tok (by kernel_rfl) [(3, [0]), (4, [])] [0, 1, 2, 3, 4, 5] (by kernel_rfl) ?_; conv => cbv
  refine callF_frame (verdictNil_lx false) [] rfl trivial rfl rfl (fun r h' n' ⟨e1, e2, e3⟩ => ?_)
  subst e1 e2 e3
  conv => cbv
  refine RetF.mk [.agg [.p (.int .i64 (.sym 0)), .p (.int .i64 (.sym 0)), .p (.int .i64 (.sym 0)), .p (.int .i64 (.sym 0)), .p (.int .i64 (.sym 0)), .p (.int .i64 (.sym 0)), .p (.int .i64 (.sym 0))], .p (.int .i64 (.sym 2))] [] 0 (Re.at [] []) rfl ⟨rfl, rfl, rfl⟩
theorem gorNil_lx (a : I) : CallF (fun _ => Tryz.prog) 52 [.p .nilp, .p (.int .i64 a)] [] 0 (fun r h n => r = .tup [.agg [.p (.int .i64 (.sym 0)), .p (.int .i64 (.sym 0)), .p (.int .i64 (.sym 0)), .p (.int .i64 (.sym 0)), .p (.int .i64 (.sym 0)), .p (.int .i64 (.sym 0)), .p (.int .i64 (.sym 0)), .p (.int .i64 (.sym 0)), .p (.int .i64 (.sym 0)), .p (.int .i64 (.sym 0))], .p (.int .i64 (.sym 2))] ∧ h = [] ∧ n = 0) := by
  refine callF_of_body tok Tryz.func52 (by kernel_rfl) rfl rfl rfl ?_; conv => cbv
  refine callF_frame (seeNil_lx a) [] rfl trivial rfl rfl (fun r h' n' ⟨e1, e2, e3⟩ => ?_)
  subst e1 e2 e3
  conv => cbv
  refine drawn_sound tok (by kernel_rfl) [(3, [0]), (4, [])] [0, 1, 2, 3, 4, 5] (by kernel_rfl) ?_; conv => cbv
  refine callF_frame (verdictNil_lx false) [] rfl trivial rfl rfl (fun r h' n' ⟨e1, e2, e3⟩ => ?_)
  subst e1 e2 e3
  conv => cbv
  refine RetF.mk [.agg [.p (.int .i64 (.sym 0)), .p (.int .i64 (.sym 0)), .p (.int .i64 (.sym 0)), .p (.int .i64 (.sym 0)), .p (.int .i64 (.sym 0)), .p (.int .i64 (.sym 0)), .p (.int .i64 (.sym 0)), .p (.int .i64 (.sym 0)), .p (.int .i64 (.sym 0)), .p (.int .i64 (.sym 0))], .p (.int .i64 (.sym 2))] [] 0 (Re.at [] []) rfl ⟨rfl, rfl, rfl⟩
theorem putNil_lx (m e : Int) (a : I) (O : List PV) (he : e ≠ 0) : CallF (fun _ => Tryz.prog) 98 [.p .nilp, .p (.int .i64 a), .p (.vsl (.sym m) true O), .p (.int .i64 (.sym e))] [] 0 (fun r h n => r = .p (.int .i64 (.sym e)) ∧ h = [] ∧ n = 0) := by
  refine callF_of_body tok Tryz.func98 (by kernel_rfl) rfl rfl rfl ?_; conv => cbv
  refine Br.yes (show ¬ e = 0 from he) ?_
  conv => cbv
  refine RetF.mk [.p (.int .i64 (.sym e))] [] 0 (Re.at [] []) rfl ⟨rfl, rfl, rfl⟩
set_option maxHeartbeats 2000000 in
theorem putChanNil_lx (a : I) (x0 x1 x2 x3 x4 x5 x6 x7 x8 : Int) (hb : ∀ x ∈ [x0, x1, x2, x3, x4, x5, x6, x7, x8], b62 x) : CallF (fun _ => Tryz.prog) 40 [.p .nilp, .p (.int .i64 a), .agg [.p (.int .i64 (.sym x0)), .p (.int .i64 (.sym x1)), .p (.int .i64 (.sym x2)), .p (.int .i64 (.sym x3)), .p (.int .i64 (.sym x4)), .p (.int .i64 (.sym x5)), .p (.int .i64 (.sym x6)), .p (.int .i64 (.sym x7)), .p (.int .i64 (.sym x8))]] [] 0 (fun r h n => r = .p (.int .i64 (.sym 2)) ∧ h = [] ∧ n = 0) := by
  refine callF_of_body tok Tryz.func40 (by kernel_rfl) rfl rfl rfl ?_; conv => cbv
  refine callF_frame (chanNil_lx a) [] rfl trivial rfl rfl (fun r h' n' ⟨e1, e2, e3⟩ => ?_)
  subst e1 e2 e3
  conv => cbv
  refine callF_frame (chanWords_lx x0 x1 x2 x3 x4 x5 x6 x7 x8 hb) [] rfl trivial rfl rfl (fun r h' n' hrr => ?_)
  obtain ⟨⟨v0, v1, v2, v3, v4, v5, v6, v7, v8, e1, hv⟩, e2, e3⟩ := hrr
  subst e1 e2 e3
  conv => cbv
  refine CallF.le (args0 := [.p .nilp, .p (.int .i64 a), .p (.vsl (.sym 9) true [.int .i64 (.sym v0), .int .i64 (.sym v1), .int .i64 (.sym v2), .int .i64 (.sym v3), .int .i64 (.sym v4), .int .i64 (.sym v5), .int .i64 (.sym v6), .int .i64 (.sym v7), .int .i64 (.sym v8)]), .p (.int .i64 (.sym 2))]) (callF_frame (putNil_lx 9 2 a [.int .i64 (.sym v0), .int .i64 (.sym v1), .int .i64 (.sym v2), .int .i64 (.sym v3), .int .i64 (.sym v4), .int .i64 (.sym v5), .int .i64 (.sym v6), .int .i64 (.sym v7), .int .i64 (.sym v8)] (by decide)) [] rfl trivial rfl rfl (fun r h' n' ⟨e1, e2, e3⟩ => ?_)) (by simp [ales, ale, pvle, I.val])
  subst e1 e2 e3
  conv => cbv
  refine RetF.mk [.p (.int .i64 (.sym 2))] [] 0 (Re.at [] []) rfl ⟨rfl, rfl, rfl⟩
set_option maxHeartbeats 2000000 in
theorem putSudogNil_lx (a : I) (x0 x1 x2 x3 x4 x5 x6 : Int) (hb : ∀ x ∈ [x0, x1, x3, x4, x5, x6], b62 x) : CallF (fun _ => Tryz.prog) 42 [.p .nilp, .p (.int .i64 a), .agg [.p (.int .i64 (.sym x0)), .p (.int .i64 (.sym x1)), .p (.int .i64 (.sym x2)), .p (.int .i64 (.sym x3)), .p (.int .i64 (.sym x4)), .p (.int .i64 (.sym x5)), .p (.int .i64 (.sym x6))]] [] 0 (fun r h n => r = .p (.int .i64 (.sym 2)) ∧ h = [] ∧ n = 0) := by
  refine callF_of_body tok Tryz.func42 (by kernel_rfl) rfl rfl rfl ?_; conv => cbv
  refine callF_frame (sudogNil_lx a) [] rfl trivial rfl rfl (fun r h' n' ⟨e1, e2, e3⟩ => ?_)
  subst e1 e2 e3
  conv => cbv
  refine callF_frame (sudogWords_lx x0 x1 x2 x3 x4 x5 x6 hb) [] rfl trivial rfl rfl (fun r h' n' hrr => ?_)
  obtain ⟨⟨v0, v1, v2, v3, v4, v5, v6, e1, hv⟩, e2, e3⟩ := hrr
  subst e1 e2 e3
  conv => cbv
  refine CallF.le (args0 := [.p .nilp, .p (.int .i64 a), .p (.vsl (.sym 7) true [.int .i64 (.sym v0), .int .i64 (.sym v1), .int .i64 (.sym v2), .int .i64 (.sym v3), .int .i64 (.sym v4), .int .i64 (.sym v5), .int .i64 (.sym v6)]), .p (.int .i64 (.sym 2))]) (callF_frame (putNil_lx 7 2 a [.int .i64 (.sym v0), .int .i64 (.sym v1), .int .i64 (.sym v2), .int .i64 (.sym v3), .int .i64 (.sym v4), .int .i64 (.sym v5), .int .i64 (.sym v6)] (by decide)) [] rfl trivial rfl rfl (fun r h' n' ⟨e1, e2, e3⟩ => ?_)) (by simp [ales, ale, pvle, I.val])
  subst e1 e2 e3
  conv => cbv
  refine RetF.mk [.p (.int .i64 (.sym 2))] [] 0 (Re.at [] []) rfl ⟨rfl, rfl, rfl⟩
set_option maxHeartbeats 2000000 in
theorem putGorNil_lx (a : I) (x0 x1 x2 x3 x4 x5 x6 x7 x8 x9 : Int) (hb : ∀ x ∈ [x0, x1, x2, x9], b62 x) : CallF (fun _ => Tryz.prog) 44 [.p .nilp, .p (.int .i64 a), .agg [.p (.int .i64 (.sym x0)), .p (.int .i64 (.sym x1)), .p (.int .i64 (.sym x2)), .p (.int .i64 (.sym x3)), .p (.int .i64 (.sym x4)), .p (.int .i64 (.sym x5)), .p (.int .i64 (.sym x6)), .p (.int .i64 (.sym x7)), .p (.int .i64 (.sym x8)), .p (.int .i64 (.sym x9))]] [] 0 (fun r h n => r = .p (.int .i64 (.sym 2)) ∧ h = [] ∧ n = 0) := by
  refine callF_of_body tok Tryz.func44 (by kernel_rfl) rfl rfl rfl ?_; conv => cbv
  refine callF_frame (gorNil_lx a) [] rfl trivial rfl rfl (fun r h' n' ⟨e1, e2, e3⟩ => ?_)
  subst e1 e2 e3
  conv => cbv
  refine callF_frame (gorWords_lx x0 x1 x2 x3 x4 x5 x6 x7 x8 x9 hb) [] rfl trivial rfl rfl (fun r h' n' hrr => ?_)
  obtain ⟨⟨v0, v1, v2, v3, v4, v5, v6, v7, v8, v9, e1, hv⟩, e2, e3⟩ := hrr
  subst e1 e2 e3
  conv => cbv
  refine CallF.le (args0 := [.p .nilp, .p (.int .i64 a), .p (.vsl (.sym 10) true [.int .i64 (.sym v0), .int .i64 (.sym v1), .int .i64 (.sym v2), .int .i64 (.sym v3), .int .i64 (.sym v4), .int .i64 (.sym v5), .int .i64 (.sym v6), .int .i64 (.sym v7), .int .i64 (.sym v8), .int .i64 (.sym v9)]), .p (.int .i64 (.sym 2))]) (callF_frame (putNil_lx 10 2 a [.int .i64 (.sym v0), .int .i64 (.sym v1), .int .i64 (.sym v2), .int .i64 (.sym v3), .int .i64 (.sym v4), .int .i64 (.sym v5), .int .i64 (.sym v6), .int .i64 (.sym v7), .int .i64 (.sym v8), .int .i64 (.sym v9)] (by decide)) [] rfl trivial rfl rfl (fun r h' n' ⟨e1, e2, e3⟩ => ?_)) (by simp [ales, ale, pvle, I.val])
  subst e1 e2 e3
  conv => cbv
  refine RetF.mk [.p (.int .i64 (.sym 2))] [] 0 (Re.at [] []) rfl ⟨rfl, rfl, rfl⟩
end Go.Proofs.YtolamdalijjlnaaGreatDoor
