/-
  CheckRegs: the law.
-/
import Derived.Test.YtnbloimkagabjaaDoorCd

namespace Go.Proofs.YtnbloimkagabjaaDoor

open Go Go.LX
set_option maxRecDepth 100000
set_option linter.unusedVariables false
set_option linter.unusedSimpArgs false

theorem may_one (X : Is) (hX : XI64 X) (hcs : X.cs = []) : MayP X ↔ Shp X ∧ BndP X := by
  unfold MayP
  rw [okay_one X hX (by rw [hcs]; show 0 ≤ 20; decide), hcs]
  constructor
  · rintro ⟨_, h2, h3⟩
    refine ⟨h3, ?_⟩
    unfold mostV at h2
    unfold BndP
    refine ⟨fun h => ?_, fun h => ?_, fun h => ?_, fun h => ?_⟩
    · rw [if_pos h] at h2; exact h2
    · rw [if_neg (by omega), if_pos h] at h2; exact h2
    · rw [if_neg (by omega), if_neg (by omega), if_pos h] at h2; exact h2
    · rw [if_neg (by omega), if_neg (by omega), if_neg (by omega), if_pos h] at h2; omega
  · rintro ⟨h3, h2⟩
    refine ⟨by simp, ?_, h3⟩
    have hn : X.n ≤ 9999 := by
      have hs := h3
      unfold Shp at hs
      split at hs
      · omega
      · rename_i h21
        have := (shp_iff X hs.1 h21 hcs).1 h3
        have h9 := this.2.2
        split at h9
        · omega
        split at h9
        · omega
        · omega
    unfold BndP at h2
    unfold mostV
    repeat' split
    all_goals omega
set_option maxHeartbeats 4000000 in
theorem rValid1_lx (X : Is) (op a b n : Int) (h1 : op = X.op) (h2 : a = X.a) (h3 : b = X.b) (h4 : n = X.n) (hcs : X.cs = []) (hX : XI64 X) : CallF (fun _ => Tryd.prog) 25 [.p (.vsl (.sym 1) true [.int .i64 (.sym op), .int .i64 (.sym a), .int .i64 (.sym b), .int .i64 (.sym n), .vsl (.sym 0) true []])] [] 0 (fun r h n' => (∃ at_ e : Int, r = .tup [.p (.int .i64 (.sym at_)), .p (.int .i64 (.sym e))] ∧ ValidP [X] at_ e) ∧ h = [] ∧ n' = 0) := by
  refine callF_of_body tok Tryd.func25 (by kernel_rfl) rfl rfl rfl ?_; conv => cbv
  refine Br.no (by show ¬ (1 : Int) = 0; decide) ?_
  conv => cbv
  refine Br.no (by show ¬ (60 : Int) < 1; decide) ?_
  conv => cbv
  refine LoopF.rounds 2 ?_
  conv => cbv
  refine Br.yes (by show (0 : Int) < 1; decide) ?_
  conv => cbv
  refine Need.mk ⟨by show (0 : Int) ≤ 0; decide, by show (0 : Int) < 1; decide⟩ ?_
  conv => cbv
  refine Cell.at 0 0 rfl rfl rfl ?_
  conv => cbv
  refine Cell.at 1 1 rfl rfl rfl ?_
  conv => cbv
  refine Cell.at 2 2 rfl rfl rfl ?_
  conv => cbv
  refine Cell.at 3 3 rfl rfl rfl ?_
  conv => cbv
  refine Cell.at 4 4 rfl rfl rfl ?_
  conv => cbv
  refine callF_frame (shaped1_lx X op a b n h1 h2 h3 h4 hcs) [] rfl trivial rfl rfl (fun r2 h' n' hrr => ?_)
  obtain ⟨⟨q1, e1, hq1⟩, e2, e3⟩ := hrr
  subst e1 e2 e3
  have hmo := may_one X hX hcs
  have hfin : ∀ e : Int, ((¬ MayP X ∧ e = 5) ∨ (MayP X ∧ ¬ LeadP X 1 ∧ e = 6)) → ValidP [X] 1 e := fun e he => .inr (.inr (.inr ⟨by simp, by show 1 ≤ 60; decide, 0, X, rfl, (fun y hy => by simp at hy), rfl, he⟩))
  cases q1 with
  | false =>
    have hno : ¬ MayP X := fun h => by have := hq1.2 (hmo.1 h).1; cases this
    conv => cbv
    refine RetF.mk [.p (.int .i64 (.sym 1)), .p (.int .i64 (.sym 5))] [] 0 (Re.at [] []) rfl ⟨⟨1, 5, rfl, hfin 5 (.inl ⟨hno, rfl⟩)⟩, rfl, rfl⟩
  | true =>
  have hy1 := hq1.1 rfl
  conv => cbv
  refine callF_frame (bounded1_lx X op a b n h1 h4) [] rfl trivial rfl rfl (fun r2 h' n' hrr => ?_)
  obtain ⟨⟨q2, e1, hq2⟩, e2, e3⟩ := hrr
  subst e1 e2 e3
  cases q2 with
  | false =>
    have hno : ¬ MayP X := fun h => by have := hq2.2 (hmo.1 h).2; cases this
    conv => cbv
    refine RetF.mk [.p (.int .i64 (.sym 1)), .p (.int .i64 (.sym 5))] [] 0 (Re.at [] []) rfl ⟨⟨1, 5, rfl, hfin 5 (.inl ⟨hno, rfl⟩)⟩, rfl, rfl⟩
  | true =>
  have hy2 : MayP X := hmo.2 ⟨hy1, hq2.1 rfl⟩
  have hlead : LeadP X 1 ↔ ((op = 10 ∨ op = 11 ∨ op = 12) → n < 1) := by
    have e : X = ⟨X.op, X.a, X.b, X.n, []⟩ := by cases X; simp only at hcs; subst hcs; rfl
    rw [e, lead_plain, h1, h4]
  have hgood : LeadP X 1 → ValidP [X] 0 0 := fun h => .inr (.inr (.inl ⟨by simp, by show 1 ≤ 60; decide, (fun y hy => by rw [List.mem_singleton] at hy; subst hy; exact ⟨hy2, h⟩), rfl, rfl⟩))
  conv => cbv
  refine Br.mk (fun g10 => ?_) (fun g10 => ?_)
  case refine_1 =>
    have g10 : op = 10 := g10
    conv => cbv
    refine Br.mk (fun g2 => ?_) (fun g2 => ?_)
    · have g2 : 1 ≤ n := g2
      conv => cbv
      refine RetF.mk [.p (.int .i64 (.sym 1)), .p (.int .i64 (.sym 6))] [] 0 (Re.at [] []) rfl ⟨⟨1, 6, rfl, hfin 6 (.inr ⟨hy2, (by rw [hlead]; omega), rfl⟩)⟩, rfl, rfl⟩
    · have g2 : ¬ 1 ≤ n := g2
      conv => cbv
      refine LoopF.rounds 1 ?_
      conv => cbv
      refine Br.no (by show ¬ (0 : Int) < 0; decide) ?_
      conv => cbv
      refine Br.no (by show ¬ (1 : Int) < 1; decide) ?_
      conv => cbv
      refine RetF.mk [.p (.int .i64 (.sym 0)), .p (.int .i64 (.sym 0))] [] 0 (Re.at [] []) rfl ⟨⟨0, 0, rfl, hgood (by rw [hlead]; omega)⟩, rfl, rfl⟩
  have g10 : ¬ op = 10 := g10
  conv => cbv
  refine Br.mk (fun g11 => ?_) (fun g11 => ?_)
  case refine_1 =>
    have g11 : op = 11 := g11
    conv => cbv
    refine Br.mk (fun g2 => ?_) (fun g2 => ?_)
    · have g2 : 1 ≤ n := g2
      conv => cbv
      refine RetF.mk [.p (.int .i64 (.sym 1)), .p (.int .i64 (.sym 6))] [] 0 (Re.at [] []) rfl ⟨⟨1, 6, rfl, hfin 6 (.inr ⟨hy2, (by rw [hlead]; omega), rfl⟩)⟩, rfl, rfl⟩
    · have g2 : ¬ 1 ≤ n := g2
      conv => cbv
      refine LoopF.rounds 1 ?_
      conv => cbv
      refine Br.no (by show ¬ (0 : Int) < 0; decide) ?_
      conv => cbv
      refine Br.no (by show ¬ (1 : Int) < 1; decide) ?_
      conv => cbv
      refine RetF.mk [.p (.int .i64 (.sym 0)), .p (.int .i64 (.sym 0))] [] 0 (Re.at [] []) rfl ⟨⟨0, 0, rfl, hgood (by rw [hlead]; omega)⟩, rfl, rfl⟩
  have g11 : ¬ op = 11 := g11
  conv => cbv
  refine Br.mk (fun g12 => ?_) (fun g12 => ?_)
  case refine_1 =>
    have g12 : op = 12 := g12
    conv => cbv
    refine Br.mk (fun g2 => ?_) (fun g2 => ?_)
    · have g2 : 1 ≤ n := g2
      conv => cbv
      refine RetF.mk [.p (.int .i64 (.sym 1)), .p (.int .i64 (.sym 6))] [] 0 (Re.at [] []) rfl ⟨⟨1, 6, rfl, hfin 6 (.inr ⟨hy2, (by rw [hlead]; omega), rfl⟩)⟩, rfl, rfl⟩
    · have g2 : ¬ 1 ≤ n := g2
      conv => cbv
      refine LoopF.rounds 1 ?_
      conv => cbv
      refine Br.no (by show ¬ (0 : Int) < 0; decide) ?_
      conv => cbv
      refine Br.no (by show ¬ (1 : Int) < 1; decide) ?_
      conv => cbv
      refine RetF.mk [.p (.int .i64 (.sym 0)), .p (.int .i64 (.sym 0))] [] 0 (Re.at [] []) rfl ⟨⟨0, 0, rfl, hgood (by rw [hlead]; omega)⟩, rfl, rfl⟩
  have g12 : ¬ op = 12 := g12
  conv => cbv
  refine LoopF.rounds 1 ?_
  conv => cbv
  refine Br.no (by show ¬ (0 : Int) < 0; decide) ?_
  conv => cbv
  refine Br.no (by show ¬ (1 : Int) < 1; decide) ?_
  conv => cbv
  refine RetF.mk [.p (.int .i64 (.sym 0)), .p (.int .i64 (.sym 0))] [] 0 (Re.at [] []) rfl ⟨⟨0, 0, rfl, hgood (by rw [hlead]; omega)⟩, rfl, rfl⟩
end Go.Proofs.YtnbloimkagabjaaDoor
