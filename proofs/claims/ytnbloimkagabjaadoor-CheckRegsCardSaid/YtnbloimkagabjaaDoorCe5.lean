/-
  CheckRegs: the law.
-/
import Derived.Test.YtnbloimkagabjaaDoorCe0

namespace Go.Proofs.YtnbloimkagabjaaDoor

open Go Go.LX
set_option maxRecDepth 100000
set_option linter.unusedVariables false
set_option linter.unusedSimpArgs false

set_option maxHeartbeats 16000000 in
theorem regs12_lx (op0 a0 b0 : Int) (o : Unit → Obj) (ho : IsPow o) (hk0 : ¬ (1 + IntKind.u64.wrap op0 % 22 = 2 ∨ 1 + IntKind.u64.wrap op0 % 22 = 3 ∨ 1 + IntKind.u64.wrap op0 % 22 = 5 ∨ 1 + IntKind.u64.wrap op0 % 22 = 6 ∨ 1 + IntKind.u64.wrap op0 % 22 = 8 ∨ 1 + IntKind.u64.wrap op0 % 22 = 9 ∨ 1 + IntKind.u64.wrap op0 % 22 = 15 ∨ 1 + IntKind.u64.wrap op0 % 22 = 16 ∨ 1 + IntKind.u64.wrap op0 % 22 = 17)) (hq : 0 ≤ (a0.tmod 9) ∧ (a0.tmod 9) < 6 ∧ 0 ≤ (b0.tmod 9) ∧ ¬ (b0.tmod 9) < 6) : CallF (fun _ => Tryd.prog) 13 [.p (.int .i64 (.sym op0)), .p (.int .i64 (.sym a0)), .p (.int .i64 (.sym b0))] [(0, .fix 0 o)] 1 (fun r h n => r = .p (.bool true)) := by
  refine callF_of_body tok Tryd.func13 (by kernel_rfl) rfl rfl rfl ?_; conv => cbv
  refine Fit.wrap fun xn hxn => ?_
  have hxn : xn = IntKind.u64.wrap op0 := hxn
  have hyn : 0 ≤ xn := by rw [hxn]; simp [IntKind.wrap, IntKind.bits, IntKind.signed]; omega
  conv => cbv
  refine Sum.mk fun tn htn => ?_
  have htn : tn = xn % 22 := (show tn = xn.tmod 22 from htn).trans (Int.tmod_eq_emod_of_nonneg hyn)
  conv => cbv
  refine Fit.mk (by show (-9223372036854775808 : Int) ≤ tn; omega) (by show tn ≤ 9223372036854775807; omega) fun p hp => ?_
  have hp : p = tn := hp
  have hp0 : 0 ≤ p := by omega
  have hp1 : p < 22 := by omega
  have hpv : p = IntKind.u64.wrap op0 % 22 := by rw [hp, htn, hxn]
  clear hp htn hyn
  conv => cbv
  refine Fit.mk (by show (-9223372036854775808 : Int) ≤ 1 + p; omega) (by show 1 + p ≤ 9223372036854775807; omega) fun op hop => ?_
  have hop : op = 1 + p := hop
  conv => cbv
  refine Sum.mk fun a ha => ?_
  have ha : a = a0.tmod 9 := ha
  have hab : -8 ≤ a ∧ a ≤ 8 := by
    have h1 := Int.tmod_lt_of_pos a0 (b := 9) (by decide)
    have h2 : -9 < a0.tmod 9 := by
      rcases Int.le_total 0 a0 with h | h
      · have := Int.tmod_nonneg (9 : Int) h; omega
      · have h3 := Int.tmod_lt_of_pos (-a0) (b := 9) (by decide)
        rw [Int.neg_tmod] at h3; omega
    omega
  conv => cbv
  refine Sum.mk fun b hb => ?_
  have hb : b = b0.tmod 9 := hb
  have hbb : -8 ≤ b ∧ b ≤ 8 := by
    have h1 := Int.tmod_lt_of_pos b0 (b := 9) (by decide)
    have h2 : -9 < b0.tmod 9 := by
      rcases Int.le_total 0 b0 with h | h
      · have := Int.tmod_nonneg (9 : Int) h; omega
      · have h3 := Int.tmod_lt_of_pos (-b0) (b := 9) (by decide)
        rw [Int.neg_tmod] at h3; omega
    omega
  conv => cbv
  obtain ⟨X, hXd⟩ : ∃ X : Is, X = ⟨op, a, b, 0, []⟩ := ⟨_, rfl⟩
  have hX : XI64 X := by
    rw [hXd]
    exact ⟨by unfold I64; show -9223372036854775808 ≤ op ∧ op ≤ 9223372036854775807; omega, by unfold I64; show -9223372036854775808 ≤ (0 : Int) ∧ (0 : Int) ≤ 9223372036854775807; decide, by show 0 ≤ 400; decide, by simp⟩
  have hcs : X.cs = [] := by rw [hXd]
  have hXo : op = X.op := by rw [hXd]
  have hXa : a = X.a := by rw [hXd]
  have hXb : b = X.b := by rw [hXd]
  have hXn : (0 : Int) = X.n := by rw [hXd]
  obtain ⟨LL, hLL⟩ : ∃ LL : List PV, LL = [.int .i64 (.sym op), .int .i64 (.sym a), .int .i64 (.sym b), .int .i64 (.sym 0), .vsl (.sym 0) true []] := ⟨_, rfl⟩
  have hLV : LL = isV [X] := by rw [hLL, hXd]; rfl
  have hmo := may_one X hX hcs
  have hbn : BndP X := by unfold BndP; rw [← hXn]; omega
  have hnamed : (op = 2 ∨ op = 3 ∨ op = 5 ∨ op = 6 ∨ op = 8 ∨ op = 9 ∨ op = 15 ∨ op = 16 ∨ op = 17) → (MayP X ↔ 0 ≤ a ∧ a ≤ 5 ∧ 0 ≤ b ∧ b ≤ 5) := fun h => by
    rw [hmo, shp_iff X (by omega) (by omega) hcs, ← hXo, ← hXa, ← hXb, ← hXn, shapeV, if_pos h]
    simp [hbn]; omega
  have hother : ¬ (op = 2 ∨ op = 3 ∨ op = 5 ∨ op = 6 ∨ op = 8 ∨ op = 9 ∨ op = 15 ∨ op = 16 ∨ op = 17) → ¬ b = 0 → ¬ MayP X := fun h hb0 hm => by
    have hs := (hmo.1 hm).1
    by_cases h21 : op = 21
    · unfold Shp at hs
      rw [if_pos (by omega)] at hs
      exact hs.2.2.2.1 hcs
    · have h3 := (shp_iff X (by omega) (by omega) hcs).1 hs
      have h4 := h3.2.1
      rw [if_neg (by
        rw [← hXo, shapeV, if_neg h]
        repeat' split
        all_goals decide)] at h4
      omega
  have hld : LeadP X 1 := by
    have e : X = ⟨X.op, X.a, X.b, X.n, []⟩ := by cases X; simp only at hcs; subst hcs; rfl
    rw [e, lead_plain, ← hXn]; intro _; decide
  have hval : ∀ at_ e : Int, ValidP [X] at_ e → (MayP X → at_ = 0 ∧ e = 0) ∧ (¬ MayP X → at_ = 1 ∧ e = 5) := fun at_ e hv => ⟨fun hm => valid_good hv (by simp) (by show 1 ≤ 60; decide) (fun y hy => by rw [List.mem_singleton] at hy; subst hy; exact ⟨hm, hld⟩), fun hm => valid_bad hv (by simp) (by show 1 ≤ 60; decide) 0 X rfl (fun y hy => by simp at hy) 5 (.inl ⟨hm, rfl⟩)⟩
  refine CallF.re (args0 := [.p (.vsl (.sym 1) true [.int .i64 (.sym op), .int .i64 (.sym a), .int .i64 (.sym b), .int .i64 (.sym 0), .vsl (.sym 0) true []])]) (h' := [(1, .pure false [.int .i64 (.sym op), .int .i64 (.sym a), .int .i64 (.sym b), .int .i64 (.lit 0), .nils]), (0, .fix 0 o)]) (Re.at [(0, 0), (1, 1)] []) ?_
  rw [← hLL]
  refine callF_frame (valid_lx [X] 1 LL o ho rfl hLV (by show 1 ≤ 100000; decide) (fun x hx => by rw [List.mem_singleton] at hx; subst hx; exact hX)) [(0, 0)] rfl (by simp [hmapOk, nget, hget, renB, okB, renV, renVs, rn, okVs, okV]) rfl rfl (fun r2 h' n' hrr => ?_)
  obtain ⟨⟨at_, e, e1, hv⟩, e2, e3⟩ := hrr
  subst e1 e2 e3
  conv => cbv
  refine callF_go (rValid1_lx X op a b 0 hXo hXa hXb hXn hcs hX) [(0, .fix 0 o)] (Re.at [(0, 0)] []) rfl rfl (fun r ⟨a9, e9, hr, _⟩ => by subst hr; rfl) (fun r hrr => ?_)
  obtain ⟨to_, f, e1, hv2⟩ := hrr
  subst e1
  obtain ⟨p1, p2⟩ := hval _ _ hv
  obtain ⟨p3, p4⟩ := hval _ _ hv2
  have hat : at_ = to_ := by by_cases hm : MayP X; · rw [(p1 hm).1, (p3 hm).1]
                             rw [(p2 hm).1, (p4 hm).1]
  have hef : e = f := by by_cases hm : MayP X; · rw [(p1 hm).2, (p3 hm).2]
                         rw [(p2 hm).2, (p4 hm).2]
  have he0 : e = 0 ↔ MayP X := ⟨fun h => Classical.byContradiction fun hm => by have := (p2 hm).2; omega, fun hm => (p1 hm).2⟩
  have he5 : ¬ MayP X → e = 5 := fun hm => (p2 hm).2
  have hop2 : op = 1 + IntKind.u64.wrap op0 % 22 := by omega
  conv => cbv
  have hot := hother (by omega)
  have hoc : 0 ≤ a ∧ a < 6 ∧ 0 ≤ b ∧ ¬ b < 6 := by omega
  refine Br.no (by show ¬ op = 2; omega) ?_
  conv => cbv
  refine Br.no (by show ¬ op = 3; omega) ?_
  conv => cbv
  refine Br.no (by show ¬ op = 5; omega) ?_
  conv => cbv
  refine Br.no (by show ¬ op = 6; omega) ?_
  conv => cbv
  refine Br.no (by show ¬ op = 8; omega) ?_
  conv => cbv
  refine Br.no (by show ¬ op = 9; omega) ?_
  conv => cbv
  refine Br.no (by show ¬ op = 15; omega) ?_
  conv => cbv
  refine Br.no (by show ¬ op = 16; omega) ?_
  conv => cbv
  refine Br.no (by show ¬ op = 17; omega) ?_
  conv => cbv
  refine Br.yes (by show 0 ≤ a; omega) ?_
  conv => cbv
  refine Br.yes (by show a < 6; omega) ?_
  conv => cbv
  refine Br.yes (by show 0 ≤ b; omega) ?_
  conv => cbv
  refine Br.no (by show ¬ b < 6; omega) ?_
  conv => cbv
  refine callF_frame (awake03_lx o ho) [(0, 0)] rfl (by simp [hmapOk, nget, hget, renB, okB, renV, renVs, rn, okVs, okV]) rfl rfl (fun r2 h' n' ⟨e1, e2, e3⟩ => ?_)
  subst e1 e2 e3
  conv => cbv
  refine Br.yes (by show at_ = to_; exact hat) ?_
  conv => cbv
  refine Br.yes (by show e = f; exact hef) ?_
  conv => cbv
  refine Br.mk (fun g9 => ?_) (fun g9 => ?_)
  · conv => cbv
    refine RetF.mk [.p (.bool true)] [(0, .fix 0 o)] 1 (Re.at [(0, 0)] []) rfl rfl
  have g9 : ¬ b = 0 := g9
  conv => cbv
  refine Br.yes (by show e = 5; exact he5 (hot g9)) ?_
  conv => cbv
  refine RetF.mk [.p (.bool true)] [(0, .fix 0 o)] 1 (Re.at [(0, 0)] []) rfl rfl
set_option maxHeartbeats 16000000 in
theorem regs13_lx (op0 a0 b0 : Int) (o : Unit → Obj) (ho : IsPow o) (hk0 : ¬ (1 + IntKind.u64.wrap op0 % 22 = 2 ∨ 1 + IntKind.u64.wrap op0 % 22 = 3 ∨ 1 + IntKind.u64.wrap op0 % 22 = 5 ∨ 1 + IntKind.u64.wrap op0 % 22 = 6 ∨ 1 + IntKind.u64.wrap op0 % 22 = 8 ∨ 1 + IntKind.u64.wrap op0 % 22 = 9 ∨ 1 + IntKind.u64.wrap op0 % 22 = 15 ∨ 1 + IntKind.u64.wrap op0 % 22 = 16 ∨ 1 + IntKind.u64.wrap op0 % 22 = 17)) (hq : 0 ≤ (a0.tmod 9) ∧ (a0.tmod 9) < 6 ∧ 0 ≤ (b0.tmod 9) ∧ (b0.tmod 9) < 6) : CallF (fun _ => Tryd.prog) 13 [.p (.int .i64 (.sym op0)), .p (.int .i64 (.sym a0)), .p (.int .i64 (.sym b0))] [(0, .fix 0 o)] 1 (fun r h n => r = .p (.bool true)) := by
  refine callF_of_body tok Tryd.func13 (by kernel_rfl) rfl rfl rfl ?_; conv => cbv
  refine Fit.wrap fun xn hxn => ?_
  have hxn : xn = IntKind.u64.wrap op0 := hxn
  have hyn : 0 ≤ xn := by rw [hxn]; simp [IntKind.wrap, IntKind.bits, IntKind.signed]; omega
  conv => cbv
  refine Sum.mk fun tn htn => ?_
  have htn : tn = xn % 22 := (show tn = xn.tmod 22 from htn).trans (Int.tmod_eq_emod_of_nonneg hyn)
  conv => cbv
  refine Fit.mk (by show (-9223372036854775808 : Int) ≤ tn; omega) (by show tn ≤ 9223372036854775807; omega) fun p hp => ?_
  have hp : p = tn := hp
  have hp0 : 0 ≤ p := by omega
  have hp1 : p < 22 := by omega
  have hpv : p = IntKind.u64.wrap op0 % 22 := by rw [hp, htn, hxn]
  clear hp htn hyn
  conv => cbv
  refine Fit.mk (by show (-9223372036854775808 : Int) ≤ 1 + p; omega) (by show 1 + p ≤ 9223372036854775807; omega) fun op hop => ?_
  have hop : op = 1 + p := hop
  conv => cbv
  refine Sum.mk fun a ha => ?_
  have ha : a = a0.tmod 9 := ha
  have hab : -8 ≤ a ∧ a ≤ 8 := by
    have h1 := Int.tmod_lt_of_pos a0 (b := 9) (by decide)
    have h2 : -9 < a0.tmod 9 := by
      rcases Int.le_total 0 a0 with h | h
      · have := Int.tmod_nonneg (9 : Int) h; omega
      · have h3 := Int.tmod_lt_of_pos (-a0) (b := 9) (by decide)
        rw [Int.neg_tmod] at h3; omega
    omega
  conv => cbv
  refine Sum.mk fun b hb => ?_
  have hb : b = b0.tmod 9 := hb
  have hbb : -8 ≤ b ∧ b ≤ 8 := by
    have h1 := Int.tmod_lt_of_pos b0 (b := 9) (by decide)
    have h2 : -9 < b0.tmod 9 := by
      rcases Int.le_total 0 b0 with h | h
      · have := Int.tmod_nonneg (9 : Int) h; omega
      · have h3 := Int.tmod_lt_of_pos (-b0) (b := 9) (by decide)
        rw [Int.neg_tmod] at h3; omega
    omega
  conv => cbv
  obtain ⟨X, hXd⟩ : ∃ X : Is, X = ⟨op, a, b, 0, []⟩ := ⟨_, rfl⟩
  have hX : XI64 X := by
    rw [hXd]
    exact ⟨by unfold I64; show -9223372036854775808 ≤ op ∧ op ≤ 9223372036854775807; omega, by unfold I64; show -9223372036854775808 ≤ (0 : Int) ∧ (0 : Int) ≤ 9223372036854775807; decide, by show 0 ≤ 400; decide, by simp⟩
  have hcs : X.cs = [] := by rw [hXd]
  have hXo : op = X.op := by rw [hXd]
  have hXa : a = X.a := by rw [hXd]
  have hXb : b = X.b := by rw [hXd]
  have hXn : (0 : Int) = X.n := by rw [hXd]
  obtain ⟨LL, hLL⟩ : ∃ LL : List PV, LL = [.int .i64 (.sym op), .int .i64 (.sym a), .int .i64 (.sym b), .int .i64 (.sym 0), .vsl (.sym 0) true []] := ⟨_, rfl⟩
  have hLV : LL = isV [X] := by rw [hLL, hXd]; rfl
  have hmo := may_one X hX hcs
  have hbn : BndP X := by unfold BndP; rw [← hXn]; omega
  have hnamed : (op = 2 ∨ op = 3 ∨ op = 5 ∨ op = 6 ∨ op = 8 ∨ op = 9 ∨ op = 15 ∨ op = 16 ∨ op = 17) → (MayP X ↔ 0 ≤ a ∧ a ≤ 5 ∧ 0 ≤ b ∧ b ≤ 5) := fun h => by
    rw [hmo, shp_iff X (by omega) (by omega) hcs, ← hXo, ← hXa, ← hXb, ← hXn, shapeV, if_pos h]
    simp [hbn]; omega
  have hother : ¬ (op = 2 ∨ op = 3 ∨ op = 5 ∨ op = 6 ∨ op = 8 ∨ op = 9 ∨ op = 15 ∨ op = 16 ∨ op = 17) → ¬ b = 0 → ¬ MayP X := fun h hb0 hm => by
    have hs := (hmo.1 hm).1
    by_cases h21 : op = 21
    · unfold Shp at hs
      rw [if_pos (by omega)] at hs
      exact hs.2.2.2.1 hcs
    · have h3 := (shp_iff X (by omega) (by omega) hcs).1 hs
      have h4 := h3.2.1
      rw [if_neg (by
        rw [← hXo, shapeV, if_neg h]
        repeat' split
        all_goals decide)] at h4
      omega
  have hld : LeadP X 1 := by
    have e : X = ⟨X.op, X.a, X.b, X.n, []⟩ := by cases X; simp only at hcs; subst hcs; rfl
    rw [e, lead_plain, ← hXn]; intro _; decide
  have hval : ∀ at_ e : Int, ValidP [X] at_ e → (MayP X → at_ = 0 ∧ e = 0) ∧ (¬ MayP X → at_ = 1 ∧ e = 5) := fun at_ e hv => ⟨fun hm => valid_good hv (by simp) (by show 1 ≤ 60; decide) (fun y hy => by rw [List.mem_singleton] at hy; subst hy; exact ⟨hm, hld⟩), fun hm => valid_bad hv (by simp) (by show 1 ≤ 60; decide) 0 X rfl (fun y hy => by simp at hy) 5 (.inl ⟨hm, rfl⟩)⟩
  refine CallF.re (args0 := [.p (.vsl (.sym 1) true [.int .i64 (.sym op), .int .i64 (.sym a), .int .i64 (.sym b), .int .i64 (.sym 0), .vsl (.sym 0) true []])]) (h' := [(1, .pure false [.int .i64 (.sym op), .int .i64 (.sym a), .int .i64 (.sym b), .int .i64 (.lit 0), .nils]), (0, .fix 0 o)]) (Re.at [(0, 0), (1, 1)] []) ?_
  rw [← hLL]
  refine callF_frame (valid_lx [X] 1 LL o ho rfl hLV (by show 1 ≤ 100000; decide) (fun x hx => by rw [List.mem_singleton] at hx; subst hx; exact hX)) [(0, 0)] rfl (by simp [hmapOk, nget, hget, renB, okB, renV, renVs, rn, okVs, okV]) rfl rfl (fun r2 h' n' hrr => ?_)
  obtain ⟨⟨at_, e, e1, hv⟩, e2, e3⟩ := hrr
  subst e1 e2 e3
  conv => cbv
  refine callF_go (rValid1_lx X op a b 0 hXo hXa hXb hXn hcs hX) [(0, .fix 0 o)] (Re.at [(0, 0)] []) rfl rfl (fun r ⟨a9, e9, hr, _⟩ => by subst hr; rfl) (fun r hrr => ?_)
  obtain ⟨to_, f, e1, hv2⟩ := hrr
  subst e1
  obtain ⟨p1, p2⟩ := hval _ _ hv
  obtain ⟨p3, p4⟩ := hval _ _ hv2
  have hat : at_ = to_ := by by_cases hm : MayP X; · rw [(p1 hm).1, (p3 hm).1]
                             rw [(p2 hm).1, (p4 hm).1]
  have hef : e = f := by by_cases hm : MayP X; · rw [(p1 hm).2, (p3 hm).2]
                         rw [(p2 hm).2, (p4 hm).2]
  have he0 : e = 0 ↔ MayP X := ⟨fun h => Classical.byContradiction fun hm => by have := (p2 hm).2; omega, fun hm => (p1 hm).2⟩
  have he5 : ¬ MayP X → e = 5 := fun hm => (p2 hm).2
  have hop2 : op = 1 + IntKind.u64.wrap op0 % 22 := by omega
  conv => cbv
  have hot := hother (by omega)
  have hoc : 0 ≤ a ∧ a < 6 ∧ 0 ≤ b ∧ b < 6 := by omega
  refine Br.no (by show ¬ op = 2; omega) ?_
  conv => cbv
  refine Br.no (by show ¬ op = 3; omega) ?_
  conv => cbv
  refine Br.no (by show ¬ op = 5; omega) ?_
  conv => cbv
  refine Br.no (by show ¬ op = 6; omega) ?_
  conv => cbv
  refine Br.no (by show ¬ op = 8; omega) ?_
  conv => cbv
  refine Br.no (by show ¬ op = 9; omega) ?_
  conv => cbv
  refine Br.no (by show ¬ op = 15; omega) ?_
  conv => cbv
  refine Br.no (by show ¬ op = 16; omega) ?_
  conv => cbv
  refine Br.no (by show ¬ op = 17; omega) ?_
  conv => cbv
  refine Br.yes (by show 0 ≤ a; omega) ?_
  conv => cbv
  refine Br.yes (by show a < 6; omega) ?_
  conv => cbv
  refine Br.yes (by show 0 ≤ b; omega) ?_
  conv => cbv
  refine Br.yes (by show b < 6; omega) ?_
  conv => cbv
  refine callF_frame (awake03_lx o ho) [(0, 0)] rfl (by simp [hmapOk, nget, hget, renB, okB, renV, renVs, rn, okVs, okV]) rfl rfl (fun r2 h' n' ⟨e1, e2, e3⟩ => ?_)
  subst e1 e2 e3
  conv => cbv
  refine Br.yes (by show at_ = to_; exact hat) ?_
  conv => cbv
  refine Br.yes (by show e = f; exact hef) ?_
  conv => cbv
  refine Br.mk (fun g9 => ?_) (fun g9 => ?_)
  · conv => cbv
    refine RetF.mk [.p (.bool true)] [(0, .fix 0 o)] 1 (Re.at [(0, 0)] []) rfl rfl
  have g9 : ¬ b = 0 := g9
  conv => cbv
  refine Br.yes (by show e = 5; exact he5 (hot g9)) ?_
  conv => cbv
  refine RetF.mk [.p (.bool true)] [(0, .fix 0 o)] 1 (Re.at [(0, 0)] []) rfl rfl
end Go.Proofs.YtnbloimkagabjaaDoor
