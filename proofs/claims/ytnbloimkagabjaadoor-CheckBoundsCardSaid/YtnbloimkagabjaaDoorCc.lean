/-
  CheckBounds: the law.
-/
import Derived.Test.YtnbloimkagabjaaDoorCb

namespace Go.Proofs.YtnbloimkagabjaaDoor

open Go Go.LX
set_option maxRecDepth 100000
set_option linter.unusedVariables false
set_option linter.unusedSimpArgs false

theorem exit_shp : Shp ⟨22, 0, 0, 0, []⟩ := (dec_inv exit_dec).1
theorem exit_ml (m : Int) : MayP ⟨22, 0, 0, 0, []⟩ ∧ LeadP ⟨22, 0, 0, 0, []⟩ m := ⟨(may_plain _ _ _ _ (by unfold I64; decide) (by unfold I64; decide)).2 ⟨by show (0 : Int) ≤ mostV 22; decide, exit_shp⟩, (lead_plain _ _ _ _ _).2 (fun h => by rcases h with h | h | h <;> cases h)⟩
theorem no_n (op n : Int) (h21 : op ≠ 21) (h : (110 : UInt8) ∈ shapeV op ∨ (100 : UInt8) ∈ shapeV op) (hn : ¬ (0 ≤ n ∧ n ≤ 9999)) : ¬ Shp ⟨op, 0, 0, n, []⟩ := by
  intro hs
  unfold Shp at hs
  rw [if_neg h21] at hs
  have h3 : Shp3 (shapeV op) ⟨0, 0, n⟩ := hs.2.2
  rcases h with h | h
  · have := h3.1 110 h
    unfold inR F3.get at this
    simp at this
    exact hn this
  · have := h3.1 100 h
    unfold inR F3.get at this
    simp at this
    omega
theorem trio_x64 (op n : Int) (hop : I64 op) (hn : I64 n) : ∀ x ∈ [(⟨22, 0, 0, 0, []⟩ : Is), ⟨op, 0, 0, n, []⟩, ⟨22, 0, 0, 0, []⟩], XI64 x := by
  have he : XI64 ⟨22, 0, 0, 0, []⟩ := ⟨by unfold I64; show -9223372036854775808 ≤ (22 : Int) ∧ (22 : Int) ≤ 9223372036854775807; decide, by unfold I64; show -9223372036854775808 ≤ (0 : Int) ∧ (0 : Int) ≤ 9223372036854775807; decide, by show 0 ≤ 400; decide, by simp⟩
  intro x hx
  rcases List.mem_cons.1 hx with rfl | hx
  · exact he
  rcases List.mem_cons.1 hx with rfl | hx
  · exact ⟨hop, hn, by show 0 ≤ 400; decide, by simp⟩
  · rw [List.mem_singleton] at hx; subst hx; exact he
set_option maxHeartbeats 8000000 in
theorem bound0_lx (which n0 : Int) (o : Unit → Obj) (ho : IsPow o) (hk0 : IntKind.u64.wrap which % 9 = 0) : CallF (fun _ => Tryd.prog) 12 [.p (.int .i64 (.sym which)), .p (.int .i64 (.sym n0))] [(0, .fix 0 o)] 1 (fun r h n => r = .p (.bool true)) := by
  refine callF_of_body tok Tryd.func12 (by kernel_rfl) rfl rfl rfl ?_; conv => cbv
  refine Fit.wrap fun xn hxn => ?_
  have hxn : xn = IntKind.u64.wrap which := hxn
  have hyn : 0 ≤ xn := by rw [hxn]; simp [IntKind.wrap, IntKind.bits, IntKind.signed]; omega
  conv => cbv
  refine Sum.mk fun tn htn => ?_
  have htn : tn = xn % 9 := (show tn = xn.tmod 9 from htn).trans (Int.tmod_eq_emod_of_nonneg hyn)
  conv => cbv
  refine Fit.mk (by show (-9223372036854775808 : Int) ≤ tn; omega) (by show tn ≤ 9223372036854775807; omega) fun q hq => ?_
  have hq : q = tn := hq
  have hq0 : 0 ≤ q := by omega
  have hq1 : q < 9 := by omega
  have hqv : q = 0 := by rw [hq, htn, hxn]; exact hk0
  clear hq htn hyn
  conv => cbv
  refine Need.mk ⟨by show (0 : Int) ≤ q; omega, by show q < 9; omega⟩ ?_
  conv => cbv
  refine Cell.at (v := .int .i64 (.lit 9999)) q 0 rfl (by simp [I.val]) (by omega) ?_
  conv => cbv
  refine Fit.wrap fun xn hxn => ?_
  have hxn : xn = IntKind.u64.wrap n0 := hxn
  have hyn : 0 ≤ xn := by rw [hxn]; simp [IntKind.wrap, IntKind.bits, IntKind.signed]; omega
  clear hxn
  conv => cbv
  refine Sum.mk fun tn htn => ?_
  have htn : tn = xn % 5 := (show tn = xn.tmod 5 from htn).trans (Int.tmod_eq_emod_of_nonneg hyn)
  conv => cbv
  refine Fit.mk (by show (-9223372036854775808 : Int) ≤ tn; omega) (by show tn ≤ 9223372036854775807; omega) fun m hm => ?_
  have hm : m = tn := hm
  have hm0 : 0 ≤ m := by omega
  have hm1 : m < 5 := by omega
  clear hm htn hyn
  conv => cbv
  refine Fit.mk (by show (-9223372036854775808 : Int) ≤ 9997 + m; omega) (by show 9997 + m ≤ 9223372036854775807; omega) fun n hn => ?_
  have hn : n = 9997 + m := hn
  conv => cbv
  refine Need.mk ⟨by show (0 : Int) ≤ q; omega, by show q < 9; omega⟩ ?_
  conv => cbv
  refine Cell.at (v := .int .i64 (.lit 1)) q 0 rfl (by simp [I.val]) (by omega) ?_
  conv => cbv
  refine CallF.re (args0 := [.p (.vsl (.sym 3) true [.int .i64 (.sym 22), .int .i64 (.sym 0), .int .i64 (.sym 0), .int .i64 (.sym 0), .vsl (.sym 0) true [], .int .i64 (.sym 1), .int .i64 (.sym 0), .int .i64 (.sym 0), .int .i64 (.sym n), .vsl (.sym 0) true [], .int .i64 (.sym 22), .int .i64 (.sym 0), .int .i64 (.sym 0), .int .i64 (.sym 0), .vsl (.sym 0) true []])]) (h' := [(2, .pure false [.int .i64 (.lit 9999), .int .i64 (.lit 3), .int .i64 (.lit 1000), .int .i64 (.lit 3), .int .i64 (.lit 3), .int .i64 (.lit 9), .int .i64 (.lit 2), .int .i64 (.lit 2), .int .i64 (.lit 2)]), (0, .fix 0 o)]) (Re.at [(0, 0), (2, 2)] []) ?_
  obtain ⟨l, hl⟩ : ∃ l : List Is, l = [⟨22, 0, 0, 0, []⟩, ⟨1, 0, 0, n, []⟩, ⟨22, 0, 0, 0, []⟩] := ⟨_, rfl⟩
  have hl3 : l.length = 3 := by rw [hl]; rfl
  have hl0 : l ≠ [] := by rw [hl]; simp
  have hx1 : l[1]? = some ⟨1, 0, 0, n, []⟩ := by rw [hl]; rfl
  have hp1 : ∀ y ∈ l.take 1, MayP y ∧ LeadP y l.length := by
    rw [hl]
    intro y hy
    rw [show ([⟨22, 0, 0, 0, []⟩, ⟨1, 0, 0, n, []⟩, ⟨22, 0, 0, 0, []⟩] : List Is).take 1 = [⟨22, 0, 0, 0, []⟩] from rfl, List.mem_singleton] at hy
    subst hy
    exact exit_ml _
  have hni : I64 n := by unfold I64; omega
  have hoi : I64 1 := by unfold I64; decide
  refine callF_frame (valid_lx l 3 [.int .i64 (.sym 22), .int .i64 (.sym 0), .int .i64 (.sym 0), .int .i64 (.sym 0), .vsl (.sym 0) true [], .int .i64 (.sym 1), .int .i64 (.sym 0), .int .i64 (.sym 0), .int .i64 (.sym n), .vsl (.sym 0) true [], .int .i64 (.sym 22), .int .i64 (.sym 0), .int .i64 (.sym 0), .int .i64 (.sym 0), .vsl (.sym 0) true []] o ho (by rw [hl3]; rfl) (by rw [hl]; rfl) (by rw [hl3]; decide) (by rw [hl]; exact trio_x64 1 n hoi hni)) [(0, 0)] rfl (by simp [hmapOk, nget, hget, renB, okB, renV, renVs, rn, okVs, okV]) rfl rfl (fun r2 h' n' hrr => ?_)
  obtain ⟨⟨a, e, e1, hv⟩, e2, e3⟩ := hrr
  subst e1 e2 e3
  have hmp := may_plain 1 0 0 n hoi hni
  have hlp := lead_plain 1 0 0 n 3
  by_cases hg : n ≤ 9999
  · have hs : Shp ⟨1, 0, 0, n, []⟩ := shp_mk _ _ _ _ (by decide) (by decide) (by simp [shapeV] <;> omega) (by simp [shapeV] <;> omega) (by simp [shapeV] <;> omega)
    obtain ⟨ha, he⟩ := valid_good hv hl0 (by omega) (by
      rw [hl3, hl]
      intro y hy
      rcases List.mem_cons.1 hy with rfl | hy
      · exact exit_ml _
      rcases List.mem_cons.1 hy with rfl | hy
      · exact ⟨hmp.2 ⟨by show n ≤ mostV 1; simp [mostV]; omega, hs⟩, hlp.2 (fun h => by omega)⟩
      · rw [List.mem_singleton] at hy; subst hy; exact exit_ml _)
    conv => cbv
    refine Br.no (by show ¬ (5 : Int) < q; omega) ?_
    conv => cbv
    refine Br.yes (by show (0 : Int) ≤ n; omega) ?_
    conv => cbv
    refine Need.mk ⟨by show (0 : Int) ≤ q; omega, by show q < 9; omega⟩ ?_
    conv => cbv
    refine Cell.at (v := .int .i64 (.lit 9999)) q 0 rfl (by simp [I.val]) (by omega) ?_
    conv => cbv
    refine Br.yes (by show n ≤ 9999; omega) ?_
    conv => cbv
    refine callF_frame (awake03_lx o ho) [(0, 0)] rfl (by simp [hmapOk, nget, hget, renB, okB, renV, renVs, rn, okVs, okV]) rfl rfl (fun r2 h' n' ⟨e1, e2, e3⟩ => ?_)
    subst e1 e2 e3
    conv => cbv
    refine Br.yes (by show e = 0; exact he) ?_
    conv => cbv
    refine Br.yes (by show a = 0; exact ha) ?_
    conv => cbv
    refine RetF.mk [.p (.bool true)] [(0, .fix 0 o)] 1 (Re.at [(0, 0)] []) rfl rfl
  · obtain ⟨ha, he⟩ := valid_bad hv hl0 (by omega) 1 _ hx1 hp1 5 (.inl ⟨fun h => no_n 1 n (by decide) (by decide) (by omega) (hmp.1 h).2, rfl⟩)
    conv => cbv
    refine Br.no (by show ¬ (5 : Int) < q; omega) ?_
    conv => cbv
    refine Br.yes (by show (0 : Int) ≤ n; omega) ?_
    conv => cbv
    refine Need.mk ⟨by show (0 : Int) ≤ q; omega, by show q < 9; omega⟩ ?_
    conv => cbv
    refine Cell.at (v := .int .i64 (.lit 9999)) q 0 rfl (by simp [I.val]) (by omega) ?_
    conv => cbv
    refine Br.no (by show ¬ n ≤ 9999; exact hg) ?_
    conv => cbv
    refine callF_frame (awake03_lx o ho) [(0, 0)] rfl (by simp [hmapOk, nget, hget, renB, okB, renV, renVs, rn, okVs, okV]) rfl rfl (fun r2 h' n' ⟨e1, e2, e3⟩ => ?_)
    subst e1 e2 e3
    conv => cbv
    refine Br.yes (by show e = 5; exact he) ?_
    conv => cbv
    refine Br.yes (by show a = 2; rw [ha]; rfl) ?_
    conv => cbv
    refine RetF.mk [.p (.bool true)] [(0, .fix 0 o)] 1 (Re.at [(0, 0)] []) rfl rfl
set_option maxHeartbeats 8000000 in
theorem bound1_lx (which n0 : Int) (o : Unit → Obj) (ho : IsPow o) (hk0 : IntKind.u64.wrap which % 9 = 1) : CallF (fun _ => Tryd.prog) 12 [.p (.int .i64 (.sym which)), .p (.int .i64 (.sym n0))] [(0, .fix 0 o)] 1 (fun r h n => r = .p (.bool true)) := by
  refine callF_of_body tok Tryd.func12 (by kernel_rfl) rfl rfl rfl ?_; conv => cbv
  refine Fit.wrap fun xn hxn => ?_
  have hxn : xn = IntKind.u64.wrap which := hxn
  have hyn : 0 ≤ xn := by rw [hxn]; simp [IntKind.wrap, IntKind.bits, IntKind.signed]; omega
  conv => cbv
  refine Sum.mk fun tn htn => ?_
  have htn : tn = xn % 9 := (show tn = xn.tmod 9 from htn).trans (Int.tmod_eq_emod_of_nonneg hyn)
  conv => cbv
  refine Fit.mk (by show (-9223372036854775808 : Int) ≤ tn; omega) (by show tn ≤ 9223372036854775807; omega) fun q hq => ?_
  have hq : q = tn := hq
  have hq0 : 0 ≤ q := by omega
  have hq1 : q < 9 := by omega
  have hqv : q = 1 := by rw [hq, htn, hxn]; exact hk0
  clear hq htn hyn
  conv => cbv
  refine Need.mk ⟨by show (0 : Int) ≤ q; omega, by show q < 9; omega⟩ ?_
  conv => cbv
  refine Cell.at (v := .int .i64 (.lit 3)) q 1 rfl (by simp [I.val]) (by omega) ?_
  conv => cbv
  refine Fit.wrap fun xn hxn => ?_
  have hxn : xn = IntKind.u64.wrap n0 := hxn
  have hyn : 0 ≤ xn := by rw [hxn]; simp [IntKind.wrap, IntKind.bits, IntKind.signed]; omega
  clear hxn
  conv => cbv
  refine Sum.mk fun tn htn => ?_
  have htn : tn = xn % 5 := (show tn = xn.tmod 5 from htn).trans (Int.tmod_eq_emod_of_nonneg hyn)
  conv => cbv
  refine Fit.mk (by show (-9223372036854775808 : Int) ≤ tn; omega) (by show tn ≤ 9223372036854775807; omega) fun m hm => ?_
  have hm : m = tn := hm
  have hm0 : 0 ≤ m := by omega
  have hm1 : m < 5 := by omega
  clear hm htn hyn
  conv => cbv
  refine Fit.mk (by show (-9223372036854775808 : Int) ≤ 1 + m; omega) (by show 1 + m ≤ 9223372036854775807; omega) fun n hn => ?_
  have hn : n = 1 + m := hn
  conv => cbv
  refine Need.mk ⟨by show (0 : Int) ≤ q; omega, by show q < 9; omega⟩ ?_
  conv => cbv
  refine Cell.at (v := .int .i64 (.lit 4)) q 1 rfl (by simp [I.val]) (by omega) ?_
  conv => cbv
  refine CallF.re (args0 := [.p (.vsl (.sym 3) true [.int .i64 (.sym 22), .int .i64 (.sym 0), .int .i64 (.sym 0), .int .i64 (.sym 0), .vsl (.sym 0) true [], .int .i64 (.sym 4), .int .i64 (.sym 0), .int .i64 (.sym 0), .int .i64 (.sym n), .vsl (.sym 0) true [], .int .i64 (.sym 22), .int .i64 (.sym 0), .int .i64 (.sym 0), .int .i64 (.sym 0), .vsl (.sym 0) true []])]) (h' := [(2, .pure false [.int .i64 (.lit 9999), .int .i64 (.lit 3), .int .i64 (.lit 1000), .int .i64 (.lit 3), .int .i64 (.lit 3), .int .i64 (.lit 9), .int .i64 (.lit 2), .int .i64 (.lit 2), .int .i64 (.lit 2)]), (0, .fix 0 o)]) (Re.at [(0, 0), (2, 2)] []) ?_
  obtain ⟨l, hl⟩ : ∃ l : List Is, l = [⟨22, 0, 0, 0, []⟩, ⟨4, 0, 0, n, []⟩, ⟨22, 0, 0, 0, []⟩] := ⟨_, rfl⟩
  have hl3 : l.length = 3 := by rw [hl]; rfl
  have hl0 : l ≠ [] := by rw [hl]; simp
  have hx1 : l[1]? = some ⟨4, 0, 0, n, []⟩ := by rw [hl]; rfl
  have hp1 : ∀ y ∈ l.take 1, MayP y ∧ LeadP y l.length := by
    rw [hl]
    intro y hy
    rw [show ([⟨22, 0, 0, 0, []⟩, ⟨4, 0, 0, n, []⟩, ⟨22, 0, 0, 0, []⟩] : List Is).take 1 = [⟨22, 0, 0, 0, []⟩] from rfl, List.mem_singleton] at hy
    subst hy
    exact exit_ml _
  have hni : I64 n := by unfold I64; omega
  have hoi : I64 4 := by unfold I64; decide
  refine callF_frame (valid_lx l 3 [.int .i64 (.sym 22), .int .i64 (.sym 0), .int .i64 (.sym 0), .int .i64 (.sym 0), .vsl (.sym 0) true [], .int .i64 (.sym 4), .int .i64 (.sym 0), .int .i64 (.sym 0), .int .i64 (.sym n), .vsl (.sym 0) true [], .int .i64 (.sym 22), .int .i64 (.sym 0), .int .i64 (.sym 0), .int .i64 (.sym 0), .vsl (.sym 0) true []] o ho (by rw [hl3]; rfl) (by rw [hl]; rfl) (by rw [hl3]; decide) (by rw [hl]; exact trio_x64 4 n hoi hni)) [(0, 0)] rfl (by simp [hmapOk, nget, hget, renB, okB, renV, renVs, rn, okVs, okV]) rfl rfl (fun r2 h' n' hrr => ?_)
  obtain ⟨⟨a, e, e1, hv⟩, e2, e3⟩ := hrr
  subst e1 e2 e3
  have hmp := may_plain 4 0 0 n hoi hni
  have hlp := lead_plain 4 0 0 n 3
  by_cases hg : n ≤ 3
  · have hs : Shp ⟨4, 0, 0, n, []⟩ := shp_mk _ _ _ _ (by decide) (by decide) (by simp [shapeV] <;> omega) (by simp [shapeV] <;> omega) (by simp [shapeV] <;> omega)
    obtain ⟨ha, he⟩ := valid_good hv hl0 (by omega) (by
      rw [hl3, hl]
      intro y hy
      rcases List.mem_cons.1 hy with rfl | hy
      · exact exit_ml _
      rcases List.mem_cons.1 hy with rfl | hy
      · exact ⟨hmp.2 ⟨by show n ≤ mostV 4; simp [mostV]; omega, hs⟩, hlp.2 (fun h => by omega)⟩
      · rw [List.mem_singleton] at hy; subst hy; exact exit_ml _)
    conv => cbv
    refine Br.no (by show ¬ (5 : Int) < q; omega) ?_
    conv => cbv
    refine Br.yes (by show (0 : Int) ≤ n; omega) ?_
    conv => cbv
    refine Need.mk ⟨by show (0 : Int) ≤ q; omega, by show q < 9; omega⟩ ?_
    conv => cbv
    refine Cell.at (v := .int .i64 (.lit 3)) q 1 rfl (by simp [I.val]) (by omega) ?_
    conv => cbv
    refine Br.yes (by show n ≤ 3; omega) ?_
    conv => cbv
    refine callF_frame (awake03_lx o ho) [(0, 0)] rfl (by simp [hmapOk, nget, hget, renB, okB, renV, renVs, rn, okVs, okV]) rfl rfl (fun r2 h' n' ⟨e1, e2, e3⟩ => ?_)
    subst e1 e2 e3
    conv => cbv
    refine Br.yes (by show e = 0; exact he) ?_
    conv => cbv
    refine Br.yes (by show a = 0; exact ha) ?_
    conv => cbv
    refine RetF.mk [.p (.bool true)] [(0, .fix 0 o)] 1 (Re.at [(0, 0)] []) rfl rfl
  · obtain ⟨ha, he⟩ := valid_bad hv hl0 (by omega) 1 _ hx1 hp1 5 (.inl ⟨fun h => by have h2 : n ≤ mostV 4 := (hmp.1 h).1; simp [mostV] at h2; omega, rfl⟩)
    conv => cbv
    refine Br.no (by show ¬ (5 : Int) < q; omega) ?_
    conv => cbv
    refine Br.yes (by show (0 : Int) ≤ n; omega) ?_
    conv => cbv
    refine Need.mk ⟨by show (0 : Int) ≤ q; omega, by show q < 9; omega⟩ ?_
    conv => cbv
    refine Cell.at (v := .int .i64 (.lit 3)) q 1 rfl (by simp [I.val]) (by omega) ?_
    conv => cbv
    refine Br.no (by show ¬ n ≤ 3; exact hg) ?_
    conv => cbv
    refine callF_frame (awake03_lx o ho) [(0, 0)] rfl (by simp [hmapOk, nget, hget, renB, okB, renV, renVs, rn, okVs, okV]) rfl rfl (fun r2 h' n' ⟨e1, e2, e3⟩ => ?_)
    subst e1 e2 e3
    conv => cbv
    refine Br.yes (by show e = 5; exact he) ?_
    conv => cbv
    refine Br.yes (by show a = 2; rw [ha]; rfl) ?_
    conv => cbv
    refine RetF.mk [.p (.bool true)] [(0, .fix 0 o)] 1 (Re.at [(0, 0)] []) rfl rfl
set_option maxHeartbeats 8000000 in
theorem bound2_lx (which n0 : Int) (o : Unit → Obj) (ho : IsPow o) (hk0 : IntKind.u64.wrap which % 9 = 2) : CallF (fun _ => Tryd.prog) 12 [.p (.int .i64 (.sym which)), .p (.int .i64 (.sym n0))] [(0, .fix 0 o)] 1 (fun r h n => r = .p (.bool true)) := by
  refine callF_of_body tok Tryd.func12 (by kernel_rfl) rfl rfl rfl ?_; conv => cbv
  refine Fit.wrap fun xn hxn => ?_
  have hxn : xn = IntKind.u64.wrap which := hxn
  have hyn : 0 ≤ xn := by rw [hxn]; simp [IntKind.wrap, IntKind.bits, IntKind.signed]; omega
  conv => cbv
  refine Sum.mk fun tn htn => ?_
  have htn : tn = xn % 9 := (show tn = xn.tmod 9 from htn).trans (Int.tmod_eq_emod_of_nonneg hyn)
  conv => cbv
  refine Fit.mk (by show (-9223372036854775808 : Int) ≤ tn; omega) (by show tn ≤ 9223372036854775807; omega) fun q hq => ?_
  have hq : q = tn := hq
  have hq0 : 0 ≤ q := by omega
  have hq1 : q < 9 := by omega
  have hqv : q = 2 := by rw [hq, htn, hxn]; exact hk0
  clear hq htn hyn
  conv => cbv
  refine Need.mk ⟨by show (0 : Int) ≤ q; omega, by show q < 9; omega⟩ ?_
  conv => cbv
  refine Cell.at (v := .int .i64 (.lit 1000)) q 2 rfl (by simp [I.val]) (by omega) ?_
  conv => cbv
  refine Fit.wrap fun xn hxn => ?_
  have hxn : xn = IntKind.u64.wrap n0 := hxn
  have hyn : 0 ≤ xn := by rw [hxn]; simp [IntKind.wrap, IntKind.bits, IntKind.signed]; omega
  clear hxn
  conv => cbv
  refine Sum.mk fun tn htn => ?_
  have htn : tn = xn % 5 := (show tn = xn.tmod 5 from htn).trans (Int.tmod_eq_emod_of_nonneg hyn)
  conv => cbv
  refine Fit.mk (by show (-9223372036854775808 : Int) ≤ tn; omega) (by show tn ≤ 9223372036854775807; omega) fun m hm => ?_
  have hm : m = tn := hm
  have hm0 : 0 ≤ m := by omega
  have hm1 : m < 5 := by omega
  clear hm htn hyn
  conv => cbv
  refine Fit.mk (by show (-9223372036854775808 : Int) ≤ 998 + m; omega) (by show 998 + m ≤ 9223372036854775807; omega) fun n hn => ?_
  have hn : n = 998 + m := hn
  conv => cbv
  refine Need.mk ⟨by show (0 : Int) ≤ q; omega, by show q < 9; omega⟩ ?_
  conv => cbv
  refine Cell.at (v := .int .i64 (.lit 14)) q 2 rfl (by simp [I.val]) (by omega) ?_
  conv => cbv
  refine CallF.re (args0 := [.p (.vsl (.sym 3) true [.int .i64 (.sym 22), .int .i64 (.sym 0), .int .i64 (.sym 0), .int .i64 (.sym 0), .vsl (.sym 0) true [], .int .i64 (.sym 14), .int .i64 (.sym 0), .int .i64 (.sym 0), .int .i64 (.sym n), .vsl (.sym 0) true [], .int .i64 (.sym 22), .int .i64 (.sym 0), .int .i64 (.sym 0), .int .i64 (.sym 0), .vsl (.sym 0) true []])]) (h' := [(2, .pure false [.int .i64 (.lit 9999), .int .i64 (.lit 3), .int .i64 (.lit 1000), .int .i64 (.lit 3), .int .i64 (.lit 3), .int .i64 (.lit 9), .int .i64 (.lit 2), .int .i64 (.lit 2), .int .i64 (.lit 2)]), (0, .fix 0 o)]) (Re.at [(0, 0), (2, 2)] []) ?_
  obtain ⟨l, hl⟩ : ∃ l : List Is, l = [⟨22, 0, 0, 0, []⟩, ⟨14, 0, 0, n, []⟩, ⟨22, 0, 0, 0, []⟩] := ⟨_, rfl⟩
  have hl3 : l.length = 3 := by rw [hl]; rfl
  have hl0 : l ≠ [] := by rw [hl]; simp
  have hx1 : l[1]? = some ⟨14, 0, 0, n, []⟩ := by rw [hl]; rfl
  have hp1 : ∀ y ∈ l.take 1, MayP y ∧ LeadP y l.length := by
    rw [hl]
    intro y hy
    rw [show ([⟨22, 0, 0, 0, []⟩, ⟨14, 0, 0, n, []⟩, ⟨22, 0, 0, 0, []⟩] : List Is).take 1 = [⟨22, 0, 0, 0, []⟩] from rfl, List.mem_singleton] at hy
    subst hy
    exact exit_ml _
  have hni : I64 n := by unfold I64; omega
  have hoi : I64 14 := by unfold I64; decide
  refine callF_frame (valid_lx l 3 [.int .i64 (.sym 22), .int .i64 (.sym 0), .int .i64 (.sym 0), .int .i64 (.sym 0), .vsl (.sym 0) true [], .int .i64 (.sym 14), .int .i64 (.sym 0), .int .i64 (.sym 0), .int .i64 (.sym n), .vsl (.sym 0) true [], .int .i64 (.sym 22), .int .i64 (.sym 0), .int .i64 (.sym 0), .int .i64 (.sym 0), .vsl (.sym 0) true []] o ho (by rw [hl3]; rfl) (by rw [hl]; rfl) (by rw [hl3]; decide) (by rw [hl]; exact trio_x64 14 n hoi hni)) [(0, 0)] rfl (by simp [hmapOk, nget, hget, renB, okB, renV, renVs, rn, okVs, okV]) rfl rfl (fun r2 h' n' hrr => ?_)
  obtain ⟨⟨a, e, e1, hv⟩, e2, e3⟩ := hrr
  subst e1 e2 e3
  have hmp := may_plain 14 0 0 n hoi hni
  have hlp := lead_plain 14 0 0 n 3
  by_cases hg : n ≤ 1000
  · have hs : Shp ⟨14, 0, 0, n, []⟩ := shp_mk _ _ _ _ (by decide) (by decide) (by simp [shapeV] <;> omega) (by simp [shapeV] <;> omega) (by simp [shapeV] <;> omega)
    obtain ⟨ha, he⟩ := valid_good hv hl0 (by omega) (by
      rw [hl3, hl]
      intro y hy
      rcases List.mem_cons.1 hy with rfl | hy
      · exact exit_ml _
      rcases List.mem_cons.1 hy with rfl | hy
      · exact ⟨hmp.2 ⟨by show n ≤ mostV 14; simp [mostV]; omega, hs⟩, hlp.2 (fun h => by omega)⟩
      · rw [List.mem_singleton] at hy; subst hy; exact exit_ml _)
    conv => cbv
    refine Br.no (by show ¬ (5 : Int) < q; omega) ?_
    conv => cbv
    refine Br.yes (by show (0 : Int) ≤ n; omega) ?_
    conv => cbv
    refine Need.mk ⟨by show (0 : Int) ≤ q; omega, by show q < 9; omega⟩ ?_
    conv => cbv
    refine Cell.at (v := .int .i64 (.lit 1000)) q 2 rfl (by simp [I.val]) (by omega) ?_
    conv => cbv
    refine Br.yes (by show n ≤ 1000; omega) ?_
    conv => cbv
    refine callF_frame (awake03_lx o ho) [(0, 0)] rfl (by simp [hmapOk, nget, hget, renB, okB, renV, renVs, rn, okVs, okV]) rfl rfl (fun r2 h' n' ⟨e1, e2, e3⟩ => ?_)
    subst e1 e2 e3
    conv => cbv
    refine Br.yes (by show e = 0; exact he) ?_
    conv => cbv
    refine Br.yes (by show a = 0; exact ha) ?_
    conv => cbv
    refine RetF.mk [.p (.bool true)] [(0, .fix 0 o)] 1 (Re.at [(0, 0)] []) rfl rfl
  · obtain ⟨ha, he⟩ := valid_bad hv hl0 (by omega) 1 _ hx1 hp1 5 (.inl ⟨fun h => by have h2 : n ≤ mostV 14 := (hmp.1 h).1; simp [mostV] at h2; omega, rfl⟩)
    conv => cbv
    refine Br.no (by show ¬ (5 : Int) < q; omega) ?_
    conv => cbv
    refine Br.yes (by show (0 : Int) ≤ n; omega) ?_
    conv => cbv
    refine Need.mk ⟨by show (0 : Int) ≤ q; omega, by show q < 9; omega⟩ ?_
    conv => cbv
    refine Cell.at (v := .int .i64 (.lit 1000)) q 2 rfl (by simp [I.val]) (by omega) ?_
    conv => cbv
    refine Br.no (by show ¬ n ≤ 1000; exact hg) ?_
    conv => cbv
    refine callF_frame (awake03_lx o ho) [(0, 0)] rfl (by simp [hmapOk, nget, hget, renB, okB, renV, renVs, rn, okVs, okV]) rfl rfl (fun r2 h' n' ⟨e1, e2, e3⟩ => ?_)
    subst e1 e2 e3
    conv => cbv
    refine Br.yes (by show e = 5; exact he) ?_
    conv => cbv
    refine Br.yes (by show a = 2; rw [ha]; rfl) ?_
    conv => cbv
    refine RetF.mk [.p (.bool true)] [(0, .fix 0 o)] 1 (Re.at [(0, 0)] []) rfl rfl
set_option maxHeartbeats 8000000 in
theorem bound3_lx (which n0 : Int) (o : Unit → Obj) (ho : IsPow o) (hk0 : IntKind.u64.wrap which % 9 = 3) : CallF (fun _ => Tryd.prog) 12 [.p (.int .i64 (.sym which)), .p (.int .i64 (.sym n0))] [(0, .fix 0 o)] 1 (fun r h n => r = .p (.bool true)) := by
  refine callF_of_body tok Tryd.func12 (by kernel_rfl) rfl rfl rfl ?_; conv => cbv
  refine Fit.wrap fun xn hxn => ?_
  have hxn : xn = IntKind.u64.wrap which := hxn
  have hyn : 0 ≤ xn := by rw [hxn]; simp [IntKind.wrap, IntKind.bits, IntKind.signed]; omega
  conv => cbv
  refine Sum.mk fun tn htn => ?_
  have htn : tn = xn % 9 := (show tn = xn.tmod 9 from htn).trans (Int.tmod_eq_emod_of_nonneg hyn)
  conv => cbv
  refine Fit.mk (by show (-9223372036854775808 : Int) ≤ tn; omega) (by show tn ≤ 9223372036854775807; omega) fun q hq => ?_
  have hq : q = tn := hq
  have hq0 : 0 ≤ q := by omega
  have hq1 : q < 9 := by omega
  have hqv : q = 3 := by rw [hq, htn, hxn]; exact hk0
  clear hq htn hyn
  conv => cbv
  refine Need.mk ⟨by show (0 : Int) ≤ q; omega, by show q < 9; omega⟩ ?_
  conv => cbv
  refine Cell.at (v := .int .i64 (.lit 3)) q 3 rfl (by simp [I.val]) (by omega) ?_
  conv => cbv
  refine Fit.wrap fun xn hxn => ?_
  have hxn : xn = IntKind.u64.wrap n0 := hxn
  have hyn : 0 ≤ xn := by rw [hxn]; simp [IntKind.wrap, IntKind.bits, IntKind.signed]; omega
  clear hxn
  conv => cbv
  refine Sum.mk fun tn htn => ?_
  have htn : tn = xn % 5 := (show tn = xn.tmod 5 from htn).trans (Int.tmod_eq_emod_of_nonneg hyn)
  conv => cbv
  refine Fit.mk (by show (-9223372036854775808 : Int) ≤ tn; omega) (by show tn ≤ 9223372036854775807; omega) fun m hm => ?_
  have hm : m = tn := hm
  have hm0 : 0 ≤ m := by omega
  have hm1 : m < 5 := by omega
  clear hm htn hyn
  conv => cbv
  refine Fit.mk (by show (-9223372036854775808 : Int) ≤ 1 + m; omega) (by show 1 + m ≤ 9223372036854775807; omega) fun n hn => ?_
  have hn : n = 1 + m := hn
  conv => cbv
  refine Need.mk ⟨by show (0 : Int) ≤ q; omega, by show q < 9; omega⟩ ?_
  conv => cbv
  refine Cell.at (v := .int .i64 (.lit 18)) q 3 rfl (by simp [I.val]) (by omega) ?_
  conv => cbv
  refine CallF.re (args0 := [.p (.vsl (.sym 3) true [.int .i64 (.sym 22), .int .i64 (.sym 0), .int .i64 (.sym 0), .int .i64 (.sym 0), .vsl (.sym 0) true [], .int .i64 (.sym 18), .int .i64 (.sym 0), .int .i64 (.sym 0), .int .i64 (.sym n), .vsl (.sym 0) true [], .int .i64 (.sym 22), .int .i64 (.sym 0), .int .i64 (.sym 0), .int .i64 (.sym 0), .vsl (.sym 0) true []])]) (h' := [(2, .pure false [.int .i64 (.lit 9999), .int .i64 (.lit 3), .int .i64 (.lit 1000), .int .i64 (.lit 3), .int .i64 (.lit 3), .int .i64 (.lit 9), .int .i64 (.lit 2), .int .i64 (.lit 2), .int .i64 (.lit 2)]), (0, .fix 0 o)]) (Re.at [(0, 0), (2, 2)] []) ?_
  obtain ⟨l, hl⟩ : ∃ l : List Is, l = [⟨22, 0, 0, 0, []⟩, ⟨18, 0, 0, n, []⟩, ⟨22, 0, 0, 0, []⟩] := ⟨_, rfl⟩
  have hl3 : l.length = 3 := by rw [hl]; rfl
  have hl0 : l ≠ [] := by rw [hl]; simp
  have hx1 : l[1]? = some ⟨18, 0, 0, n, []⟩ := by rw [hl]; rfl
  have hp1 : ∀ y ∈ l.take 1, MayP y ∧ LeadP y l.length := by
    rw [hl]
    intro y hy
    rw [show ([⟨22, 0, 0, 0, []⟩, ⟨18, 0, 0, n, []⟩, ⟨22, 0, 0, 0, []⟩] : List Is).take 1 = [⟨22, 0, 0, 0, []⟩] from rfl, List.mem_singleton] at hy
    subst hy
    exact exit_ml _
  have hni : I64 n := by unfold I64; omega
  have hoi : I64 18 := by unfold I64; decide
  refine callF_frame (valid_lx l 3 [.int .i64 (.sym 22), .int .i64 (.sym 0), .int .i64 (.sym 0), .int .i64 (.sym 0), .vsl (.sym 0) true [], .int .i64 (.sym 18), .int .i64 (.sym 0), .int .i64 (.sym 0), .int .i64 (.sym n), .vsl (.sym 0) true [], .int .i64 (.sym 22), .int .i64 (.sym 0), .int .i64 (.sym 0), .int .i64 (.sym 0), .vsl (.sym 0) true []] o ho (by rw [hl3]; rfl) (by rw [hl]; rfl) (by rw [hl3]; decide) (by rw [hl]; exact trio_x64 18 n hoi hni)) [(0, 0)] rfl (by simp [hmapOk, nget, hget, renB, okB, renV, renVs, rn, okVs, okV]) rfl rfl (fun r2 h' n' hrr => ?_)
  obtain ⟨⟨a, e, e1, hv⟩, e2, e3⟩ := hrr
  subst e1 e2 e3
  have hmp := may_plain 18 0 0 n hoi hni
  have hlp := lead_plain 18 0 0 n 3
  by_cases hg : n ≤ 3
  · have hs : Shp ⟨18, 0, 0, n, []⟩ := shp_mk _ _ _ _ (by decide) (by decide) (by simp [shapeV] <;> omega) (by simp [shapeV] <;> omega) (by simp [shapeV] <;> omega)
    obtain ⟨ha, he⟩ := valid_good hv hl0 (by omega) (by
      rw [hl3, hl]
      intro y hy
      rcases List.mem_cons.1 hy with rfl | hy
      · exact exit_ml _
      rcases List.mem_cons.1 hy with rfl | hy
      · exact ⟨hmp.2 ⟨by show n ≤ mostV 18; simp [mostV]; omega, hs⟩, hlp.2 (fun h => by omega)⟩
      · rw [List.mem_singleton] at hy; subst hy; exact exit_ml _)
    conv => cbv
    refine Br.no (by show ¬ (5 : Int) < q; omega) ?_
    conv => cbv
    refine Br.yes (by show (0 : Int) ≤ n; omega) ?_
    conv => cbv
    refine Need.mk ⟨by show (0 : Int) ≤ q; omega, by show q < 9; omega⟩ ?_
    conv => cbv
    refine Cell.at (v := .int .i64 (.lit 3)) q 3 rfl (by simp [I.val]) (by omega) ?_
    conv => cbv
    refine Br.yes (by show n ≤ 3; omega) ?_
    conv => cbv
    refine callF_frame (awake03_lx o ho) [(0, 0)] rfl (by simp [hmapOk, nget, hget, renB, okB, renV, renVs, rn, okVs, okV]) rfl rfl (fun r2 h' n' ⟨e1, e2, e3⟩ => ?_)
    subst e1 e2 e3
    conv => cbv
    refine Br.yes (by show e = 0; exact he) ?_
    conv => cbv
    refine Br.yes (by show a = 0; exact ha) ?_
    conv => cbv
    refine RetF.mk [.p (.bool true)] [(0, .fix 0 o)] 1 (Re.at [(0, 0)] []) rfl rfl
  · obtain ⟨ha, he⟩ := valid_bad hv hl0 (by omega) 1 _ hx1 hp1 5 (.inl ⟨fun h => by have h2 : n ≤ mostV 18 := (hmp.1 h).1; simp [mostV] at h2; omega, rfl⟩)
    conv => cbv
    refine Br.no (by show ¬ (5 : Int) < q; omega) ?_
    conv => cbv
    refine Br.yes (by show (0 : Int) ≤ n; omega) ?_
    conv => cbv
    refine Need.mk ⟨by show (0 : Int) ≤ q; omega, by show q < 9; omega⟩ ?_
    conv => cbv
    refine Cell.at (v := .int .i64 (.lit 3)) q 3 rfl (by simp [I.val]) (by omega) ?_
    conv => cbv
    refine Br.no (by show ¬ n ≤ 3; exact hg) ?_
    conv => cbv
    refine callF_frame (awake03_lx o ho) [(0, 0)] rfl (by simp [hmapOk, nget, hget, renB, okB, renV, renVs, rn, okVs, okV]) rfl rfl (fun r2 h' n' ⟨e1, e2, e3⟩ => ?_)
    subst e1 e2 e3
    conv => cbv
    refine Br.yes (by show e = 5; exact he) ?_
    conv => cbv
    refine Br.yes (by show a = 2; rw [ha]; rfl) ?_
    conv => cbv
    refine RetF.mk [.p (.bool true)] [(0, .fix 0 o)] 1 (Re.at [(0, 0)] []) rfl rfl
set_option maxHeartbeats 8000000 in
theorem bound4_lx (which n0 : Int) (o : Unit → Obj) (ho : IsPow o) (hk0 : IntKind.u64.wrap which % 9 = 4) : CallF (fun _ => Tryd.prog) 12 [.p (.int .i64 (.sym which)), .p (.int .i64 (.sym n0))] [(0, .fix 0 o)] 1 (fun r h n => r = .p (.bool true)) := by
  refine callF_of_body tok Tryd.func12 (by kernel_rfl) rfl rfl rfl ?_; conv => cbv
  refine Fit.wrap fun xn hxn => ?_
  have hxn : xn = IntKind.u64.wrap which := hxn
  have hyn : 0 ≤ xn := by rw [hxn]; simp [IntKind.wrap, IntKind.bits, IntKind.signed]; omega
  conv => cbv
  refine Sum.mk fun tn htn => ?_
  have htn : tn = xn % 9 := (show tn = xn.tmod 9 from htn).trans (Int.tmod_eq_emod_of_nonneg hyn)
  conv => cbv
  refine Fit.mk (by show (-9223372036854775808 : Int) ≤ tn; omega) (by show tn ≤ 9223372036854775807; omega) fun q hq => ?_
  have hq : q = tn := hq
  have hq0 : 0 ≤ q := by omega
  have hq1 : q < 9 := by omega
  have hqv : q = 4 := by rw [hq, htn, hxn]; exact hk0
  clear hq htn hyn
  conv => cbv
  refine Need.mk ⟨by show (0 : Int) ≤ q; omega, by show q < 9; omega⟩ ?_
  conv => cbv
  refine Cell.at (v := .int .i64 (.lit 3)) q 4 rfl (by simp [I.val]) (by omega) ?_
  conv => cbv
  refine Fit.wrap fun xn hxn => ?_
  have hxn : xn = IntKind.u64.wrap n0 := hxn
  have hyn : 0 ≤ xn := by rw [hxn]; simp [IntKind.wrap, IntKind.bits, IntKind.signed]; omega
  clear hxn
  conv => cbv
  refine Sum.mk fun tn htn => ?_
  have htn : tn = xn % 5 := (show tn = xn.tmod 5 from htn).trans (Int.tmod_eq_emod_of_nonneg hyn)
  conv => cbv
  refine Fit.mk (by show (-9223372036854775808 : Int) ≤ tn; omega) (by show tn ≤ 9223372036854775807; omega) fun m hm => ?_
  have hm : m = tn := hm
  have hm0 : 0 ≤ m := by omega
  have hm1 : m < 5 := by omega
  clear hm htn hyn
  conv => cbv
  refine Fit.mk (by show (-9223372036854775808 : Int) ≤ 1 + m; omega) (by show 1 + m ≤ 9223372036854775807; omega) fun n hn => ?_
  have hn : n = 1 + m := hn
  conv => cbv
  refine Need.mk ⟨by show (0 : Int) ≤ q; omega, by show q < 9; omega⟩ ?_
  conv => cbv
  refine Cell.at (v := .int .i64 (.lit 19)) q 4 rfl (by simp [I.val]) (by omega) ?_
  conv => cbv
  refine CallF.re (args0 := [.p (.vsl (.sym 3) true [.int .i64 (.sym 22), .int .i64 (.sym 0), .int .i64 (.sym 0), .int .i64 (.sym 0), .vsl (.sym 0) true [], .int .i64 (.sym 19), .int .i64 (.sym 0), .int .i64 (.sym 0), .int .i64 (.sym n), .vsl (.sym 0) true [], .int .i64 (.sym 22), .int .i64 (.sym 0), .int .i64 (.sym 0), .int .i64 (.sym 0), .vsl (.sym 0) true []])]) (h' := [(2, .pure false [.int .i64 (.lit 9999), .int .i64 (.lit 3), .int .i64 (.lit 1000), .int .i64 (.lit 3), .int .i64 (.lit 3), .int .i64 (.lit 9), .int .i64 (.lit 2), .int .i64 (.lit 2), .int .i64 (.lit 2)]), (0, .fix 0 o)]) (Re.at [(0, 0), (2, 2)] []) ?_
  obtain ⟨l, hl⟩ : ∃ l : List Is, l = [⟨22, 0, 0, 0, []⟩, ⟨19, 0, 0, n, []⟩, ⟨22, 0, 0, 0, []⟩] := ⟨_, rfl⟩
  have hl3 : l.length = 3 := by rw [hl]; rfl
  have hl0 : l ≠ [] := by rw [hl]; simp
  have hx1 : l[1]? = some ⟨19, 0, 0, n, []⟩ := by rw [hl]; rfl
  have hp1 : ∀ y ∈ l.take 1, MayP y ∧ LeadP y l.length := by
    rw [hl]
    intro y hy
    rw [show ([⟨22, 0, 0, 0, []⟩, ⟨19, 0, 0, n, []⟩, ⟨22, 0, 0, 0, []⟩] : List Is).take 1 = [⟨22, 0, 0, 0, []⟩] from rfl, List.mem_singleton] at hy
    subst hy
    exact exit_ml _
  have hni : I64 n := by unfold I64; omega
  have hoi : I64 19 := by unfold I64; decide
  refine callF_frame (valid_lx l 3 [.int .i64 (.sym 22), .int .i64 (.sym 0), .int .i64 (.sym 0), .int .i64 (.sym 0), .vsl (.sym 0) true [], .int .i64 (.sym 19), .int .i64 (.sym 0), .int .i64 (.sym 0), .int .i64 (.sym n), .vsl (.sym 0) true [], .int .i64 (.sym 22), .int .i64 (.sym 0), .int .i64 (.sym 0), .int .i64 (.sym 0), .vsl (.sym 0) true []] o ho (by rw [hl3]; rfl) (by rw [hl]; rfl) (by rw [hl3]; decide) (by rw [hl]; exact trio_x64 19 n hoi hni)) [(0, 0)] rfl (by simp [hmapOk, nget, hget, renB, okB, renV, renVs, rn, okVs, okV]) rfl rfl (fun r2 h' n' hrr => ?_)
  obtain ⟨⟨a, e, e1, hv⟩, e2, e3⟩ := hrr
  subst e1 e2 e3
  have hmp := may_plain 19 0 0 n hoi hni
  have hlp := lead_plain 19 0 0 n 3
  by_cases hg : n ≤ 3
  · have hs : Shp ⟨19, 0, 0, n, []⟩ := shp_mk _ _ _ _ (by decide) (by decide) (by simp [shapeV] <;> omega) (by simp [shapeV] <;> omega) (by simp [shapeV] <;> omega)
    obtain ⟨ha, he⟩ := valid_good hv hl0 (by omega) (by
      rw [hl3, hl]
      intro y hy
      rcases List.mem_cons.1 hy with rfl | hy
      · exact exit_ml _
      rcases List.mem_cons.1 hy with rfl | hy
      · exact ⟨hmp.2 ⟨by show n ≤ mostV 19; simp [mostV]; omega, hs⟩, hlp.2 (fun h => by omega)⟩
      · rw [List.mem_singleton] at hy; subst hy; exact exit_ml _)
    conv => cbv
    refine Br.no (by show ¬ (5 : Int) < q; omega) ?_
    conv => cbv
    refine Br.yes (by show (0 : Int) ≤ n; omega) ?_
    conv => cbv
    refine Need.mk ⟨by show (0 : Int) ≤ q; omega, by show q < 9; omega⟩ ?_
    conv => cbv
    refine Cell.at (v := .int .i64 (.lit 3)) q 4 rfl (by simp [I.val]) (by omega) ?_
    conv => cbv
    refine Br.yes (by show n ≤ 3; omega) ?_
    conv => cbv
    refine callF_frame (awake03_lx o ho) [(0, 0)] rfl (by simp [hmapOk, nget, hget, renB, okB, renV, renVs, rn, okVs, okV]) rfl rfl (fun r2 h' n' ⟨e1, e2, e3⟩ => ?_)
    subst e1 e2 e3
    conv => cbv
    refine Br.yes (by show e = 0; exact he) ?_
    conv => cbv
    refine Br.yes (by show a = 0; exact ha) ?_
    conv => cbv
    refine RetF.mk [.p (.bool true)] [(0, .fix 0 o)] 1 (Re.at [(0, 0)] []) rfl rfl
  · obtain ⟨ha, he⟩ := valid_bad hv hl0 (by omega) 1 _ hx1 hp1 5 (.inl ⟨fun h => by have h2 : n ≤ mostV 19 := (hmp.1 h).1; simp [mostV] at h2; omega, rfl⟩)
    conv => cbv
    refine Br.no (by show ¬ (5 : Int) < q; omega) ?_
    conv => cbv
    refine Br.yes (by show (0 : Int) ≤ n; omega) ?_
    conv => cbv
    refine Need.mk ⟨by show (0 : Int) ≤ q; omega, by show q < 9; omega⟩ ?_
    conv => cbv
    refine Cell.at (v := .int .i64 (.lit 3)) q 4 rfl (by simp [I.val]) (by omega) ?_
    conv => cbv
    refine Br.no (by show ¬ n ≤ 3; exact hg) ?_
    conv => cbv
    refine callF_frame (awake03_lx o ho) [(0, 0)] rfl (by simp [hmapOk, nget, hget, renB, okB, renV, renVs, rn, okVs, okV]) rfl rfl (fun r2 h' n' ⟨e1, e2, e3⟩ => ?_)
    subst e1 e2 e3
    conv => cbv
    refine Br.yes (by show e = 5; exact he) ?_
    conv => cbv
    refine Br.yes (by show a = 2; rw [ha]; rfl) ?_
    conv => cbv
    refine RetF.mk [.p (.bool true)] [(0, .fix 0 o)] 1 (Re.at [(0, 0)] []) rfl rfl
set_option maxHeartbeats 8000000 in
theorem bound5_lx (which n0 : Int) (o : Unit → Obj) (ho : IsPow o) (hk0 : IntKind.u64.wrap which % 9 = 5) : CallF (fun _ => Tryd.prog) 12 [.p (.int .i64 (.sym which)), .p (.int .i64 (.sym n0))] [(0, .fix 0 o)] 1 (fun r h n => r = .p (.bool true)) := by
  refine callF_of_body tok Tryd.func12 (by kernel_rfl) rfl rfl rfl ?_; conv => cbv
  refine Fit.wrap fun xn hxn => ?_
  have hxn : xn = IntKind.u64.wrap which := hxn
  have hyn : 0 ≤ xn := by rw [hxn]; simp [IntKind.wrap, IntKind.bits, IntKind.signed]; omega
  conv => cbv
  refine Sum.mk fun tn htn => ?_
  have htn : tn = xn % 9 := (show tn = xn.tmod 9 from htn).trans (Int.tmod_eq_emod_of_nonneg hyn)
  conv => cbv
  refine Fit.mk (by show (-9223372036854775808 : Int) ≤ tn; omega) (by show tn ≤ 9223372036854775807; omega) fun q hq => ?_
  have hq : q = tn := hq
  have hq0 : 0 ≤ q := by omega
  have hq1 : q < 9 := by omega
  have hqv : q = 5 := by rw [hq, htn, hxn]; exact hk0
  clear hq htn hyn
  conv => cbv
  refine Need.mk ⟨by show (0 : Int) ≤ q; omega, by show q < 9; omega⟩ ?_
  conv => cbv
  refine Cell.at (v := .int .i64 (.lit 9)) q 5 rfl (by simp [I.val]) (by omega) ?_
  conv => cbv
  refine Fit.wrap fun xn hxn => ?_
  have hxn : xn = IntKind.u64.wrap n0 := hxn
  have hyn : 0 ≤ xn := by rw [hxn]; simp [IntKind.wrap, IntKind.bits, IntKind.signed]; omega
  clear hxn
  conv => cbv
  refine Sum.mk fun tn htn => ?_
  have htn : tn = xn % 5 := (show tn = xn.tmod 5 from htn).trans (Int.tmod_eq_emod_of_nonneg hyn)
  conv => cbv
  refine Fit.mk (by show (-9223372036854775808 : Int) ≤ tn; omega) (by show tn ≤ 9223372036854775807; omega) fun m hm => ?_
  have hm : m = tn := hm
  have hm0 : 0 ≤ m := by omega
  have hm1 : m < 5 := by omega
  clear hm htn hyn
  conv => cbv
  refine Fit.mk (by show (-9223372036854775808 : Int) ≤ 7 + m; omega) (by show 7 + m ≤ 9223372036854775807; omega) fun n hn => ?_
  have hn : n = 7 + m := hn
  conv => cbv
  refine Need.mk ⟨by show (0 : Int) ≤ q; omega, by show q < 9; omega⟩ ?_
  conv => cbv
  refine Cell.at (v := .int .i64 (.lit 20)) q 5 rfl (by simp [I.val]) (by omega) ?_
  conv => cbv
  refine CallF.re (args0 := [.p (.vsl (.sym 3) true [.int .i64 (.sym 22), .int .i64 (.sym 0), .int .i64 (.sym 0), .int .i64 (.sym 0), .vsl (.sym 0) true [], .int .i64 (.sym 20), .int .i64 (.sym 0), .int .i64 (.sym 0), .int .i64 (.sym n), .vsl (.sym 0) true [], .int .i64 (.sym 22), .int .i64 (.sym 0), .int .i64 (.sym 0), .int .i64 (.sym 0), .vsl (.sym 0) true []])]) (h' := [(2, .pure false [.int .i64 (.lit 9999), .int .i64 (.lit 3), .int .i64 (.lit 1000), .int .i64 (.lit 3), .int .i64 (.lit 3), .int .i64 (.lit 9), .int .i64 (.lit 2), .int .i64 (.lit 2), .int .i64 (.lit 2)]), (0, .fix 0 o)]) (Re.at [(0, 0), (2, 2)] []) ?_
  obtain ⟨l, hl⟩ : ∃ l : List Is, l = [⟨22, 0, 0, 0, []⟩, ⟨20, 0, 0, n, []⟩, ⟨22, 0, 0, 0, []⟩] := ⟨_, rfl⟩
  have hl3 : l.length = 3 := by rw [hl]; rfl
  have hl0 : l ≠ [] := by rw [hl]; simp
  have hx1 : l[1]? = some ⟨20, 0, 0, n, []⟩ := by rw [hl]; rfl
  have hp1 : ∀ y ∈ l.take 1, MayP y ∧ LeadP y l.length := by
    rw [hl]
    intro y hy
    rw [show ([⟨22, 0, 0, 0, []⟩, ⟨20, 0, 0, n, []⟩, ⟨22, 0, 0, 0, []⟩] : List Is).take 1 = [⟨22, 0, 0, 0, []⟩] from rfl, List.mem_singleton] at hy
    subst hy
    exact exit_ml _
  have hni : I64 n := by unfold I64; omega
  have hoi : I64 20 := by unfold I64; decide
  refine callF_frame (valid_lx l 3 [.int .i64 (.sym 22), .int .i64 (.sym 0), .int .i64 (.sym 0), .int .i64 (.sym 0), .vsl (.sym 0) true [], .int .i64 (.sym 20), .int .i64 (.sym 0), .int .i64 (.sym 0), .int .i64 (.sym n), .vsl (.sym 0) true [], .int .i64 (.sym 22), .int .i64 (.sym 0), .int .i64 (.sym 0), .int .i64 (.sym 0), .vsl (.sym 0) true []] o ho (by rw [hl3]; rfl) (by rw [hl]; rfl) (by rw [hl3]; decide) (by rw [hl]; exact trio_x64 20 n hoi hni)) [(0, 0)] rfl (by simp [hmapOk, nget, hget, renB, okB, renV, renVs, rn, okVs, okV]) rfl rfl (fun r2 h' n' hrr => ?_)
  obtain ⟨⟨a, e, e1, hv⟩, e2, e3⟩ := hrr
  subst e1 e2 e3
  have hmp := may_plain 20 0 0 n hoi hni
  have hlp := lead_plain 20 0 0 n 3
  by_cases hg : n ≤ 9
  · have hs : Shp ⟨20, 0, 0, n, []⟩ := shp_mk _ _ _ _ (by decide) (by decide) (by simp [shapeV] <;> omega) (by simp [shapeV] <;> omega) (by simp [shapeV] <;> omega)
    obtain ⟨ha, he⟩ := valid_good hv hl0 (by omega) (by
      rw [hl3, hl]
      intro y hy
      rcases List.mem_cons.1 hy with rfl | hy
      · exact exit_ml _
      rcases List.mem_cons.1 hy with rfl | hy
      · exact ⟨hmp.2 ⟨by show n ≤ mostV 20; simp [mostV]; omega, hs⟩, hlp.2 (fun h => by omega)⟩
      · rw [List.mem_singleton] at hy; subst hy; exact exit_ml _)
    conv => cbv
    refine Br.no (by show ¬ (5 : Int) < q; omega) ?_
    conv => cbv
    refine Br.yes (by show (0 : Int) ≤ n; omega) ?_
    conv => cbv
    refine Need.mk ⟨by show (0 : Int) ≤ q; omega, by show q < 9; omega⟩ ?_
    conv => cbv
    refine Cell.at (v := .int .i64 (.lit 9)) q 5 rfl (by simp [I.val]) (by omega) ?_
    conv => cbv
    refine Br.yes (by show n ≤ 9; omega) ?_
    conv => cbv
    refine callF_frame (awake03_lx o ho) [(0, 0)] rfl (by simp [hmapOk, nget, hget, renB, okB, renV, renVs, rn, okVs, okV]) rfl rfl (fun r2 h' n' ⟨e1, e2, e3⟩ => ?_)
    subst e1 e2 e3
    conv => cbv
    refine Br.yes (by show e = 0; exact he) ?_
    conv => cbv
    refine Br.yes (by show a = 0; exact ha) ?_
    conv => cbv
    refine RetF.mk [.p (.bool true)] [(0, .fix 0 o)] 1 (Re.at [(0, 0)] []) rfl rfl
  · obtain ⟨ha, he⟩ := valid_bad hv hl0 (by omega) 1 _ hx1 hp1 5 (.inl ⟨fun h => by have h2 : n ≤ mostV 20 := (hmp.1 h).1; simp [mostV] at h2; omega, rfl⟩)
    conv => cbv
    refine Br.no (by show ¬ (5 : Int) < q; omega) ?_
    conv => cbv
    refine Br.yes (by show (0 : Int) ≤ n; omega) ?_
    conv => cbv
    refine Need.mk ⟨by show (0 : Int) ≤ q; omega, by show q < 9; omega⟩ ?_
    conv => cbv
    refine Cell.at (v := .int .i64 (.lit 9)) q 5 rfl (by simp [I.val]) (by omega) ?_
    conv => cbv
    refine Br.no (by show ¬ n ≤ 9; exact hg) ?_
    conv => cbv
    refine callF_frame (awake03_lx o ho) [(0, 0)] rfl (by simp [hmapOk, nget, hget, renB, okB, renV, renVs, rn, okVs, okV]) rfl rfl (fun r2 h' n' ⟨e1, e2, e3⟩ => ?_)
    subst e1 e2 e3
    conv => cbv
    refine Br.yes (by show e = 5; exact he) ?_
    conv => cbv
    refine Br.yes (by show a = 2; rw [ha]; rfl) ?_
    conv => cbv
    refine RetF.mk [.p (.bool true)] [(0, .fix 0 o)] 1 (Re.at [(0, 0)] []) rfl rfl
set_option maxHeartbeats 8000000 in
theorem bound6_lx (which n0 : Int) (o : Unit → Obj) (ho : IsPow o) (hk0 : IntKind.u64.wrap which % 9 = 6) : CallF (fun _ => Tryd.prog) 12 [.p (.int .i64 (.sym which)), .p (.int .i64 (.sym n0))] [(0, .fix 0 o)] 1 (fun r h n => r = .p (.bool true)) := by
  refine callF_of_body tok Tryd.func12 (by kernel_rfl) rfl rfl rfl ?_; conv => cbv
  refine Fit.wrap fun xn hxn => ?_
  have hxn : xn = IntKind.u64.wrap which := hxn
  have hyn : 0 ≤ xn := by rw [hxn]; simp [IntKind.wrap, IntKind.bits, IntKind.signed]; omega
  conv => cbv
  refine Sum.mk fun tn htn => ?_
  have htn : tn = xn % 9 := (show tn = xn.tmod 9 from htn).trans (Int.tmod_eq_emod_of_nonneg hyn)
  conv => cbv
  refine Fit.mk (by show (-9223372036854775808 : Int) ≤ tn; omega) (by show tn ≤ 9223372036854775807; omega) fun q hq => ?_
  have hq : q = tn := hq
  have hq0 : 0 ≤ q := by omega
  have hq1 : q < 9 := by omega
  have hqv : q = 6 := by rw [hq, htn, hxn]; exact hk0
  clear hq htn hyn
  conv => cbv
  refine Need.mk ⟨by show (0 : Int) ≤ q; omega, by show q < 9; omega⟩ ?_
  conv => cbv
  refine Cell.at (v := .int .i64 (.lit 2)) q 6 rfl (by simp [I.val]) (by omega) ?_
  conv => cbv
  refine Fit.wrap fun xn hxn => ?_
  have hxn : xn = IntKind.u64.wrap n0 := hxn
  have hyn : 0 ≤ xn := by rw [hxn]; simp [IntKind.wrap, IntKind.bits, IntKind.signed]; omega
  clear hxn
  conv => cbv
  refine Sum.mk fun tn htn => ?_
  have htn : tn = xn % 5 := (show tn = xn.tmod 5 from htn).trans (Int.tmod_eq_emod_of_nonneg hyn)
  conv => cbv
  refine Fit.mk (by show (-9223372036854775808 : Int) ≤ tn; omega) (by show tn ≤ 9223372036854775807; omega) fun m hm => ?_
  have hm : m = tn := hm
  have hm0 : 0 ≤ m := by omega
  have hm1 : m < 5 := by omega
  clear hm htn hyn
  conv => cbv
  refine Fit.mk (by show (-9223372036854775808 : Int) ≤ 0 + m; omega) (by show 0 + m ≤ 9223372036854775807; omega) fun n hn => ?_
  have hn : n = 0 + m := hn
  conv => cbv
  refine Need.mk ⟨by show (0 : Int) ≤ q; omega, by show q < 9; omega⟩ ?_
  conv => cbv
  refine Cell.at (v := .int .i64 (.lit 11)) q 6 rfl (by simp [I.val]) (by omega) ?_
  conv => cbv
  refine CallF.re (args0 := [.p (.vsl (.sym 3) true [.int .i64 (.sym 22), .int .i64 (.sym 0), .int .i64 (.sym 0), .int .i64 (.sym 0), .vsl (.sym 0) true [], .int .i64 (.sym 11), .int .i64 (.sym 0), .int .i64 (.sym 0), .int .i64 (.sym n), .vsl (.sym 0) true [], .int .i64 (.sym 22), .int .i64 (.sym 0), .int .i64 (.sym 0), .int .i64 (.sym 0), .vsl (.sym 0) true []])]) (h' := [(2, .pure false [.int .i64 (.lit 9999), .int .i64 (.lit 3), .int .i64 (.lit 1000), .int .i64 (.lit 3), .int .i64 (.lit 3), .int .i64 (.lit 9), .int .i64 (.lit 2), .int .i64 (.lit 2), .int .i64 (.lit 2)]), (0, .fix 0 o)]) (Re.at [(0, 0), (2, 2)] []) ?_
  obtain ⟨l, hl⟩ : ∃ l : List Is, l = [⟨22, 0, 0, 0, []⟩, ⟨11, 0, 0, n, []⟩, ⟨22, 0, 0, 0, []⟩] := ⟨_, rfl⟩
  have hl3 : l.length = 3 := by rw [hl]; rfl
  have hl0 : l ≠ [] := by rw [hl]; simp
  have hx1 : l[1]? = some ⟨11, 0, 0, n, []⟩ := by rw [hl]; rfl
  have hp1 : ∀ y ∈ l.take 1, MayP y ∧ LeadP y l.length := by
    rw [hl]
    intro y hy
    rw [show ([⟨22, 0, 0, 0, []⟩, ⟨11, 0, 0, n, []⟩, ⟨22, 0, 0, 0, []⟩] : List Is).take 1 = [⟨22, 0, 0, 0, []⟩] from rfl, List.mem_singleton] at hy
    subst hy
    exact exit_ml _
  have hni : I64 n := by unfold I64; omega
  have hoi : I64 11 := by unfold I64; decide
  refine callF_frame (valid_lx l 3 [.int .i64 (.sym 22), .int .i64 (.sym 0), .int .i64 (.sym 0), .int .i64 (.sym 0), .vsl (.sym 0) true [], .int .i64 (.sym 11), .int .i64 (.sym 0), .int .i64 (.sym 0), .int .i64 (.sym n), .vsl (.sym 0) true [], .int .i64 (.sym 22), .int .i64 (.sym 0), .int .i64 (.sym 0), .int .i64 (.sym 0), .vsl (.sym 0) true []] o ho (by rw [hl3]; rfl) (by rw [hl]; rfl) (by rw [hl3]; decide) (by rw [hl]; exact trio_x64 11 n hoi hni)) [(0, 0)] rfl (by simp [hmapOk, nget, hget, renB, okB, renV, renVs, rn, okVs, okV]) rfl rfl (fun r2 h' n' hrr => ?_)
  obtain ⟨⟨a, e, e1, hv⟩, e2, e3⟩ := hrr
  subst e1 e2 e3
  have hmp := may_plain 11 0 0 n hoi hni
  have hlp := lead_plain 11 0 0 n 3
  by_cases hg : n ≤ 2
  · have hs : Shp ⟨11, 0, 0, n, []⟩ := shp_mk _ _ _ _ (by decide) (by decide) (by simp [shapeV] <;> omega) (by simp [shapeV] <;> omega) (by simp [shapeV] <;> omega)
    obtain ⟨ha, he⟩ := valid_good hv hl0 (by omega) (by
      rw [hl3, hl]
      intro y hy
      rcases List.mem_cons.1 hy with rfl | hy
      · exact exit_ml _
      rcases List.mem_cons.1 hy with rfl | hy
      · exact ⟨hmp.2 ⟨by show n ≤ mostV 11; simp [mostV]; omega, hs⟩, hlp.2 (fun h => by omega)⟩
      · rw [List.mem_singleton] at hy; subst hy; exact exit_ml _)
    conv => cbv
    refine Br.yes (by show (5 : Int) < q; omega) ?_
    conv => cbv
    refine Br.yes (by show (0 : Int) ≤ n; omega) ?_
    conv => cbv
    refine Br.yes (by show (0 : Int) ≤ n; omega) ?_
    conv => cbv
    refine Need.mk ⟨by show (0 : Int) ≤ q; omega, by show q < 9; omega⟩ ?_
    conv => cbv
    refine Cell.at (v := .int .i64 (.lit 2)) q 6 rfl (by simp [I.val]) (by omega) ?_
    conv => cbv
    refine Br.yes (by show n ≤ 2; omega) ?_
    conv => cbv
    refine callF_frame (awake03_lx o ho) [(0, 0)] rfl (by simp [hmapOk, nget, hget, renB, okB, renV, renVs, rn, okVs, okV]) rfl rfl (fun r2 h' n' ⟨e1, e2, e3⟩ => ?_)
    subst e1 e2 e3
    conv => cbv
    refine Br.yes (by show e = 0; exact he) ?_
    conv => cbv
    refine Br.yes (by show a = 0; exact ha) ?_
    conv => cbv
    refine RetF.mk [.p (.bool true)] [(0, .fix 0 o)] 1 (Re.at [(0, 0)] []) rfl rfl
  · have hs : Shp ⟨11, 0, 0, n, []⟩ := shp_mk _ _ _ _ (by decide) (by decide) (by simp [shapeV] <;> omega) (by simp [shapeV] <;> omega) (by simp [shapeV] <;> omega)
    obtain ⟨ha, he⟩ := valid_bad hv hl0 (by omega) 1 _ hx1 hp1 6 (.inr ⟨hmp.2 ⟨by show n ≤ mostV 11; simp [mostV]; omega, hs⟩, fun h => by rw [hl3] at h; have := hlp.1 h (by decide); omega, rfl⟩)
    conv => cbv
    refine Br.yes (by show (5 : Int) < q; omega) ?_
    conv => cbv
    refine Br.yes (by show (0 : Int) ≤ n; omega) ?_
    conv => cbv
    refine Br.yes (by show (0 : Int) ≤ n; omega) ?_
    conv => cbv
    refine Need.mk ⟨by show (0 : Int) ≤ q; omega, by show q < 9; omega⟩ ?_
    conv => cbv
    refine Cell.at (v := .int .i64 (.lit 2)) q 6 rfl (by simp [I.val]) (by omega) ?_
    conv => cbv
    refine Br.no (by show ¬ n ≤ 2; exact hg) ?_
    conv => cbv
    refine callF_frame (awake03_lx o ho) [(0, 0)] rfl (by simp [hmapOk, nget, hget, renB, okB, renV, renVs, rn, okVs, okV]) rfl rfl (fun r2 h' n' ⟨e1, e2, e3⟩ => ?_)
    subst e1 e2 e3
    conv => cbv
    refine Br.yes (by show e = 6; exact he) ?_
    conv => cbv
    refine Br.yes (by show a = 2; rw [ha]; rfl) ?_
    conv => cbv
    refine RetF.mk [.p (.bool true)] [(0, .fix 0 o)] 1 (Re.at [(0, 0)] []) rfl rfl
set_option maxHeartbeats 8000000 in
theorem bound7_lx (which n0 : Int) (o : Unit → Obj) (ho : IsPow o) (hk0 : IntKind.u64.wrap which % 9 = 7) : CallF (fun _ => Tryd.prog) 12 [.p (.int .i64 (.sym which)), .p (.int .i64 (.sym n0))] [(0, .fix 0 o)] 1 (fun r h n => r = .p (.bool true)) := by
  refine callF_of_body tok Tryd.func12 (by kernel_rfl) rfl rfl rfl ?_; conv => cbv
  refine Fit.wrap fun xn hxn => ?_
  have hxn : xn = IntKind.u64.wrap which := hxn
  have hyn : 0 ≤ xn := by rw [hxn]; simp [IntKind.wrap, IntKind.bits, IntKind.signed]; omega
  conv => cbv
  refine Sum.mk fun tn htn => ?_
  have htn : tn = xn % 9 := (show tn = xn.tmod 9 from htn).trans (Int.tmod_eq_emod_of_nonneg hyn)
  conv => cbv
  refine Fit.mk (by show (-9223372036854775808 : Int) ≤ tn; omega) (by show tn ≤ 9223372036854775807; omega) fun q hq => ?_
  have hq : q = tn := hq
  have hq0 : 0 ≤ q := by omega
  have hq1 : q < 9 := by omega
  have hqv : q = 7 := by rw [hq, htn, hxn]; exact hk0
  clear hq htn hyn
  conv => cbv
  refine Need.mk ⟨by show (0 : Int) ≤ q; omega, by show q < 9; omega⟩ ?_
  conv => cbv
  refine Cell.at (v := .int .i64 (.lit 2)) q 7 rfl (by simp [I.val]) (by omega) ?_
  conv => cbv
  refine Fit.wrap fun xn hxn => ?_
  have hxn : xn = IntKind.u64.wrap n0 := hxn
  have hyn : 0 ≤ xn := by rw [hxn]; simp [IntKind.wrap, IntKind.bits, IntKind.signed]; omega
  clear hxn
  conv => cbv
  refine Sum.mk fun tn htn => ?_
  have htn : tn = xn % 5 := (show tn = xn.tmod 5 from htn).trans (Int.tmod_eq_emod_of_nonneg hyn)
  conv => cbv
  refine Fit.mk (by show (-9223372036854775808 : Int) ≤ tn; omega) (by show tn ≤ 9223372036854775807; omega) fun m hm => ?_
  have hm : m = tn := hm
  have hm0 : 0 ≤ m := by omega
  have hm1 : m < 5 := by omega
  clear hm htn hyn
  conv => cbv
  refine Fit.mk (by show (-9223372036854775808 : Int) ≤ 0 + m; omega) (by show 0 + m ≤ 9223372036854775807; omega) fun n hn => ?_
  have hn : n = 0 + m := hn
  conv => cbv
  refine Need.mk ⟨by show (0 : Int) ≤ q; omega, by show q < 9; omega⟩ ?_
  conv => cbv
  refine Cell.at (v := .int .i64 (.lit 10)) q 7 rfl (by simp [I.val]) (by omega) ?_
  conv => cbv
  refine CallF.re (args0 := [.p (.vsl (.sym 3) true [.int .i64 (.sym 22), .int .i64 (.sym 0), .int .i64 (.sym 0), .int .i64 (.sym 0), .vsl (.sym 0) true [], .int .i64 (.sym 10), .int .i64 (.sym 0), .int .i64 (.sym 0), .int .i64 (.sym n), .vsl (.sym 0) true [], .int .i64 (.sym 22), .int .i64 (.sym 0), .int .i64 (.sym 0), .int .i64 (.sym 0), .vsl (.sym 0) true []])]) (h' := [(2, .pure false [.int .i64 (.lit 9999), .int .i64 (.lit 3), .int .i64 (.lit 1000), .int .i64 (.lit 3), .int .i64 (.lit 3), .int .i64 (.lit 9), .int .i64 (.lit 2), .int .i64 (.lit 2), .int .i64 (.lit 2)]), (0, .fix 0 o)]) (Re.at [(0, 0), (2, 2)] []) ?_
  obtain ⟨l, hl⟩ : ∃ l : List Is, l = [⟨22, 0, 0, 0, []⟩, ⟨10, 0, 0, n, []⟩, ⟨22, 0, 0, 0, []⟩] := ⟨_, rfl⟩
  have hl3 : l.length = 3 := by rw [hl]; rfl
  have hl0 : l ≠ [] := by rw [hl]; simp
  have hx1 : l[1]? = some ⟨10, 0, 0, n, []⟩ := by rw [hl]; rfl
  have hp1 : ∀ y ∈ l.take 1, MayP y ∧ LeadP y l.length := by
    rw [hl]
    intro y hy
    rw [show ([⟨22, 0, 0, 0, []⟩, ⟨10, 0, 0, n, []⟩, ⟨22, 0, 0, 0, []⟩] : List Is).take 1 = [⟨22, 0, 0, 0, []⟩] from rfl, List.mem_singleton] at hy
    subst hy
    exact exit_ml _
  have hni : I64 n := by unfold I64; omega
  have hoi : I64 10 := by unfold I64; decide
  refine callF_frame (valid_lx l 3 [.int .i64 (.sym 22), .int .i64 (.sym 0), .int .i64 (.sym 0), .int .i64 (.sym 0), .vsl (.sym 0) true [], .int .i64 (.sym 10), .int .i64 (.sym 0), .int .i64 (.sym 0), .int .i64 (.sym n), .vsl (.sym 0) true [], .int .i64 (.sym 22), .int .i64 (.sym 0), .int .i64 (.sym 0), .int .i64 (.sym 0), .vsl (.sym 0) true []] o ho (by rw [hl3]; rfl) (by rw [hl]; rfl) (by rw [hl3]; decide) (by rw [hl]; exact trio_x64 10 n hoi hni)) [(0, 0)] rfl (by simp [hmapOk, nget, hget, renB, okB, renV, renVs, rn, okVs, okV]) rfl rfl (fun r2 h' n' hrr => ?_)
  obtain ⟨⟨a, e, e1, hv⟩, e2, e3⟩ := hrr
  subst e1 e2 e3
  have hmp := may_plain 10 0 0 n hoi hni
  have hlp := lead_plain 10 0 0 n 3
  by_cases hg : n ≤ 2
  · have hs : Shp ⟨10, 0, 0, n, []⟩ := shp_mk _ _ _ _ (by decide) (by decide) (by simp [shapeV] <;> omega) (by simp [shapeV] <;> omega) (by simp [shapeV] <;> omega)
    obtain ⟨ha, he⟩ := valid_good hv hl0 (by omega) (by
      rw [hl3, hl]
      intro y hy
      rcases List.mem_cons.1 hy with rfl | hy
      · exact exit_ml _
      rcases List.mem_cons.1 hy with rfl | hy
      · exact ⟨hmp.2 ⟨by show n ≤ mostV 10; simp [mostV]; omega, hs⟩, hlp.2 (fun h => by omega)⟩
      · rw [List.mem_singleton] at hy; subst hy; exact exit_ml _)
    conv => cbv
    refine Br.yes (by show (5 : Int) < q; omega) ?_
    conv => cbv
    refine Br.yes (by show (0 : Int) ≤ n; omega) ?_
    conv => cbv
    refine Br.yes (by show (0 : Int) ≤ n; omega) ?_
    conv => cbv
    refine Need.mk ⟨by show (0 : Int) ≤ q; omega, by show q < 9; omega⟩ ?_
    conv => cbv
    refine Cell.at (v := .int .i64 (.lit 2)) q 7 rfl (by simp [I.val]) (by omega) ?_
    conv => cbv
    refine Br.yes (by show n ≤ 2; omega) ?_
    conv => cbv
    refine callF_frame (awake03_lx o ho) [(0, 0)] rfl (by simp [hmapOk, nget, hget, renB, okB, renV, renVs, rn, okVs, okV]) rfl rfl (fun r2 h' n' ⟨e1, e2, e3⟩ => ?_)
    subst e1 e2 e3
    conv => cbv
    refine Br.yes (by show e = 0; exact he) ?_
    conv => cbv
    refine Br.yes (by show a = 0; exact ha) ?_
    conv => cbv
    refine RetF.mk [.p (.bool true)] [(0, .fix 0 o)] 1 (Re.at [(0, 0)] []) rfl rfl
  · have hs : Shp ⟨10, 0, 0, n, []⟩ := shp_mk _ _ _ _ (by decide) (by decide) (by simp [shapeV] <;> omega) (by simp [shapeV] <;> omega) (by simp [shapeV] <;> omega)
    obtain ⟨ha, he⟩ := valid_bad hv hl0 (by omega) 1 _ hx1 hp1 6 (.inr ⟨hmp.2 ⟨by show n ≤ mostV 10; simp [mostV]; omega, hs⟩, fun h => by rw [hl3] at h; have := hlp.1 h (by decide); omega, rfl⟩)
    conv => cbv
    refine Br.yes (by show (5 : Int) < q; omega) ?_
    conv => cbv
    refine Br.yes (by show (0 : Int) ≤ n; omega) ?_
    conv => cbv
    refine Br.yes (by show (0 : Int) ≤ n; omega) ?_
    conv => cbv
    refine Need.mk ⟨by show (0 : Int) ≤ q; omega, by show q < 9; omega⟩ ?_
    conv => cbv
    refine Cell.at (v := .int .i64 (.lit 2)) q 7 rfl (by simp [I.val]) (by omega) ?_
    conv => cbv
    refine Br.no (by show ¬ n ≤ 2; exact hg) ?_
    conv => cbv
    refine callF_frame (awake03_lx o ho) [(0, 0)] rfl (by simp [hmapOk, nget, hget, renB, okB, renV, renVs, rn, okVs, okV]) rfl rfl (fun r2 h' n' ⟨e1, e2, e3⟩ => ?_)
    subst e1 e2 e3
    conv => cbv
    refine Br.yes (by show e = 6; exact he) ?_
    conv => cbv
    refine Br.yes (by show a = 2; rw [ha]; rfl) ?_
    conv => cbv
    refine RetF.mk [.p (.bool true)] [(0, .fix 0 o)] 1 (Re.at [(0, 0)] []) rfl rfl
set_option maxHeartbeats 8000000 in
theorem bound8_lx (which n0 : Int) (o : Unit → Obj) (ho : IsPow o) (hk0 : IntKind.u64.wrap which % 9 = 8) : CallF (fun _ => Tryd.prog) 12 [.p (.int .i64 (.sym which)), .p (.int .i64 (.sym n0))] [(0, .fix 0 o)] 1 (fun r h n => r = .p (.bool true)) := by
  refine callF_of_body tok Tryd.func12 (by kernel_rfl) rfl rfl rfl ?_; conv => cbv
  refine Fit.wrap fun xn hxn => ?_
  have hxn : xn = IntKind.u64.wrap which := hxn
  have hyn : 0 ≤ xn := by rw [hxn]; simp [IntKind.wrap, IntKind.bits, IntKind.signed]; omega
  conv => cbv
  refine Sum.mk fun tn htn => ?_
  have htn : tn = xn % 9 := (show tn = xn.tmod 9 from htn).trans (Int.tmod_eq_emod_of_nonneg hyn)
  conv => cbv
  refine Fit.mk (by show (-9223372036854775808 : Int) ≤ tn; omega) (by show tn ≤ 9223372036854775807; omega) fun q hq => ?_
  have hq : q = tn := hq
  have hq0 : 0 ≤ q := by omega
  have hq1 : q < 9 := by omega
  have hqv : q = 8 := by rw [hq, htn, hxn]; exact hk0
  clear hq htn hyn
  conv => cbv
  refine Need.mk ⟨by show (0 : Int) ≤ q; omega, by show q < 9; omega⟩ ?_
  conv => cbv
  refine Cell.at (v := .int .i64 (.lit 2)) q 8 rfl (by simp [I.val]) (by omega) ?_
  conv => cbv
  refine Fit.wrap fun xn hxn => ?_
  have hxn : xn = IntKind.u64.wrap n0 := hxn
  have hyn : 0 ≤ xn := by rw [hxn]; simp [IntKind.wrap, IntKind.bits, IntKind.signed]; omega
  clear hxn
  conv => cbv
  refine Sum.mk fun tn htn => ?_
  have htn : tn = xn % 5 := (show tn = xn.tmod 5 from htn).trans (Int.tmod_eq_emod_of_nonneg hyn)
  conv => cbv
  refine Fit.mk (by show (-9223372036854775808 : Int) ≤ tn; omega) (by show tn ≤ 9223372036854775807; omega) fun m hm => ?_
  have hm : m = tn := hm
  have hm0 : 0 ≤ m := by omega
  have hm1 : m < 5 := by omega
  clear hm htn hyn
  conv => cbv
  refine Fit.mk (by show (-9223372036854775808 : Int) ≤ 0 + m; omega) (by show 0 + m ≤ 9223372036854775807; omega) fun n hn => ?_
  have hn : n = 0 + m := hn
  conv => cbv
  refine Need.mk ⟨by show (0 : Int) ≤ q; omega, by show q < 9; omega⟩ ?_
  conv => cbv
  refine Cell.at (v := .int .i64 (.lit 12)) q 8 rfl (by simp [I.val]) (by omega) ?_
  conv => cbv
  refine CallF.re (args0 := [.p (.vsl (.sym 3) true [.int .i64 (.sym 22), .int .i64 (.sym 0), .int .i64 (.sym 0), .int .i64 (.sym 0), .vsl (.sym 0) true [], .int .i64 (.sym 12), .int .i64 (.sym 0), .int .i64 (.sym 0), .int .i64 (.sym n), .vsl (.sym 0) true [], .int .i64 (.sym 22), .int .i64 (.sym 0), .int .i64 (.sym 0), .int .i64 (.sym 0), .vsl (.sym 0) true []])]) (h' := [(2, .pure false [.int .i64 (.lit 9999), .int .i64 (.lit 3), .int .i64 (.lit 1000), .int .i64 (.lit 3), .int .i64 (.lit 3), .int .i64 (.lit 9), .int .i64 (.lit 2), .int .i64 (.lit 2), .int .i64 (.lit 2)]), (0, .fix 0 o)]) (Re.at [(0, 0), (2, 2)] []) ?_
  obtain ⟨l, hl⟩ : ∃ l : List Is, l = [⟨22, 0, 0, 0, []⟩, ⟨12, 0, 0, n, []⟩, ⟨22, 0, 0, 0, []⟩] := ⟨_, rfl⟩
  have hl3 : l.length = 3 := by rw [hl]; rfl
  have hl0 : l ≠ [] := by rw [hl]; simp
  have hx1 : l[1]? = some ⟨12, 0, 0, n, []⟩ := by rw [hl]; rfl
  have hp1 : ∀ y ∈ l.take 1, MayP y ∧ LeadP y l.length := by
    rw [hl]
    intro y hy
    rw [show ([⟨22, 0, 0, 0, []⟩, ⟨12, 0, 0, n, []⟩, ⟨22, 0, 0, 0, []⟩] : List Is).take 1 = [⟨22, 0, 0, 0, []⟩] from rfl, List.mem_singleton] at hy
    subst hy
    exact exit_ml _
  have hni : I64 n := by unfold I64; omega
  have hoi : I64 12 := by unfold I64; decide
  refine callF_frame (valid_lx l 3 [.int .i64 (.sym 22), .int .i64 (.sym 0), .int .i64 (.sym 0), .int .i64 (.sym 0), .vsl (.sym 0) true [], .int .i64 (.sym 12), .int .i64 (.sym 0), .int .i64 (.sym 0), .int .i64 (.sym n), .vsl (.sym 0) true [], .int .i64 (.sym 22), .int .i64 (.sym 0), .int .i64 (.sym 0), .int .i64 (.sym 0), .vsl (.sym 0) true []] o ho (by rw [hl3]; rfl) (by rw [hl]; rfl) (by rw [hl3]; decide) (by rw [hl]; exact trio_x64 12 n hoi hni)) [(0, 0)] rfl (by simp [hmapOk, nget, hget, renB, okB, renV, renVs, rn, okVs, okV]) rfl rfl (fun r2 h' n' hrr => ?_)
  obtain ⟨⟨a, e, e1, hv⟩, e2, e3⟩ := hrr
  subst e1 e2 e3
  have hmp := may_plain 12 0 0 n hoi hni
  have hlp := lead_plain 12 0 0 n 3
  by_cases hg : n ≤ 2
  · have hs : Shp ⟨12, 0, 0, n, []⟩ := shp_mk _ _ _ _ (by decide) (by decide) (by simp [shapeV] <;> omega) (by simp [shapeV] <;> omega) (by simp [shapeV] <;> omega)
    obtain ⟨ha, he⟩ := valid_good hv hl0 (by omega) (by
      rw [hl3, hl]
      intro y hy
      rcases List.mem_cons.1 hy with rfl | hy
      · exact exit_ml _
      rcases List.mem_cons.1 hy with rfl | hy
      · exact ⟨hmp.2 ⟨by show n ≤ mostV 12; simp [mostV]; omega, hs⟩, hlp.2 (fun h => by omega)⟩
      · rw [List.mem_singleton] at hy; subst hy; exact exit_ml _)
    conv => cbv
    refine Br.yes (by show (5 : Int) < q; omega) ?_
    conv => cbv
    refine Br.yes (by show (0 : Int) ≤ n; omega) ?_
    conv => cbv
    refine Br.yes (by show (0 : Int) ≤ n; omega) ?_
    conv => cbv
    refine Need.mk ⟨by show (0 : Int) ≤ q; omega, by show q < 9; omega⟩ ?_
    conv => cbv
    refine Cell.at (v := .int .i64 (.lit 2)) q 8 rfl (by simp [I.val]) (by omega) ?_
    conv => cbv
    refine Br.yes (by show n ≤ 2; omega) ?_
    conv => cbv
    refine callF_frame (awake03_lx o ho) [(0, 0)] rfl (by simp [hmapOk, nget, hget, renB, okB, renV, renVs, rn, okVs, okV]) rfl rfl (fun r2 h' n' ⟨e1, e2, e3⟩ => ?_)
    subst e1 e2 e3
    conv => cbv
    refine Br.yes (by show e = 0; exact he) ?_
    conv => cbv
    refine Br.yes (by show a = 0; exact ha) ?_
    conv => cbv
    refine RetF.mk [.p (.bool true)] [(0, .fix 0 o)] 1 (Re.at [(0, 0)] []) rfl rfl
  · have hs : Shp ⟨12, 0, 0, n, []⟩ := shp_mk _ _ _ _ (by decide) (by decide) (by simp [shapeV] <;> omega) (by simp [shapeV] <;> omega) (by simp [shapeV] <;> omega)
    obtain ⟨ha, he⟩ := valid_bad hv hl0 (by omega) 1 _ hx1 hp1 6 (.inr ⟨hmp.2 ⟨by show n ≤ mostV 12; simp [mostV]; omega, hs⟩, fun h => by rw [hl3] at h; have := hlp.1 h (by decide); omega, rfl⟩)
    conv => cbv
    refine Br.yes (by show (5 : Int) < q; omega) ?_
    conv => cbv
    refine Br.yes (by show (0 : Int) ≤ n; omega) ?_
    conv => cbv
    refine Br.yes (by show (0 : Int) ≤ n; omega) ?_
    conv => cbv
    refine Need.mk ⟨by show (0 : Int) ≤ q; omega, by show q < 9; omega⟩ ?_
    conv => cbv
    refine Cell.at (v := .int .i64 (.lit 2)) q 8 rfl (by simp [I.val]) (by omega) ?_
    conv => cbv
    refine Br.no (by show ¬ n ≤ 2; exact hg) ?_
    conv => cbv
    refine callF_frame (awake03_lx o ho) [(0, 0)] rfl (by simp [hmapOk, nget, hget, renB, okB, renV, renVs, rn, okVs, okV]) rfl rfl (fun r2 h' n' ⟨e1, e2, e3⟩ => ?_)
    subst e1 e2 e3
    conv => cbv
    refine Br.yes (by show e = 6; exact he) ?_
    conv => cbv
    refine Br.yes (by show a = 2; rw [ha]; rfl) ?_
    conv => cbv
    refine RetF.mk [.p (.bool true)] [(0, .fix 0 o)] 1 (Re.at [(0, 0)] []) rfl rfl
theorem checkBounds_lx (which n0 : Int) (o : Unit → Obj) (ho : IsPow o) : CallF (fun _ => Tryd.prog) 12 [.p (.int .i64 (.sym which)), .p (.int .i64 (.sym n0))] [(0, .fix 0 o)] 1 (fun r h n => r = .p (.bool true)) := by
  obtain ⟨k, hk⟩ : ∃ k, k = IntKind.u64.wrap which % 9 := ⟨_, rfl⟩
  have h0 : 0 ≤ k := by rw [hk]; omega
  have h1 : k < 9 := by rw [hk]; omega
  have hc : k = 0 ∨ k = 1 ∨ k = 2 ∨ k = 3 ∨ k = 4 ∨ k = 5 ∨ k = 6 ∨ k = 7 ∨ k = 8 := by omega
  rcases hc with h | h | h | h | h | h | h | h | h
  · exact bound0_lx which n0 o ho (hk.symm.trans h)
  · exact bound1_lx which n0 o ho (hk.symm.trans h)
  · exact bound2_lx which n0 o ho (hk.symm.trans h)
  · exact bound3_lx which n0 o ho (hk.symm.trans h)
  · exact bound4_lx which n0 o ho (hk.symm.trans h)
  · exact bound5_lx which n0 o ho (hk.symm.trans h)
  · exact bound6_lx which n0 o ho (hk.symm.trans h)
  · exact bound7_lx which n0 o ho (hk.symm.trans h)
  · exact bound8_lx which n0 o ho (hk.symm.trans h)
end Go.Proofs.YtnbloimkagabjaaDoor
