/-
  Layer 9: a step, where something is grey; HeapNil.
-/
import Derived.Test.YtllafhhnciobhaaGreatDoorHa
namespace Go.Proofs.YtllafhhnciobhaaGreatDoor

open Go Go.LX
set_option maxRecDepth 100000
set_option linter.unusedVariables false
set_option linter.unusedSimpArgs false

theorem HM.pop {R : List Rw} {ws C A : List Int} {v : Int} {N W : Int} {L D Q : List PV} {z z' : ByteArray} (h : HM R ws C (A ++ [v]) N W L D Q z) (hz : z' = ⟨(enc A).toArray⟩) : HM R ws C A N W L D Q z' ∧ 0 ≤ v ∧ v < W :=
  ⟨⟨h.a, h.k, h.n, h.r, h.w, h.l, h.d, h.q, h.c, hz, fun x hx => h.g x (List.mem_append_left _ hx), by have := h.g8; rw [List.length_append] at this; omega⟩, h.g v (by simp)⟩
set_option maxHeartbeats 2000000 in
theorem nextGreyPop_lx (R : List Rw) (ws C G : List Int) (N W ph sp cy : Int) (L D Q : List PV) (z : ByteArray) (ov : Bool) (h : HM R ws C G N W L D Q z) (A : List Int) (v : Int) (hG : G = A ++ [v]) : CallF (fun _ => Tryz.prog) 82 [.ptr 0 (.lit 0)] [(0, .mix [.ptr 1 (.lit 0), .ptr 5 (.lit 0), .sl 6 3 1 (.lit 0) (.sym W), .p (.int .i64 (.sym ph)), .p (.int .i64 (.sym sp)), .p (.int .i64 (.sym cy))]), (1, .mix [.ptr 2 (.lit 0), .sl 4 3 1 (.lit 0) (.sym W)]), (2, .mix [.sl 3 101 2 (.lit 0) (.sym N)]), (3, .pure true L), (4, .pure true D), (5, .pure false [.str fun _ => z, .bool ov]), (6, .pure true Q)] 7 (fun r h n => ∃ (z' : ByteArray), r = .tup [.p (.int .i64 (.sym v)), .p (.bool true)] ∧ h = [(0, .mix [.ptr 1 (.lit 0), .ptr 5 (.lit 0), .sl 6 3 1 (.lit 0) (.sym W), .p (.int .i64 (.sym ph)), .p (.int .i64 (.sym sp)), .p (.int .i64 (.sym cy))]), (1, .mix [.ptr 2 (.lit 0), .sl 4 3 1 (.lit 0) (.sym W)]), (2, .mix [.sl 3 101 2 (.lit 0) (.sym N)]), (3, .pure true L), (4, .pure true D), (5, .pure false [.str fun _ => z', .bool ov]), (6, .pure true Q)] ∧ n = 7 ∧ HM R ws C A N W L D Q z') := by
  refine callF_of_body tok Tryz.func82 (by kernel_rfl) rfl rfl rfl ?_; conv => cbv
  refine callF_frame (greyPop_lx G z ov h.z h.g64 h.g8) [(0, 5)] rfl (by simp [hmapOk, nget, hget, renB, okB, renV, renVs, rn, okVs, okV]) rfl rfl (fun r h' n' hrr => ?_)
  obtain ⟨v2, b, z', A', e1, e2, e3, hz', h4⟩ := hrr
  subst e1 e2 e3
  obtain ⟨hGA, rfl⟩ : G = A' ++ [v2] ∧ b = true := by
    rcases h4 with ⟨e, _⟩ | h4
    · rw [e] at hG; exact absurd hG.symm (by simp)
    · exact h4
  obtain ⟨rfl, hv2⟩ := List.append_inj' (hG.symm.trans hGA) rfl
  obtain rfl : v = v2 := by simpa using hv2
  conv => cbv
  refine RetF.mk [.p (.int .i64 (.sym v)), .p (.bool true)] [(0, .mix [.ptr 1 (.lit 0), .ptr 5 (.lit 0), .sl 6 3 1 (.lit 0) (.sym W), .p (.int .i64 (.sym ph)), .p (.int .i64 (.sym sp)), .p (.int .i64 (.sym cy))]), (1, .mix [.ptr 2 (.lit 0), .sl 4 3 1 (.lit 0) (.sym W)]), (2, .mix [.sl 3 101 2 (.lit 0) (.sym N)]), (3, .pure true L), (4, .pure true D), (5, .pure false [.str fun _ => z', .bool ov]), (6, .pure true Q)] 7 (Re.at [(0, 0), (1, 1), (2, 2), (3, 3), (4, 4), (5, 5), (6, 6)] []) rfl ⟨z', rfl, rfl, rfl, (HM.pop (hG ▸ h) hz').1⟩
set_option maxHeartbeats 2000000 in
theorem markPop_lx (R : List Rw) (ws C G : List Int) (N W ph sp cy : Int) (L D Q : List PV) (z : ByteArray) (ov : Bool) (h : HM R ws C G N W L D Q z) (o : Unit → Obj) (ho : IsPow o) (A : List Int) (v : Int) (hG : G = A ++ [v]) : CallF (fun _ => Tryz.prog) 62 [.ptr 0 (.lit 0)] [(0, .mix [.ptr 1 (.lit 0), .ptr 5 (.lit 0), .sl 6 3 1 (.lit 0) (.sym W), .p (.int .i64 (.sym ph)), .p (.int .i64 (.sym sp)), .p (.int .i64 (.sym cy))]), (1, .mix [.ptr 2 (.lit 0), .sl 4 3 1 (.lit 0) (.sym W)]), (2, .mix [.sl 3 101 2 (.lit 0) (.sym N)]), (3, .pure true L), (4, .pure true D), (5, .pure false [.str fun _ => z, .bool ov]), (6, .pure true Q), (7, .fix 0 o)] 8 (fun r h n => ∃ (X C' G' : List Int) (ov' : Bool) (Q' : List PV) (z' : ByteArray), r = .p .nils ∧ h = [(0, .mix [.ptr 1 (.lit 0), .ptr 5 (.lit 0), .sl 6 3 1 (.lit 0) (.sym W), .p (.int .i64 (.sym ph)), .p (.int .i64 (.sym sp)), .p (.int .i64 (.sym cy))]), (1, .mix [.ptr 2 (.lit 0), .sl 4 3 1 (.lit 0) (.sym W)]), (2, .mix [.sl 3 101 2 (.lit 0) (.sym N)]), (3, .pure true L), (4, .pure true D), (5, .pure false [.str fun _ => z', .bool ov']), (6, .pure true Q'), (7, .fix 0 o)] ∧ n = 8 ∧ HM R ws C' G' N W L D Q' z' ∧ Wrds R ws v X ∧ (C', G', ov') = scanS R ph v X (C, A, ov)) := by
  have hv := (HM.pop (z' := ⟨(enc A).toArray⟩) (hG ▸ h) rfl).2
  refine callF_of_body tok Tryz.func62 (by kernel_rfl) rfl rfl rfl ?_; conv => cbv
  refine callF_frame (nextGreyPop_lx R ws C G N W ph sp cy L D Q z ov h A v hG) [(0, 0), (1, 1), (2, 2), (3, 3), (4, 4), (5, 5), (6, 6)] rfl (by simp [hmapOk, nget, hget, renB, okB, renV, renVs, rn, okVs, okV]) rfl rfl (fun r h' n' hrr => ?_)
  obtain ⟨z1, e1, e2, e3, h1⟩ := hrr
  subst e1 e2 e3
  conv => cbv
  refine callF_frame (scan_lx R ws C A N W ph sp cy L D Q z1 ov h1 o ho v hv) [(0, 0), (1, 1), (2, 2), (3, 3), (4, 4), (5, 5), (6, 6), (7, 7)] rfl (by simp [hmapOk, nget, hget, renB, okB, renV, renVs, rn, okVs, okV]) rfl rfl (fun r h' n' hrr => ?_)
  obtain ⟨X, C', G', ov', Q', z', e1, e2, e3, h2, hX, hS⟩ := hrr
  subst e1 e2 e3
  conv => cbv
  refine RetF.mk [.p .nils] [(0, .mix [.ptr 1 (.lit 0), .ptr 5 (.lit 0), .sl 6 3 1 (.lit 0) (.sym W), .p (.int .i64 (.sym ph)), .p (.int .i64 (.sym sp)), .p (.int .i64 (.sym cy))]), (1, .mix [.ptr 2 (.lit 0), .sl 4 3 1 (.lit 0) (.sym W)]), (2, .mix [.sl 3 101 2 (.lit 0) (.sym N)]), (3, .pure true L), (4, .pure true D), (5, .pure false [.str fun _ => z', .bool ov']), (6, .pure true Q'), (7, .fix 0 o)] 8 (Re.at [(0, 0), (1, 1), (2, 2), (3, 3), (4, 4), (5, 5), (6, 6), (7, 7)] []) rfl ⟨X, C', G', ov', Q', z', rfl, rfl, rfl, h2, hX, hS⟩
set_option maxHeartbeats 2000000 in
theorem stepPop_lx (R : List Rw) (ws C G : List Int) (N W ph sp cy : Int) (L D Q : List PV) (z : ByteArray) (ov : Bool) (h : HM R ws C G N W L D Q z) (o : Unit → Obj) (ho : IsPow o) (A : List Int) (v : Int) (hG : G = A ++ [v]) (hph : ph = 1) : CallF (fun _ => Tryz.prog) 27 [.ptr 0 (.lit 0)] [(0, .mix [.ptr 1 (.lit 0), .ptr 5 (.lit 0), .sl 6 3 1 (.lit 0) (.sym W), .p (.int .i64 (.sym ph)), .p (.int .i64 (.sym sp)), .p (.int .i64 (.sym cy))]), (1, .mix [.ptr 2 (.lit 0), .sl 4 3 1 (.lit 0) (.sym W)]), (2, .mix [.sl 3 101 2 (.lit 0) (.sym N)]), (3, .pure true L), (4, .pure true D), (5, .pure false [.str fun _ => z, .bool ov]), (6, .pure true Q), (7, .fix 0 o)] 8 (fun r h n => ∃ (X C' G' : List Int) (ov' : Bool) (Q' : List PV) (z' : ByteArray), r = .p .nils ∧ h = [(0, .mix [.ptr 1 (.lit 0), .ptr 5 (.lit 0), .sl 6 3 1 (.lit 0) (.sym W), .p (.int .i64 (.sym ph)), .p (.int .i64 (.sym sp)), .p (.int .i64 (.sym cy))]), (1, .mix [.ptr 2 (.lit 0), .sl 4 3 1 (.lit 0) (.sym W)]), (2, .mix [.sl 3 101 2 (.lit 0) (.sym N)]), (3, .pure true L), (4, .pure true D), (5, .pure false [.str fun _ => z', .bool ov']), (6, .pure true Q'), (7, .fix 0 o)] ∧ n = 8 ∧ HM R ws C' G' N W L D Q' z' ∧ Wrds R ws v X ∧ (C', G', ov') = scanS R ph v X (C, A, ov)) := by
  refine callF_of_body tok Tryz.func27 (by kernel_rfl) rfl rfl rfl ?_; conv => cbv
  refine callF_frame (phase_lx R ws C G N W ph sp cy L D Q z ov) [(0, 0), (1, 1), (2, 2), (3, 3), (4, 4), (5, 5), (6, 6)] rfl (by simp [hmapOk, nget, hget, renB, okB, renV, renVs, rn, okVs, okV]) rfl rfl (fun r h' n' ⟨e1, e2, e3⟩ => ?_)
  subst e1 e2 e3
  conv => cbv
  refine Br.mk (fun g => ?_) (fun g => ?_)
  case refine_2 =>
    have g : ¬ ph = 1 := g
    exact absurd hph g
  conv => cbv
  refine callF_frame (markPop_lx R ws C G N W ph sp cy L D Q z ov h o ho A v hG) [(0, 0), (1, 1), (2, 2), (3, 3), (4, 4), (5, 5), (6, 6), (7, 7)] rfl (by simp [hmapOk, nget, hget, renB, okB, renV, renVs, rn, okVs, okV]) rfl rfl (fun r h' n' hrr => ?_)
  obtain ⟨X, C', G', ov', Q', z', e1, e2, e3, h2, hX, hS⟩ := hrr
  subst e1 e2 e3
  conv => cbv
  refine RetF.mk [.p .nils] [(0, .mix [.ptr 1 (.lit 0), .ptr 5 (.lit 0), .sl 6 3 1 (.lit 0) (.sym W), .p (.int .i64 (.sym ph)), .p (.int .i64 (.sym sp)), .p (.int .i64 (.sym cy))]), (1, .mix [.ptr 2 (.lit 0), .sl 4 3 1 (.lit 0) (.sym W)]), (2, .mix [.sl 3 101 2 (.lit 0) (.sym N)]), (3, .pure true L), (4, .pure true D), (5, .pure false [.str fun _ => z', .bool ov']), (6, .pure true Q'), (7, .fix 0 o)] 8 (Re.at [(0, 0), (1, 1), (2, 2), (3, 3), (4, 4), (5, 5), (6, 6), (7, 7)] []) rfl ⟨X, C', G', ov', Q', z', rfl, rfl, rfl, h2, hX, hS⟩
set_option maxHeartbeats 2000000 in
theorem stepIdle_lx (R : List Rw) (ws C G : List Int) (N W ph sp cy : Int) (L D Q : List PV) (z : ByteArray) (ov : Bool) (h : HM R ws C G N W L D Q z) (hph : ph = 0) : CallF (fun _ => Tryz.prog) 27 [.ptr 0 (.lit 0)] [(0, .mix [.ptr 1 (.lit 0), .ptr 5 (.lit 0), .sl 6 3 1 (.lit 0) (.sym W), .p (.int .i64 (.sym ph)), .p (.int .i64 (.sym sp)), .p (.int .i64 (.sym cy))]), (1, .mix [.ptr 2 (.lit 0), .sl 4 3 1 (.lit 0) (.sym W)]), (2, .mix [.sl 3 101 2 (.lit 0) (.sym N)]), (3, .pure true L), (4, .pure true D), (5, .pure false [.str fun _ => z, .bool ov]), (6, .pure true Q)] 7 (fun r h n => r = .p .nils ∧ h = [(0, .mix [.ptr 1 (.lit 0), .ptr 5 (.lit 0), .sl 6 3 1 (.lit 0) (.sym W), .p (.int .i64 (.sym ph)), .p (.int .i64 (.sym sp)), .p (.int .i64 (.sym cy))]), (1, .mix [.ptr 2 (.lit 0), .sl 4 3 1 (.lit 0) (.sym W)]), (2, .mix [.sl 3 101 2 (.lit 0) (.sym N)]), (3, .pure true L), (4, .pure true D), (5, .pure false [.str fun _ => z, .bool ov]), (6, .pure true Q)] ∧ n = 7) := by
  refine callF_of_body tok Tryz.func27 (by kernel_rfl) rfl rfl rfl ?_; conv => cbv
  refine callF_frame (phase_lx R ws C G N W ph sp cy L D Q z ov) [(0, 0), (1, 1), (2, 2), (3, 3), (4, 4), (5, 5), (6, 6)] rfl (by simp [hmapOk, nget, hget, renB, okB, renV, renVs, rn, okVs, okV]) rfl rfl (fun r h' n' ⟨e1, e2, e3⟩ => ?_)
  subst e1 e2 e3
  conv => cbv
  refine Br.mk (fun g => ?_) (fun g => ?_)
  case refine_1 =>
    have g : ph = 1 := g
    exfalso
    omega
  conv => cbv
  refine Br.mk (fun g => ?_) (fun g => ?_)
  case refine_1 =>
    have g : ph = 2 := g
    exfalso
    omega
  conv => cbv
  refine RetF.mk [.p .nils] [(0, .mix [.ptr 1 (.lit 0), .ptr 5 (.lit 0), .sl 6 3 1 (.lit 0) (.sym W), .p (.int .i64 (.sym ph)), .p (.int .i64 (.sym sp)), .p (.int .i64 (.sym cy))]), (1, .mix [.ptr 2 (.lit 0), .sl 4 3 1 (.lit 0) (.sym W)]), (2, .mix [.sl 3 101 2 (.lit 0) (.sym N)]), (3, .pure true L), (4, .pure true D), (5, .pure false [.str fun _ => z, .bool ov]), (6, .pure true Q)] 7 (Re.at [(0, 0), (1, 1), (2, 2), (3, 3), (4, 4), (5, 5), (6, 6)] []) rfl ⟨rfl, rfl, rfl⟩
theorem stepNil_lx : CallF (fun _ => Tryz.prog) 27 [.p .nilp] [] 0 (fun r h n => r = .p .nils ∧ h = [] ∧ n = 0) := by
  refine callF_of_body tok Tryz.func27 (by kernel_rfl) rfl rfl rfl ?_; conv => cbv
  refine callF_frame phaseNil_lx [] rfl trivial rfl rfl (fun r h' n' ⟨e1, e2, e3⟩ => ?_)
  subst e1 e2 e3
  conv => cbv
  refine Br.mk (fun g => ?_) (fun g => ?_)
  case refine_1 =>
    have g : (0 : Int) = 1 := g
    exfalso
    omega
  conv => cbv
  refine Br.mk (fun g => ?_) (fun g => ?_)
  case refine_1 =>
    have g : (0 : Int) = 2 := g
    exfalso
    omega
  conv => cbv
  refine RetF.mk [.p .nils] [] 0 (Re.at [] []) rfl ⟨rfl, rfl, rfl⟩
theorem shadeNil_lx (a : I) : CallF (fun _ => Tryz.prog) 35 [.p .nilp, .p (.int .i64 a)] [] 0 (fun r h n => r = .tup [] ∧ h = [] ∧ n = 0) := by
  refine callF_of_body tok Tryz.func35 (by kernel_rfl) rfl rfl rfl ?_; conv => cbv
  refine callF_frame phaseNil_lx [] rfl trivial rfl rfl (fun r h' n' ⟨e1, e2, e3⟩ => ?_)
  subst e1 e2 e3
  conv => cbv
  refine Br.mk (fun g => ?_) (fun g => ?_)
  case refine_2 =>
    have g : ¬ (0 : Int) ≠ 1 := g
    exfalso
    omega
  conv => cbv
  refine RetF.mk [] [] 0 (Re.at [] []) rfl ⟨rfl, rfl, rfl⟩
theorem scan_self {R : List Rw} {ph a : Int} {X C G : List Int} {ov : Bool} {s : List Int × List Int × Bool} (h : (C, G, ov) = scanS R ph a X s) (hl : a.toNat < C.length) : C[a.toNat]? = some 2 := by
  unfold scanS at h
  have h1 := congrArg Prod.fst h
  dsimp only at h1
  rw [h1] at hl ⊢
  rw [List.length_set] at hl
  exact List.getElem?_set_self hl
theorem beg_one {R : List Rw} {ws C G : List Int} {ov : Bool} {W a : Int} (ha : a ∈ objs R) (hA : AOk R ws) (hW : W = 32 * R.length) (hS : (C, G, ov) = begS R W [a]) : C = (List.replicate W.toNat 0).set a.toNat 1 ∧ G = [a] ∧ ov = false := by
  have hb := obj_bd hA ha
  have hS : (C, G, ov) = shade R 1 a (List.replicate W.toNat 0, [], false) := hS
  unfold shade at hS
  rw [if_pos ⟨rfl, ha, by show (List.replicate W.toNat (0 : Int))[a.toNat]? = some 0; rw [List.getElem?_replicate, if_pos (by omega)]⟩] at hS
  simpa using hS
set_option maxHeartbeats 4000000 in
theorem awake09_lx (o : Unit → Obj) (ho : IsPow o) : CallF (fun _ => Tryz.prog) 13 [] [(0, .fix 0 o)] 1 (fun r h n => r = .p (.bool true) ∧ h = [(0, .fix 0 o)] ∧ n = 1) := by
  obtain ⟨Rz, hRz⟩ : ∃ Rz, Rz = List.replicate (2 : Int).toNat ((0, []) : Rw) := ⟨_, rfl⟩
  obtain ⟨wz, hwz⟩ : ∃ wz, wz = List.replicate (64 : Int).toNat (0 : Int) := ⟨_, rfl⟩
  obtain ⟨L0, hL0⟩ : ∃ L0, L0 = rpv Rz := ⟨_, rfl⟩
  obtain ⟨D0, hD0⟩ : ∃ D0, D0 = ipv wz := ⟨_, rfl⟩
  obtain ⟨z0, hz0⟩ : ∃ z0 : ByteArray, z0 = ⟨(enc []).toArray⟩ := ⟨_, rfl⟩
  have hM0 : HM Rz wz wz [] 2 64 L0 D0 D0 z0 := by
    have := HM.new (N := 2) (W := 64) (by decide) (by decide) (by decide) (L := L0) (D := D0) (Q := D0) (z := z0) (by rw [hL0, hRz]) (by rw [hD0, hwz]) (by rw [hD0, hwz]) hz0
    rw [← hRz, ← hwz] at this
    exact this
  refine callF_of_body tok Tryz.func13 (by kernel_rfl) rfl rfl rfl ?_; conv => cbv
  refine CallF.le (args0 := [.p (.int .i64 (.sym 2))]) (callF_frame (newH_lx 2 64 (by decide) (by decide) rfl L0 D0 D0 z0 (by rw [hL0, hRz]) (by rw [hD0, hwz]) (by rw [hD0, hwz]) hz0) [] rfl trivial rfl rfl (fun r h' n' ⟨e1, e2, e3⟩ => ?_)) (by simp [ales, ale, pvle, I.val])
  subst e1 e2 e3
  conv => cbv
  refine callF_frame (arena_lx Rz wz wz [] 2 64 0 0 0 L0 D0 D0 z0 false) [(0, 1), (1, 2), (2, 3), (3, 4), (4, 5), (5, 6), (6, 7)] rfl (by simp [hmapOk, nget, hget, renB, okB, renV, renVs, rn, okVs, okV]) rfl rfl (fun r h' n' ⟨e1, e2, e3⟩ => ?_)
  subst e1 e2 e3
  conv => cbv
  refine CallF.le (args0 := [.ptr 1 (.lit 0), .p (.int .i64 (.sym 5)), .p (.int .i64 (.sym 2))]) (callF_frame (alloc9_lx Rz wz wz [] 2 64 0 0 0 L0 D0 D0 z0 false hM0 5 2) [(0, 1), (1, 2), (2, 3), (3, 4), (4, 5), (5, 6), (6, 7)] rfl (by simp [hmapOk, nget, hget, renB, okB, renV, renVs, rn, okVs, okV]) rfl rfl (fun r h' n' hrr => ?_)) (by simp [ales, ale, pvle, I.val])
  obtain ⟨a, e, R1, w1, C1, L1, D1, Q1, e1, e2, e3, hM1, hT, hC1⟩ := hrr
  subst e1 e2 e3
  conv => cbv
  have he : e = 0 := by have := alloct_err hM0.a hT (by rw [hRz]; decide); rw [if_pos (by decide)] at this; exact this
  have hk : Kept R1 w1 a 5 2 := by
    rcases alloct_gen9 hM0.a hT with h | h
    · exact absurd he h.1
    · exact h.2.2.1
  have ho1 : a ∈ objs R1 := (obj_iff hM1.a a).2 hk.obj6
  have hab := obj_bd hM1.a ho1
  have hR1l : (R1.length : Int) = 2 := hM1.n.symm
  have hC1l : C1.length = 64 := by have := hM1.c; omega
  refine CallF.re (args0 := [.ptr 1 (.lit 0), .p (.vsl (.sym 1) true [.int .i64 (.sym a)])]) (h' := [(1, .mix [.ptr 2 (.lit 0), .ptr 6 (.lit 0), .sl 7 3 1 (.lit 0) (.sym 64), .p (.int .i64 (.sym 0)), .p (.int .i64 (.sym 0)), .p (.int .i64 (.sym 0))]), (2, .mix [.ptr 3 (.lit 0), .sl 5 3 1 (.lit 0) (.sym 64)]), (3, .mix [.sl 4 101 2 (.lit 0) (.sym 2)]), (4, .pure true L1), (5, .pure true D1), (6, .pure false [.str fun _ => z0, .bool false]), (7, .pure true Q1), (0, .fix 0 o)]) (Re.at [(0, 0), (1, 1), (2, 2), (3, 3), (4, 4), (5, 5), (6, 6), (7, 7)] []) (callF_frame (begin_lx R1 w1 C1 [] 2 64 0 0 0 L1 D1 Q1 z0 false hM1 o ho [a] 1 [.int .i64 (.sym a)] rfl rfl (by simp) rfl) [(0, 1), (1, 2), (2, 3), (3, 4), (4, 5), (5, 6), (6, 7), (7, 0)] rfl (by simp [hmapOk, nget, hget, renB, okB, renV, renVs, rn, okVs, okV]) rfl rfl (fun r h' n' hrr => ?_))
  obtain ⟨C2, G2, ov2, Q2, z2, e1, e2, e3, hM2, hS⟩ := hrr
  subst e1 e2 e3
  obtain ⟨hC2, hG2, _⟩ := beg_one ho1 hM1.a (show (64 : Int) = 32 * R1.length by omega) hS
  clear hS
  conv => cbv
  refine Br.yes (show e = 0 from he) ?_
  conv => cbv
  refine callF_frame (phase_lx R1 w1 C2 G2 2 64 1 0 0 L1 D1 Q2 z2 ov2) [(0, 1), (1, 2), (2, 3), (3, 4), (4, 5), (5, 9), (6, 7)] rfl (by simp [hmapOk, nget, hget, renB, okB, renV, renVs, rn, okVs, okV]) rfl rfl (fun r h' n' ⟨e1, e2, e3⟩ => ?_)
  subst e1 e2 e3
  conv => cbv
  refine Br.yes (show (1 : Int) = 1 from rfl) ?_
  conv => cbv
  refine callF_frame (colour_lx R1 w1 C2 G2 2 64 1 0 0 L1 D1 Q2 z2 ov2 hM2 a) [(0, 1), (1, 2), (2, 3), (3, 4), (4, 5), (5, 9), (6, 7)] rfl (by simp [hmapOk, nget, hget, renB, okB, renV, renVs, rn, okVs, okV]) rfl rfl (fun r h' n' hrr => ?_)
  obtain ⟨c1, e1, e2, e3, hc1, _⟩ := hrr
  subst e1 e2 e3
  conv => cbv
  have hc1 : c1 = 1 := by
    have := hc1 ho1
    rw [hC2, List.getElem?_set_self (by rw [List.length_replicate]; omega)] at this
    exact (Option.some.inj this).symm
  refine Br.yes (show c1 = 1 from hc1) ?_
  conv => cbv
  refine callF_frame (stepPop_lx R1 w1 C2 G2 2 64 1 0 0 L1 D1 Q2 z2 ov2 hM2 o ho [] a hG2 rfl) [(0, 1), (1, 2), (2, 3), (3, 4), (4, 5), (5, 9), (6, 7), (7, 0)] rfl (by simp [hmapOk, nget, hget, renB, okB, renV, renVs, rn, okVs, okV]) rfl rfl (fun r h' n' hrr => ?_)
  obtain ⟨X, C3, G3, ov3, Q3, z3, e1, e2, e3, hM3, hX, hS⟩ := hrr
  subst e1 e2 e3
  conv => cbv
  refine callF_frame (colour_lx R1 w1 C3 G3 2 64 1 0 0 L1 D1 Q3 z3 ov3 hM3 a) [(0, 1), (1, 2), (2, 3), (3, 4), (4, 5), (5, 9), (6, 7)] rfl (by simp [hmapOk, nget, hget, renB, okB, renV, renVs, rn, okVs, okV]) rfl rfl (fun r h' n' hrr => ?_)
  obtain ⟨c2, e1, e2, e3, hc2, _⟩ := hrr
  subst e1 e2 e3
  conv => cbv
  have hc2 : c2 = 2 := by
    have := hc2 ho1
    rw [scan_self hS (by have := hM3.c; omega)] at this
    exact (Option.some.inj this).symm
  refine Br.yes (show c2 = 2 from hc2) ?_
  conv => cbv
  refine RetF.mk [.p (.bool true)] [(0, .fix 0 o)] 1 (Re.at [(0, 0)] []) rfl ⟨rfl, rfl, rfl⟩
set_option maxHeartbeats 4000000 in
theorem heapNil_law (o : Unit → Obj) (ho : IsPow o) (n a : Int) (hn : -9223372036854775808 ≤ n ∧ n ≤ 9223372036854775807) (ha : -9223372036854775808 ≤ a ∧ a ≤ 9223372036854775807) : CallF (fun _ => Tryz.prog) 7 [.p (.int .i64 (.sym n)), .p (.int .i64 (.sym a))] [(0, .fix 0 o)] 1 (fun r _ _ => r = .p (.bool true)) := by
  obtain ⟨Rz, hRz⟩ : ∃ Rz, Rz = List.replicate (2 : Int).toNat ((0, []) : Rw) := ⟨_, rfl⟩
  obtain ⟨wz, hwz⟩ : ∃ wz, wz = List.replicate (64 : Int).toNat (0 : Int) := ⟨_, rfl⟩
  obtain ⟨L0, hL0⟩ : ∃ L0, L0 = rpv Rz := ⟨_, rfl⟩
  obtain ⟨D0, hD0⟩ : ∃ D0, D0 = ipv wz := ⟨_, rfl⟩
  obtain ⟨z0, hz0⟩ : ∃ z0 : ByteArray, z0 = ⟨(enc []).toArray⟩ := ⟨_, rfl⟩
  have hM0 : HM Rz wz wz [] 2 64 L0 D0 D0 z0 := by
    have := HM.new (N := 2) (W := 64) (by decide) (by decide) (by decide) (L := L0) (D := D0) (Q := D0) (z := z0) (by rw [hL0, hRz]) (by rw [hD0, hwz]) (by rw [hD0, hwz]) hz0
    rw [← hRz, ← hwz] at this
    exact this
  have hno : ∀ x, ¬ x ∈ objs Rz := fun x hx => by
    have := (obj_iff hM0.a x).1 hx
    rw [hRz] at this
    exact new_none _ _ this
  refine callF_of_body tok Tryz.func7 (by kernel_rfl) rfl rfl rfl ?_; conv => cbv
  refine callF_frame (allocNil9_lx (.lit 1) (.lit 9)) [] rfl trivial rfl rfl (fun r h' n' ⟨e1, e2, e3⟩ => ?_)
  subst e1 e2 e3
  conv => cbv
  refine callF_frame (loadNil9_lx (.lit 0) (.lit 0)) [] rfl trivial rfl rfl (fun r h' n' ⟨e1, e2, e3⟩ => ?_)
  subst e1 e2 e3
  conv => cbv
  refine callF_frame (shadeNil_lx (.lit 0)) [] rfl trivial rfl rfl (fun r h' n' ⟨e1, e2, e3⟩ => ?_)
  subst e1 e2 e3
  conv => cbv
  refine CallF.le (args0 := [.p (.int .i64 (.sym 2))]) (callF_frame (newH_lx 2 64 (by decide) (by decide) rfl L0 D0 D0 z0 (by rw [hL0, hRz]) (by rw [hD0, hwz]) (by rw [hD0, hwz]) hz0) [] rfl trivial rfl rfl (fun r h' n' ⟨e1, e2, e3⟩ => ?_)) (by simp [ales, ale, pvle, I.val])
  subst e1 e2 e3
  conv => cbv
  refine callF_frame (awake09_lx o ho) [(0, 0)] rfl (by simp [hmapOk, nget, hget, renB, okB, renV, renVs, rn, okVs, okV]) rfl rfl (fun r h' n' ⟨e1, e2, e3⟩ => ?_)
  subst e1 e2 e3
  conv => cbv
  refine CallF.le (args0 := [.p (.int .i64 (.sym 1))]) (callF_frame (newHArg_lx 1 (by decide)) [] rfl trivial rfl rfl (fun r h' n' ⟨e1, e2, e3⟩ => ?_)) (by simp [ales, ale, pvle, I.val])
  subst e1 e2 e3
  conv => cbv
  refine callF_frame (shade_lx Rz wz wz [] 2 64 0 0 0 L0 D0 D0 z0 false hM0 o ho a) [(0, 1), (1, 2), (2, 3), (3, 4), (4, 5), (5, 6), (6, 7), (7, 0)] rfl (by simp [hmapOk, nget, hget, renB, okB, renV, renVs, rn, okVs, okV]) rfl rfl (fun r h' n' hrr => ?_)
  obtain ⟨C1, G1, ov1, Q1, z1, e1, e2, e3, hM1, _⟩ := hrr
  subst e1 e2 e3
  conv => cbv
  refine callF_frame (stepIdle_lx Rz wz C1 G1 2 64 0 0 0 L0 D0 Q1 z1 ov1 hM1 rfl) [(0, 1), (1, 2), (2, 3), (3, 4), (4, 5), (5, 6), (6, 7)] rfl (by simp [hmapOk, nget, hget, renB, okB, renV, renVs, rn, okVs, okV]) rfl rfl (fun r h' n' ⟨e1, e2, e3⟩ => ?_)
  subst e1 e2 e3
  conv => cbv
  refine Br.yes (show (2 : Int) = 2 from rfl) ?_
  conv => cbv
  refine Br.yes (show (2 : Int) = 2 from rfl) ?_
  conv => cbv
  refine callF_frame (storeNil9_lx (.lit 0) (.lit 0) (.lit 0)) [] rfl trivial rfl rfl (fun r h' n' ⟨e1, e2, e3⟩ => ?_)
  subst e1 e2 e3
  conv => cbv
  refine Br.yes (show (2 : Int) = 2 from rfl) ?_
  conv => cbv
  refine callF_frame (beginNil_lx) [] rfl trivial rfl rfl (fun r h' n' ⟨e1, e2, e3⟩ => ?_)
  subst e1 e2 e3
  conv => cbv
  refine Br.yes (show (2 : Int) = 2 from rfl) ?_
  conv => cbv
  refine callF_frame (stepNil_lx) [] rfl trivial rfl rfl (fun r h' n' ⟨e1, e2, e3⟩ => ?_)
  subst e1 e2 e3
  conv => cbv
  refine callF_frame (phaseNil_lx) [] rfl trivial rfl rfl (fun r h' n' ⟨e1, e2, e3⟩ => ?_)
  subst e1 e2 e3
  conv => cbv
  refine Br.yes (show (0 : Int) = 0 from rfl) ?_
  conv => cbv
  refine callF_frame (colourNil_lx (.lit 0)) [] rfl trivial rfl rfl (fun r h' n' ⟨e1, e2, e3⟩ => ?_)
  subst e1 e2 e3
  conv => cbv
  refine Br.yes (show (0 : Int) = 0 from rfl) ?_
  conv => cbv
  refine callF_frame (cyclesNil_lx) [] rfl trivial rfl rfl (fun r h' n' ⟨e1, e2, e3⟩ => ?_)
  subst e1 e2 e3
  conv => cbv
  refine Br.yes (show (0 : Int) = 0 from rfl) ?_
  conv => cbv
  refine callF_frame (arenaNil_lx) [] rfl trivial rfl rfl (fun r h' n' ⟨e1, e2, e3⟩ => ?_)
  subst e1 e2 e3
  conv => cbv
  refine callF_frame (cyclesH_lx Rz wz C1 G1 2 64 0 0 0 L0 D0 Q1 z1 ov1) [(0, 1), (1, 2), (2, 3), (3, 4), (4, 5), (5, 6), (6, 7)] rfl (by simp [hmapOk, nget, hget, renB, okB, renV, renVs, rn, okVs, okV]) rfl rfl (fun r h' n' ⟨e1, e2, e3⟩ => ?_)
  subst e1 e2 e3
  conv => cbv
  refine Br.yes (show (0 : Int) = 0 from rfl) ?_
  conv => cbv
  refine CallF.le (args0 := [.ptr 1 (.lit 0), .p (.int .i64 (.sym a)), .p (.int .i64 (.sym n)), .p (.int .i64 (.sym 0))]) (callF_frame (store9_lx Rz wz C1 G1 2 64 0 0 0 L0 D0 Q1 z1 ov1 hM1 o ho a n 0 (by decide)) [(0, 1), (1, 2), (2, 3), (3, 4), (4, 5), (5, 6), (6, 7), (7, 0)] rfl (by simp [hmapOk, nget, hget, renB, okB, renV, renVs, rn, okVs, okV]) rfl rfl (fun r h' n' hrr => ?_)) (by simp [ales, ale, pvle, I.val])
  obtain ⟨e, w2, C2, G2, ov2, D2, Q2, z2, e1, e2, e3, hM2, hT, _⟩ := hrr
  subst e1 e2 e3
  have he : e = 8 := by
    cases hT with
    | none _ => rfl
    | arg _ _ hk _ => exact absurd ((obj_iff hM0.a a).2 hk.obj6) (hno a)
    | ok _ _ hk _ => exact absurd ((obj_iff hM0.a a).2 hk.obj6) (hno a)
  conv => cbv
  refine Br.yes (show e = 8 from he) ?_
  conv => cbv
  refine CallF.re (args0 := [.ptr 1 (.lit 0), .p (.vsl (.sym 1) true [.int .i64 (.sym a)])]) (h' := [(1, .mix [.ptr 2 (.lit 0), .ptr 6 (.lit 0), .sl 7 3 1 (.lit 0) (.sym 64), .p (.int .i64 (.sym 0)), .p (.int .i64 (.sym 0)), .p (.int .i64 (.sym 0))]), (2, .mix [.ptr 3 (.lit 0), .sl 5 3 1 (.lit 0) (.sym 64)]), (3, .mix [.sl 4 101 2 (.lit 0) (.sym 2)]), (4, .pure true L0), (5, .pure true D2), (6, .pure false [.str fun _ => z2, .bool ov2]), (7, .pure true Q2), (0, .fix 0 o)]) (Re.at [(0, 0), (1, 1), (2, 2), (3, 3), (4, 4), (5, 5), (6, 6), (7, 7)] []) (callF_frame (begin_lx Rz w2 C2 G2 2 64 0 0 0 L0 D2 Q2 z2 ov2 hM2 o ho [a] 1 [.int .i64 (.sym a)] rfl rfl (by simp) rfl) [(0, 1), (1, 2), (2, 3), (3, 4), (4, 5), (5, 6), (6, 7), (7, 0)] rfl (by simp [hmapOk, nget, hget, renB, okB, renV, renVs, rn, okVs, okV]) rfl rfl (fun r h' n' hrr => ?_))
  obtain ⟨C3, G3, ov3, Q3, z3, e1, e2, e3, hM3, _⟩ := hrr
  subst e1 e2 e3
  conv => cbv
  refine callF_frame (beginState_lx Rz w2 C3 G3 2 64 1 0 0 L0 D2 Q3 z3 ov3 hM3 (by decide)) [(0, 1), (1, 2), (2, 3), (3, 4), (4, 5), (5, 9), (6, 7)] rfl (by simp [hmapOk, nget, hget, renB, okB, renV, renVs, rn, okVs, okV]) rfl rfl (fun r h' n' ⟨e1, e2, e3⟩ => ?_)
  subst e1 e2 e3
  conv => cbv
  refine RetF.mk [.p (.bool true)] [(0, .fix 0 o)] 1 (Re.at [(0, 0)] []) rfl rfl
end Go.Proofs.YtllafhhnciobhaaGreatDoor
