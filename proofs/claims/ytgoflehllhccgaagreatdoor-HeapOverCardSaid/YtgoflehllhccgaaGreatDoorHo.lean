/-
  Layer 9: HeapOver.
-/
import Derived.Test.YtgoflehllhccgaaGreatDoorHp

import Derived.Test.YtgoflehllhccgaaGreatDoorBh

import Derived.Test.YtgoflehllhccgaaGreatDoorBg



import Derived.Test.YtgoflehllhccgaaGreatDoorBf


namespace Go.Proofs.YtgoflehllhccgaaGreatDoor

open Go Go.LX
set_option maxRecDepth 100000
set_option linter.unusedVariables false
set_option linter.unusedSimpArgs false

theorem inO_lx (l : List Int) (x m : Int) (ZL : List PV) (b : Bool) (hm : m = l.length) (hZ : ZL = ipv l) (hml : m ≤ 9223372036854775806) (hb : b = decide (x ∈ l)) : CallF (fun _ => Tryz.prog) 19 [.p (.vsl (.sym m) true ZL), .p (.int .i64 (.sym x))] [] 0 (fun r h n => r = .p (.bool b) ∧ h = [] ∧ n = 0) := by
  refine callF_of_body tok Tryz.func19 (by kernel_rfl) rfl rfl rfl ?_; conv => cbv
  refine LoopF.mk (fun k s => ∃ i : Int, s = ⟨.p (.vsl (.sym m) true ZL) :: .p (.int .i64 (.sym x)) :: (undefs 3 ++ .p (.int .i64 (.sym i)) :: undefs 12), [], 0⟩ ∧ 0 ≤ i ∧ i ≤ m ∧ x ∉ l.take i.toNat ∧ k = (m - i).toNat) m.toNat _
    (Re.at [] []) ⟨0, rfl, by omega, by omega, by simp, by omega⟩ ?_
  rintro k s ⟨i, rfl, hi0, hi1, hnot, hk⟩
  conv => cbv
  refine Br.mk (fun gi => ?_) (fun gi => ?_)
  · have gi : i < m := gi
    obtain ⟨k', rfl⟩ : ∃ k', k = k' + 1 := ⟨k - 1, by omega⟩
    obtain ⟨z, hz⟩ : ∃ z, l[i.toNat]? = some z := ⟨_, List.getElem?_eq_getElem (by omega)⟩
    have hc : ZL[i.toNat]? = some (.int .i64 (.sym z)) := by rw [hZ]; exact ipv_get hz
    conv => cbv
    refine Need.mk ⟨hi0, by show i < m; omega⟩ ?_
    conv => cbv
    refine Cell.at i _ hc (by simp [I.val]) rfl ?_
    conv => cbv
    refine Br.mk (fun ge => ?_) (fun ge => ?_)
    · have ge : z = x := ge
      have hbt : b = true := by rw [hb]; exact decide_eq_true (by rw [← ge]; exact List.mem_of_getElem? hz)
      subst hbt
      conv => cbv
      refine RetF.mk [.p (.bool true)] [] 0 (Re.at [] []) rfl ⟨rfl, rfl, rfl⟩
    · have ge : ¬ z = x := ge
      conv => cbv
      refine Fit.mk (by show (-9223372036854775808 : Int) ≤ i + 1; omega) (by show i + 1 ≤ 9223372036854775807; omega) fun i2 hi2 => ?_
      have hi2 : i2 = i + 1 := hi2
      have hn2 : x ∉ l.take i2.toNat := by
        rw [show i2.toNat = i.toNat + 1 by omega, List.take_add_one, hz]
        intro h
        rcases List.mem_append.1 h with h | h
        · exact hnot h
        · exact ge (by simp at h; exact h.symm)
      conv => cbv
      refine Again.mk k' _ (Nat.lt_succ_self _) (Re.at [] []) ⟨i2, rfl, by omega, by omega, hn2, by omega⟩
  · have gi : ¬ i < m := gi
    have hbt : b = false := by
      rw [hb]
      rw [List.take_of_length_le (by omega)] at hnot
      exact decide_eq_false hnot
    subst hbt
    conv => cbv
    refine RetF.mk [.p (.bool false)] [] 0 (Re.at [] []) rfl ⟨rfl, rfl, rfl⟩
theorem Ov.new (n m : Nat) : Ov (List.replicate n ((0, []) : Rw)) (List.replicate m 0) [] [] := by
  refine ⟨fun b hb => (by cases hb), List.nodup_nil, fun a i x hl => ?_, fun a l x hK _ => absurd hK.obj6 (new_none n a), fun b hb => (by cases hb), fun b hb => (by cases hb)⟩
  cases hl with
  | ok k l _ hK _ _ => exact absurd hK.obj6 (new_none n a)
set_option maxHeartbeats 8000000 in
theorem heapOver_law (o : Unit → Obj) (ho : IsPow o) (n ex : Int) (hn : -9223372036854775808 ≤ n ∧ n ≤ 9223372036854775807) (hex : -9223372036854775808 ≤ ex ∧ ex ≤ 9223372036854775807) :
    CallF (fun _ => Tryz.prog) 4 [.p (.int .i64 (.sym n)), .p (.int .i64 (.sym ex))] [(0, .fix 0 o)] 1 (fun r _ _ => r = .p (.bool true)) := by
  refine callF_of_bodyB tok Tryz.func4 (by kernel_rfl) rfl rfl rfl [24] ?_; conv => cbv
  refine Fit.wrap fun xn hxn => ?_
  have hxn : xn = IntKind.u64.wrap n := hxn
  have hyn : 0 ≤ xn := by rw [hxn]; simp [IntKind.wrap, IntKind.bits, IntKind.signed]; omega
  clear hxn
  conv => cbv
  refine Sum.mk fun tn htn => ?_
  have htn : tn = xn % 4 := (show tn = xn.tmod 4 from htn).trans (Int.tmod_eq_emod_of_nonneg hyn)
  conv => cbv
  refine Fit.mk (by show (-9223372036854775808 : Int) ≤ tn; omega) (by show tn ≤ 9223372036854775807; omega) fun un hun => ?_
  have hun : un = tn := hun
  have hun0 : 0 ≤ un := by omega
  have hun1 : un < 4 := by omega
  clear hun htn hyn
  conv => cbv
  refine Fit.mk (by show (-9223372036854775808 : Int) ≤ 1 + un; omega) (by show 1 + un ≤ 9223372036854775807; omega) fun m hm => ?_
  have hm : m = 1 + un := hm
  have hm0 : 1 ≤ m := by omega
  have hm1 : m ≤ 4 := by omega
  clear hm
  conv => cbv
  refine Fit.wrap fun xn hxn => ?_
  have hxn : xn = IntKind.u64.wrap ex := hxn
  have hyn : 0 ≤ xn := by rw [hxn]; simp [IntKind.wrap, IntKind.bits, IntKind.signed]; omega
  clear hxn
  conv => cbv
  refine Sum.mk fun tn htn => ?_
  have htn : tn = xn % 10 := (show tn = xn.tmod 10 from htn).trans (Int.tmod_eq_emod_of_nonneg hyn)
  conv => cbv
  refine Fit.mk (by show (-9223372036854775808 : Int) ≤ tn; omega) (by show tn ≤ 9223372036854775807; omega) fun ue hue => ?_
  have hue : ue = tn := hue
  have hue0 : 0 ≤ ue := by omega
  have hue1 : ue < 10 := by omega
  clear hue htn hyn
  conv => cbv
  obtain ⟨N, hN⟩ : ∃ N : Int, N = 30 := ⟨_, rfl⟩
  obtain ⟨W, hW⟩ : ∃ W, W = 32 * N := ⟨_, rfl⟩
  obtain ⟨Rz, hRz⟩ : ∃ Rz, Rz = List.replicate N.toNat ((0, []) : Rw) := ⟨_, rfl⟩
  obtain ⟨wz, hwz⟩ : ∃ wz, wz = List.replicate W.toNat (0 : Int) := ⟨_, rfl⟩
  obtain ⟨L0, hL0⟩ : ∃ L0, L0 = rpv Rz := ⟨_, rfl⟩
  obtain ⟨D0, hD0⟩ : ∃ D0, D0 = ipv wz := ⟨_, rfl⟩
  obtain ⟨z0, hz0⟩ : ∃ z0 : ByteArray, z0 = ⟨(enc []).toArray⟩ := ⟨_, rfl⟩
  have hM0 : HM Rz wz wz [] N W L0 D0 D0 z0 := by rw [hRz, hwz] at *; exact HM.new (by omega) (by omega) hW hL0 hD0 hD0 hz0
  refine CallF.le (args0 := [.p (.int .i64 (.sym N))]) (callF_frame (newH_lx N W (by omega) (by omega) hW L0 D0 D0 z0 (by rw [hL0, hRz]) (by rw [hD0, hwz]) (by rw [hD0, hwz]) hz0) [] rfl trivial rfl rfl (fun r h' n' ⟨e1, e2, e3⟩ => ?_)) (by simp [ales, ale, pvle, I.val, hN])
  subst e1 e2 e3
  conv => cbv
  refine callF_frame (awake09_lx o ho) [(0, 0)] rfl (by simp [hmapOk, nget, hget, renB, okB, renV, renVs, rn, okVs, okV]) rfl rfl (fun r h' n' ⟨e1, e2, e3⟩ => ?_)
  subst e1 e2 e3
  conv => cbv
  refine callF_frame (arena_lx Rz wz wz [] N W 0 0 0 L0 D0 D0 z0 false) [(0, 1), (1, 2), (2, 3), (3, 4), (4, 5), (5, 6), (6, 7)] rfl (by simp [hmapOk, nget, hget, renB, okB, renV, renVs, rn, okVs, okV]) rfl rfl (fun r h' n' ⟨e1, e2, e3⟩ => ?_)
  subst e1 e2 e3
  conv => cbv
  have hOv0 : Ov Rz wz [] [] := by rw [hRz, hwz]; exact Ov.new _ _
  have hRm0 : Rm Rz := by rw [hRz]; exact Rm.new _
  have hcz : (objCount Rz : Int) = 11 * 0 := by rw [hRz, new_count]; rfl
  refine LoopF.mk (fun kk s => ∃ (i : Int) (R : List Rw) (ws C G : List Int) (L D Q : List PV) (z : ByteArray) (ov : Bool) (kp : List Int) (ck : List PV) (kl : Int) (g : List Int) (cg : List PV), s = ⟨.p (.int .i64 (.sym m)) :: .p (.int .i64 (.sym ue)) :: (undefs 3 ++ .ptr 1 (.lit 0) :: .undef :: .sl 8 3 1 (.lit 0) (.sym i) :: .sl 9 3 1 (.lit 0) (.sym kl) :: .p (.int .i64 (.sym i)) :: undefs 127), [(1, .mix [.ptr 2 (.lit 0), .ptr 6 (.lit 0), .sl 7 3 1 (.lit 0) (.sym W), .p (.int .i64 (.sym 0)), .p (.int .i64 (.sym 0)), .p (.int .i64 (.sym 0))]), (2, .mix [.ptr 3 (.lit 0), .sl 5 3 1 (.lit 0) (.sym W)]), (3, .mix [.sl 4 157 2 (.lit 0) (.sym N)]), (4, .pure true L), (5, .pure true D), (6, .pure false [.str fun _ => z, .bool ov]), (7, .pure true Q), (0, .fix 0 o), (8, .pure true cg), (9, .pure true ck)], 10⟩ ∧ 0 ≤ i ∧ i ≤ m ∧ kk = (m - i).toNat ∧ HM R ws C G N W L D Q z ∧ Ov R ws g kp ∧ Rm R ∧ (objCount R : Int) = 11 * i ∧ ck = ipv kp ∧ kl = kp.length ∧ kl = 11 * i ∧ cg = ipv g ∧ i = g.length) m.toNat _
    (Re.at [(0, 0), (1, 1), (2, 2), (3, 3), (4, 4), (5, 5), (6, 6), (7, 7)] [8, 9]) ⟨0, Rz, wz, wz, [], L0, D0, D0, z0, false, [], [], 0, [], [], rfl, by omega, by omega, by omega, hM0, hOv0, hRm0, hcz, rfl, rfl, rfl, rfl, rfl⟩ ?_
  clear hM0 hOv0 hRm0 hcz
  rintro kk s ⟨i, R, ws, C, G, L, D, Q, z, ov, kp, ck, kl, g, cg, rfl, hi0, hi1, hkk, h, hO, hR, hcnt, hck, hkl, hki, hcg, hig⟩
  have hNR := h.n
  have hcgl : cg.length = g.length := by rw [hcg, ipv_length]
  have hckl : ck.length = kp.length := by rw [hck, ipv_length]
  conv => cbv
  refine Br.mk (fun q => ?_) (fun q => ?_)
  · have q : i < m := q
    conv => cbv
    refine CallF.le (args0 := [.ptr 1 (.lit 0), .p (.int .i64 (.sym 4)), .p (.int .i64 (.sym 10))]) (callF_frame (alloc9_lx R ws C G N W 0 0 0 L D Q z ov h 4 10) [(0, 1), (1, 2), (2, 3), (3, 4), (4, 5), (5, 6), (6, 7)] rfl (by simp [hmapOk, nget, hget, renB, okB, renV, renVs, rn, okVs, okV]) rfl rfl (fun r h' n' hrr => ?_)) (by simp [ales, ale, pvle, I.val])
    obtain ⟨r, e, R1, ws1, C1, L1, D1, Q1, e1, e2, e3, h1, hT, hC⟩ := hrr
    subst e1 e2 e3
    obtain ⟨he, hR1⟩ := hR.alloc h.a (n := 10) (.inr rfl) (by omega) (by omega) (by omega) hT
    obtain ⟨hO1, hrn, hro, hrK⟩ := hO.alloc h.a hT he
    have hO1 := hO1.root hrn hro hrK
    have hA1 := alloct_ok h.a hT he
    have hz1 : ∀ j, 0 ≤ j → j < 10 → Loaded R1 ws1 r j 0 0 := fun j h0 h1' => .ok 4 10 0 hrK ⟨h0, h1'⟩ (hA1.2.2.2.1 j h0 h1')
    have hcnt1 : (objCount R1 : Int) = 11 * i + 1 + 0 := by have := hA1.2.2.1; omega
    clear hA1 hT hC h hO hR hrK hro hrn
    conv => cbv
    refine Room.new rfl ?_
    conv => cbv
    refine Room.new ⟨?_, ?_, ?_⟩ ?_
    · show (cg.length : Int) = i * 1; omega
    · show (i + 1) * 8 ≤ 140737488355328; omega
    · show i + 1 ≤ 9223372036854775807; omega
    conv => cbv
    refine Upd.mk fun cg2 hcg2 => ?_
    have hcg2 : cg2 = cg ++ [.int .i64 (.sym r)] := hcg2
    have hcg2i : cg2 = ipv (g ++ [r]) := by rw [hcg2, hcg, ← ipv_app]; rfl
    conv => cbv
    refine Sum.mk fun gi hgi => ?_
    have hgi : gi = i + 1 := hgi
    conv => cbv
    refine Room.new rfl ?_
    conv => cbv
    refine Room.new ⟨?_, ?_, ?_⟩ ?_
    · show (ck.length : Int) = kl * 1; omega
    · show (kl + 1) * 8 ≤ 140737488355328; omega
    · show kl + 1 ≤ 9223372036854775807; omega
    conv => cbv
    refine Upd.mk fun ck2 hck2 => ?_
    have hck2 : ck2 = ck ++ [.int .i64 (.sym r)] := hck2
    have hck2i : ck2 = ipv (kp ++ [r]) := by rw [hck2, hck, ← ipv_app]; rfl
    conv => cbv
    refine Sum.mk fun kj hkj => ?_
    have hkj : kj = kl + 1 := hkj
    conv => cbv
    have hrg : r ∈ g ++ [r] := List.mem_append_right _ (List.mem_singleton.2 rfl)
    refine LoopF.mk (fun kk s => ∃ (k : Int) (R : List Rw) (ws C G : List Int) (L D Q : List PV) (z : ByteArray) (ov : Bool) (kp : List Int) (ck : List PV) (kl : Int), s = ⟨.p (.int .i64 (.sym m)) :: .p (.int .i64 (.sym ue)) :: (undefs 3 ++ .ptr 1 (.lit 0) :: .undef :: .sl 8 3 1 (.lit 0) (.sym gi) :: .sl 9 3 1 (.lit 0) (.sym kl) :: .p (.int .i64 (.sym i)) :: .p (.int .i64 (.sym r)) :: .undef :: .p (.int .i64 (.sym k)) :: undefs 124), [(1, .mix [.ptr 2 (.lit 0), .ptr 6 (.lit 0), .sl 7 3 1 (.lit 0) (.sym W), .p (.int .i64 (.sym 0)), .p (.int .i64 (.sym 0)), .p (.int .i64 (.sym 0))]), (2, .mix [.ptr 3 (.lit 0), .sl 5 3 1 (.lit 0) (.sym W)]), (3, .mix [.sl 4 157 2 (.lit 0) (.sym N)]), (4, .pure true L), (5, .pure true D), (6, .pure false [.str fun _ => z, .bool ov]), (7, .pure true Q), (0, .fix 0 o), (8, .pure true cg2), (9, .pure true ck)], 10⟩ ∧ 0 ≤ k ∧ k ≤ 10 ∧ kk = (10 - k).toNat ∧ HM R ws C G N W L D Q z ∧ Ov R ws (g ++ [r]) kp ∧ Rm R ∧ (objCount R : Int) = 11 * i + 1 + k ∧ ck = ipv kp ∧ kl = kp.length ∧ kl = 11 * i + 1 + k ∧ (∀ j, k ≤ j → j < 10 → Loaded R ws r j 0 0)) 10 _
      (Re.at [(0, 0), (1, 1), (2, 2), (3, 3), (4, 4), (5, 5), (6, 6), (7, 7), (11, 8), (13, 9)] []) ⟨0, R1, ws1, C1, G, L1, D1, Q1, z, ov, kp ++ [r], ck2, kj, rfl, by omega, by omega, by omega, h1, hO1, hR1, hcnt1, hck2i, by rw [List.length_append]; show kj = ((kp.length + 1 : Nat) : Int); omega, by omega, hz1⟩ ?_
    clear h1 hO1 hR1 hcnt1 hck2i hz1 hck hckl hck2 hkl hki
    rintro kk s ⟨k, R, ws, C, G, L, D, Q, z, ov, kp, ck, kl, rfl, hk0, hk1, hkk', h, hO, hR, hcnt, hck, hkl, hki, hz⟩
    have hNR := h.n
    have hckl : ck.length = kp.length := by rw [hck, ipv_length]
    conv => cbv
    refine Br.mk (fun q2 => ?_) (fun q2 => ?_)
    · have q2 : k < 10 := q2
      conv => cbv
      refine CallF.le (args0 := [.ptr 1 (.lit 0), .p (.int .i64 (.sym 5)), .p (.int .i64 (.sym 2))]) (callF_frame (alloc9_lx R ws C G N W 0 0 0 L D Q z ov h 5 2) [(0, 1), (1, 2), (2, 3), (3, 4), (4, 5), (5, 6), (6, 7)] rfl (by simp [hmapOk, nget, hget, renB, okB, renV, renVs, rn, okVs, okV]) rfl rfl (fun r h' n' hrr => ?_)) (by simp [ales, ale, pvle, I.val])
      obtain ⟨b, e, R1, ws1, C1, L1, D1, Q1, e1, e2, e3, h1, hT, hC⟩ := hrr
      subst e1 e2 e3
      obtain ⟨he, hR1⟩ := hR.alloc h.a (n := 2) (.inl rfl) (by omega) (by omega) (by omega) hT
      obtain ⟨hO1, hbn, hbo, hbK⟩ := hO.alloc h.a hT he
      have hbb := hbK.bounds h1.a
      have hNR1 := h1.n
      have hcnt1 : (objCount R1 : Int) = 11 * i + 1 + (k + 1) := by have := (alloct_ok h.a hT he).2.2.1; omega
      have hz1 : ∀ j, k ≤ j → j < 10 → Loaded R1 ws1 r j 0 0 := fun j a1 a2 => (alloct_load h.a hT he).2.1 r j 0 (hz j a1 a2)
      conv => cbv
      refine Br.no (show ¬ (¬ e = 0) from fun q => q he) ?_
      clear hT hC h hO hR hz
      conv => cbv
      refine callF_frame (rPtr_lx b (by omega)) [] rfl trivial rfl rfl (fun r h' n' hrr => ?_)
      obtain ⟨w, e1, e2, e3, hw⟩ := hrr
      subst e1 e2 e3
      conv => cbv
      refine callF_frame (store9_lx R1 ws1 C1 G N W 0 0 0 L1 D1 Q1 z ov h1 o ho r k w (by omega)) [(0, 1), (1, 2), (2, 3), (3, 4), (4, 5), (5, 6), (6, 7), (7, 0)] rfl (by simp [hmapOk, nget, hget, renB, okB, renV, renVs, rn, okVs, okV]) rfl rfl (fun r h' n' hrr => ?_)
      obtain ⟨f, ws2, C2, G2, ov2, D2, Q2, z2, e1, e2, e3, h2, hS, hC⟩ := hrr
      subst e1 e2 e3
      obtain ⟨hf, hO2, hz2⟩ := hO1.store h1.a hrg hbn hbo ⟨hk0, q2⟩ (hz1 k (Int.le_refl _) q2) (hw ▸ hS)
      conv => cbv
      refine Br.no (show ¬ (¬ f = 0) from fun q => q hf) ?_
      clear hS hC h1 hO1
      conv => cbv
      refine Room.new rfl ?_
      conv => cbv
      refine Room.new ⟨?_, ?_, ?_⟩ ?_
      · show (ck.length : Int) = kl * 1; omega
      · show (kl + 1) * 8 ≤ 140737488355328; omega
      · show kl + 1 ≤ 9223372036854775807; omega
      conv => cbv
      refine Upd.mk fun ck2 hck2 => ?_
      have hck2 : ck2 = ck ++ [.int .i64 (.sym b)] := hck2
      have hck2i : ck2 = ipv (kp ++ [b]) := by rw [hck2, hck, ← ipv_app]; rfl
      conv => cbv
      refine Sum.mk fun kj hkj => ?_
      have hkj : kj = kl + 1 := hkj
      conv => cbv
      refine Fit.mk (by show (-9223372036854775808 : Int) ≤ k + 1; omega) (by show k + 1 ≤ 9223372036854775807; omega) fun k2 hk2 => ?_
      have hk2 : k2 = k + 1 := hk2
      conv => cbv
      refine Again.mk (10 - k2).toNat _ (by omega) (Re.at [(0, 0), (1, 1), (2, 2), (3, 3), (4, 4), (5, 5), (6, 6), (7, 7), (8, 8), (11, 9)] []) ⟨k2, R1, ws2, C2, G2, L1, D2, Q2, z2, ov2, kp ++ [b], ck2, kj, rfl, by omega, by omega, rfl, h2, hO2, hR1, (by rw [hk2]; exact hcnt1), hck2i, by rw [List.length_append]; show kj = ((kp.length + 1 : Nat) : Int); omega, by omega, fun j a1 a2 => hz2 j 0 (by omega) (hz1 j (by omega) a2)⟩
    · have q2 : ¬ k < 10 := q2
      conv => cbv
      refine Fit.mk (by show (-9223372036854775808 : Int) ≤ i + 1; omega) (by show i + 1 ≤ 9223372036854775807; omega) fun i2 hi2 => ?_
      have hi2 : i2 = i + 1 := hi2
      conv => cbv
      obtain rfl : gi = i2 := hgi.trans hi2.symm
      refine Again.mk (m - gi).toNat _ (by omega) (Re.at [(0, 0), (1, 1), (2, 2), (3, 3), (4, 4), (5, 5), (6, 6), (7, 7), (8, 8), (9, 9)] []) ⟨gi, R, ws, C, G, L, D, Q, z, ov, kp, ck, kl, g ++ [r], cg2, rfl, by omega, by omega, rfl, h, hO, hR, (by show ((objCount R : Nat) : Int) = 11 * gi; omega), hck, hkl, by omega, hcg2i, by rw [List.length_append]; show gi = ((g.length + 1 : Nat) : Int); omega⟩
  · have q : ¬ i < m := q
    obtain rfl : m = i := by omega
    conv => cbv
    refine LoopF.mk (fun kk s => ∃ (x : Int) (R : List Rw) (ws C G : List Int) (L D Q : List PV) (z : ByteArray) (ov : Bool), s = ⟨.p (.int .i64 (.sym m)) :: .p (.int .i64 (.sym ue)) :: (undefs 3 ++ .ptr 1 (.lit 0) :: .undef :: .sl 8 3 1 (.lit 0) (.sym m) :: .sl 9 3 1 (.lit 0) (.sym kl) :: undefs 6 ++ .p (.int .i64 (.sym x)) :: undefs 121), [(1, .mix [.ptr 2 (.lit 0), .ptr 6 (.lit 0), .sl 7 3 1 (.lit 0) (.sym W), .p (.int .i64 (.sym 0)), .p (.int .i64 (.sym 0)), .p (.int .i64 (.sym 0))]), (2, .mix [.ptr 3 (.lit 0), .sl 5 3 1 (.lit 0) (.sym W)]), (3, .mix [.sl 4 157 2 (.lit 0) (.sym N)]), (4, .pure true L), (5, .pure true D), (6, .pure false [.str fun _ => z, .bool ov]), (7, .pure true Q), (0, .fix 0 o), (8, .pure true cg), (9, .pure true ck)], 10⟩ ∧ 0 ≤ x ∧ x ≤ ue ∧ kk = (ue - x).toNat ∧ HM R ws C G N W L D Q z ∧ Ov R ws g kp ∧ Rm R ∧ (objCount R : Int) = 11 * m + x) ue.toNat _
      (Re.at [(0, 0), (1, 1), (2, 2), (3, 3), (4, 4), (5, 5), (6, 6), (7, 7), (8, 8), (9, 9)] []) ⟨0, R, ws, C, G, L, D, Q, z, ov, rfl, by omega, by omega, by omega, h, hO, hR, by omega⟩ ?_
    clear h hO hR hcnt hNR
    rintro kk s ⟨x, R, ws, C, G, L, D, Q, z, ov, rfl, hx0, hx1, hkk', h, hO, hR, hcnt⟩
    have hNR := h.n
    conv => cbv
    refine Br.mk (fun q2 => ?_) (fun q2 => ?_)
    · have q2 : x < ue := q2
      conv => cbv
      refine CallF.le (args0 := [.ptr 1 (.lit 0), .p (.int .i64 (.sym 5)), .p (.int .i64 (.sym 2))]) (callF_frame (alloc9_lx R ws C G N W 0 0 0 L D Q z ov h 5 2) [(0, 1), (1, 2), (2, 3), (3, 4), (4, 5), (5, 6), (6, 7)] rfl (by simp [hmapOk, nget, hget, renB, okB, renV, renVs, rn, okVs, okV]) rfl rfl (fun r h' n' hrr => ?_)) (by simp [ales, ale, pvle, I.val])
      obtain ⟨b, e, R1, ws1, C1, L1, D1, Q1, e1, e2, e3, h1, hT, hC⟩ := hrr
      subst e1 e2 e3
      obtain ⟨he, hR1⟩ := hR.alloc h.a (n := 2) (.inl rfl) (by omega) (by omega) (by omega) hT
      have hO1 := (hO.alloc h.a hT he).1
      have hcnt1 := (alloct_ok h.a hT he).2.2.1
      clear hT hC
      conv => cbv
      refine Fit.mk (by show (-9223372036854775808 : Int) ≤ x + 1; omega) (by show x + 1 ≤ 9223372036854775807; omega) fun x2 hx2 => ?_
      have hx2 : x2 = x + 1 := hx2
      conv => cbv
      refine Again.mk (ue - x2).toNat _ (by omega) (Re.at [(0, 0), (1, 1), (2, 2), (3, 3), (4, 4), (5, 5), (6, 6), (7, 7), (8, 8), (9, 9)] []) ⟨x2, R1, ws1, C1, G, L1, D1, Q1, z, ov, rfl, by omega, by omega, rfl, h1, hO1, hR1, (by show ((objCount R1 : Nat) : Int) = 11 * m + x2; omega)⟩
    · have q2 : ¬ x < ue := q2
      obtain rfl : ue = x := by omega
      conv => cbv
      refine CallF.re (args0 := [.ptr 1 (.lit 0), .sl 8 3 1 (.lit 0) (.sym m)]) (h' := [(1, .mix [.ptr 2 (.lit 0), .ptr 6 (.lit 0), .sl 7 3 1 (.lit 0) (.sym W), .p (.int .i64 (.sym 0)), .p (.int .i64 (.sym 0)), .p (.int .i64 (.sym 0))]), (2, .mix [.ptr 3 (.lit 0), .sl 5 3 1 (.lit 0) (.sym W)]), (3, .mix [.sl 4 157 2 (.lit 0) (.sym N)]), (4, .pure true L), (5, .pure true D), (6, .pure false [.str fun _ => z, .bool ov]), (7, .pure true Q), (0, .fix 0 o), (8, .pure true cg), (9, .pure true ck)]) (Re.at [(0, 0), (1, 1), (2, 2), (3, 3), (4, 4), (5, 5), (6, 6), (7, 7), (8, 8), (9, 9)] []) (callF_frame (beginP_lx R ws C G N W 0 0 0 L D Q z ov h o ho g m cg [] (by rw [hcg, List.append_nil]) hig (by omega) rfl) [(0, 1), (1, 2), (2, 3), (3, 4), (4, 5), (5, 6), (6, 7), (7, 0), (8, 8)] rfl (by simp [hmapOk, nget, hget, renB, okB, renV, renVs, rn, okVs, okV]) rfl rfl (fun r h' n' hrr => ?_))
      obtain ⟨C3, G3, ov3, Q3, z3, e1, e2, e3, h3, hb1⟩ := hrr
      subst e1 e2 e3
      have hb := Cy1.begin (ws := ws) h3.a (by have := h3.n; have := h3.w; omega) hb1
      conv => cbv
      obtain ⟨R0, hR0⟩ : ∃ R0, R0 = R := ⟨_, rfl⟩
      have hrch : ∀ y, Rch R0 ws g y ↔ y ∈ kp := by rw [hR0]; exact hO.rch
      have hnd : ∀ (C : List Int) (a : Int), ¬ Due R0 ws C a := by rw [hR0]; exact fun C a => hO.nodue a
      have hA0 : AOk R0 ws := by rw [hR0]; exact h.a
      have hN0 : N = R0.length := by rw [hR0]; exact h.n
      have hcyc0 : Cyc R0 R ws C3 G3 ov3 1 0 N g [] [] := .inl ⟨rfl, hR0.symm, rfl, by rw [List.append_nil]; exact hb⟩
      have hcyI0 : CyI R C3 G3 1 0 0 N := .inl ⟨rfl, hb.g, rfl⟩
      have hlft := left_le (R := R) (C := C3) (ph := 1) (sp := 0) (N := N) (by omega) (by omega)
      have hol : ((objs R).length : Int) ≤ 53 := by
        have e : (objs R).length = objCount R := objs_length h.a.rows
        have hcnt : ((objCount R : Nat) : Int) = 11 * m + ue := hcnt
        omega
      have hnk := hO.nd
      clear hb hb1 hO hR hcnt
      refine JoinF.mk (fun s => ∃ (ph sp cy : Int) (R : List Rw) (ws C G : List Int) (L D Q : List PV) (z : ByteArray) (ov : Bool), s = ⟨.p (.int .i64 (.sym m)) :: .p (.int .i64 (.sym ue)) :: (undefs 3 ++ .ptr 1 (.lit 0) :: .undef :: .sl 8 3 1 (.lit 0) (.sym m) :: .sl 9 3 1 (.lit 0) (.sym kl) :: undefs 128), [(1, .mix [.ptr 2 (.lit 0), .ptr 6 (.lit 0), .sl 7 3 1 (.lit 0) (.sym W), .p (.int .i64 (.sym ph)), .p (.int .i64 (.sym sp)), .p (.int .i64 (.sym cy))]), (2, .mix [.ptr 3 (.lit 0), .sl 5 3 1 (.lit 0) (.sym W)]), (3, .mix [.sl 4 157 2 (.lit 0) (.sym N)]), (4, .pure true L), (5, .pure true D), (6, .pure false [.str fun _ => z, .bool ov]), (7, .pure true Q), (0, .fix 0 o), (8, .pure true cg), (9, .pure true ck)], 10⟩ ∧ HM R ws C G N W L D Q z ∧ cy = 1 ∧ (∀ y, y ∈ objs R ↔ y ∈ kp)) ?_ ?_
      · conv => cbv
        refine LoopF.mk (fun kk s => ∃ (i ph sp cy : Int) (R : List Rw) (C G : List Int) (L D Q : List PV) (z : ByteArray) (ov : Bool) (X : List Int), s = ⟨.p (.int .i64 (.sym m)) :: .p (.int .i64 (.sym ue)) :: (undefs 3 ++ .ptr 1 (.lit 0) :: .undef :: .sl 8 3 1 (.lit 0) (.sym m) :: .sl 9 3 1 (.lit 0) (.sym kl) :: undefs 7 ++ .p (.int .i64 (.sym i)) :: undefs 120), [(1, .mix [.ptr 2 (.lit 0), .ptr 6 (.lit 0), .sl 7 3 1 (.lit 0) (.sym W), .p (.int .i64 (.sym ph)), .p (.int .i64 (.sym sp)), .p (.int .i64 (.sym cy))]), (2, .mix [.ptr 3 (.lit 0), .sl 5 3 1 (.lit 0) (.sym W)]), (3, .mix [.sl 4 157 2 (.lit 0) (.sym N)]), (4, .pure true L), (5, .pure true D), (6, .pure false [.str fun _ => z, .bool ov]), (7, .pure true Q), (0, .fix 0 o), (8, .pure true cg), (9, .pure true ck)], 10⟩ ∧ 0 ≤ i ∧ i ≤ 500 ∧ kk = (500 - i).toNat ∧ HM R ws C G N W L D Q z ∧ CyI R C G ph sp cy N ∧ 0 ≤ sp ∧ sp ≤ N ∧ left_ R C ph sp N ≤ 500 - i ∧ Cyc R0 R ws C G ov ph sp N g [] X) 500 _
          (Re.at [(0, 0), (1, 1), (2, 2), (3, 3), (4, 4), (5, 5), (10, 6), (7, 7), (8, 8), (9, 9)] []) ⟨0, 1, 0, 0, R, C3, G3, L, D, Q3, z3, ov3, [], rfl, by omega, by omega, by omega, h3, hcyI0, by omega, by omega, by omega, hcyc0⟩ ?_
        clear h3 hcyI0 hcyc0 hlft hol h
        rintro kk s ⟨i, ph, sp, cy, R, C, G, L, D, Q, z, ov, X, rfl, hi0, hi1, hkk, h, hI, hs0, hs1, hl, hcyc⟩
        have hfin : ph = 0 → ∀ y, y ∈ objs R ↔ y ∈ kp := fun hp y => by
          rw [hcyc.left0 hA0 hN0 hp y, List.append_nil]; exact hrch y
        conv => cbv
        refine Br.mk (fun q1 => ?_) (fun q1 => ?_)
        · have q1 : i < 500 := q1
          conv => cbv
          refine callF_frame (phase_lx R ws C G N W ph sp cy L D Q z ov) [(0, 1), (1, 2), (2, 3), (3, 4), (4, 5), (5, 6), (6, 7)] rfl (by simp [hmapOk, nget, hget, renB, okB, renV, renVs, rn, okVs, okV]) rfl rfl (fun r h' n' ⟨e1, e2, e3⟩ => ?_)
          subst e1 e2 e3
          conv => cbv
          refine Br.mk (fun q2 => ?_) (fun q2 => ?_)
          · have q2 : ¬ ph = 0 := q2
            have hNR := h.n
            conv => cbv
            refine callF_frame (step_lx R ws C G N W ph sp cy L D Q z ov h o ho ⟨hs0, by omega⟩ (by have := hI.cyb; omega)) [(0, 1), (1, 2), (2, 3), (3, 4), (4, 5), (5, 6), (6, 7), (7, 0)] rfl (by simp [hmapOk, nget, hget, renB, okB, renV, renVs, rn, okVs, okV]) rfl rfl (fun r h' n' hrr => ?_)
            obtain ⟨out, k2, ph', sp', cy', R2, ws2, C2, G2, ov2, cells', L2, D2, Q2, z2, e1, e2, e3, h2, hcs2, hk, hst⟩ := hrr
            subst e1 e2 e3
            have hgo := stepd_cy (at_ := []) h.a (by have := h.c; have := h.w; omega) (by omega) h.w hI (fun x hx => by cases hx) hst
            have hsp := stepd_sp hI ⟨hs0, hs1⟩ hst
            have hl2 := hgo.2.1 q2
            obtain ⟨hc2, _, hc3⟩ := hcyc.stepd h.a hNR h.w h.c ⟨hs0, hs1⟩ (fun hp => by rcases hI with ⟨k, _⟩ | ⟨_, _, _, k⟩ | ⟨k, _⟩ <;> omega) hst
            obtain ⟨hws, hko⟩ : ws2 = ws ∧ keptOf out = [] := by
              rcases hc3 with hc3 | ⟨hp, a, Y, _, _, _, hd⟩
              · exact hc3
              · exfalso
                rcases hcyc with ⟨_, hR, _⟩ | ⟨k, _⟩ | ⟨k, _⟩
                · rw [hR] at hd; exact hnd C a hd
                · omega
                · omega
            subst hws
            rw [hko] at hc2
            conv => cbv
            refine Fit.mk (by show (-9223372036854775808 : Int) ≤ i + 1; omega) (by show i + 1 ≤ 9223372036854775807; omega) fun i2 hi2 => ?_
            have hi2 : i2 = i + 1 := hi2
            conv => cbv
            refine Again.mk (500 - i2).toNat _ (by omega) (Re.at [(0, 0), (1, 1), (2, 2), (3, 3), (4, 4), (5, 5), (6, 6), (7, 7), (8, 8), (9, 9)] []) ⟨i2, ph', sp', cy', R2, C2, G2, L2, D2, Q2, z2, ov2, X ++ goneOf out, rfl, by omega, by omega, rfl, h2, hgo.1, hsp.1, hsp.2, by omega, hc2⟩
          · have q2 : ph = 0 := Classical.byContradiction q2
            have hc1 : cy = 1 := by rcases hI with ⟨k, _⟩ | ⟨k, _⟩ | ⟨_, k⟩ <;> omega
            conv => cbv
            refine Joined.mk _ (Re.at [(0, 0), (1, 1), (2, 2), (3, 3), (4, 4), (5, 5), (6, 6), (7, 7), (8, 8), (9, 9)] []) ⟨ph, sp, cy, R, ws, C, G, L, D, Q, z, ov, rfl, h, hc1, hfin q2⟩
        · have q1 : ¬ i < 500 := q1
          conv => cbv
          have q2 : ph = 0 := by
            rcases hI with ⟨k, _⟩ | ⟨k, _, _, k2⟩ | ⟨k, _⟩
            · unfold left_ at hl; rw [if_pos k] at hl; omega
            · unfold left_ at hl; rw [if_neg (by omega), if_pos k] at hl; omega
            · exact k
          have hc1 : cy = 1 := by rcases hI with ⟨k, _⟩ | ⟨k, _⟩ | ⟨_, k⟩ <;> omega
          refine Joined.mk _ (Re.at [(0, 0), (1, 1), (2, 2), (3, 3), (4, 4), (5, 5), (6, 6), (7, 7), (8, 8), (9, 9)] []) ⟨ph, sp, cy, R, ws, C, G, L, D, Q, z, ov, rfl, h, hc1, hfin q2⟩
      · clear h3 hcyI0 hcyc0 hlft hol h
        rintro s ⟨ph, sp, cy, R, ws, C, G, L, D, Q, z, ov, rfl, h, hc1, hmem⟩
        obtain ⟨mo, hmo⟩ : ∃ m : Int, m = objCount R := ⟨_, rfl⟩
        conv => cbv
        refine callF_frame (arena_lx R ws C G N W ph sp cy L D Q z ov) [(0, 1), (1, 2), (2, 3), (3, 4), (4, 5), (5, 6), (6, 7)] rfl (by simp [hmapOk, nget, hget, renB, okB, renV, renVs, rn, okVs, okV]) rfl rfl (fun r h' n' ⟨e1, e2, e3⟩ => ?_)
        subst e1 e2 e3
        conv => cbv
        refine callF_frame (objects_lx mo R N W L D h.l h.n h.r h.a.rows h.w hmo) [(0, 2), (1, 3), (2, 4), (3, 5)] rfl (by simp [hmapOk, nget, hget, renB, okB, renV, renVs, rn, okVs, okV]) rfl rfl (fun r h' n' hrr => ?_)
        obtain ⟨O, e1, e2, e3, hO⟩ := hrr
        subst e1 e2 e3
        have hOl : (O.length : Int) = mo := by rw [hO, ipv_length, objs_length h.a.rows, hmo]
        have hO : O = ipv (objs R) := hO
        have hol : ((objs R).length : Int) = mo := by rw [← hOl, hO, ipv_length]
        have hRr := h.r
        have hob2 : mo ≤ 8000 := by have := objsTo_le R R.length; rw [objs_length h.a.rows] at this; omega
        have hml : mo = kl := by
          have h1 := nodup_le (objs_nodup h.a.rows) (fun x hx => (hmem x).1 hx)
          have h2 := nodup_le hnk (fun x hx => (hmem x).2 hx)
          omega
        conv => cbv
        refine LoopF.mk (fun kk s => ∃ i : Int, s = ⟨.p (.int .i64 (.sym m)) :: .p (.int .i64 (.sym ue)) :: (undefs 3 ++ .ptr 1 (.lit 0) :: .undef :: .sl 8 3 1 (.lit 0) (.sym m) :: .sl 9 3 1 (.lit 0) (.sym kl) :: undefs 8 ++ .sl 10 3 1 (.lit 0) (.sym mo) :: .p (.int .i64 (.sym i)) :: undefs 118), [(1, .mix [.ptr 2 (.lit 0), .ptr 6 (.lit 0), .sl 7 3 1 (.lit 0) (.sym W), .p (.int .i64 (.sym ph)), .p (.int .i64 (.sym sp)), .p (.int .i64 (.sym cy))]), (2, .mix [.ptr 3 (.lit 0), .sl 5 3 1 (.lit 0) (.sym W)]), (3, .mix [.sl 4 157 2 (.lit 0) (.sym N)]), (4, .pure true L), (5, .pure true D), (6, .pure false [.str fun _ => z, .bool ov]), (7, .pure true Q), (0, .fix 0 o), (8, .pure true cg), (9, .pure true ck), (10, .pure true O)], 11⟩ ∧ 0 ≤ i ∧ i ≤ kl ∧ kk = (kl - i).toNat) kl.toNat _
          (Re.at [(0, 0), (1, 1), (2, 2), (3, 3), (4, 4), (5, 5), (6, 6), (7, 7), (8, 8), (9, 9), (10, 10)] []) ⟨0, rfl, by omega, by omega, by omega⟩ ?_
        rintro kk s ⟨i, rfl, hi0, hi1, hkk⟩
        have hckl : ck.length = kp.length := by rw [hck, ipv_length]
        conv => cbv
        refine Br.mk (fun q => ?_) (fun q => ?_)
        · have q : i < kl := q
          obtain ⟨y, hy⟩ : ∃ y, kp[i.toNat]? = some y := ⟨_, List.getElem?_eq_getElem (by omega)⟩
          have hyc : ck[i.toNat]? = some (.int .i64 (.sym y)) := by rw [hck]; exact ipv_get hy
          have hyo : y ∈ objs R := (hmem y).2 (List.mem_of_getElem? hy)
          conv => cbv
          refine Need.mk (show 0 ≤ i ∧ i < kl by omega) ?_
          conv => cbv
          refine Cell.at i _ hyc (by simp [I.val]) rfl ?_
          conv => cbv
          refine callF_lend (inO_lx (objs R) y mo O true hol.symm hO (by omega) (decide_eq_true hyo).symm) (by simp [lends, lendV, hget, I.val, pvle]) (fun r h' n' ⟨e1, e2, e3⟩ => by subst e1 e2; exact ⟨trivial, trivial⟩) (fun r h' n' ⟨e1, e2, e3⟩ => ?_)
          subst e1 e2 e3
          conv => cbv
          refine Fit.mk (by show (-9223372036854775808 : Int) ≤ i + 1; omega) (by show i + 1 ≤ 9223372036854775807; omega) fun i2 hi2 => ?_
          have hi2 : i2 = i + 1 := hi2
          conv => cbv
          refine Again.mk (kl - i2).toNat _ (by omega) (Re.at [(0, 0), (1, 1), (2, 2), (3, 3), (4, 4), (5, 5), (6, 6), (7, 7), (8, 8), (9, 9), (10, 10)] []) ⟨i2, rfl, by omega, by omega, rfl⟩
        · have q : ¬ i < kl := q
          conv => cbv
          refine Br.yes (show mo = kl from hml) ?_
          conv => cbv
          refine callF_frame (cyclesH_lx R ws C G N W ph sp cy L D Q z ov) [(0, 1), (1, 2), (2, 3), (3, 4), (4, 5), (5, 6), (6, 7)] rfl (by simp [hmapOk, nget, hget, renB, okB, renV, renVs, rn, okVs, okV]) rfl rfl (fun r h' n' ⟨e1, e2, e3⟩ => ?_)
          subst e1 e2 e3
          conv => cbv
          refine Br.yes (show cy = 1 from hc1) ?_
          conv => cbv
          refine RetF.mk [.p (.bool true)] [(0, .fix 0 o)] 1 (Re.at [(0, 0)] []) rfl rfl
end Go.Proofs.YtgoflehllhccgaaGreatDoor
