/-
  Layer 9: HeapHides.
-/
import Derived.Test.YtllafhhnciobhaaGreatDoorAl

import Derived.Test.YtllafhhnciobhaaGreatDoorCi

import Derived.Test.YtllafhhnciobhaaGreatDoorHe

import Derived.Test.YtllafhhnciobhaaGreatDoorIb
import Derived.Test.YtllafhhnciobhaaGreatDoorLxO

namespace Go.Proofs.YtllafhhnciobhaaGreatDoor

open Go Go.LX
set_option maxRecDepth 100000
set_option linter.unusedVariables false
set_option linter.unusedSimpArgs false

set_option maxHeartbeats 4000000 in
theorem beginP_lx (R : List Rw) (ws C G : List Int) (N W ph sp cy : Int) (L D Q : List PV) (z : ByteArray) (ov : Bool) (h : HM R ws C G N W L D Q z) (o : Unit → Obj) (ho : IsPow o) (A : List Int) (k : Int) (rs : List PV) (B : List Int) (hrs : rs = ipv (A ++ B)) (hk : k = A.length) (hA : (A.length : Int) < 1000000) (hph : ph = 0) : CallF (fun _ => Tryz.prog) 26 [.ptr 0 (.lit 0), .sl 8 3 1 (.lit 0) (.sym k)] [(0, .mix [.ptr 1 (.lit 0), .ptr 5 (.lit 0), .sl 6 3 1 (.lit 0) (.sym W), .p (.int .i64 (.sym ph)), .p (.int .i64 (.sym sp)), .p (.int .i64 (.sym cy))]), (1, .mix [.ptr 2 (.lit 0), .sl 4 3 1 (.lit 0) (.sym W)]), (2, .mix [.sl 3 101 2 (.lit 0) (.sym N)]), (3, .pure true L), (4, .pure true D), (5, .pure false [.str fun _ => z, .bool ov]), (6, .pure true Q), (7, .fix 0 o), (8, .pure true rs)] 9 (fun r h n => ∃ (C' G' : List Int) (ov' : Bool) (Q' : List PV) (z' : ByteArray), r = .p (.int .i64 (.lit 0)) ∧ h = [(0, .mix [.ptr 1 (.lit 0), .ptr 9 (.lit 0), .sl 6 3 1 (.lit 0) (.sym W), .p (.int .i64 (.sym 1)), .p (.int .i64 (.sym sp)), .p (.int .i64 (.sym cy))]), (1, .mix [.ptr 2 (.lit 0), .sl 4 3 1 (.lit 0) (.sym W)]), (2, .mix [.sl 3 101 2 (.lit 0) (.sym N)]), (3, .pure true L), (4, .pure true D), (9, .pure false [.str fun _ => z', .bool ov']), (6, .pure true Q'), (7, .fix 0 o), (8, .pure true rs)] ∧ n = 10 ∧ HM R ws C' G' N W L D Q' z' ∧ (C', G', ov') = begS R W A) := by
  have hCl := h.c; have hWn := h.w; have hNr := h.n; have hRr := h.r
  have hQl : Q.length = C.length := by rw [h.q, ipv_length]
  refine callF_of_body tok Tryz.func26 (by kernel_rfl) rfl rfl rfl ?_; conv => cbv
  refine callF_frame (arena_lx R ws C G N W ph sp cy L D Q z ov) [(0, 0), (1, 1), (2, 2), (3, 3), (4, 4), (5, 5), (6, 6)] rfl (by simp [hmapOk, nget, hget, renB, okB, renV, renVs, rn, okVs, okV]) rfl rfl (fun r h' n' ⟨e1, e2, e3⟩ => ?_)
  subst e1 e2 e3
  conv => cbv
  refine Br.mk (fun g => ?_) (fun g => ?_)
  case refine_1 =>
    have g : ph ≠ 0 := g
    exact absurd hph g
  conv => cbv
  refine Need.mk ⟨Int.le_refl _, by show 0 ≤ W; omega, by show 0 + W * 1 ≤ (Q.length : Int); omega⟩ ?_
  conv => cbv
  obtain ⟨Q0, hQ0⟩ : ∃ Q0, Q0 = ipv (List.replicate W.toNat 0) := ⟨_, rfl⟩
  refine Upd.mk fun Q2 hQ2 => ?_
  have hle : pvles Q2 Q0 := by
    have hQ2 : Q2 = updL Q 0 (repsP [.int .i64 (.lit 0)] W.toNat) := hQ2
    rw [hQ2, hQ0, h.q, show W.toNat = C.length by omega, ← zer_all]
    exact upd_zer _ _ _ _ (pvles_refl _)
  unfold pvles at hle
  clear hQ2
  conv => cbv
  refine callF_frame greyNew_lx [] rfl trivial rfl rfl (fun r h' n' hrr => ?_)
  obtain ⟨z1, e1, e2, e3, hz1⟩ := hrr
  subst e1 e2 e3
  have hM0 : HM R ws (List.replicate W.toNat 0) [] N W L D Q0 z1 := ⟨h.a, h.k, h.n, h.r, h.w, h.l, h.d, hQ0, by rw [List.length_replicate]; omega, hz1, fun x hx => (by cases hx), Nat.zero_le _⟩
  conv => cbv
  refine LoopF.mk (fun kk s => ∃ (i : Int) (C' G' : List Int) (ov' : Bool) (Q' : List PV) (z' : ByteArray), s = ⟨.ptr 0 (.lit 0) :: (undefs 25 ++ .sl 8 3 1 (.lit 0) (.sym k) :: .p (.int .i64 (.sym k)) :: .p (.int .i64 (.sym i)) :: undefs 7), [(0, .mix [.ptr 1 (.lit 0), .ptr 9 (.lit 0), .sl 6 3 1 (.lit 0) (.sym W), .p (.int .i64 (.sym 1)), .p (.int .i64 (.sym sp)), .p (.int .i64 (.sym cy))]), (1, .mix [.ptr 2 (.lit 0), .sl 4 3 1 (.lit 0) (.sym W)]), (2, .mix [.sl 3 101 2 (.lit 0) (.sym N)]), (3, .pure true L), (4, .pure true D), (9, .pure false [.str fun _ => z', .bool ov']), (6, .pure true Q'), (7, .fix 0 o), (8, .pure true rs)], 10⟩ ∧ 0 ≤ i ∧ i ≤ k ∧ HM R ws C' G' N W L D Q' z' ∧ (C', G', ov') = begS R W (A.take i.toNat) ∧ kk = (k - i).toNat) k.toNat _
    (Re.at [(0, 0), (1, 1), (2, 2), (3, 3), (4, 4), (6, 6), (7, 7), (8, 8), (9, 9)] []) ⟨0, _, _, _, Q0, z1, rfl, by omega, by omega, hM0, rfl, by omega⟩ ?_
  rintro kk s ⟨i, C', G', ov', Q', z', rfl, hi0, hi1, h2, hS, hk2⟩
  conv => cbv
  refine Br.mk (fun gi => ?_) (fun gi => ?_)
  · have gi : i < k := gi
    obtain ⟨k', rfl⟩ : ∃ k', kk = k' + 1 := ⟨kk - 1, by omega⟩
    obtain ⟨a, ha⟩ : ∃ a, A[i.toNat]? = some a := ⟨_, List.getElem?_eq_getElem (by omega)⟩
    have hc : rs[i.toNat]? = some (.int .i64 (.sym a)) := by rw [hrs]; exact ipv_get (by rw [List.getElem?_append_left (by omega)]; exact ha)
    conv => cbv
    refine Need.mk ⟨hi0, gi⟩ ?_
    conv => cbv
    refine Cell.at i _ hc (by simp [I.val]) rfl ?_
    conv => cbv
    refine callF_frame (shade_lx R ws C' G' N W 1 sp cy L D Q' z' ov' h2 o ho a) [(0, 0), (1, 1), (2, 2), (3, 3), (4, 4), (5, 9), (6, 6), (7, 7)] rfl (by simp [hmapOk, nget, hget, renB, okB, renV, renVs, rn, okVs, okV]) rfl rfl (fun r h' n' hrr => ?_)
    obtain ⟨C2, G2, ov2, Q2, z2, e1, e2, e3, h3, hS2⟩ := hrr
    subst e1 e2 e3
    have hS3 : (C2, G2, ov2) = begS R W (A.take (i.toNat + 1)) := by
      rw [hS2, hS]
      unfold begS
      rw [List.take_add_one, ha, Option.toList_some, List.foldl_append]; rfl
    conv => cbv
    refine Fit.mk (by show (-9223372036854775808 : Int) ≤ i + 1; omega) (by show i + 1 ≤ 9223372036854775807; omega) fun i2 hi2 => ?_
    have hi2 : i2 = i + 1 := hi2
    rw [show i.toNat + 1 = i2.toNat by omega] at hS3
    conv => cbv
    refine Again.mk k' _ (Nat.lt_succ_self _) (Re.at [(0, 0), (1, 1), (2, 2), (3, 3), (4, 4), (6, 6), (7, 7), (8, 8), (9, 9)] []) ⟨i2, C2, G2, ov2, Q2, z2, rfl, by omega, by omega, h3, hS3, by omega⟩
  · have gi : ¬ i < k := gi
    rw [List.take_of_length_le (by omega)] at hS
    conv => cbv
    refine RetF.mk [.p (.int .i64 (.lit 0))] [(0, .mix [.ptr 1 (.lit 0), .ptr 9 (.lit 0), .sl 6 3 1 (.lit 0) (.sym W), .p (.int .i64 (.sym 1)), .p (.int .i64 (.sym sp)), .p (.int .i64 (.sym cy))]), (1, .mix [.ptr 2 (.lit 0), .sl 4 3 1 (.lit 0) (.sym W)]), (2, .mix [.sl 3 101 2 (.lit 0) (.sym N)]), (3, .pure true L), (4, .pure true D), (9, .pure false [.str fun _ => z', .bool ov']), (6, .pure true Q'), (7, .fix 0 o), (8, .pure true rs)] 10 (Re.at [(0, 0), (1, 1), (2, 2), (3, 3), (4, 4), (6, 6), (7, 7), (8, 8), (9, 9)] []) rfl ⟨C', G', ov', Q', z', rfl, rfl, rfl, h2, hS⟩
theorem storeS_gok {R : List Rw} {C C' G G' : List Int} {ov ov' : Bool} {ph e w : Int} (h : GOk R C G) (hc : (C', G', ov') = storeS R ph e w (C, G, ov)) : GOk R C' G' ∧ CLe C C' := by
  have h1 : C' = (storeS R ph e w (C, G, ov)).1 := congrArg Prod.fst hc
  have h2 : G' = (storeS R ph e w (C, G, ov)).2.1 := congrArg (fun x => x.2.1) hc
  rw [h1, h2]
  unfold storeS
  split
  · exact ⟨shadeW_gok h, shadeW_le R ph w (C, G, ov)⟩
  · exact ⟨h, CLe.refl _⟩
theorem CyI.store {R : List Rw} {C C' G G' : List Int} {ov ov' : Bool} {sp cy N e w : Int} (h : CyI R C G 1 sp cy N) (hc : (C', G', ov') = storeS R 1 e w (C, G, ov)) : CyI R C' G' 1 sp cy N ∧ CLe C C' := by
  rcases h with ⟨_, h, h2⟩ | ⟨q, _⟩ | ⟨q, _⟩
  · exact ⟨.inl ⟨rfl, (storeS_gok h hc).1, h2⟩, (storeS_gok h hc).2⟩
  · omega
  · omega
theorem Chn.weak {R : List Rw} {ws y : List Int} {P Q : Nat → Prop} (h : Chn R ws y P) (hq : ∀ j, Q j → P j) : Chn R ws y Q := ⟨h.box, h.nd, h.fin, fun k a b hk => h.nxt k a b (hq k hk)⟩
set_option maxHeartbeats 8000000 in
theorem heapHides_law (o : Unit → Obj) (ho : IsPow o) (st n : Int) (hst : -9223372036854775808 ≤ st ∧ st ≤ 9223372036854775807) (hn : -9223372036854775808 ≤ n ∧ n ≤ 9223372036854775807) :
    CallF (fun _ => Tryz.prog) 9 [.p (.int .i64 (.sym st)), .p (.int .i64 (.sym n))] [(0, .fix 0 o)] 1 (fun r _ _ => r = .p (.bool true)) := by
  refine callF_of_bodyB tok Tryz.func9 (by kernel_rfl) rfl rfl rfl [29] ?_; conv => cbv
  refine Fit.wrap fun xn hxn => ?_
  have hxn : xn = IntKind.u64.wrap n := hxn
  have hyn : 0 ≤ xn := by rw [hxn]; simp [IntKind.wrap, IntKind.bits, IntKind.signed]; omega
  clear hxn
  conv => cbv
  refine Sum.mk fun tn htn => ?_
  have htn : tn = xn % 10 := (show tn = xn.tmod 10 from htn).trans (Int.tmod_eq_emod_of_nonneg hyn)
  conv => cbv
  refine Fit.mk (by show (-9223372036854775808 : Int) ≤ tn; omega) (by show tn ≤ 9223372036854775807; omega) fun un hun => ?_
  have hun : un = tn := hun
  have hun0 : 0 ≤ un := by omega
  have hun1 : un < 10 := by omega
  clear hun htn hyn
  conv => cbv
  refine Fit.mk (by show (-9223372036854775808 : Int) ≤ 2 + un; omega) (by show 2 + un ≤ 9223372036854775807; omega) fun m hm => ?_
  have hm : m = 2 + un := hm
  have hm0 : 2 ≤ m := by omega
  have hm1 : m ≤ 11 := by omega
  clear hm
  conv => cbv
  refine Fit.wrap fun xs hxs => ?_
  have hxs : xs = IntKind.u64.wrap st := hxs
  have hys : 0 ≤ xs := by rw [hxs]; simp [IntKind.wrap, IntKind.bits, IntKind.signed]; omega
  clear hxs
  conv => cbv
  refine Fit.mk (by show (-9223372036854775808 : Int) ≤ m + 1; omega) (by show m + 1 ≤ 9223372036854775807; omega) fun m1 hm1' => ?_
  have hm1' : m1 = m + 1 := hm1'
  conv => cbv
  refine Fit.mk (by show (0 : Int) ≤ m1; omega) (by show m1 ≤ 18446744073709551615; omega) fun m2 hm2 => ?_
  have hm2 : m2 = m1 := hm2
  conv => cbv
  refine Need.mk (show ¬ m2 = 0 by omega) ?_
  conv => cbv
  refine Sum.mk fun ts hts => ?_
  have hts : ts = xs % m2 := (show ts = xs.tmod m2 from hts).trans (Int.tmod_eq_emod_of_nonneg hys)
  have hts0 : 0 ≤ ts := by rw [hts]; exact Int.emod_nonneg _ (by omega)
  have hts1 : ts < m2 := by rw [hts]; exact Int.emod_lt_of_pos _ (by omega)
  clear hts
  conv => cbv
  refine Fit.mk (by show (-9223372036854775808 : Int) ≤ ts; omega) (by show ts ≤ 9223372036854775807; omega) fun ss hss => ?_
  have hss : ss = ts := hss
  have hss0 : 0 ≤ ss := by omega
  have hss1 : ss ≤ m := by omega
  clear hss hts0 hts1 hm2 hm1' hys
  conv => cbv
  obtain ⟨N, hN⟩ : ∃ N : Int, N = 20 := ⟨_, rfl⟩
  obtain ⟨W, hW⟩ : ∃ W, W = 32 * N := ⟨_, rfl⟩
  obtain ⟨Rz, hRz⟩ : ∃ Rz, Rz = List.replicate N.toNat ((0, []) : Rw) := ⟨_, rfl⟩
  obtain ⟨wz, hwz⟩ : ∃ wz, wz = List.replicate W.toNat (0 : Int) := ⟨_, rfl⟩
  obtain ⟨L0, hL0⟩ : ∃ L0, L0 = rpv Rz := ⟨_, rfl⟩
  obtain ⟨D0, hD0⟩ : ∃ D0, D0 = ipv wz := ⟨_, rfl⟩
  obtain ⟨z0, hz0⟩ : ∃ z0 : ByteArray, z0 = ⟨(enc []).toArray⟩ := ⟨_, rfl⟩
  have hM0 : HM Rz wz wz [] N W L0 D0 D0 z0 := by rw [hRz, hwz] at *; exact HM.new (by omega) (by omega) hW hL0 hD0 hD0 hz0
  refine CallF.le (args0 := [.p (.int .i64 (.sym N))]) (callF_frame (newH_lx N W (by omega) (by omega) hW L0 D0 D0 z0 (by rw [hL0, hRz]) (by rw [hD0, hwz]) (by rw [hD0, hwz]) hz0) [] rfl trivial rfl rfl (fun r h' n' ⟨e1, e2, e3⟩ => ?_)) (by simp [ales, ale, pvle, I.val, hN])
  subst e1 e2 e3
  conv => cbv
  refine callF_frame (awake09_lx o ho) [(0, 0)] rfl (by simp [hmapOk, nget, hget, renB, okB, renV, renVs, rn, okVs, okV]) rfl rfl (fun r h' n' ⟨e1, e2, e3⟩ => ?_)
  subst e1 e2 e3
  conv => cbv
  refine callF_frame (arena_lx Rz wz wz [] N W 0 0 0 L0 D0 D0 z0 false) [(0, 1), (1, 2), (2, 3), (3, 4), (4, 5), (5, 6), (6, 7)] rfl (by simp [hmapOk, nget, hget, renB, okB, renV, renVs, rn, okVs, okV]) rfl rfl (fun r h' n' ⟨e1, e2, e3⟩ => ?_)
  subst e1 e2 e3
  conv => cbv
  have hRz20 : Rz.length = 20 := by rw [hRz, List.length_replicate, hN]; rfl
  have hG0 : Grown Rz wz [] := ⟨fun b hb => (by cases hb), List.nodup_nil, fun a ha => (by cases ha), by rw [hRz, new_count]; rfl⟩
  refine LoopF.mk (fun kk s => ∃ (i : Int) (R : List Rw) (ws C : List Int) (L D Q : List PV) (l : List Int) (cells : List PV), s = ⟨.p (.int .i64 (.sym ss)) :: .p (.int .i64 (.sym m)) :: (undefs 3 ++ .ptr 1 (.lit 0) :: .undef :: .sl 8 3 1 (.lit 0) (.sym i) :: .p (.int .i64 (.sym i)) :: undefs 158), [(1, .mix [.ptr 2 (.lit 0), .ptr 6 (.lit 0), .sl 7 3 1 (.lit 0) (.sym W), .p (.int .i64 (.sym 0)), .p (.int .i64 (.sym 0)), .p (.int .i64 (.sym 0))]), (2, .mix [.ptr 3 (.lit 0), .sl 5 3 1 (.lit 0) (.sym W)]), (3, .mix [.sl 4 101 2 (.lit 0) (.sym N)]), (4, .pure true L), (5, .pure true D), (6, .pure false [.str fun _ => z0, .bool false]), (7, .pure true Q), (0, .fix 0 o), (8, .pure true cells)], 9⟩ ∧ 0 ≤ i ∧ i ≤ m ∧ kk = (m - i).toNat ∧ HM R ws C [] N W L D Q z0 ∧ Grown R ws l ∧ cells = ipv l ∧ i = l.length) m.toNat _
    (Re.at [(0, 0), (1, 1), (2, 2), (3, 3), (4, 4), (5, 5), (6, 6), (7, 7)] [8]) ⟨0, Rz, wz, wz, L0, D0, D0, [], [], rfl, by omega, by omega, by omega, hM0, hG0, rfl, rfl⟩ ?_
  clear hM0 hG0
  rintro kk s ⟨i, R, ws, C, L, D, Q, l, cells, rfl, hi0, hi1, hkk, h, hG, hcs, hil⟩
  have hNR := h.n
  conv => cbv
  refine Br.mk (fun q => ?_) (fun q => ?_)
  · have q : i < m := q
    conv => cbv
    refine CallF.le (args0 := [.ptr 1 (.lit 0), .p (.int .i64 (.sym 5)), .p (.int .i64 (.sym 2))]) (callF_frame (alloc9_lx R ws C [] N W 0 0 0 L D Q z0 false h 5 2) [(0, 1), (1, 2), (2, 3), (3, 4), (4, 5), (5, 6), (6, 7)] rfl (by simp [hmapOk, nget, hget, renB, okB, renV, renVs, rn, okVs, okV]) rfl rfl (fun r h' n' hrr => ?_)) (by simp [ales, ale, pvle, I.val])
    obtain ⟨b, e, R', ws', C', L', D', Q', e1, e2, e3, h2, hT, hC⟩ := hrr
    subst e1 e2 e3
    conv => cbv
    have hcl : cells.length = l.length := by rw [hcs, ipv_length]
    refine Room.new rfl ?_
    conv => cbv
    refine Room.new ⟨?_, ?_, ?_⟩ ?_
    · show (cells.length : Int) = i * 1; omega
    · show (i + 1) * 8 ≤ 140737488355328; omega
    · show i + 1 ≤ 9223372036854775807; omega
    conv => cbv
    refine Upd.mk fun cells2 hcs2 => ?_
    have hcs2 : cells2 = cells ++ [.int .i64 (.sym b)] := hcs2
    have hcs3 : cells2 = ipv (l ++ [b]) := by rw [hcs2, hcs, ← ipv_app]; rfl
    conv => cbv
    refine Sum.mk fun j2 hj2 => ?_
    have hj2 : j2 = i + 1 := hj2
    conv => cbv
    refine Fit.mk (by show (-9223372036854775808 : Int) ≤ i + 1; omega) (by show i + 1 ≤ 9223372036854775807; omega) fun i2 hi2 => ?_
    have hi2 : i2 = i + 1 := hi2
    obtain rfl : j2 = i2 := hj2.trans hi2.symm
    have hG2 := (hG.alloc h.a (by omega) hT).2
    have hR2 := (h.a.alloct hT).2
    conv => cbv
    refine Again.mk (m - j2).toNat _ (by omega) (Re.at [(0, 0), (1, 1), (2, 2), (3, 3), (4, 4), (5, 5), (6, 6), (7, 7), (10, 8)] []) ⟨j2, R', ws', C', L', D', Q', l ++ [b], cells2, rfl, by omega, by omega, rfl, h2, hG2, hcs3, by rw [List.length_append]; show j2 = ((l.length + 1 : Nat) : Int); omega⟩
  · have q : ¬ i < m := q
    obtain rfl : m = i := by omega
    conv => cbv
    refine CallF.le (args0 := [.ptr 1 (.lit 0), .p (.int .i64 (.sym 5)), .p (.int .i64 (.sym 2))]) (callF_frame (alloc9_lx R ws C [] N W 0 0 0 L D Q z0 false h 5 2) [(0, 1), (1, 2), (2, 3), (3, 4), (4, 5), (5, 6), (6, 7)] rfl (by simp [hmapOk, nget, hget, renB, okB, renV, renVs, rn, okVs, okV]) rfl rfl (fun r h' n' hrr => ?_)) (by simp [ales, ale, pvle, I.val])
    obtain ⟨x, e, R', ws', C', L', D', Q', e1, e2, e3, h2, hT, hC⟩ := hrr
    subst e1 e2 e3
    have hG2 := (hG.alloc h.a (by omega) hT).2
    have hR2 := (h.a.alloct hT).2
    clear h hG hC hT
    conv => cbv
    obtain ⟨la, hla⟩ : ∃ la, l[(m - 1).toNat]? = some la := ⟨_, List.getElem?_eq_getElem (by omega)⟩
    have hcell : cells[(m - 1).toNat]? = some (.int .i64 (.sym la)) := by rw [hcs]; exact ipv_get hla
    have hxm : x ∈ l ++ [x] := List.mem_append_right _ (List.mem_singleton.2 rfl)
    have hxb := (hG2.box x hxm).bounds h2.a
    have hchn := hG2.chn
    have hcnt := hG2.cnt
    have hyn : (l ++ [x])[m.toNat]? = some x := by rw [show m.toNat = l.length by omega]; simp
    have hyl : (l ++ [x])[(m - 1).toNat]? = some la := by rw [List.getElem?_append_left (by omega)]; exact hla
    refine drawn_sound tok (by kernel_rfl) [(7, [5, 4, 3, 2, 1, 0]), (8, [])] [0, 1, 2, 3, 4, 5, 6, 7, 8] (by kernel_rfl) ?_; conv => cbv
    refine Fit.mk (by show (-9223372036854775808 : Int) ≤ m - 1; omega) (by show m - 1 ≤ 9223372036854775807; omega) fun p hp => ?_
    have hp : p = m - 1 := hp
    rw [← hp] at hla hcell hyl
    conv => cbv
    refine Need.mk (show 0 ≤ p ∧ p < m by omega) ?_
    conv => cbv
    refine Cell.at p _ hcell (by simp [I.val]) rfl ?_
    conv => cbv
    refine callF_frame (rPtr_lx x (by omega)) [] rfl trivial rfl rfl (fun r h' n' hrr => ?_)
    obtain ⟨wx, e1, e2, e3, hwx⟩ := hrr
    subst e1 e2 e3
    conv => cbv
    refine CallF.le (args0 := [.ptr 1 (.lit 0), .p (.int .i64 (.sym la)), .p (.int .i64 (.sym 0)), .p (.int .i64 (.sym wx))]) (callF_frame (store9_lx R' ws' C' [] N W 0 0 0 L' D' Q' z0 false h2 o ho la 0 wx (by omega)) [(0, 1), (1, 2), (2, 3), (3, 4), (4, 5), (5, 6), (6, 7), (7, 0)] rfl (by simp [hmapOk, nget, hget, renB, okB, renV, renVs, rn, okVs, okV]) rfl rfl (fun r h' n' hrr => ?_)) (by simp [ales, ale, pvle, I.val])
    obtain ⟨e, ws1, C1, G1, ov1, D1, Q1, z1, e1, e2, e3, h3, hT, hC⟩ := hrr
    subst e1 e2 e3
    have hch := (hchn.store (k := p.toNat) h2.a hyl (by rw [show p.toNat + 1 = m.toNat by omega]; exact hyn) (hwx ▸ hT)).2
    clear hT hC hchn h2
    conv => cbv
    have hyi : ∀ i : Int, 0 ≤ i → i < m → ∃ b, l[i.toNat]? = some b ∧ cells[i.toNat]? = some (.int .i64 (.sym b)) ∧ (l ++ [x])[i.toNat]? = some b := fun i h0 h1 => by
      obtain ⟨b, hb⟩ : ∃ b, l[i.toNat]? = some b := ⟨_, List.getElem?_eq_getElem (by omega)⟩
      exact ⟨b, hb, by rw [hcs]; exact ipv_get hb, by rw [List.getElem?_append_left (by omega)]; exact hb⟩
    clear hyl hcell hla hwx hxm
    refine LoopF.mk (fun kk s => ∃ (i : Int) (ws C G : List Int) (D Q : List PV) (z : ByteArray) (ov : Bool), s = ⟨.p (.int .i64 (.sym ss)) :: .p (.int .i64 (.sym m)) :: (undefs 3 ++ .ptr 1 (.lit 0) :: .undef :: .sl 8 3 1 (.lit 0) (.sym m) :: undefs 3 ++ .p (.int .i64 (.sym x)) :: .undef :: .p (.int .i64 (.sym i)) :: undefs 153), [(1, .mix [.ptr 2 (.lit 0), .ptr 6 (.lit 0), .sl 7 3 1 (.lit 0) (.sym W), .p (.int .i64 (.sym 0)), .p (.int .i64 (.sym 0)), .p (.int .i64 (.sym 0))]), (2, .mix [.ptr 3 (.lit 0), .sl 5 3 1 (.lit 0) (.sym W)]), (3, .mix [.sl 4 101 2 (.lit 0) (.sym N)]), (4, .pure true L'), (5, .pure true D), (6, .pure false [.str fun _ => z, .bool ov]), (7, .pure true Q), (0, .fix 0 o), (8, .pure true cells)], 9⟩ ∧ 0 ≤ i ∧ i ≤ m ∧ kk = (m - i).toNat ∧ HM R' ws C G N W L' D Q z ∧ Chn R' ws (l ++ [x]) (fun j => (j : Int) < i ∨ j = p.toNat)) m.toNat _
      (Re.at [(0, 0), (1, 1), (2, 2), (3, 3), (4, 4), (5, 5), (6, 6), (7, 7), (8, 8)] []) ⟨0, ws1, C1, G1, D1, Q1, z1, ov1, rfl, by omega, by omega, by omega, h3, hch.weak (fun j hj => by rcases hj with hj | hj; exact absurd hj (by omega); exact .inl hj)⟩ ?_
    clear h3 hch
    rintro kk s ⟨i, ws, C, G, D, Q, z, ov, rfl, hi0, hi1, hkk, h, hc⟩
    conv => cbv
    refine Fit.mk (by show (-9223372036854775808 : Int) ≤ i + 1; omega) (by show i + 1 ≤ 9223372036854775807; omega) fun i1 hi1' => ?_
    have hi1' : i1 = i + 1 := hi1'
    conv => cbv
    refine Br.mk (fun q => ?_) (fun q => ?_)
    · have q : i1 < m := q
      conv => cbv
      obtain ⟨b, hb, hbc, hby⟩ := hyi i hi0 (by omega)
      obtain ⟨b2, hb2, hbc2, hby2⟩ := hyi i1 (by omega) q
      have hb2b := (hc.box b2 (List.mem_of_getElem? hby2)).bounds h.a
      refine drawn_sound tok (by kernel_rfl) [(10, [4, 3, 2, 1, 0]), (11, [])] [0, 1, 2, 3, 4, 5, 6, 7, 8, 9, 10, 11] (by kernel_rfl) ?_; conv => cbv
      refine Need.mk (show 0 ≤ i ∧ i < m by omega) ?_
      conv => cbv
      refine Cell.at i _ hbc (by simp [I.val]) rfl ?_
      conv => cbv
      refine Fit.mk (by show (-9223372036854775808 : Int) ≤ i + 1; omega) (by show i + 1 ≤ 9223372036854775807; omega) fun i3 hi3' => ?_
      obtain rfl : i1 = i3 := hi1'.trans (show i3 = i + 1 from hi3').symm
      conv => cbv
      refine Need.mk (show 0 ≤ i1 ∧ i1 < m by omega) ?_
      conv => cbv
      refine Cell.at i1 _ hbc2 (by simp [I.val]) rfl ?_
      conv => cbv
      refine callF_frame (rPtr_lx b2 (by omega)) [] rfl trivial rfl rfl (fun r h' n' hrr => ?_)
      obtain ⟨w2, e1, e2, e3, hw2⟩ := hrr
      subst e1 e2 e3
      conv => cbv
      refine CallF.le (args0 := [.ptr 1 (.lit 0), .p (.int .i64 (.sym b)), .p (.int .i64 (.sym 0)), .p (.int .i64 (.sym w2))]) (callF_frame (store9_lx R' ws C G N W 0 0 0 L' D Q z ov h o ho b 0 w2 (by omega)) [(0, 1), (1, 2), (2, 3), (3, 4), (4, 5), (5, 6), (6, 7), (7, 0)] rfl (by simp [hmapOk, nget, hget, renB, okB, renV, renVs, rn, okVs, okV]) rfl rfl (fun r h' n' hrr => ?_)) (by simp [ales, ale, pvle, I.val])
      obtain ⟨e, ws2, C2, G2, ov2, D2, Q2, z2, e1, e2, e3, h3, hT, hC⟩ := hrr
      subst e1 e2 e3
      conv => cbv
      have hch := (hc.store (k := i.toNat) h.a hby (by rw [show i.toNat + 1 = i1.toNat by omega]; exact hby2) (hw2 ▸ hT)).2
      refine Fit.mk (by show (-9223372036854775808 : Int) ≤ i + 1; omega) (by show i + 1 ≤ 9223372036854775807; omega) fun i4 hi4' => ?_
      obtain rfl : i1 = i4 := hi1'.trans (show i4 = i + 1 from hi4').symm
      conv => cbv
      refine Again.mk (m - i1).toNat _ (by omega) (Re.at [(0, 0), (1, 1), (2, 2), (3, 3), (4, 4), (5, 5), (6, 6), (7, 7), (8, 8)] []) ⟨i1, ws2, C2, G2, D2, Q2, z2, ov2, rfl, by omega, by omega, rfl, h3, hch.weak (fun j hj => by
        rcases hj with hj | hj
        · by_cases e : j = i.toNat
          · exact .inl e
          · have hj : (j : Int) < i1 := hj
            exact .inr (.inl (show (j : Int) < i by omega))
        · exact .inr (.inr hj))⟩
    · have q : ¬ i1 < m := q
      have hc : Chn R' ws (l ++ [x]) (fun j => (j : Int) < m) := hc.weak (fun j hj => by omega)
      obtain ⟨l0, hl0, hl0c, hl0y⟩ := hyi 0 (by omega) (by omega)
      conv => cbv
      refine Need.mk ⟨show (0 : Int) ≤ 1 by omega, Or.inl (show (1 : Int) ≤ m by omega)⟩ ?_
      conv => cbv
      refine CallF.re (args0 := [.ptr 1 (.lit 0), .sl 8 3 1 (.lit 0) (.sym 1)]) (h' := [(1, .mix [.ptr 2 (.lit 0), .ptr 6 (.lit 0), .sl 7 3 1 (.lit 0) (.sym W), .p (.int .i64 (.sym 0)), .p (.int .i64 (.sym 0)), .p (.int .i64 (.sym 0))]), (2, .mix [.ptr 3 (.lit 0), .sl 5 3 1 (.lit 0) (.sym W)]), (3, .mix [.sl 4 101 2 (.lit 0) (.sym N)]), (4, .pure true L'), (5, .pure true D), (6, .pure false [.str fun _ => z, .bool ov]), (7, .pure true Q), (0, .fix 0 o), (8, .pure true cells)]) (Re.at [(0, 0), (1, 1), (2, 2), (3, 3), (4, 4), (5, 5), (6, 6), (7, 7), (8, 8)] []) (callF_frame (beginP_lx R' ws C G N W 0 0 0 L' D Q z ov h o ho [l0] 1 cells l.tail (by rw [hcs]; exact congrArg ipv (by cases l with | nil => cases hl0 | cons a t => exact congrArg (· :: t) (Option.some.inj hl0))) rfl (by simp) rfl) [(0, 1), (1, 2), (2, 3), (3, 4), (4, 5), (5, 6), (6, 7), (7, 0), (8, 8)] rfl (by simp [hmapOk, nget, hget, renB, okB, renV, renVs, rn, okVs, okV]) rfl rfl (fun r h' n' hrr => ?_))
      obtain ⟨C3, G3, ov3, Q3, z3, e1, e2, e3, h3, hb1⟩ := hrr
      subst e1 e2 e3
      have hbg := At.begin (N := N) h3.a (by have := h3.n; have := h3.w; omega) hc hl0y hb1
      conv => cbv
      have hlen2 : (l ++ [x]).length = l.length + 1 := by rw [List.length_append]; rfl
      refine LoopF.mk (fun kk s => ∃ (k : Int) (C G : List Int) (L D Q : List PV) (z : ByteArray) (ov : Bool), s = ⟨.p (.int .i64 (.sym ss)) :: .p (.int .i64 (.sym m)) :: (undefs 3 ++ .ptr 1 (.lit 0) :: .undef :: .sl 8 3 1 (.lit 0) (.sym m) :: undefs 3 ++ .p (.int .i64 (.sym x)) :: undefs 2 ++ .p (.int .i64 (.sym k)) :: undefs 152), [(1, .mix [.ptr 2 (.lit 0), .ptr 6 (.lit 0), .sl 7 3 1 (.lit 0) (.sym W), .p (.int .i64 (.sym 1)), .p (.int .i64 (.sym 0)), .p (.int .i64 (.sym 0))]), (2, .mix [.ptr 3 (.lit 0), .sl 5 3 1 (.lit 0) (.sym W)]), (3, .mix [.sl 4 101 2 (.lit 0) (.sym N)]), (4, .pure true L), (5, .pure true D), (6, .pure false [.str fun _ => z, .bool ov]), (7, .pure true Q), (0, .fix 0 o), (8, .pure true cells)], 9⟩ ∧ 0 ≤ k ∧ k ≤ ss ∧ kk = (ss - k).toNat ∧ HM R' ws C G N W L D Q z ∧ CyI R' C G 1 0 0 N ∧ At C G ov (l ++ [x]) k.toNat ∧ C[l0.toNat]? ≠ some 0) ss.toNat _
        (Re.at [(0, 0), (1, 1), (2, 2), (3, 3), (4, 4), (5, 5), (9, 6), (7, 7), (8, 8)] []) ⟨0, C3, G3, L', D, Q3, z3, ov3, rfl, by omega, by omega, by omega, h3, hbg.2.1, hbg.1, hbg.2.2⟩ ?_
      clear h3 hb1 hbg h
      rintro kk s ⟨k, C, G, L, D, Q, z, ov, rfl, hk0, hk1, hkk, h, hI, hAt, hl0n⟩
      have hNR := h.n
      have hl0o : l0 ∈ objs R' := (obj_iff h.a l0).2 (hc.box l0 (List.mem_of_getElem? hl0y)).obj6
      conv => cbv
      refine Br.mk (fun q => ?_) (fun q => ?_)
      · have q : k < ss := q
        conv => cbv
        refine callF_frame (step_lx R' ws C G N W 1 0 0 L D Q z ov h o ho (by omega) (by omega)) [(0, 1), (1, 2), (2, 3), (3, 4), (4, 5), (5, 6), (6, 7), (7, 0)] rfl (by simp [hmapOk, nget, hget, renB, okB, renV, renVs, rn, okVs, okV]) rfl rfl (fun r h' n' hrr => ?_)
        obtain ⟨out, kx, ph', sp', cy', R2, ws2, C2, G2, ov2, cells', L2, D2, Q2, z2, e1, e2, e3, h2, hcs2, hkl, hst⟩ := hrr
        subst e1 e2 e3
        have hgo := stepd_cy (at_ := []) h.a (by have := h.c; have := h.w; omega) (by omega) h.w hI (fun x hx => by cases hx) hst
        have hkp := stepd_keep h.a ⟨hl0o, fun _ => hl0n⟩ hst
        obtain ⟨q1, q2, q3, q4, q5, hAt2⟩ := hAt.step h.a hc (show ((k.toNat : Nat) : Int) < m by omega) (by omega) rfl hst
        have q4 := q4.symm
        have q5 := q5.symm
        subst q1 q2 q3 q4 q5
        conv => cbv
        refine Fit.mk (by show (-9223372036854775808 : Int) ≤ k + 1; omega) (by show k + 1 ≤ 9223372036854775807; omega) fun k2 hk2 => ?_
        have hk2 : k2 = k + 1 := hk2
        conv => cbv
        refine Again.mk (ss - k2).toNat _ (by omega) (Re.at [(0, 0), (1, 1), (2, 2), (3, 3), (4, 4), (5, 5), (6, 6), (7, 7), (8, 8)] []) ⟨k2, C2, G2, L2, D2, Q2, z2, ov2, rfl, by omega, by omega, rfl, h2, hgo.1, by rw [show k2.toNat = k.toNat + 1 by omega]; exact hAt2, hkp.2 (by decide)⟩
      · have q : ¬ k < ss := q
        conv => cbv
        refine Fit.mk (by show (-9223372036854775808 : Int) ≤ m - 1; omega) (by show m - 1 ≤ 9223372036854775807; omega) fun p2 hp2 => ?_
        have hp2 : p2 = m - 1 := hp2
        obtain ⟨la, hlal, hlac, hlay⟩ := hyi p2 (by omega) (by omega)
        have hld := hc.nxt p2.toNat la x (show ((p2.toNat : Nat) : Int) < m by omega) hlay (by rw [show p2.toNat + 1 = m.toNat by omega]; exact hyn)
        conv => cbv
        refine Need.mk (show 0 ≤ p2 ∧ p2 < m by omega) ?_
        conv => cbv
        refine Cell.at p2 _ hlac (by simp [I.val]) rfl ?_
        conv => cbv
        refine CallF.le (args0 := [.ptr 1 (.lit 0), .p (.int .i64 (.sym la)), .p (.int .i64 (.sym 0))]) (callF_frame (load9_lx R' ws C G N W 1 0 0 L D Q z ov h la 0) [(0, 1), (1, 2), (2, 3), (3, 4), (4, 5), (5, 6), (6, 7)] rfl (by simp [hmapOk, nget, hget, renB, okB, renV, renVs, rn, okVs, okV]) rfl rfl (fun r h' n' hrr => ?_)) (by simp [ales, ale, pvle, I.val])
        obtain ⟨wv, e, e1, e2, e3, hv⟩ := hrr
        subst e1 e2 e3
        obtain ⟨hwv, he⟩ := loaded_det hv hld
        conv => cbv
        refine Br.no (show ¬ (¬ e = 0) from fun q => q he) ?_
        conv => cbv
        refine callF_frame (phase_lx R' ws C G N W 1 0 0 L D Q z ov) [(0, 1), (1, 2), (2, 3), (3, 4), (4, 5), (5, 6), (6, 7)] rfl (by simp [hmapOk, nget, hget, renB, okB, renV, renVs, rn, okVs, okV]) rfl rfl (fun r h' n' ⟨e1, e2, e3⟩ => ?_)
        subst e1 e2 e3
        conv => cbv
        refine Br.no (show ¬ (¬ (1 : Int) = 1) from fun q => q rfl) ?_
        conv => cbv
        refine Need.mk (show (0 : Int) ≤ 0 ∧ (0 : Int) < m by omega) ?_
        conv => cbv
        refine Cell.at 0 _ hl0c (by simp [I.val]) rfl ?_
        conv => cbv
        have hwvb : -9223372036854775808 ≤ wv ∧ wv ≤ 9223372036854775807 := by omega
        refine CallF.le (args0 := [.ptr 1 (.lit 0), .p (.int .i64 (.sym l0)), .p (.int .i64 (.sym 0)), .p (.int .i64 (.sym wv))]) (callF_frame (store9_lx R' ws C G N W 1 0 0 L D Q z ov h o ho l0 0 wv hwvb) [(0, 1), (1, 2), (2, 3), (3, 4), (4, 5), (5, 6), (6, 7), (7, 0)] rfl (by simp [hmapOk, nget, hget, renB, okB, renV, renVs, rn, okVs, okV]) rfl rfl (fun r h' n' hrr => ?_)) (by simp [ales, ale, pvle, I.val])
        obtain ⟨f1, ws1, C1, G1, ov1, D1, Q1, z1, e1, e2, e3, h1, hT1, hC1⟩ := hrr
        subst e1 e2 e3
        have hK0 := hc.box l0 (List.mem_of_getElem? hl0y)
        have hKx := hc.box x (List.mem_of_getElem? hyn)
        have hf1 := (stored_own h.a hK0 (by omega) hT1).1
        have hI1 := hI.store hC1
        have hxo : x ∈ objs R' := (obj_iff h.a x).2 hKx.obj6
        have hx1 : C1[x.toNat]? ≠ some 0 := by
          have q1 : C1 = (storeS R' 1 f1 wv (C, G, ov)).1 := congrArg Prod.fst hC1
          rw [q1]
          unfold storeS
          rw [if_pos hf1]
          have q2 := shadeW_hit R' wv (C, G, ov) (by omega) (by rw [show (wv - 1) / 2 = x by omega]; exact hxo)
          rw [show (wv - 1) / 2 = x by omega] at q2
          exact q2
        have hl01 : C1[l0.toNat]? ≠ some 0 := fun k => hl0n (hI1.2.1 _ k)
        have hk1 := stored_kept h.a hT1
        clear hT1 hC1
        conv => cbv
        refine Fit.mk (by show (-9223372036854775808 : Int) ≤ m - 1; omega) (by show m - 1 ≤ 9223372036854775807; omega) fun p3 hp3 => ?_
        obtain rfl : p2 = p3 := hp2.trans (show p3 = m - 1 from hp3).symm
        conv => cbv
        refine Need.mk (show 0 ≤ p2 ∧ p2 < m by omega) ?_
        conv => cbv
        refine Cell.at p2 _ hlac (by simp [I.val]) rfl ?_
        conv => cbv
        refine CallF.le (args0 := [.ptr 1 (.lit 0), .p (.int .i64 (.sym la)), .p (.int .i64 (.sym 0)), .p (.int .i64 (.sym 0))]) (callF_frame (store9_lx R' ws1 C1 G1 N W 1 0 0 L D1 Q1 z1 ov1 h1 o ho la 0 0 (by omega)) [(0, 1), (1, 2), (2, 3), (3, 4), (4, 5), (5, 6), (6, 7), (7, 0)] rfl (by simp [hmapOk, nget, hget, renB, okB, renV, renVs, rn, okVs, okV]) rfl rfl (fun r h' n' hrr => ?_)) (by simp [ales, ale, pvle, I.val])
        obtain ⟨f2, ws2, C2, G2, ov2, D2, Q2, z2, e1, e2, e3, h2, hT2, hC2⟩ := hrr
        subst e1 e2 e3
        have hI2 := hI1.1.store hC2
        have hx2 : C2[x.toNat]? ≠ some 0 := fun k => hx1 (hI2.2.1 _ k)
        have hl02 : C2[l0.toNat]? ≠ some 0 := fun k => hl01 (hI2.2.1 _ k)
        have hk2 := stored_kept h1.a hT2
        have hkx : ∀ k l, Kept R' ws2 x k l → k = 5 := fun k l q => ((hk1 _ _ _ (hk2 _ _ _ q)).det9 hKx).1
        have hk0 : ∀ k l, Kept R' ws2 l0 k l → k = 5 := fun k l q => ((hk1 _ _ _ (hk2 _ _ _ q)).det9 hK0).1
        have hlft := left_le (R := R') (C := C2) (ph := 1) (sp := 0) (N := N) (by omega) (by omega)
        have hol : ((objs R').length : Int) = m + 1 := by have := objs_length h.a.rows; have e : (objs R').length = objCount R' := this; omega
        have hI2 := hI2.1
        clear hT2 hC2 hk1 hk2 hx1 hl01 hI1 h1 hv hld h hAt
        conv => cbv
        refine JoinF.mk (fun s => ∃ (ph sp cy : Int) (R : List Rw) (ws C G : List Int) (L D Q : List PV) (z : ByteArray) (ov : Bool), s = ⟨.p (.int .i64 (.sym ss)) :: .p (.int .i64 (.sym m)) :: (undefs 3 ++ .ptr 1 (.lit 0) :: .undef :: .sl 8 3 1 (.lit 0) (.sym m) :: undefs 3 ++ .p (.int .i64 (.sym x)) :: undefs 155), [(1, .mix [.ptr 2 (.lit 0), .ptr 6 (.lit 0), .sl 7 3 1 (.lit 0) (.sym W), .p (.int .i64 (.sym ph)), .p (.int .i64 (.sym sp)), .p (.int .i64 (.sym cy))]), (2, .mix [.ptr 3 (.lit 0), .sl 5 3 1 (.lit 0) (.sym W)]), (3, .mix [.sl 4 101 2 (.lit 0) (.sym N)]), (4, .pure true L), (5, .pure true D), (6, .pure false [.str fun _ => z, .bool ov]), (7, .pure true Q), (0, .fix 0 o), (8, .pure true cells)], 9⟩ ∧ HM R ws C G N W L D Q z ∧ ph = 0 ∧ cy = 1 ∧ x ∈ objs R ∧ l0 ∈ objs R ∧ (∀ k l, Kept R ws x k l → k = 5) ∧ (∀ k l, Kept R ws l0 k l → k = 5)) ?_ ?_
        · conv => cbv
          refine LoopF.mk (fun kk s => ∃ (i ph sp cy : Int) (R : List Rw) (ws C G : List Int) (L D Q : List PV) (z : ByteArray) (ov : Bool), s = ⟨.p (.int .i64 (.sym ss)) :: .p (.int .i64 (.sym m)) :: (undefs 3 ++ .ptr 1 (.lit 0) :: .undef :: .sl 8 3 1 (.lit 0) (.sym m) :: undefs 3 ++ .p (.int .i64 (.sym x)) :: undefs 5 ++ .p (.int .i64 (.sym i)) :: undefs 149), [(1, .mix [.ptr 2 (.lit 0), .ptr 6 (.lit 0), .sl 7 3 1 (.lit 0) (.sym W), .p (.int .i64 (.sym ph)), .p (.int .i64 (.sym sp)), .p (.int .i64 (.sym cy))]), (2, .mix [.ptr 3 (.lit 0), .sl 5 3 1 (.lit 0) (.sym W)]), (3, .mix [.sl 4 101 2 (.lit 0) (.sym N)]), (4, .pure true L), (5, .pure true D), (6, .pure false [.str fun _ => z, .bool ov]), (7, .pure true Q), (0, .fix 0 o), (8, .pure true cells)], 9⟩ ∧ 0 ≤ i ∧ i ≤ 200 ∧ kk = (200 - i).toNat ∧ HM R ws C G N W L D Q z ∧ CyI R C G ph sp cy N ∧ 0 ≤ sp ∧ sp ≤ N ∧ left_ R C ph sp N ≤ 200 - i ∧ (x ∈ objs R ∧ (ph ≠ 0 → C[x.toNat]? ≠ some 0)) ∧ (l0 ∈ objs R ∧ (ph ≠ 0 → C[l0.toNat]? ≠ some 0)) ∧ (∀ k l, Kept R ws x k l → k = 5) ∧ (∀ k l, Kept R ws l0 k l → k = 5)) 200 _
            (Re.at [(0, 0), (1, 1), (2, 2), (3, 3), (4, 4), (5, 5), (6, 6), (7, 7), (8, 8)] []) ⟨0, 1, 0, 0, R', ws2, C2, G2, L, D2, Q2, z2, ov2, rfl, by omega, by omega, by omega, h2, hI2, by omega, by omega, by omega, ⟨hxo, fun _ => hx2⟩, ⟨hl0o, fun _ => hl02⟩, hkx, hk0⟩ ?_
          clear h2 hI2 hxo hx2 hl02 hkx hk0 hlft hol hl0n hl0o hI
          rintro kk s ⟨i, ph, sp, cy, R, ws, C, G, L, D, Q, z, ov, rfl, hi0, hi1, hkk, h, hI, hs0, hs1, hl, hx, hl0, hkx, hk0⟩
          conv => cbv
          refine Br.mk (fun q1 => ?_) (fun q1 => ?_)
          · have q1 : i < 200 := q1
            conv => cbv
            refine callF_frame (phase_lx R ws C G N W ph sp cy L D Q z ov) [(0, 1), (1, 2), (2, 3), (3, 4), (4, 5), (5, 6), (6, 7)] rfl (by simp [hmapOk, nget, hget, renB, okB, renV, renVs, rn, okVs, okV]) rfl rfl (fun r h' n' ⟨e1, e2, e3⟩ => ?_)
            subst e1 e2 e3
            conv => cbv
            refine Br.mk (fun q2 => ?_) (fun q2 => ?_)
            · have q2 : ¬ ph = 0 := q2
              have hNR := h.n
              conv => cbv
              refine callF_frame (step_lx R ws C G N W ph sp cy L D Q z ov h o ho ⟨hs0, by omega⟩ (by have := hI.cyb; omega)) [(0, 1), (1, 2), (2, 3), (3, 4), (4, 5), (5, 6), (6, 7), (7, 0)] rfl (by simp [hmapOk, nget, hget, renB, okB, renV, renVs, rn, okVs, okV]) rfl rfl (fun r h' n' hrr => ?_)
              obtain ⟨out, k2, ph', sp', cy', R2, ws2, C2, G2, ov2, cells', L2, D2, Q2, z2, e1, e2, e3, h2, hcs2, hk, hst⟩ := hrr
              subst e1 e2 e3
              conv => cbv
              refine Fit.mk (by show (-9223372036854775808 : Int) ≤ i + 1; omega) (by show i + 1 ≤ 9223372036854775807; omega) fun i2 hi2 => ?_
              have hi2 : i2 = i + 1 := hi2
              conv => cbv
              have hgo := stepd_cy (at_ := []) h.a (by have := h.c; have := h.w; omega) (by omega) h.w hI (fun x hx => by cases hx) hst
              have hsp := stepd_sp hI ⟨hs0, hs1⟩ hst
              have hl2 := hgo.2.1 q2
              have hkb := stepd_kept h.a hst
              refine Again.mk (200 - i2).toNat _ (by omega) (Re.at [(0, 0), (1, 1), (2, 2), (3, 3), (4, 4), (5, 5), (6, 6), (7, 7), (8, 8)] []) ⟨i2, ph', sp', cy', R2, ws2, C2, G2, L2, D2, Q2, z2, ov2, rfl, by omega, by omega, rfl, h2, hgo.1, hsp.1, hsp.2, by omega, stepd_keep h.a hx hst, stepd_keep h.a hl0 hst, fun k l q => hkx k l (hkb _ _ _ q), fun k l q => hk0 k l (hkb _ _ _ q)⟩
            · have q2 : ph = 0 := Classical.byContradiction q2
              have hc1 : cy = 1 := by rcases hI with ⟨k, _⟩ | ⟨k, _⟩ | ⟨_, k⟩ <;> omega
              conv => cbv
              refine Joined.mk _ (Re.at [(0, 0), (1, 1), (2, 2), (3, 3), (4, 4), (5, 5), (6, 6), (7, 7), (8, 8)] []) ⟨ph, sp, cy, R, ws, C, G, L, D, Q, z, ov, rfl, h, q2, hc1, hx.1, hl0.1, hkx, hk0⟩
          · have q1 : ¬ i < 200 := q1
            conv => cbv
            have q2 : ph = 0 := by
              rcases hI with ⟨k, _⟩ | ⟨k, _, _, k2⟩ | ⟨k, _⟩
              · unfold left_ at hl; rw [if_pos k] at hl; omega
              · unfold left_ at hl; rw [if_neg (by omega), if_pos k] at hl; omega
              · exact k
            have hc1 : cy = 1 := by rcases hI with ⟨k, _⟩ | ⟨k, _⟩ | ⟨_, k⟩ <;> omega
            refine Joined.mk _ (Re.at [(0, 0), (1, 1), (2, 2), (3, 3), (4, 4), (5, 5), (6, 6), (7, 7), (8, 8)] []) ⟨ph, sp, cy, R, ws, C, G, L, D, Q, z, ov, rfl, h, q2, hc1, hx.1, hl0.1, hkx, hk0⟩
        · clear h2 hI2 hxo hx2 hl02 hkx hk0 hlft hol hl0n hl0o hI
          rintro s ⟨ph, sp, cy, R, ws, C, G, L, D, Q, z, ov, rfl, h, hp0, hc1, hx, hl0, hkx, hk0⟩
          conv => cbv
          obtain ⟨kk1, ll1, hKK1⟩ := Kept.of h.a ((obj_iff h.a x).1 hx)
          obtain ⟨kk2, ll2, hKK2⟩ := Kept.of h.a ((obj_iff h.a l0).1 hl0)
          refine drawn_sound tok (by kernel_rfl) [(1, [2]), (3, []), (7, [10, 9, 8]), (11, []), (16, [])] [0, 2, 1, 3, 4, 5, 6, 8, 9, 10, 7, 11, 12, 13, 14, 15, 16, 17, 18, 19] (by kernel_rfl) ?_; conv => cbv
          refine callF_frame (arena_lx R ws C G N W ph sp cy L D Q z ov) [(0, 1), (1, 2), (2, 3), (3, 4), (4, 5), (5, 6), (6, 7)] rfl (by simp [hmapOk, nget, hget, renB, okB, renV, renVs, rn, okVs, okV]) rfl rfl (fun r h' n' ⟨e1, e2, e3⟩ => ?_)
          subst e1 e2 e3
          conv => cbv
          refine callF_frame (kind_lx R ws N x W L D h.l h.d h.n h.r h.a h.w) [(0, 2), (1, 3), (2, 4), (3, 5)] rfl (by simp [hmapOk, nget, hget, renB, okB, renV, renVs, rn, okVs, okV]) rfl rfl (fun r h' n' hrr => ?_)
          obtain ⟨v1, e1, e2, e3, v1h⟩ := hrr
          subst e1 e2 e3
          have v15 : v1 = 5 := (kindR_of6 hKK1 v1h).trans (hkx _ _ hKK1)
          conv => cbv
          refine Br.yes (show v1 = 5 from v15) ?_
          conv => cbv
          refine Need.mk (show (0 : Int) ≤ 0 ∧ (0 : Int) < m by omega) ?_
          conv => cbv
          refine Cell.at 0 _ hl0c (by simp [I.val]) rfl ?_
          conv => cbv
          refine callF_frame (arena_lx R ws C G N W ph sp cy L D Q z ov) [(0, 1), (1, 2), (2, 3), (3, 4), (4, 5), (5, 6), (6, 7)] rfl (by simp [hmapOk, nget, hget, renB, okB, renV, renVs, rn, okVs, okV]) rfl rfl (fun r h' n' ⟨e1, e2, e3⟩ => ?_)
          subst e1 e2 e3
          conv => cbv
          refine callF_frame (kind_lx R ws N l0 W L D h.l h.d h.n h.r h.a h.w) [(0, 2), (1, 3), (2, 4), (3, 5)] rfl (by simp [hmapOk, nget, hget, renB, okB, renV, renVs, rn, okVs, okV]) rfl rfl (fun r h' n' hrr => ?_)
          obtain ⟨v2, e1, e2, e3, v2h⟩ := hrr
          subst e1 e2 e3
          have v25 : v2 = 5 := (kindR_of6 hKK2 v2h).trans (hk0 _ _ hKK2)
          conv => cbv
          refine Br.yes (show v2 = 5 from v25) ?_
          conv => cbv
          refine callF_frame (cyclesH_lx R ws C G N W ph sp cy L D Q z ov) [(0, 1), (1, 2), (2, 3), (3, 4), (4, 5), (5, 6), (6, 7)] rfl (by simp [hmapOk, nget, hget, renB, okB, renV, renVs, rn, okVs, okV]) rfl rfl (fun r h' n' ⟨e1, e2, e3⟩ => ?_)
          subst e1 e2 e3
          conv => cbv
          refine Br.yes (show cy = 1 from hc1) ?_
          conv => cbv
          refine RetF.mk [.p (.bool true)] [(0, .fix 0 o)] 1 (Re.at [(0, 0)] []) rfl rfl
end Go.Proofs.YtllafhhnciobhaaGreatDoor
