/-
  Layer 9: HeapAllots.
-/
import Derived.Test.YtllafhhnciobhaaGreatDoorIb
import Derived.Test.YtllafhhnciobhaaGreatDoorHe

import Derived.Test.YtllafhhnciobhaaGreatDoorAm

import Derived.Test.YtllafhhnciobhaaGreatDoorLxO

namespace Go.Proofs.YtllafhhnciobhaaGreatDoor

open Go Go.LX
set_option maxRecDepth 100000
set_option linter.unusedVariables false
set_option linter.unusedSimpArgs false

theorem stepd_sp {R R' : List Rw} {ws ws' C C' G G' : List Int} {ov ov' : Bool} {ph sp cy W N p s y : Int} {out : List Gn} (h : CyI R C G ph sp cy N) (hs0 : 0 ≤ sp ∧ sp ≤ N) (hs : Stepd R ws C G ov ph sp cy W out R' ws' C' G' ov' p s y) : 0 ≤ s ∧ s ≤ N := by
  cases hs with
  | mark _ _ _ _ _ _ _ _ hm => cases hm with
    | scan _ _ _ _ _ _ _ _ _ _ => exact hs0
    | keep _ _ _ _ _ _ _ _ _ _ _ _ _ => exact hs0
    | sweep _ _ _ _ => exact ⟨Int.le_refl _, by omega⟩
  | sweep _ _ hp _ =>
    rcases h with ⟨q, _⟩ | ⟨_, _, h0, h1⟩ | ⟨q, _⟩
    · omega
    · exact ⟨by omega, by omega⟩
    · omega
  | idle _ _ => exact hs0
theorem beg_none {R : List Rw} {W : Int} {C G : List Int} {ov : Bool} (h : (C, G, ov) = begS R W []) : C = List.replicate W.toNat 0 ∧ G = [] ∧ ov = false := by
  have h : (C, G, ov) = (List.replicate W.toNat 0, [], false) := h
  cases h
  exact ⟨rfl, rfl, rfl⟩
theorem CyI.cyb {R : List Rw} {C G : List Int} {ph sp cy N : Int} (h : CyI R C G ph sp cy N) : 0 ≤ cy ∧ cy ≤ 1 := by
  rcases h with ⟨_, _, h⟩ | ⟨_, h, _⟩ | ⟨_, h⟩ <;> omega
theorem no_due {Rz R : List Rw} {wz ws C : List Int} {a e : Int} (hA : AOk Rz wz) (hno : ∀ x, ¬ IsObj Rz x) (hT : Alloct Rz wz 5 2 a e R ws) (he : e = 0) (b : Int) : ¬ Due R ws C b := by
  obtain ⟨h1, _, _, h4, _, h6, _⟩ := alloct_ok hA hT he
  rintro ⟨⟨l, hK⟩, _, x, hx, hx0⟩
  rcases h6 b hK.obj6 with rfl | hb
  · generalize hi : (1 : Int) = i at hx
    cases hx with
    | ok k l2 _ hK2 hi2 hw =>
      subst hi
      rw [h4 1 (by decide) (by decide)] at hw
      exact hx0 (Option.some.inj hw).symm
  · exact hno b hb
theorem alloc_cy {R R' : List Rw} {ws ws' C C' G at_ : List Int} {kind n a e ph sp cy N : Int} (hA : AOk R ws) (hCl : (C.length : Int) = 32 * R.length) (h : CyI R C G ph sp cy N) (hat : ∀ x ∈ at_, x ∈ objs R ∧ (ph ≠ 0 → C[x.toNat]? = some 2)) (hs : Alloct R ws kind n a e R' ws') (he : e = 0) (hc : C' = allocC ph a e C) :
    CyI R' C' G ph sp cy N ∧ (∀ x ∈ at_, x ∈ objs R' ∧ (ph ≠ 0 → C'[x.toNat]? = some 2)) ∧ a ∈ objs R' ∧ (ph ≠ 0 → C'[a.toNat]? = some 2) := by
  obtain ⟨h1, h2, _, _, h5, h6, _⟩ := alloct_ok hA hs he
  obtain ⟨hA', hlR⟩ := hA.alloct hs
  have hab := h1.bounds hA'
  have hup : ∀ x, x ∈ objs R → x ∈ objs R' ∧ C'[x.toNat]? = C[x.toNat]? := by
    intro x hx
    have hxo := (obj_iff hA x).1 hx
    obtain ⟨k, l, hK⟩ := Kept.of hA hxo
    refine ⟨(obj_iff hA' x).2 (h5 x k l hK).obj6, ?_⟩
    have hxb := obj_bd hA hx
    have hne : a ≠ x := fun q => h2 (q ▸ hxo)
    rw [hc, allocC, if_pos he, List.getElem?_set_ne (by omega)]
  refine ⟨?_, fun x hx => ⟨(hup x (hat x hx).1).1, fun hp => by rw [(hup x (hat x hx).1).2]; exact (hat x hx).2 hp⟩, (obj_iff hA' a).2 h1.obj6, fun hp => ?_⟩
  · rcases h with ⟨q1, hg, q2⟩ | h | h
    · exact .inl ⟨q1, ⟨fun x hx => (hup x (hg.obj x hx)).1, fun x hx => by rw [(hup x (hg.obj x hx)).2]; exact hg.grey x hx, hg.once⟩, q2⟩
    · exact .inr (.inl h)
    · exact .inr (.inr h)
  · rw [hc, allocC, if_pos he, if_neg hp]
    exact List.getElem?_set_self (by omega)
theorem alloct_bad {R R' : List Rw} {ws ws' : List Int} {kind n a e : Int} (h : Alloct R ws kind n a e R' ws') (he : e ≠ 0) : R' = R ∧ ws' = ws := by
  cases h with
  | arg h => exact ⟨rfl, rfl⟩
  | room i s R' h ha => cases ha <;> exact ⟨rfl, rfl⟩
  | ok i s at_ R' h ha hi hat => exact absurd rfl he
set_option maxHeartbeats 8000000 in
theorem heapAllots_law (o : Unit → Obj) (ho : IsPow o) (n st k1 : Int) (ks : List Int) (L1 : List PV) (hn : -9223372036854775808 ≤ n ∧ n ≤ 9223372036854775807) (hst : -9223372036854775808 ≤ st ∧ st ≤ 9223372036854775807) (hk1 : k1 = ks.length) (hL1 : L1 = ipv ks) (hkb : k1 ≤ 9223372036854775807) (hks : ∀ x ∈ ks, -9223372036854775808 ≤ x ∧ x ≤ 9223372036854775807) :
    CallF (fun _ => Tryz.prog) 6 [.p (.int .i64 (.sym n)), .p (.int .i64 (.sym st)), .p (.vsl (.sym k1) true L1)] [(0, .fix 0 o)] 1 (fun r _ _ => r = .p (.bool true)) := by
  have hL1l : L1.length = ks.length := by rw [hL1, ipv_length]
  refine callF_of_bodyB tok Tryz.func6 (by kernel_rfl) rfl rfl rfl [8, 23] ?_; conv => cbv
  refine Fit.wrap fun xn hxn => ?_
  have hxn : xn = IntKind.u64.wrap n := hxn
  have hyn : 0 ≤ xn := by rw [hxn]; simp [IntKind.wrap, IntKind.bits, IntKind.signed]; omega
  clear hxn
  conv => cbv
  refine Sum.mk fun tn htn => ?_
  have htn : tn = xn % 5 := (show tn = xn.tmod 5 from htn).trans (Int.tmod_eq_emod_of_nonneg hyn)
  conv => cbv
  refine Fit.mk (by show (-9223372036854775808 : Int) ≤ tn; omega) (by show tn ≤ 9223372036854775807; omega) fun un hun => ?_
  have hun : un = tn := hun
  have hun0 : 0 ≤ un := by omega
  have hun1 : un < 5 := by omega
  clear hun htn hyn
  conv => cbv
  refine Fit.mk (by show (-9223372036854775808 : Int) ≤ 3 + un; omega) (by show 3 + un ≤ 9223372036854775807; omega) fun N hN => ?_
  have hN : N = 3 + un := hN
  have hN0 : 3 ≤ N := by omega
  have hN1 : N ≤ 7 := by omega
  clear hN
  conv => cbv
  refine Fit.wrap fun xn hxn => ?_
  have hxn : xn = IntKind.u64.wrap st := hxn
  have hyn : 0 ≤ xn := by rw [hxn]; simp [IntKind.wrap, IntKind.bits, IntKind.signed]; omega
  clear hxn
  conv => cbv
  refine Sum.mk fun tn htn => ?_
  have htn : tn = xn % 12 := (show tn = xn.tmod 12 from htn).trans (Int.tmod_eq_emod_of_nonneg hyn)
  conv => cbv
  refine Fit.mk (by show (-9223372036854775808 : Int) ≤ tn; omega) (by show tn ≤ 9223372036854775807; omega) fun ss hss => ?_
  have hss : ss = tn := hss
  have hss0 : 0 ≤ ss := by omega
  have hss1 : ss < 12 := by omega
  clear hss htn hyn
  conv => cbv
  obtain ⟨W, hW⟩ : ∃ W, W = 32 * N := ⟨_, rfl⟩
  obtain ⟨Rz, hRz⟩ : ∃ Rz, Rz = List.replicate N.toNat ((0, []) : Rw) := ⟨_, rfl⟩
  obtain ⟨wz, hwz⟩ : ∃ wz, wz = List.replicate W.toNat (0 : Int) := ⟨_, rfl⟩
  obtain ⟨L0, hL0⟩ : ∃ L0, L0 = rpv Rz := ⟨_, rfl⟩
  obtain ⟨D0, hD0⟩ : ∃ D0, D0 = ipv wz := ⟨_, rfl⟩
  obtain ⟨z0, hz0⟩ : ∃ z0 : ByteArray, z0 = ⟨(enc []).toArray⟩ := ⟨_, rfl⟩
  have hM0 : HM Rz wz wz [] N W L0 D0 D0 z0 := by rw [hRz, hwz] at *; exact HM.new (by omega) (by omega) hW hL0 hD0 hD0 hz0
  refine callF_frame (newH_lx N W (by omega) (by omega) hW L0 D0 D0 z0 (by rw [hL0, hRz]) (by rw [hD0, hwz]) (by rw [hD0, hwz]) hz0) [] rfl trivial rfl rfl (fun r h' n' ⟨e1, e2, e3⟩ => ?_)
  subst e1 e2 e3
  conv => cbv
  refine callF_frame (awake09_lx o ho) [(0, 0)] rfl (by simp [hmapOk, nget, hget, renB, okB, renV, renVs, rn, okVs, okV]) rfl rfl (fun r h' n' ⟨e1, e2, e3⟩ => ?_)
  subst e1 e2 e3
  conv => cbv
  refine callF_frame (arena_lx Rz wz wz [] N W 0 0 0 L0 D0 D0 z0 false) [(0, 1), (1, 2), (2, 3), (3, 4), (4, 5), (5, 6), (6, 7)] rfl (by simp [hmapOk, nget, hget, renB, okB, renV, renVs, rn, okVs, okV]) rfl rfl (fun r h' n' ⟨e1, e2, e3⟩ => ?_)
  subst e1 e2 e3
  conv => cbv
  refine CallF.le (args0 := [.ptr 1 (.lit 0), .p (.int .i64 (.sym 5)), .p (.int .i64 (.sym 2))]) (callF_frame (alloc9_lx Rz wz wz [] N W 0 0 0 L0 D0 D0 z0 false hM0 5 2) [(0, 1), (1, 2), (2, 3), (3, 4), (4, 5), (5, 6), (6, 7)] rfl (by simp [hmapOk, nget, hget, renB, okB, renV, renVs, rn, okVs, okV]) rfl rfl (fun r h' n' hrr => ?_)) (by simp [ales, ale, pvle, I.val])
  obtain ⟨old, e, R1, w1, C1, L1', D1, Q1, e1, e2, e3, hM1, hT, hC1⟩ := hrr
  subst e1 e2 e3
  conv => cbv
  refine CallF.le (args0 := [.ptr 1 (.lit 0), .p (.vsl (.sym 0) true [])]) (callF_frame (begin_lx R1 w1 C1 [] N W 0 0 0 L1' D1 Q1 z0 false hM1 o ho [] 0 [] rfl rfl (by simp) rfl) [(0, 1), (1, 2), (2, 3), (3, 4), (4, 5), (5, 6), (6, 7), (7, 0)] rfl (by simp [hmapOk, nget, hget, renB, okB, renV, renVs, rn, okVs, okV]) rfl rfl (fun r h' n' hrr => ?_)) (by simp [ales, ale, pvle, I.val])
  obtain ⟨C2, G2, ov2, Q2, z2, e1, e2, e3, hM2, hS⟩ := hrr
  subst e1 e2 e3
  conv => cbv
  have he : e = 0 := by have := alloct_err hM0.a hT (by rw [hRz, new_count, List.length_replicate]; omega); rw [if_pos (by decide)] at this; exact this
  have hnob : ∀ x, ¬ IsObj Rz x := by rw [hRz]; exact new_none _
  have hdue := fun b => no_due (C := C2) hM0.a hnob hT he b
  have hS3 : C2 = List.replicate W.toNat 0 ∧ G2 = [] ∧ ov2 = false := beg_none hS
  have hC2 := hS3.1
  have hG2 := hS3.2.1
  have hov2 := hS3.2.2
  have hW1 := hM2.w; have hN1' := hM2.n
  have hCI : CyI R1 C2 G2 1 0 0 N := .inl ⟨rfl, by rw [hG2]; exact ⟨fun x hx => (by cases hx), fun x hx => (by cases hx), List.nodup_nil⟩, rfl⟩
  have hBare : Bare R1 w1 C2 G2 ov2 1 0 := .inl ⟨rfl, hG2, hov2, fun a ha => by
    have hb := obj_bd hM2.a ha
    rw [hC2, List.getElem?_replicate, if_pos (by omega)], hdue⟩
  clear hdue hS3 hC2 hG2 hov2 hnob
  refine JoinF.mk (fun s => ∃ (j ph sp cy : Int) (R : List Rw) (ws C G : List Int) (L D Q : List PV) (z : ByteArray) (ov : Bool) (at_ : List Int) (cells : List PV), s = ⟨.undef :: .p (.int .i64 (.sym ss)) :: .p (.vsl (.sym k1) true L1) :: (undefs 4 ++ .ptr 1 (.lit 0) :: .undef :: .p (.int .i64 (.sym old)) :: .undef :: .sl 8 3 1 (.lit 0) (.sym j) :: undefs 137), [(1, .mix [.ptr 2 (.lit 0), .ptr 6 (.lit 0), .sl 7 3 1 (.lit 0) (.sym W), .p (.int .i64 (.sym ph)), .p (.int .i64 (.sym sp)), .p (.int .i64 (.sym cy))]), (2, .mix [.ptr 3 (.lit 0), .sl 5 3 1 (.lit 0) (.sym W)]), (3, .mix [.sl 4 101 2 (.lit 0) (.sym N)]), (4, .pure true L), (5, .pure true D), (6, .pure false [.str fun _ => z, .bool ov]), (7, .pure true Q), (0, .fix 0 o), (8, .pure true cells)], 9⟩ ∧ HM R ws C G N W L D Q z ∧ CyI R C G ph sp cy N ∧ (∀ x ∈ at_, x ∈ objs R ∧ (ph ≠ 0 → C[x.toNat]? = some 2)) ∧ 0 ≤ sp ∧ sp ≤ N ∧ (k1 = 0 → Bare R ws C G ov ph sp) ∧ cells = ipv at_ ∧ j = at_.length ∧ j ≤ 10) ?_ ?_
  · conv => cbv
    refine LoopF.mk (fun kk s => ∃ i : Int, ∃ (j ph sp cy : Int) (R : List Rw) (ws C G : List Int) (L D Q : List PV) (z : ByteArray) (ov : Bool) (at_ : List Int) (cells : List PV), s = ⟨.undef :: .p (.int .i64 (.sym ss)) :: .p (.vsl (.sym k1) true L1) :: (undefs 4 ++ .ptr 1 (.lit 0) :: .undef :: .p (.int .i64 (.sym old)) :: .undef :: .sl 8 3 1 (.lit 0) (.sym j) :: .p (.int .i64 (.sym i)) :: undefs 136), [(1, .mix [.ptr 2 (.lit 0), .ptr 6 (.lit 0), .sl 7 3 1 (.lit 0) (.sym W), .p (.int .i64 (.sym ph)), .p (.int .i64 (.sym sp)), .p (.int .i64 (.sym cy))]), (2, .mix [.ptr 3 (.lit 0), .sl 5 3 1 (.lit 0) (.sym W)]), (3, .mix [.sl 4 101 2 (.lit 0) (.sym N)]), (4, .pure true L), (5, .pure true D), (6, .pure false [.str fun _ => z, .bool ov]), (7, .pure true Q), (0, .fix 0 o), (8, .pure true cells)], 9⟩ ∧ 0 ≤ i ∧ i ≤ 10 ∧ kk = (10 - i).toNat ∧ j ≤ i ∧ HM R ws C G N W L D Q z ∧ CyI R C G ph sp cy N ∧ (∀ x ∈ at_, x ∈ objs R ∧ (ph ≠ 0 → C[x.toNat]? = some 2)) ∧ 0 ≤ sp ∧ sp ≤ N ∧ (k1 = 0 → Bare R ws C G ov ph sp) ∧ cells = ipv at_ ∧ j = at_.length ∧ j ≤ 10) 10 _
      (Re.at [(0, 0), (1, 1), (2, 2), (3, 3), (4, 4), (5, 5), (8, 6), (7, 7)] [8]) ⟨0, 0, 1, 0, 0, R1, w1, C2, G2, L1', D1, Q2, z2, ov2, [], [], rfl, by omega, by omega, by omega, by omega, hM2, hCI, (fun x hx => by cases hx), by omega, by omega, fun _ => hBare, rfl, rfl, by omega⟩ ?_
    clear hM2 hCI hBare
    rintro kk s ⟨i, j, ph, sp, cy, R, ws, C, G, L, D, Q, z, ov, at_, cells, rfl, hi0, hi1, hkk, hji, h, hI, hat, hs0, hs1, hBr, hcs, hj, hj10⟩
    conv => cbv
    refine Br.mk (fun q1 => ?_) (fun q1 => ?_)
    · have q1 : i < k1 := q1
      conv => cbv
      refine Br.mk (fun q2 => ?_) (fun q2 => ?_)
      · have q2 : i < 10 := q2
        conv => cbv
        refine LoopF.mk (fun kw s => ∃ (kq ph sp cy : Int) (R : List Rw) (ws C G : List Int) (L D Q : List PV) (z : ByteArray) (ov : Bool), s = ⟨.undef :: .p (.int .i64 (.sym ss)) :: .p (.vsl (.sym k1) true L1) :: (undefs 4 ++ .ptr 1 (.lit 0) :: .undef :: .p (.int .i64 (.sym old)) :: .undef :: .sl 8 3 1 (.lit 0) (.sym j) :: .p (.int .i64 (.sym i)) :: .p (.int .i64 (.sym kq)) :: undefs 135), [(1, .mix [.ptr 2 (.lit 0), .ptr 6 (.lit 0), .sl 7 3 1 (.lit 0) (.sym W), .p (.int .i64 (.sym ph)), .p (.int .i64 (.sym sp)), .p (.int .i64 (.sym cy))]), (2, .mix [.ptr 3 (.lit 0), .sl 5 3 1 (.lit 0) (.sym W)]), (3, .mix [.sl 4 101 2 (.lit 0) (.sym N)]), (4, .pure true L), (5, .pure true D), (6, .pure false [.str fun _ => z, .bool ov]), (7, .pure true Q), (0, .fix 0 o), (8, .pure true cells)], 9⟩ ∧ 0 ≤ kq ∧ kq ≤ 3 ∧ kw = (3 - kq).toNat ∧ HM R ws C G N W L D Q z ∧ CyI R C G ph sp cy N ∧ (∀ x ∈ at_, x ∈ objs R ∧ (ph ≠ 0 → C[x.toNat]? = some 2)) ∧ 0 ≤ sp ∧ sp ≤ N ∧ (k1 = 0 → Bare R ws C G ov ph sp)) 3 _
          (Re.at [(0, 0), (1, 1), (2, 2), (3, 3), (4, 4), (5, 5), (6, 6), (7, 7), (8, 8)] []) ⟨0, ph, sp, cy, R, ws, C, G, L, D, Q, z, ov, rfl, by omega, by omega, by omega, h, hI, hat, hs0, hs1, hBr⟩ ?_
        clear h hI hat hs0 hs1 hBr
        rintro kw s ⟨kq, ph, sp, cy, R, ws, C, G, L, D, Q, z, ov, rfl, hq0, hq3, hkw, h, hI, hat, hs0, hs1, hBr⟩
        conv => cbv
        refine Sum.mk fun r4 hr4 => ?_
        have hr4 : r4 = ss % 4 := (show r4 = ss.tmod 4 from hr4).trans (Int.tmod_eq_emod_of_nonneg hss0)
        have hr40 : 0 ≤ r4 ∧ r4 ≤ 3 := by omega
        clear hr4
        conv => cbv
        refine Br.mk (fun q3 => ?_) (fun q3 => ?_)
        · have q3 : kq < r4 := q3
          conv => cbv
          have hN1' := h.n
          refine callF_frame (step_lx R ws C G N W ph sp cy L D Q z ov h o ho ⟨hs0, by omega⟩ (by have := hI.cyb; omega)) [(0, 1), (1, 2), (2, 3), (3, 4), (4, 5), (5, 6), (6, 7), (7, 0)] rfl (by simp [hmapOk, nget, hget, renB, okB, renV, renVs, rn, okVs, okV]) rfl rfl (fun r h' n' hrr => ?_)
          obtain ⟨out, k, ph', sp', cy', R', ws', C', G', ov', cells', L', D', Q', z', e1, e2, e3, h2, hcs2, hk, hst⟩ := hrr
          subst e1 e2 e3
          conv => cbv
          refine Fit.mk (by show (-9223372036854775808 : Int) ≤ kq + 1; omega) (by show kq + 1 ≤ 9223372036854775807; omega) fun kq' hkq' => ?_
          have hkq' : kq' = kq + 1 := hkq'
          conv => cbv
          have hgo := stepd_cy h.a (by have := h.c; have := h.w; omega) (by omega) h.w hI hat hst
          have hsp := stepd_sp hI ⟨hs0, hs1⟩ hst
          refine Again.mk (3 - kq').toNat _ (by omega) (Re.at [(0, 0), (1, 1), (2, 2), (3, 3), (4, 4), (5, 5), (6, 6), (7, 7), (8, 8)] []) ⟨kq', ph', sp', cy', R', ws', C', G', L', D', Q', z', ov', rfl, by omega, by omega, rfl, h2, hgo.1, hgo.2.2, hsp.1, hsp.2, fun q => stepd_bare h.a (by have := h.w; omega) (hBr q) hst⟩
        · have q3 : ¬ kq < r4 := q3
          conv => cbv
          obtain ⟨kv, hkv⟩ : ∃ x, ks[i.toNat]? = some x := ⟨_, List.getElem?_eq_getElem (by omega)⟩
          have hkvb := hks kv (List.mem_of_getElem? hkv)
          have hcL : L1[i.toNat]? = some (.int .i64 (.sym kv)) := by rw [hL1]; exact ipv_get hkv
          refine Need.mk (by simp only [I.val]; omega) ?_
          conv => cbv
          refine Cell.at i _ hcL (by simp [I.val]) rfl ?_
          conv => cbv
          refine Fit.wrap fun xn hxn => ?_
          have hxn : xn = IntKind.u64.wrap kv := hxn
          have hyn : 0 ≤ xn := by rw [hxn]; simp [IntKind.wrap, IntKind.bits, IntKind.signed]; omega
          clear hxn
          conv => cbv
          refine Sum.mk fun tn htn => ?_
          have htn : tn = xn % 6 := (show tn = xn.tmod 6 from htn).trans (Int.tmod_eq_emod_of_nonneg hyn)
          conv => cbv
          refine Fit.mk (by show (-9223372036854775808 : Int) ≤ tn; omega) (by show tn ≤ 9223372036854775807; omega) fun kr hkr => ?_
          have hkr : kr = tn := hkr
          have hkr0 : 0 ≤ kr := by omega
          have hkr1 : kr < 6 := by omega
          clear hkr htn hyn
          conv => cbv
          refine Fit.mk (by show (-9223372036854775808 : Int) ≤ 1 + kr; omega) (by show 1 + kr ≤ 9223372036854775807; omega) fun kd hkd => ?_
          have hkd : kd = 1 + kr := hkd
          have hkd1 : 1 ≤ kd ∧ kd ≤ 6 := by omega
          clear hkd
          conv => cbv
          refine callF_frame (phase_lx R ws C G N W ph sp cy L D Q z ov) [(0, 1), (1, 2), (2, 3), (3, 4), (4, 5), (5, 6), (6, 7)] rfl (by simp [hmapOk, nget, hget, renB, okB, renV, renVs, rn, okVs, okV]) rfl rfl (fun r h' n' ⟨e1, e2, e3⟩ => ?_)
          subst e1 e2 e3
          conv => cbv
          refine callF_frame (sizes_lx kd hkd1.1 hkd1.2) [] rfl trivial rfl rfl (fun r h' n' hrr => ?_)
          obtain ⟨sz, e1, e2, e3, hsz⟩ := hrr
          subst e1 e2 e3
          conv => cbv
          refine callF_frame (alloc9_lx R ws C G N W ph sp cy L D Q z ov h kd sz) [(0, 1), (1, 2), (2, 3), (3, 4), (4, 5), (5, 6), (6, 7)] rfl (by simp [hmapOk, nget, hget, renB, okB, renV, renVs, rn, okVs, okV]) rfl rfl (fun r h' n' hrr => ?_)
          obtain ⟨x, f, R', ws', C', L', D', Q', e1, e2, e3, h2, hT2, hC2⟩ := hrr
          subst e1 e2 e3
          conv => cbv
          refine Br.mk (fun q4 => ?_) (fun q4 => ?_)
          · have q4 : ¬ f = 0 := q4
            conv => cbv
            obtain ⟨w1, w2⟩ := alloct_bad hT2 q4
            have w3 : C' = C := by rw [hC2, allocC, if_neg q4]
            rw [w1, w2, w3] at h2
            refine Joined.mk _ (Re.at [(0, 0), (1, 1), (2, 2), (3, 3), (4, 4), (5, 5), (6, 6), (7, 7), (8, 8)] []) ⟨j, ph, sp, cy, R, ws, C, G, L', D', Q', z, ov, at_, cells, rfl, h2, hI, hat, hs0, hs1, hBr, hcs, hj, hj10⟩
          · have q4 : f = 0 := Classical.byContradiction q4
            conv => cbv
            have hal := alloc_cy h.a (by have := h.c; have := h.w; have := h.n; omega) hI hat hT2 q4 hC2
            obtain ⟨hI2, hat2, hx2, hxc⟩ := hal
            refine Br.mk (fun q5 => ?_) (fun q5 => ?_)
            · have q5 : ¬ ph = 0 := q5
              conv => cbv
              have hcl : cells.length = at_.length := by rw [hcs, ipv_length]
              refine Room.new rfl ?_
              conv => cbv
              refine Room.new ⟨?_, ?_, ?_⟩ ?_
              · show (cells.length : Int) = j * 1; omega
              · show (j + 1) * 8 ≤ 140737488355328; omega
              · show j + 1 ≤ 9223372036854775807; omega
              conv => cbv
              refine Upd.mk fun cells2 hcs2 => ?_
              have hcs2 : cells2 = cells ++ [.int .i64 (.sym x)] := hcs2
              have hcs3 : cells2 = ipv (at_ ++ [x]) := by rw [hcs2, hcs, ← ipv_app]; rfl
              conv => cbv
              refine Sum.mk fun j2 hj2 => ?_
              have hj2 : j2 = j + 1 := hj2
              conv => cbv
              refine callF_frame (colour_lx R' ws' C' G N W ph sp cy L' D' Q' z ov h2 x) [(0, 1), (1, 2), (2, 3), (3, 4), (4, 5), (5, 6), (6, 7)] rfl (by simp [hmapOk, nget, hget, renB, okB, renV, renVs, rn, okVs, okV]) rfl rfl (fun r h' n' hrr => ?_)
              obtain ⟨c, e1, e2, e3, hc1, hc2⟩ := hrr
              subst e1 e2 e3
              conv => cbv
              have hc : c = 2 := by have := hc1 hx2; rw [hxc q5] at this; exact (Option.some.inj this).symm
              refine Br.no (show ¬ (¬ c = 2) from fun q => q hc) ?_
              conv => cbv
              refine Fit.mk (by show (-9223372036854775808 : Int) ≤ i + 1; omega) (by show i + 1 ≤ 9223372036854775807; omega) fun i2 hi2 => ?_
              have hi2 : i2 = i + 1 := hi2
              conv => cbv
              refine Again.mk (10 - i2).toNat _ (by omega) (Re.at [(0, 0), (1, 1), (2, 2), (3, 3), (4, 4), (5, 5), (6, 6), (7, 7), (10, 8)] []) ⟨i2, j2, ph, sp, cy, R', ws', C', G, L', D', Q', z, ov, at_ ++ [x], cells2, rfl, by omega, by omega, rfl, by omega, h2, hI2, ?_, hs0, hs1, (fun q => by omega), hcs3, by rw [List.length_append]; show j2 = ((at_.length + 1 : Nat) : Int); omega, by omega⟩
              intro y hy
              rcases List.mem_append.1 hy with hy | hy
              · exact hat2 y hy
              · rw [List.mem_singleton.1 hy]; exact ⟨hx2, hxc⟩
            · have q5 : ph = 0 := Classical.byContradiction q5
              conv => cbv
              refine Fit.mk (by show (-9223372036854775808 : Int) ≤ i + 1; omega) (by show i + 1 ≤ 9223372036854775807; omega) fun i2 hi2 => ?_
              have hi2 : i2 = i + 1 := hi2
              conv => cbv
              refine Again.mk (10 - i2).toNat _ (by omega) (Re.at [(0, 0), (1, 1), (2, 2), (3, 3), (4, 4), (5, 5), (6, 6), (7, 7), (8, 8)] []) ⟨i2, j, ph, sp, cy, R', ws', C', G, L', D', Q', z, ov, at_, cells, rfl, by omega, by omega, rfl, by omega, h2, hI2, hat2, hs0, hs1, (fun q => by omega), hcs, hj, hj10⟩
      · have q2 : ¬ i < 10 := q2
        conv => cbv
        refine Joined.mk _ (Re.at [(0, 0), (1, 1), (2, 2), (3, 3), (4, 4), (5, 5), (6, 6), (7, 7), (8, 8)] []) ⟨j, ph, sp, cy, R, ws, C, G, L, D, Q, z, ov, at_, cells, rfl, h, hI, hat, hs0, hs1, hBr, hcs, hj, hj10⟩
    · have q1 : ¬ i < k1 := q1
      conv => cbv
      refine Joined.mk _ (Re.at [(0, 0), (1, 1), (2, 2), (3, 3), (4, 4), (5, 5), (6, 6), (7, 7), (8, 8)] []) ⟨j, ph, sp, cy, R, ws, C, G, L, D, Q, z, ov, at_, cells, rfl, h, hI, hat, hs0, hs1, hBr, hcs, hj, hj10⟩
  · clear hM2 hCI hBare
    rintro s ⟨j, ph, sp, cy, R, ws, C, G, L, D, Q, z, ov, at_, cells, rfl, h, hI, hat, hs0, hs1, hBr, hcs, hj, hj10⟩
    conv => cbv
    have hN1' := h.n
    have hlen := objsTo_le R R.length
    have hlen : (objs R).length ≤ 8 * R.length := hlen
    have hlt := left_le (R := R) (C := C) (ph := ph) hs0 (show (0 : Int) ≤ N by omega)
    refine JoinF.mk (fun s => ∃ (ph sp cy : Int) (R : List Rw) (ws C G : List Int) (L D Q : List PV) (z : ByteArray) (ov : Bool), s = ⟨.undef :: .p (.int .i64 (.sym ss)) :: .p (.vsl (.sym k1) true L1) :: (undefs 4 ++ .ptr 1 (.lit 0) :: .undef :: .p (.int .i64 (.sym old)) :: .undef :: .sl 8 3 1 (.lit 0) (.sym j) :: undefs 137), [(1, .mix [.ptr 2 (.lit 0), .ptr 6 (.lit 0), .sl 7 3 1 (.lit 0) (.sym W), .p (.int .i64 (.sym ph)), .p (.int .i64 (.sym sp)), .p (.int .i64 (.sym cy))]), (2, .mix [.ptr 3 (.lit 0), .sl 5 3 1 (.lit 0) (.sym W)]), (3, .mix [.sl 4 101 2 (.lit 0) (.sym N)]), (4, .pure true L), (5, .pure true D), (6, .pure false [.str fun _ => z, .bool ov]), (7, .pure true Q), (0, .fix 0 o), (8, .pure true cells)], 9⟩ ∧ HM R ws C G N W L D Q z ∧ ph = 0 ∧ cy = 1 ∧ (∀ x ∈ at_, x ∈ objs R) ∧ (k1 = 0 → objs R = [])) ?_ ?_
    · conv => cbv
      refine LoopF.mk (fun kk s => ∃ (i ph sp cy : Int) (R : List Rw) (ws C G : List Int) (L D Q : List PV) (z : ByteArray) (ov : Bool), s = ⟨.undef :: .p (.int .i64 (.sym ss)) :: .p (.vsl (.sym k1) true L1) :: (undefs 4 ++ .ptr 1 (.lit 0) :: .undef :: .p (.int .i64 (.sym old)) :: .undef :: .sl 8 3 1 (.lit 0) (.sym j) :: undefs 6 ++ .p (.int .i64 (.sym i)) :: undefs 130), [(1, .mix [.ptr 2 (.lit 0), .ptr 6 (.lit 0), .sl 7 3 1 (.lit 0) (.sym W), .p (.int .i64 (.sym ph)), .p (.int .i64 (.sym sp)), .p (.int .i64 (.sym cy))]), (2, .mix [.ptr 3 (.lit 0), .sl 5 3 1 (.lit 0) (.sym W)]), (3, .mix [.sl 4 101 2 (.lit 0) (.sym N)]), (4, .pure true L), (5, .pure true D), (6, .pure false [.str fun _ => z, .bool ov]), (7, .pure true Q), (0, .fix 0 o), (8, .pure true cells)], 9⟩ ∧ 0 ≤ i ∧ i ≤ 200 ∧ kk = (200 - i).toNat ∧ HM R ws C G N W L D Q z ∧ CyI R C G ph sp cy N ∧ (∀ x ∈ at_, x ∈ objs R ∧ (ph ≠ 0 → C[x.toNat]? = some 2)) ∧ 0 ≤ sp ∧ sp ≤ N ∧ (k1 = 0 → Bare R ws C G ov ph sp) ∧ left_ R C ph sp N ≤ 200 - i) 200 _
        (Re.at [(0, 0), (1, 1), (2, 2), (3, 3), (4, 4), (5, 5), (6, 6), (7, 7), (8, 8)] []) ⟨0, ph, sp, cy, R, ws, C, G, L, D, Q, z, ov, rfl, by omega, by omega, by omega, h, hI, hat, hs0, hs1, hBr, by omega⟩ ?_
      clear h hI hat hs0 hs1 hBr hlen hlt
      rintro kk s ⟨i, ph, sp, cy, R, ws, C, G, L, D, Q, z, ov, rfl, hi0, hi1, hkk, h, hI, hat, hs0, hs1, hBr, hl⟩
      conv => cbv
      have hdone : ph = 0 → (ph = 0 ∧ cy = 1 ∧ (∀ x ∈ at_, x ∈ objs R) ∧ (k1 = 0 → objs R = [])) := by
        intro q
        refine ⟨q, ?_, fun x hx => (hat x hx).1, fun k => ?_⟩
        · rcases hI with ⟨k, _⟩ | ⟨k, _⟩ | ⟨_, k⟩ <;> omega
        · rcases hBr k with ⟨k, _⟩ | ⟨k, _⟩ | ⟨_, k⟩
          · omega
          · omega
          · exact k
      refine Br.mk (fun q1 => ?_) (fun q1 => ?_)
      · have q1 : i < 200 := q1
        conv => cbv
        refine callF_frame (phase_lx R ws C G N W ph sp cy L D Q z ov) [(0, 1), (1, 2), (2, 3), (3, 4), (4, 5), (5, 6), (6, 7)] rfl (by simp [hmapOk, nget, hget, renB, okB, renV, renVs, rn, okVs, okV]) rfl rfl (fun r h' n' ⟨e1, e2, e3⟩ => ?_)
        subst e1 e2 e3
        conv => cbv
        refine Br.mk (fun q2 => ?_) (fun q2 => ?_)
        · have q2 : ¬ ph = 0 := q2
          conv => cbv
          have hN1' := h.n
          refine callF_frame (step_lx R ws C G N W ph sp cy L D Q z ov h o ho ⟨hs0, by omega⟩ (by have := hI.cyb; omega)) [(0, 1), (1, 2), (2, 3), (3, 4), (4, 5), (5, 6), (6, 7), (7, 0)] rfl (by simp [hmapOk, nget, hget, renB, okB, renV, renVs, rn, okVs, okV]) rfl rfl (fun r h' n' hrr => ?_)
          obtain ⟨out, k, ph', sp', cy', R', ws', C', G', ov', cells', L', D', Q', z', e1, e2, e3, h2, hcs2, hk, hst⟩ := hrr
          subst e1 e2 e3
          conv => cbv
          refine Fit.mk (by show (-9223372036854775808 : Int) ≤ i + 1; omega) (by show i + 1 ≤ 9223372036854775807; omega) fun i2 hi2 => ?_
          have hi2 : i2 = i + 1 := hi2
          conv => cbv
          have hgo := stepd_cy h.a (by have := h.c; have := h.w; omega) (by omega) h.w hI hat hst
          have hsp := stepd_sp hI ⟨hs0, hs1⟩ hst
          have hl2 := hgo.2.1 q2
          refine Again.mk (200 - i2).toNat _ (by omega) (Re.at [(0, 0), (1, 1), (2, 2), (3, 3), (4, 4), (5, 5), (6, 6), (7, 7), (8, 8)] []) ⟨i2, ph', sp', cy', R', ws', C', G', L', D', Q', z', ov', rfl, by omega, by omega, rfl, h2, hgo.1, hgo.2.2, hsp.1, hsp.2, fun q => stepd_bare h.a (by have := h.w; omega) (hBr q) hst, by omega⟩
        · have q2 : ph = 0 := Classical.byContradiction q2
          conv => cbv
          refine Joined.mk _ (Re.at [(0, 0), (1, 1), (2, 2), (3, 3), (4, 4), (5, 5), (6, 6), (7, 7), (8, 8)] []) ⟨ph, sp, cy, R, ws, C, G, L, D, Q, z, ov, rfl, h, hdone q2⟩
      · have q1 : ¬ i < 200 := q1
        conv => cbv
        have hp0 : ph = 0 := by
          rcases hI with ⟨k, _⟩ | ⟨k, _, _, k2⟩ | ⟨k, _⟩
          · unfold left_ at hl; rw [if_pos k] at hl; omega
          · unfold left_ at hl; rw [if_neg (by omega), if_pos k] at hl; omega
          · exact k
        refine Joined.mk _ (Re.at [(0, 0), (1, 1), (2, 2), (3, 3), (4, 4), (5, 5), (6, 6), (7, 7), (8, 8)] []) ⟨ph, sp, cy, R, ws, C, G, L, D, Q, z, ov, rfl, h, hdone hp0⟩
    · clear h hI hat hs0 hs1 hBr hlen hlt
      rintro s ⟨ph, sp, cy, R, ws, C, G, L, D, Q, z, ov, rfl, h, hp0, hc1, hat, hb⟩
      conv => cbv
      refine LoopF.mk (fun kk s => ∃ i : Int, s = ⟨.undef :: .p (.int .i64 (.sym ss)) :: .p (.vsl (.sym k1) true L1) :: (undefs 4 ++ .ptr 1 (.lit 0) :: .undef :: .p (.int .i64 (.sym old)) :: .undef :: .sl 8 3 1 (.lit 0) (.sym j) :: undefs 7 ++ .p (.int .i64 (.sym i)) :: undefs 129), [(1, .mix [.ptr 2 (.lit 0), .ptr 6 (.lit 0), .sl 7 3 1 (.lit 0) (.sym W), .p (.int .i64 (.sym ph)), .p (.int .i64 (.sym sp)), .p (.int .i64 (.sym cy))]), (2, .mix [.ptr 3 (.lit 0), .sl 5 3 1 (.lit 0) (.sym W)]), (3, .mix [.sl 4 101 2 (.lit 0) (.sym N)]), (4, .pure true L), (5, .pure true D), (6, .pure false [.str fun _ => z, .bool ov]), (7, .pure true Q), (0, .fix 0 o), (8, .pure true cells)], 9⟩ ∧ 0 ≤ i ∧ i ≤ j ∧ kk = (j - i).toNat) j.toNat _
        (Re.at [(0, 0), (1, 1), (2, 2), (3, 3), (4, 4), (5, 5), (6, 6), (7, 7), (8, 8)] []) ⟨0, rfl, by omega, by omega, by omega⟩ ?_
      rintro kk s ⟨i, rfl, hi0, hi1, hkk⟩
      conv => cbv
      refine Br.mk (fun q => ?_) (fun q => ?_)
      · have q : i < j := q
        obtain ⟨x, hx⟩ : ∃ x, at_[i.toNat]? = some x := ⟨_, List.getElem?_eq_getElem (by omega)⟩
        have hc : cells[i.toNat]? = some (.int .i64 (.sym x)) := by rw [hcs]; exact ipv_get hx
        obtain ⟨kx, lx, hK⟩ := Kept.of h.a ((obj_iff h.a x).1 (hat x (List.mem_of_getElem? hx)))
        conv => cbv
        refine drawn_sound tok (by kernel_rfl) [(1, [5, 4, 3, 2]), (6, [])] [0, 2, 3, 4, 5, 1, 6, 7] (by kernel_rfl) ?_; conv => cbv
        refine Need.mk ⟨hi0, q⟩ ?_
        conv => cbv
        refine Cell.at i _ hc (by simp [I.val]) rfl ?_
        conv => cbv
        refine callF_frame (arena_lx R ws C G N W ph sp cy L D Q z ov) [(0, 1), (1, 2), (2, 3), (3, 4), (4, 5), (5, 6), (6, 7)] rfl (by simp [hmapOk, nget, hget, renB, okB, renV, renVs, rn, okVs, okV]) rfl rfl (fun r h' n' ⟨e1, e2, e3⟩ => ?_)
        subst e1 e2 e3
        conv => cbv
        refine callF_frame (kind_lx R ws N x W L D h.l h.d h.n h.r h.a h.w) [(0, 2), (1, 3), (2, 4), (3, 5)] rfl (by simp [hmapOk, nget, hget, renB, okB, renV, renVs, rn, okVs, okV]) rfl rfl (fun r h' n' hrr => ?_)
        obtain ⟨v, e1, e2, e3, hv⟩ := hrr
        subst e1 e2 e3
        conv => cbv
        have hvk := kindR_of6 hK hv
        have hk1' := h.k x kx lx hK
        refine Br.no (show ¬ (v = 0) by omega) ?_
        conv => cbv
        refine Fit.mk (by show (-9223372036854775808 : Int) ≤ i + 1; omega) (by show i + 1 ≤ 9223372036854775807; omega) fun i2 hi2 => ?_
        have hi2 : i2 = i + 1 := hi2
        conv => cbv
        refine Again.mk (j - i2).toNat _ (by omega) (Re.at [(0, 0), (1, 1), (2, 2), (3, 3), (4, 4), (5, 5), (6, 6), (7, 7), (8, 8)] []) ⟨i2, rfl, by omega, by omega, rfl⟩
      · have q : ¬ i < j := q
        conv => cbv
        refine callF_frame (phase_lx R ws C G N W ph sp cy L D Q z ov) [(0, 1), (1, 2), (2, 3), (3, 4), (4, 5), (5, 6), (6, 7)] rfl (by simp [hmapOk, nget, hget, renB, okB, renV, renVs, rn, okVs, okV]) rfl rfl (fun r h' n' ⟨e1, e2, e3⟩ => ?_)
        subst e1 e2 e3
        conv => cbv
        refine Br.yes (show ph = 0 from hp0) ?_
        conv => cbv
        refine callF_frame (cyclesH_lx R ws C G N W ph sp cy L D Q z ov) [(0, 1), (1, 2), (2, 3), (3, 4), (4, 5), (5, 6), (6, 7)] rfl (by simp [hmapOk, nget, hget, renB, okB, renV, renVs, rn, okVs, okV]) rfl rfl (fun r h' n' ⟨e1, e2, e3⟩ => ?_)
        subst e1 e2 e3
        conv => cbv
        refine Br.yes (show cy = 1 from hc1) ?_
        conv => cbv
        refine Br.mk (fun q2 => ?_) (fun q2 => ?_)
        · have q2 : 0 < k1 := q2
          conv => cbv
          refine RetF.mk [.p (.bool true)] [(0, .fix 0 o)] 1 (Re.at [(0, 0)] []) rfl rfl
        · have q2 : ¬ 0 < k1 := q2
          conv => cbv
          refine callF_frame (arena_lx R ws C G N W ph sp cy L D Q z ov) [(0, 1), (1, 2), (2, 3), (3, 4), (4, 5), (5, 6), (6, 7)] rfl (by simp [hmapOk, nget, hget, renB, okB, renV, renVs, rn, okVs, okV]) rfl rfl (fun r h' n' ⟨e1, e2, e3⟩ => ?_)
          subst e1 e2 e3
          conv => cbv
          refine callF_frame (kind_lx R ws N old W L D h.l h.d h.n h.r h.a h.w) [(0, 2), (1, 3), (2, 4), (3, 5)] rfl (by simp [hmapOk, nget, hget, renB, okB, renV, renVs, rn, okVs, okV]) rfl rfl (fun r h' n' hrr => ?_)
          obtain ⟨v, e1, e2, e3, hv⟩ := hrr
          subst e1 e2 e3
          conv => cbv
          have hv0 : v = 0 := by
            have he0 := hb (by omega)
            cases hv with
            | no _ => rfl
            | is _ l hK => have := (obj_iff h.a old).2 hK.obj6; rw [he0] at this; cases this
          refine Br.yes (show v = 0 from hv0) ?_
          conv => cbv
          refine RetF.mk [.p (.bool true)] [(0, .fix 0 o)] 1 (Re.at [(0, 0)] []) rfl rfl
end Go.Proofs.YtllafhhnciobhaaGreatDoor
