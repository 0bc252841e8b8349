/-
  Layer 9: both heaps alike.
-/
import Derived.Test.YtllafhhnciobhaaGreatDoorIb
namespace Go.Proofs.YtllafhhnciobhaaGreatDoor

open Go Go.LX
set_option maxRecDepth 100000
set_option linter.unusedVariables false
set_option linter.unusedSimpArgs false

theorem plainE_true (A : List Int) (m : Int) (la lb : List PV) (hm : m = A.length) (ha : la = ipv A) (hb : lb = ipv A) (hA : (A.length : Int) < 1000000) :
    CallF (fun _ => Tryz.prog) 32 [.p (.vsl (.sym m) true la), .p (.vsl (.sym m) true lb)] [] 0 (fun r h n => r = .p (.bool true) ∧ h = [] ∧ n = 0) :=
  (plaini64_lx A A m m la lb hm hm (by rw [ha]; exact preI_ints A) (by rw [hb]; exact preI_ints A) hA).mono fun r h n ⟨⟨b, e1, h1⟩, e2, e3⟩ => ⟨by rw [e1, h1.2 rfl], e2, e3⟩
set_option maxHeartbeats 8000000 in
theorem alike_lx (R : List Rw) (ws vs C G : List Int) (N W ph sp cy : Int) (L D Q : List PV) (z : ByteArray) (ov : Bool) (P B V Qr la : List PV) (m : Int) (h : HM R ws C G N W L D Q z) (hr : RM R vs C G N W P B V Qr la m) (hS : Sim R ws vs) : CallF (fun _ => Tryz.prog) 16 [.ptr 0 (.lit 0), .ptr 7 (.lit 0)] [(0, .mix [.ptr 1 (.lit 0), .ptr 5 (.lit 0), .sl 6 3 1 (.lit 0) (.sym W), .p (.int .i64 (.sym ph)), .p (.int .i64 (.sym sp)), .p (.int .i64 (.sym cy))]), (1, .mix [.ptr 2 (.lit 0), .sl 4 3 1 (.lit 0) (.sym W)]), (2, .mix [.sl 3 101 2 (.lit 0) (.sym N)]), (3, .pure true L), (4, .pure true D), (5, .pure false [.str fun _ => z, .bool ov]), (6, .pure true Q), (7, .mix [.ptr 8 (.lit 0), .sl 13 3 1 (.lit 0) (.sym W), .ptr 14 (.lit 0), .p (.int .i64 (.sym ph)), .p (.int .i64 (.sym sp)), .p (.int .i64 (.sym cy))]), (8, .mix [.ptr 9 (.lit 0), .sl 12 3 1 (.lit 0) (.sym W)]), (9, .mix [.sl 10 3 1 (.lit 0) (.sym N), .sl 11 120 8 (.lit 0) (.sym N)]), (10, .pure true P), (11, .pure true B), (12, .pure true V), (13, .pure true Qr), (14, .mix [.p (.vsl (.sym m) true la), .p (.bool ov)])] 15 (fun r h n => r = .p (.bool true) ∧ h = [(0, .mix [.ptr 1 (.lit 0), .ptr 5 (.lit 0), .sl 6 3 1 (.lit 0) (.sym W), .p (.int .i64 (.sym ph)), .p (.int .i64 (.sym sp)), .p (.int .i64 (.sym cy))]), (1, .mix [.ptr 2 (.lit 0), .sl 4 3 1 (.lit 0) (.sym W)]), (2, .mix [.sl 3 101 2 (.lit 0) (.sym N)]), (3, .pure true L), (4, .pure true D), (5, .pure false [.str fun _ => z, .bool ov]), (6, .pure true Q), (7, .mix [.ptr 8 (.lit 0), .sl 13 3 1 (.lit 0) (.sym W), .ptr 14 (.lit 0), .p (.int .i64 (.sym ph)), .p (.int .i64 (.sym sp)), .p (.int .i64 (.sym cy))]), (8, .mix [.ptr 9 (.lit 0), .sl 12 3 1 (.lit 0) (.sym W)]), (9, .mix [.sl 10 3 1 (.lit 0) (.sym N), .sl 11 120 8 (.lit 0) (.sym N)]), (10, .pure true P), (11, .pure true B), (12, .pure true V), (13, .pure true Qr), (14, .mix [.p (.vsl (.sym m) true la), .p (.bool ov)])] ∧ n = 15) := by
  have hCl := h.c; have hWn := h.w; have hNr := h.n; have hRr := h.r
  have hQl : Qr.length = C.length := by rw [hr.q, ipv_length]
  obtain ⟨mo, hmo⟩ : ∃ m : Int, m = objCount R := ⟨_, rfl⟩
  refine callF_of_body tok Tryz.func16 (by kernel_rfl) rfl rfl rfl ?_; conv => cbv
  refine callF_frame (robjects_lx mo R vs N W P B V hr.p hr.b hr.v hr.n hr.r hr.a hr.w hmo) [(0, 8), (1, 9), (2, 10), (3, 11), (4, 12)] rfl (by simp [hmapOk, nget, hget, renB, okB, renV, renVs, rn, okVs, okV]) rfl rfl (fun r h' n' hrr => ?_)
  obtain ⟨O, e1, e2, e3, hO⟩ := hrr
  subst e1 e2 e3
  have hOl : (O.length : Int) = mo := by rw [hO, ipv_length, objs_length h.a.rows, hmo]
  have hO : O = ipv (objs R) := hO
  have hol : ((objs R).length : Int) = mo := by rw [← hOl, hO, ipv_length]
  have hob : mo ≤ 8000 := by have := objsTo_le R R.length; rw [objs_length h.a.rows] at this; omega
  conv => cbv
  refine drawn_sound tok (by kernel_rfl) [(1, [3]), (2, [3]), (4, []), (8, [12, 11, 10, 9]), (17, [21, 20, 19, 18])] [0, 3, 1, 2, 4, 5, 6, 7, 9, 10, 11, 12, 8, 13, 14, 15, 16, 18, 19, 20, 21, 17, 22, 23] (by kernel_rfl) ?_; conv => cbv
  refine callF_frame (arena_lx R ws C G N W ph sp cy L D Q z ov) [(0, 0), (1, 1), (2, 2), (3, 3), (4, 4), (5, 5), (6, 6)] rfl (by simp [hmapOk, nget, hget, renB, okB, renV, renVs, rn, okVs, okV]) rfl rfl (fun r h' n' ⟨e1, e2, e3⟩ => ?_)
  subst e1 e2 e3
  conv => cbv
  refine callF_frame (objects_lx mo R N W L D h.l h.n h.r h.a.rows h.w hmo) [(0, 1), (1, 2), (2, 3), (3, 4)] rfl (by simp [hmapOk, nget, hget, renB, okB, renV, renVs, rn, okVs, okV]) rfl rfl (fun r h' n' hrr => ?_)
  obtain ⟨O2, e1, e2, e3, hO2⟩ := hrr
  subst e1 e2 e3
  have hO2 : O2 = ipv (objs R) := hO2
  conv => cbv
  refine callF_lend (plainE_true (objs R) mo O2 O hol.symm hO2 hO (by omega)) (by simp [lends, lendV, hget, I.val, pvle]) (fun r h' n' ⟨e1, e2, e3⟩ => by subst e1 e2; exact ⟨trivial, trivial⟩) (fun r h' n' ⟨e1, e2, e3⟩ => ?_)
  subst e1 e2 e3
  conv => cbv
  refine callF_frame (phase_lx R ws C G N W ph sp cy L D Q z ov) [(0, 0), (1, 1), (2, 2), (3, 3), (4, 4), (5, 5), (6, 6)] rfl (by simp [hmapOk, nget, hget, renB, okB, renV, renVs, rn, okVs, okV]) rfl rfl (fun r h' n' ⟨e1, e2, e3⟩ => ?_)
  subst e1 e2 e3
  conv => cbv
  refine Br.no (show ¬ (ph ≠ ph) from fun k => k rfl) ?_
  conv => cbv
  refine callF_frame (cyclesH_lx R ws C G N W ph sp cy L D Q z ov) [(0, 0), (1, 1), (2, 2), (3, 3), (4, 4), (5, 5), (6, 6)] rfl (by simp [hmapOk, nget, hget, renB, okB, renV, renVs, rn, okVs, okV]) rfl rfl (fun r h' n' ⟨e1, e2, e3⟩ => ?_)
  subst e1 e2 e3
  conv => cbv
  refine Br.no (show ¬ (cy ≠ cy) from fun k => k rfl) ?_
  conv => cbv
  refine LoopF.mk (fun kk s => ∃ i : Int, s = ⟨.ptr 0 (.lit 0) :: .ptr 7 (.lit 0) :: (undefs 3 ++ .sl 15 3 1 (.lit 0) (.sym mo) :: .p (.int .i64 (.sym i)) :: undefs 134), [(0, .mix [.ptr 1 (.lit 0), .ptr 5 (.lit 0), .sl 6 3 1 (.lit 0) (.sym W), .p (.int .i64 (.sym ph)), .p (.int .i64 (.sym sp)), .p (.int .i64 (.sym cy))]), (1, .mix [.ptr 2 (.lit 0), .sl 4 3 1 (.lit 0) (.sym W)]), (2, .mix [.sl 3 101 2 (.lit 0) (.sym N)]), (3, .pure true L), (4, .pure true D), (5, .pure false [.str fun _ => z, .bool ov]), (6, .pure true Q), (7, .mix [.ptr 8 (.lit 0), .sl 13 3 1 (.lit 0) (.sym W), .ptr 14 (.lit 0), .p (.int .i64 (.sym ph)), .p (.int .i64 (.sym sp)), .p (.int .i64 (.sym cy))]), (8, .mix [.ptr 9 (.lit 0), .sl 12 3 1 (.lit 0) (.sym W)]), (9, .mix [.sl 10 3 1 (.lit 0) (.sym N), .sl 11 120 8 (.lit 0) (.sym N)]), (10, .pure true P), (11, .pure true B), (12, .pure true V), (13, .pure true Qr), (14, .mix [.p (.vsl (.sym m) true la), .p (.bool ov)]), (15, .pure true O)], 16⟩ ∧ 0 ≤ i ∧ i ≤ mo ∧ kk = (mo - i).toNat) mo.toNat _
    (Re.at [(0, 0), (1, 1), (2, 2), (3, 3), (4, 4), (5, 5), (6, 6), (7, 7), (8, 8), (9, 9), (10, 10), (11, 11), (12, 12), (13, 13), (14, 14), (15, 15)] []) ⟨0, rfl, by omega, by omega, by omega⟩ ?_
  rintro kk s ⟨i, rfl, hi0, hi1, hkk⟩
  conv => cbv
  refine Br.mk (fun gi => ?_) (fun gi => ?_)
  · have gi : i < mo := gi
    obtain ⟨k', rfl⟩ : ∃ k', kk = k' + 1 := ⟨kk - 1, by omega⟩
    obtain ⟨a, ha⟩ : ∃ a, (objs R)[i.toNat]? = some a := ⟨_, List.getElem?_eq_getElem (by omega)⟩
    have hc : O[i.toNat]? = some (.int .i64 (.sym a)) := by rw [hO]; exact ipv_get ha
    have hao := List.mem_of_getElem? ha
    have hab := obj_bd h.a hao
    obtain ⟨x, hx⟩ : ∃ x, C[a.toNat]? = some x := ⟨_, List.getElem?_eq_getElem (by omega)⟩
    have hq : Qr[a.toNat]? = some (.int .i64 (.sym x)) := by rw [hr.q]; exact ipv_get hx
    obtain ⟨k0, l0, hK⟩ := Kept.of hr.a ((obj_iff hr.a a).1 hao)
    have hll := hK.bounds hr.a
    conv => cbv
    refine drawn_sound tok (by kernel_rfl) [(5, [15, 14, 13, 12, 11, 10, 9, 8, 7, 6]), (19, [32, 31, 30, 29, 28, 27, 26, 25, 23, 22, 21, 20]), (24, [32, 31, 30, 29, 28, 27, 26, 25]), (33, []), (38, [51, 50, 49, 48, 47, 46, 45, 44, 42, 41, 40, 39]), (43, [51, 50, 49, 48, 47, 46, 45, 44]), (52, [])] [0, 1, 2, 3, 4, 6, 7, 8, 9, 10, 11, 12, 13, 14, 15, 5, 16, 17, 18, 20, 21, 22, 23, 25, 26, 27, 28, 29, 30, 31, 32, 19, 24, 33, 34, 35, 36, 37, 39, 40, 41, 42, 44, 45, 46, 47, 48, 49, 50, 51, 38, 43, 52, 53, 54] (drawnOKF_ok (by kernel_rfl)) ?_; conv => cbv
    refine Need.mk ⟨hi0, gi⟩ ?_
    conv => cbv
    refine Cell.at i _ hc (by simp [I.val]) rfl ?_
    conv => cbv
    refine Need.mk ⟨hi0, gi⟩ ?_
    conv => cbv
    refine Cell.at i _ hc (by simp [I.val]) rfl ?_
    conv => cbv
    refine Need.mk ⟨by show 0 ≤ a; omega, by show a < W; omega⟩ ?_
    conv => cbv
    refine Cell.at a _ hq (by simp [I.val]) rfl ?_
    conv => cbv
    refine callF_frame (colour_lx R ws C G N W ph sp cy L D Q z ov h a) [(0, 0), (1, 1), (2, 2), (3, 3), (4, 4), (5, 5), (6, 6)] rfl (by simp [hmapOk, nget, hget, renB, okB, renV, renVs, rn, okVs, okV]) rfl rfl (fun r h' n' hrr => ?_)
    obtain ⟨c1, e1, e2, e3, hc1, _⟩ := hrr
    subst e1 e2 e3
    have hcx : c1 = x := Option.some.inj ((hc1 hao).symm.trans hx)
    conv => cbv
    refine Br.no (show ¬ (c1 ≠ x) from fun k => k hcx) ?_
    conv => cbv
    refine Need.mk ⟨hi0, gi⟩ ?_
    conv => cbv
    refine Cell.at i _ hc (by simp [I.val]) rfl ?_
    conv => cbv
    refine Need.mk ⟨hi0, gi⟩ ?_
    conv => cbv
    refine Cell.at i _ hc (by simp [I.val]) rfl ?_
    conv => cbv
    refine callF_frame (arena_lx R ws C G N W ph sp cy L D Q z ov) [(0, 0), (1, 1), (2, 2), (3, 3), (4, 4), (5, 5), (6, 6)] rfl (by simp [hmapOk, nget, hget, renB, okB, renV, renVs, rn, okVs, okV]) rfl rfl (fun r h' n' ⟨e1, e2, e3⟩ => ?_)
    subst e1 e2 e3
    conv => cbv
    refine callF_frame (kind_lx R ws N a W L D h.l h.d h.n h.r h.a h.w) [(0, 1), (1, 2), (2, 3), (3, 4)] rfl (by simp [hmapOk, nget, hget, renB, okB, renV, renVs, rn, okVs, okV]) rfl rfl (fun r h' n' hrr => ?_)
    obtain ⟨x4, e1, e2, e3, hx1⟩ := hrr
    subst e1 e2 e3
    conv => cbv
    refine callF_frame (rkind_lx R vs N a W P B V hr.p hr.b hr.v hr.n hr.r hr.a hr.w) [(0, 8), (1, 9), (2, 10), (3, 11), (4, 12)] rfl (by simp [hmapOk, nget, hget, renB, okB, renV, renVs, rn, okVs, okV]) rfl rfl (fun r h' n' hrr => ?_)
    obtain ⟨x5, e1, e2, e3, hx2⟩ := hrr
    subst e1 e2 e3
    have hkk9 := hS.kind hx1 hx2
    conv => cbv
    refine Br.no (show ¬ (x4 ≠ x5) from fun k => k hkk9) ?_
    conv => cbv
    refine Need.mk ⟨hi0, gi⟩ ?_
    conv => cbv
    refine Cell.at i _ hc (by simp [I.val]) rfl ?_
    conv => cbv
    refine Need.mk ⟨hi0, gi⟩ ?_
    conv => cbv
    refine Cell.at i _ hc (by simp [I.val]) rfl ?_
    conv => cbv
    refine callF_frame (arena_lx R ws C G N W ph sp cy L D Q z ov) [(0, 0), (1, 1), (2, 2), (3, 3), (4, 4), (5, 5), (6, 6)] rfl (by simp [hmapOk, nget, hget, renB, okB, renV, renVs, rn, okVs, okV]) rfl rfl (fun r h' n' ⟨e1, e2, e3⟩ => ?_)
    subst e1 e2 e3
    conv => cbv
    refine callF_frame (len_lx R ws N a W L D h.l h.d h.n h.r h.a h.w) [(0, 1), (1, 2), (2, 3), (3, 4)] rfl (by simp [hmapOk, nget, hget, renB, okB, renV, renVs, rn, okVs, okV]) rfl rfl (fun r h' n' hrr => ?_)
    obtain ⟨x6, e1, e2, e3, hx3⟩ := hrr
    subst e1 e2 e3
    conv => cbv
    refine callF_frame (rlen_lx R vs N a W P B V hr.p hr.b hr.v hr.n hr.r hr.a hr.w) [(0, 8), (1, 9), (2, 10), (3, 11), (4, 12)] rfl (by simp [hmapOk, nget, hget, renB, okB, renV, renVs, rn, okVs, okV]) rfl rfl (fun r h' n' hrr => ?_)
    obtain ⟨x7, e1, e2, e3, hx4⟩ := hrr
    subst e1 e2 e3
    have hll2 := hS.len hx3 hx4
    conv => cbv
    refine Br.no (show ¬ (x6 ≠ x7) from fun k => k hll2) ?_
    conv => cbv
    clear hx1 hx2 hx3 hx4
    refine LoopF.mk (fun kq s => ∃ q : Int, s = ⟨.ptr 0 (.lit 0) :: .ptr 7 (.lit 0) :: (undefs 3 ++ .sl 15 3 1 (.lit 0) (.sym mo) :: .p (.int .i64 (.sym i)) :: .p (.int .i64 (.sym q)) :: undefs 133), [(0, .mix [.ptr 1 (.lit 0), .ptr 5 (.lit 0), .sl 6 3 1 (.lit 0) (.sym W), .p (.int .i64 (.sym ph)), .p (.int .i64 (.sym sp)), .p (.int .i64 (.sym cy))]), (1, .mix [.ptr 2 (.lit 0), .sl 4 3 1 (.lit 0) (.sym W)]), (2, .mix [.sl 3 101 2 (.lit 0) (.sym N)]), (3, .pure true L), (4, .pure true D), (5, .pure false [.str fun _ => z, .bool ov]), (6, .pure true Q), (7, .mix [.ptr 8 (.lit 0), .sl 13 3 1 (.lit 0) (.sym W), .ptr 14 (.lit 0), .p (.int .i64 (.sym ph)), .p (.int .i64 (.sym sp)), .p (.int .i64 (.sym cy))]), (8, .mix [.ptr 9 (.lit 0), .sl 12 3 1 (.lit 0) (.sym W)]), (9, .mix [.sl 10 3 1 (.lit 0) (.sym N), .sl 11 120 8 (.lit 0) (.sym N)]), (10, .pure true P), (11, .pure true B), (12, .pure true V), (13, .pure true Qr), (14, .mix [.p (.vsl (.sym m) true la), .p (.bool ov)]), (15, .pure true O)], 16⟩ ∧ 0 ≤ q ∧ q ≤ 32 ∧ kq = (32 - q).toNat) 32 _
      (Re.at [(0, 0), (1, 1), (2, 2), (3, 3), (4, 4), (5, 5), (6, 6), (7, 7), (8, 8), (9, 9), (10, 10), (11, 11), (12, 12), (13, 13), (14, 14), (15, 15)] []) ⟨0, rfl, by omega, by omega, by omega⟩ ?_
    rintro kq s ⟨q, rfl, hq0, hq1, hkq⟩
    conv => cbv
    refine drawn_sound tok (by kernel_rfl) [(9, [0])] [0, 1, 2, 3, 4, 5, 6, 7, 8, 9, 10] (by kernel_rfl) ?_; conv => cbv
    refine Need.mk ⟨hi0, gi⟩ ?_
    conv => cbv
    refine Cell.at i _ hc (by simp [I.val]) rfl ?_
    conv => cbv
    refine callF_frame (rlen_lx R vs N a W P B V hr.p hr.b hr.v hr.n hr.r hr.a hr.w) [(0, 8), (1, 9), (2, 10), (3, 11), (4, 12)] rfl (by simp [hmapOk, nget, hget, renB, okB, renV, renVs, rn, okVs, okV]) rfl rfl (fun r h' n' hrr => ?_)
    obtain ⟨y, e1, e2, e3, hy⟩ := hrr
    subst e1 e2 e3
    have hyl : y = l0 := lenR_of6 hK hy
    conv => cbv
    refine Br.mk (fun gq => ?_) (fun gq => ?_)
    · have gq : q < y := gq
      obtain ⟨kq', rfl⟩ : ∃ k', kq = k' + 1 := ⟨kq - 1, by omega⟩
      conv => cbv
      refine Need.mk ⟨hi0, gi⟩ ?_
      conv => cbv
      refine Cell.at i _ hc (by simp [I.val]) rfl ?_
      conv => cbv
      refine callF_frame (load9_lx R ws C G N W ph sp cy L D Q z ov h a q) [(0, 0), (1, 1), (2, 2), (3, 3), (4, 4), (5, 5), (6, 6)] rfl (by simp [hmapOk, nget, hget, renB, okB, renV, renVs, rn, okVs, okV]) rfl rfl (fun r h' n' hrr => ?_)
      obtain ⟨x8, f8, e1, e2, e3, hx8⟩ := hrr
      subst e1 e2 e3
      conv => cbv
      refine drawn_sound tok (by kernel_rfl) [(9, [])] [0, 1, 2, 3, 4, 5, 6, 7, 8, 9, 10, 11, 12, 13, 14] (by kernel_rfl) ?_; conv => cbv
      refine Need.mk ⟨hi0, gi⟩ ?_
      conv => cbv
      refine Cell.at i _ hc (by simp [I.val]) rfl ?_
      conv => cbv
      refine callF_frame (rload_lx q R vs N a W P B V hr.p hr.b hr.v hr.n hr.r hr.a hr.w) [(0, 8), (1, 9), (2, 10), (3, 11), (4, 12)] rfl (by simp [hmapOk, nget, hget, renB, okB, renV, renVs, rn, okVs, okV]) rfl rfl (fun r h' n' hrr => ?_)
      obtain ⟨x9, f9, e1, e2, e3, hx9⟩ := hrr
      subst e1 e2 e3
      have hxx := (hS.load hx8 hx9).1
      conv => cbv
      refine Br.no (show ¬ (x8 ≠ x9) from fun k => k hxx) ?_
      conv => cbv
      refine Fit.mk (by show (-9223372036854775808 : Int) ≤ q + 1; omega) (by show q + 1 ≤ 9223372036854775807; omega) fun q2 hq2 => ?_
      have hq2 : q2 = q + 1 := hq2
      conv => cbv
      refine Again.mk kq' _ (Nat.lt_succ_self _) (Re.at [(0, 0), (1, 1), (2, 2), (3, 3), (4, 4), (5, 5), (6, 6), (7, 7), (8, 8), (9, 9), (10, 10), (11, 11), (12, 12), (13, 13), (14, 14), (15, 15)] []) ⟨q2, rfl, by omega, by omega, by omega⟩
    · have gq : ¬ q < y := gq
      conv => cbv
      refine Fit.mk (by show (-9223372036854775808 : Int) ≤ i + 1; omega) (by show i + 1 ≤ 9223372036854775807; omega) fun i2 hi2 => ?_
      have hi2 : i2 = i + 1 := hi2
      conv => cbv
      refine Again.mk k' _ (Nat.lt_succ_self _) (Re.at [(0, 0), (1, 1), (2, 2), (3, 3), (4, 4), (5, 5), (6, 6), (7, 7), (8, 8), (9, 9), (10, 10), (11, 11), (12, 12), (13, 13), (14, 14), (15, 15)] []) ⟨i2, rfl, by omega, by omega, by omega⟩
  · have gi : ¬ i < mo := gi
    conv => cbv
    refine RetF.mk [.p (.bool true)] [(0, .mix [.ptr 1 (.lit 0), .ptr 5 (.lit 0), .sl 6 3 1 (.lit 0) (.sym W), .p (.int .i64 (.sym ph)), .p (.int .i64 (.sym sp)), .p (.int .i64 (.sym cy))]), (1, .mix [.ptr 2 (.lit 0), .sl 4 3 1 (.lit 0) (.sym W)]), (2, .mix [.sl 3 101 2 (.lit 0) (.sym N)]), (3, .pure true L), (4, .pure true D), (5, .pure false [.str fun _ => z, .bool ov]), (6, .pure true Q), (7, .mix [.ptr 8 (.lit 0), .sl 13 3 1 (.lit 0) (.sym W), .ptr 14 (.lit 0), .p (.int .i64 (.sym ph)), .p (.int .i64 (.sym sp)), .p (.int .i64 (.sym cy))]), (8, .mix [.ptr 9 (.lit 0), .sl 12 3 1 (.lit 0) (.sym W)]), (9, .mix [.sl 10 3 1 (.lit 0) (.sym N), .sl 11 120 8 (.lit 0) (.sym N)]), (10, .pure true P), (11, .pure true B), (12, .pure true V), (13, .pure true Qr), (14, .mix [.p (.vsl (.sym m) true la), .p (.bool ov)])] 15 (Re.at [(0, 0), (1, 1), (2, 2), (3, 3), (4, 4), (5, 5), (6, 6), (7, 7), (8, 8), (9, 9), (10, 10), (11, 11), (12, 12), (13, 13), (14, 14)] []) rfl ⟨rfl, rfl, rfl⟩
end Go.Proofs.YtllafhhnciobhaaGreatDoor
