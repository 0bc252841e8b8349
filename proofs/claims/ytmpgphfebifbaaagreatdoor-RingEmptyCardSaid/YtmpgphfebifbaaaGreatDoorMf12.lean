/-
  Layer 12: RingEmpty.
-/
import Derived.Test.YtmpgphfebifbaaaGreatDoorBg


import Derived.Test.YtmpgphfebifbaaaGreatDoorBf

namespace Go.Proofs.YtmpgphfebifbaaaGreatDoor

open Go Go.LX
set_option maxRecDepth 100000
set_option linter.unusedVariables false
set_option linter.unusedSimpArgs false

set_option maxHeartbeats 16000000 in
theorem ringEmpty_law (o : Unit → Obj) (ho : IsPow o) (cap : Int) (words : List Int) (mw : Int) (WL : List PV) (hWL : WL = ipv words) (hmw : mw = words.length) (hwb : ∀ x ∈ words, -9223372036854775808 ≤ x ∧ x ≤ 9223372036854775807) : CallF (fun _ => Tryz.prog) 8 [.p (.int .i64 (.sym cap)), .p (.vsl (.sym mw) true WL)] [(0, .fix 0 o)] 1 (fun r _ _ => r = .p (.bool true)) := by
  refine callF_of_body tok Tryz.func8 (by kernel_rfl) rfl rfl rfl ?_; conv => cbv
  refine Fit.wrap fun xn hxn => ?_
  have hxn : xn = IntKind.u64.wrap cap := hxn
  have hyn : 0 ≤ xn := by rw [hxn]; simp [IntKind.wrap, IntKind.bits, IntKind.signed]; omega
  clear hxn
  conv => cbv
  refine Sum.mk fun tn htn => ?_
  have htn : tn = xn % 3 := (show tn = xn.tmod 3 from htn).trans (Int.tmod_eq_emod_of_nonneg hyn)
  conv => cbv
  refine Fit.mk (by show (-9223372036854775808 : Int) ≤ tn; omega) (by show tn ≤ 9223372036854775807; omega) fun u hu => ?_
  have hu : u = tn := hu
  have hu0 : 0 ≤ u := by omega
  have hu1 : u < 3 := by omega
  clear hu htn hyn
  conv => cbv
  refine Fit.mk (by show (-9223372036854775808 : Int) ≤ 1 + u; omega) (by show 1 + u ≤ 9223372036854775807; omega) fun cp hcp => ?_
  have hcp : cp = 1 + u := hcp
  conv => cbv
  refine CallF.re (args0 := [.p (.vsl (.sym 1) true [.int .i64 (.sym cp)]), .p (.int .i64 (.sym 1))]) (h' := [(0, .fix 0 o)]) (Re.at [(0, 0)] []) (callF_frame (made12_lx o ho [cp] 1 1 [.int .i64 (.sym cp)] rfl rfl) [(0, 0)] rfl (by simp [hmapOk, nget, hget, renB, okB, renV, renVs, rn, okVs, okV]) rfl rfl (fun r h' n' hrr => ?_))
  obtain ⟨N, W, C, R, ws, vs, L, D, Q, z, P, B, V, Qr, M, CS, GS, chs, bufs, grs, nc, ng, e1, e2, e3, S, hB, hY, hcs, hgs, hnc, hng, hnm, hn1, hn4, hngo, hcnt, hR, hW⟩ := hrr
  subst e1 e2 e3
  conv => cbv
  refine callF_frame (awake12_lx o ho) [(0, 0)] rfl (by simp [hmapOk, nget, hget, renB, okB, renV, renVs, rn, okVs, okV]) rfl rfl (fun r h' n' ⟨e1, e2, e3⟩ => ?_)
  subst e1 e2 e3
  conv => cbv
  have hnc1 : nc = 1 := by omega
  obtain ⟨c, hcc⟩ := chans1 hnc hnc1
  have hc0 : chs[0]? = some c := by rw [hcc]; rfl
  obtain ⟨b, hb0, hBC⟩ := hB.ch 0 c cp hc0 rfl
  have hcs4 : capW cp = cp := capW_small (by omega)
  have hMc := hBC.c
  rw [hcs4] at hMc
  have hMb : M b = some (2, List.replicate cp.toNat 0) := by
    rcases hBC.b with q | ⟨_, _, q⟩
    · rw [hcs4] at q; omega
    · rw [hcs4] at q; exact q
  have hcb : c ≠ b := fun q => by rw [q, hMb] at hMc; cases hMc
  have hh := S.h
  have hc := S.c
  have hmw0 : 0 ≤ mw := by omega
  refine Br.mk (fun gm => ?_) (fun gm => ?_)
  · have gm : (10 : Int) < mw := gm
    obtain ⟨nn, hnn⟩ : ∃ nn : Int, nn = 10 := ⟨_, rfl⟩
    have hnn1 : 0 ≤ nn ∧ nn ≤ 10 ∧ nn ≤ mw := by omega
    conv => cbv
    clear S hB hY
    refine LoopF.mk (fun kk s => ∃ (i st : Int) (ws : List Int) (D : List PV) (M : Hp), s = ⟨.p (.int .i64 (.sym cp)) :: .p (.vsl (.sym mw) true WL) :: (undefs 2 ++ .p (.bool false) :: .ptr 17 (.lit 0) :: .p (.int .i64 (.sym nn)) :: .p (.int .i64 (.sym i)) :: undefs 118), [(2, .mix [.ptr 3 (.lit 0), .ptr 7 (.lit 0), .sl 8 3 1 (.lit 0) (.sym W), .p (.int .i64 (.sym 0)), .p (.int .i64 (.sym 0)), .p (.int .i64 (.sym 0))]), (3, .mix [.ptr 4 (.lit 0), .sl 6 3 1 (.lit 0) (.sym W)]), (4, .mix [.sl 5 177 2 (.lit 0) (.sym N)]), (5, .pure true L), (6, .pure true D), (7, .pure false [.str fun _ => z, .bool false]), (8, .pure true Q), (9, .mix [.ptr 10 (.lit 0), .sl 15 3 1 (.lit 0) (.sym W), .ptr 16 (.lit 0), .p (.int .i64 (.sym 0)), .p (.int .i64 (.sym 0)), .p (.int .i64 (.sym 0))]), (10, .mix [.ptr 11 (.lit 0), .sl 14 3 1 (.lit 0) (.sym W)]), (11, .mix [.sl 12 3 1 (.lit 0) (.sym N), .sl 13 215 8 (.lit 0) (.sym N)]), (12, .pure true P), (13, .pure true B), (14, .pure true V), (15, .pure true Qr), (16, .mix [.p (.vsl (.sym 0) true []), .p (.bool false)]), (0, .fix 0 o), (17, .mix [.ptr 2 (.lit 0), .ptr 9 (.lit 0), .sl 18 3 1 (.lit 0) (.sym nc), .sl 19 3 1 (.lit 0) (.sym ng)]), (18, .pure true CS), (19, .pure true GS)], 20⟩ ∧ 0 ≤ i ∧ i ≤ nn ∧ kk = (nn - i).toNat ∧ HM R ws C [] N W L D Q z ∧ Cont R ws M ∧ M c = some (1, [cp, 0, 0, st, b, -1, -1, -1, -1]) ∧ M b = some (2, List.replicate cp.toNat 0) ∧ st = i % cp) nn.toNat _
      (Re.at [(0, 0), (2, 2), (3, 3), (4, 4), (5, 5), (6, 6), (7, 7), (8, 8), (9, 9), (10, 10), (11, 11), (12, 12), (13, 13), (14, 14), (15, 15), (16, 16), (17, 17), (18, 18), (19, 19)] []) ⟨0, 0, ws, D, M, rfl, by omega, by omega, by omega, hh, hc, hMc, hMb, by simp⟩ ?_
    clear hh hc hMc hMb hBC
    rintro kk s ⟨i, st, ws, D, M, rfl, hi0, hi1, hkk, hh, hc, hMc, hMb, hst⟩
    have hst0 : 0 ≤ st ∧ st < cp := by rw [hst]; exact ⟨Int.emod_nonneg _ (by omega), Int.emod_lt_of_pos _ (by omega)⟩
    conv => cbv
    refine Br.mk (fun gi => ?_) (fun gi => ?_)
    · have gi : i < nn := gi
      obtain ⟨wx, hwx⟩ : ∃ a, words[i.toNat]? = some a := ⟨_, List.getElem?_eq_getElem (by omega)⟩
      have hcell : WL[i.toNat]? = some (.int .i64 (.sym wx)) := by rw [hWL]; exact ipv_get hwx
      have hwxb := hwb wx (List.mem_of_getElem? hwx)
      conv => cbv
      refine drawn_sound tok (by kernel_rfl) [(5, [9, 8, 7, 6, 3, 2, 1, 0]), (10, [])] [0, 1, 2, 3, 4, 6, 7, 8, 9, 5, 10, 11] (by kernel_rfl) ?_; conv => cbv
      refine Need.mk (show 0 ≤ i ∧ i < mw from ⟨hi0, by omega⟩) ?_
      conv => cbv
      refine Cell.at i _ hcell (by simp [I.val]) rfl ?_
      conv => cbv
      refine CallF.le (args0 := [.ptr 17 (.lit 0), .p (.int .i64 (.sym 0))]) (callF_frame (ch12_lx R ws vs C N W 0 0 0 L D Q z false P B V Qr [] 0 M nc ng CS GS o 0 chs hcs hnc (by omega) (by omega)) [(0, 2), (1, 3), (2, 4), (3, 5), (4, 6), (5, 7), (6, 8), (7, 9), (8, 10), (9, 11), (10, 12), (11, 13), (12, 14), (13, 15), (14, 16), (15, 0), (16, 17), (17, 18), (18, 19)] rfl (by simp [hmapOk, nget, hget, renB, okB, renV, renVs, rn, okVs, okV]) rfl rfl (fun r h' n' hrr => ?_)) (by simp [ales, ale, pvle, I.val])
      obtain ⟨⟨x1, e1, hx1⟩, e2, e3⟩ := hrr
      subst e1 e2 e3
      conv => cbv
      obtain rfl : c = x1 := (ch0 hx1 hc0).symm
      refine CallF.le (args0 := [.ptr 2 (.lit 0), .p (.int .i64 (.sym c)), .p (.int .i64 (.sym wx))]) (callF_frame (ringPutM_lx R ws C [] N W 0 0 0 L D Q z false hh M hc o ho rfl c wx cp 0 0 st b (-1) (-1) (-1) (-1) hMc hwxb (by decide) hst0.1) [(0, 2), (1, 3), (2, 4), (3, 5), (4, 6), (5, 7), (6, 8), (7, 0)] rfl (by simp [hmapOk, nget, hget, renB, okB, renV, renVs, rn, okVs, okV]) rfl rfl (fun r h' n' hrr => ?_)) (by simp [ales, ale, pvle, I.val])
      obtain ⟨e, ws1, D1, e1, e2, e3, hh1, hr1⟩ := hrr
      subst e1 e2 e3
      conv => cbv
      obtain ⟨X1, hX1, he, hc1⟩ : ∃ X1, X1 = (List.replicate cp.toNat (0 : Int)).set ((st % cp + 0) % cp).toNat wx ∧ e = 0 ∧ Cont R ws1 (upd (upd M b (2, X1)) c (1, [cp, 0, 0 + 1, st, b, -1, -1, -1, -1])) := by
        rcases hr1 with q | hr1
        · omega
        rcases hr1 _ hMb (by rw [List.length_replicate]; omega) with q | ⟨_, _, q1, q2⟩
        · omega
        · exact ⟨_, rfl, q1, q2⟩
      generalize hM1 : upd (upd M b (2, X1)) c (1, [cp, 0, 0 + 1, st, b, -1, -1, -1, -1]) = M1 at hc1
      have hMc1 : M1 c = some (1, [cp, 0, 1, st, b, -1, -1, -1, -1]) := by rw [← hM1]; exact upd_same _ _ _
      have hMb1 : M1 b = some (2, X1) := by rw [← hM1, upd_ne hcb.symm]; exact upd_same _ _ _
      have hmod : ((st % cp + 0) % cp) = st := by rw [Int.add_zero, Int.emod_emod_of_dvd _ (Int.dvd_refl _)]; exact Int.emod_eq_of_lt hst0.1 hst0.2
      have hmod2 : st % cp = st := Int.emod_eq_of_lt hst0.1 hst0.2
      rw [hmod] at hX1
      have hX1l : (X1.length : Int) = cp := by rw [hX1, List.length_set, List.length_replicate]; omega
      refine Br.no (show ¬ ¬ (e = 0) from fun q => q he) ?_
      conv => cbv
      refine drawn_sound tok (by kernel_rfl) [(5, [3, 2, 1, 0]), (6, [])] [0, 1, 2, 3, 4, 5, 6, 7, 8, 9, 10, 11] (by kernel_rfl) ?_; conv => cbv
      refine CallF.le (args0 := [.ptr 17 (.lit 0), .p (.int .i64 (.sym 0))]) (callF_frame (ch12_lx R ws1 vs C N W 0 0 0 L D1 Q z false P B V Qr [] 0 M nc ng CS GS o 0 chs hcs hnc (by omega) (by omega)) [(0, 2), (1, 3), (2, 4), (3, 5), (4, 6), (5, 7), (6, 8), (7, 9), (8, 10), (9, 11), (10, 12), (11, 13), (12, 14), (13, 15), (14, 16), (15, 0), (16, 17), (17, 18), (18, 19)] rfl (by simp [hmapOk, nget, hget, renB, okB, renV, renVs, rn, okVs, okV]) rfl rfl (fun r h' n' hrr => ?_)) (by simp [ales, ale, pvle, I.val])
      obtain ⟨⟨x3, e1, hx3⟩, e2, e3⟩ := hrr
      subst e1 e2 e3
      conv => cbv
      obtain rfl : c = x3 := (ch0 hx3 hc0).symm
      refine CallF.le (args0 := [.ptr 2 (.lit 0), .p (.int .i64 (.sym c))]) (callF_frame (ringTakeM_lx R ws1 C [] N W 0 0 0 L D1 Q z false hh1 M1 hc1 o ho rfl c cp 0 1 st b (-1) (-1) (-1) (-1) hMc1 hst0.1) [(0, 2), (1, 3), (2, 4), (3, 5), (4, 6), (5, 7), (6, 8), (7, 0)] rfl (by simp [hmapOk, nget, hget, renB, okB, renV, renVs, rn, okVs, okV]) rfl rfl (fun r h' n' hrr => ?_)) (by simp [ales, ale, pvle, I.val])
      obtain ⟨v, g, ws2, D2, e1, e2, e3, hh2, hr3⟩ := hrr
      subst e1 e2 e3
      conv => cbv
      obtain ⟨hg, hv, hc2⟩ : g = 0 ∧ v = wx ∧ Cont R ws2 (upd (upd M1 b (2, X1.set (st % cp).toNat 0)) c (1, [cp, 0, 1 - 1, (st % cp + 1) % cp, b, -1, -1, -1, -1])) := by
        rcases hr3 with q | hr3
        · omega
        obtain ⟨_, _, q1, q2, q3⟩ := hr3 _ hMb1 hX1l (by omega)
        refine ⟨q1, ?_, q3⟩
        rw [hmod2, hX1, List.getElem?_set_self (by rw [List.length_replicate]; omega)] at q2
        exact (Option.some.inj q2).symm
      have hX2 : X1.set (st % cp).toNat 0 = List.replicate cp.toNat 0 := by rw [hmod2, hX1, List.set_set, List.set_replicate_self]
      rw [hX2, hmod2] at hc2
      obtain ⟨st2, hst2⟩ : ∃ st2, st2 = (st + 1) % cp := ⟨_, rfl⟩
      rw [← hst2] at hc2
      generalize hM2 : upd (upd M1 b (2, List.replicate cp.toNat 0)) c (1, [cp, 0, 1 - 1, st2, b, -1, -1, -1, -1]) = M2 at hc2
      have hMc2 : M2 c = some (1, [cp, 0, 0, st2, b, -1, -1, -1, -1]) := by rw [← hM2]; exact upd_same _ _ _
      have hMb2 : M2 b = some (2, List.replicate cp.toNat 0) := by rw [← hM2, upd_ne hcb.symm]; exact upd_same _ _ _
      refine Br.no (show ¬ ¬ (g = 0) from fun q => q hg) ?_
      conv => cbv
      refine Need.mk (show 0 ≤ i ∧ i < mw from ⟨hi0, by omega⟩) ?_
      conv => cbv
      refine Cell.at i _ hcell (by simp [I.val]) rfl ?_
      conv => cbv
      refine Br.no (show ¬ ¬ (v = wx) from fun q => q hv) ?_
      conv => cbv
      refine Fit.mk (by show (-9223372036854775808 : Int) ≤ i + 1; omega) (by show i + 1 ≤ 9223372036854775807; omega) fun i2 hi2 => ?_
      have hi2 : i2 = i + 1 := hi2
      conv => cbv
      refine Again.mk (nn - i2).toNat _ (by omega) (Re.at [(0, 0), (2, 2), (3, 3), (4, 4), (5, 5), (6, 6), (7, 7), (8, 8), (9, 9), (10, 10), (11, 11), (12, 12), (13, 13), (14, 14), (15, 15), (16, 16), (17, 17), (18, 18), (19, 19)] []) ⟨i2, st2, ws2, D2, M2, rfl, by omega, by omega, rfl, hh2, hc2, hMc2, hMb2, ?_⟩
      rw [hst2, hst, hi2, Int.emod_add_emod]
    · have gi : ¬ i < nn := gi
      obtain rfl : nn = i := by omega
      conv => cbv
      refine read_sound tok (by kernel_rfl) [0, 2, 3, 4, 5, 6, 7, 8, 9, 10, 11, 12, 13, 14, 15, 16, 17, 18, 19] [5, 6] [(10, [9, 8, 7, 6, 5, 4, 3, 2, 1, 0]), (11, [9])] [0, 1, 2, 3, 4, 5, 6, 7, 8, 9, 10, 11, 12] (by kernel_rfl) ?_
      conv => cbv
      refine ReadF.mk (.p (.int .i64 (.sym c))) (fun h' n' hbR hnR => CallF.le (args0 := [.ptr 17 (.lit 0), .p (.int .i64 (.sym 0))]) (callF_read ((ch12_lx R ws vs C N W 0 0 0 L D Q z false P B V Qr [] 0 M nc ng CS GS o 0 chs hcs hnc (by omega) (by omega)).mono (fun r h n ⟨⟨x, e1, hx⟩, e2, e3⟩ => ⟨by rw [e1, ch0 hx hc0], e2, e3⟩)) [(0, 2), (1, 3), (2, 4), (3, 5), (4, 6), (5, 7), (6, 8), (7, 9), (8, 10), (9, 11), (10, 12), (11, 13), (12, 14), (13, 15), (14, 16), (15, 0), (16, 17), (17, 18), (18, 19)] (by simp [fok, nget, nback]; omega) (by simp [hmapOk, nget, hbR, hget, renB, okB, renV, renVs, rn, okVs, okV]) rfl rfl rfl rfl) (by simp [ales, ale, pvle, I.val])) ?_
      conv => cbv
      refine ReadF.mk (.tup [.agg [.p (.int .i64 (.sym cp)), .p (.int .i64 (.sym 0)), .p (.int .i64 (.sym 0)), .p (.int .i64 (.sym st)), .p (.int .i64 (.sym b)), .p (.int .i64 (.sym (-1))), .p (.int .i64 (.sym (-1))), .p (.int .i64 (.sym (-1))), .p (.int .i64 (.sym (-1)))], .p (.int .i64 (.sym 0))]) (fun h' n' hbR hnR => CallF.le (args0 := [.ptr 2 (.lit 0), .p (.int .i64 (.sym c))]) (callF_read ((chanM_lx R ws C [] N W 0 0 0 L D Q z false hh M hc c cp 0 0 st b (-1) (-1) (-1) (-1) hMc).mono (fun r h n ⟨⟨e, e1, he⟩, e2, e3⟩ => ⟨by rw [e1, he], e2, e3⟩)) [(0, 2), (1, 3), (2, 4), (3, 5), (4, 6), (5, 7), (6, 8)] (by simp [fok, nget, nback]; omega) (by simp [hmapOk, nget, hbR, hget, renB, okB, renV, renVs, rn, okVs, okV]) rfl rfl rfl rfl) (by simp [ales, ale, pvle, I.val])) ?_
      conv => cbv
      refine LoopF.mk (fun kk s => ∃ j : Int, s = ⟨.p (.int .i64 (.sym cp)) :: .p (.vsl (.sym mw) true WL) :: (undefs 3 ++ .ptr 17 (.lit 0) :: .p (.int .i64 (.sym nn)) :: (undefs 3 ++ .ptr 20 (.lit 0) :: .p (.int .i64 (.sym 0)) :: .p (.int .i64 (.sym j)) :: undefs 113)), [(2, .mix [.ptr 3 (.lit 0), .ptr 7 (.lit 0), .sl 8 3 1 (.lit 0) (.sym W), .p (.int .i64 (.sym 0)), .p (.int .i64 (.sym 0)), .p (.int .i64 (.sym 0))]), (3, .mix [.ptr 4 (.lit 0), .sl 6 3 1 (.lit 0) (.sym W)]), (4, .mix [.sl 5 177 2 (.lit 0) (.sym N)]), (5, .pure true L), (6, .pure true D), (7, .pure false [.str fun _ => z, .bool false]), (8, .pure true Q), (9, .mix [.ptr 10 (.lit 0), .sl 15 3 1 (.lit 0) (.sym W), .ptr 16 (.lit 0), .p (.int .i64 (.sym 0)), .p (.int .i64 (.sym 0)), .p (.int .i64 (.sym 0))]), (10, .mix [.ptr 11 (.lit 0), .sl 14 3 1 (.lit 0) (.sym W)]), (11, .mix [.sl 12 3 1 (.lit 0) (.sym N), .sl 13 215 8 (.lit 0) (.sym N)]), (12, .pure true P), (13, .pure true B), (14, .pure true V), (15, .pure true Qr), (16, .mix [.p (.vsl (.sym 0) true []), .p (.bool false)]), (0, .fix 0 o), (17, .mix [.ptr 2 (.lit 0), .ptr 9 (.lit 0), .sl 18 3 1 (.lit 0) (.sym nc), .sl 19 3 1 (.lit 0) (.sym ng)]), (18, .pure true CS), (19, .pure true GS), (20, .pure false [.int .i64 (.sym cp), .int .i64 (.sym 0), .int .i64 (.sym 0), .int .i64 (.sym st), .int .i64 (.sym b), .int .i64 (.sym (-1)), .int .i64 (.sym (-1)), .int .i64 (.sym (-1)), .int .i64 (.sym (-1))])], 21⟩ ∧ 0 ≤ j ∧ j ≤ cp ∧ kk = (cp - j).toNat) cp.toNat _
        (Re.at [(0, 0), (2, 2), (3, 3), (4, 4), (5, 5), (6, 6), (7, 7), (8, 8), (9, 9), (10, 10), (11, 11), (12, 12), (13, 13), (14, 14), (15, 15), (16, 16), (17, 17), (18, 18), (19, 19), (20, 20)] []) ⟨0, rfl, by omega, by omega, by omega⟩ ?_
      rintro kk s ⟨j, rfl, hj0, hj1, hkk⟩
      conv => cbv
      refine Br.mk (fun gj => ?_) (fun gj => ?_)
      · have gj : j < cp := gj
        conv => cbv
        refine drawn_sound tok (by kernel_rfl) [(7, [])] [0, 1, 2, 3, 4, 5, 6, 7, 8, 9, 10, 11, 12] (by kernel_rfl) ?_; conv => cbv
        refine callF_frame (loadM_lx R ws C [] N W 0 0 0 L D Q z false hh M hc b j 0 (List.replicate cp.toNat 0) 2 hMb (by decide) hj0 (by rw [List.getElem?_replicate, if_pos (by omega)])) [(0, 2), (1, 3), (2, 4), (3, 5), (4, 6), (5, 7), (6, 8)] rfl (by simp [hmapOk, nget, hget, renB, okB, renV, renVs, rn, okVs, okV]) rfl rfl (fun r h' n' hrr => ?_)
        obtain ⟨⟨f, e1, hf⟩, e2, e3⟩ := hrr
        subst e1 e2 e3
        conv => cbv
        refine Br.no (show ¬ ¬ (f = 0) from fun q => q hf) ?_
        conv => cbv
        refine Br.no (show ¬ ¬ ((0 : Int) = 0) from fun q => q rfl) ?_
        conv => cbv
        refine Fit.mk (by show (-9223372036854775808 : Int) ≤ j + 1; omega) (by show j + 1 ≤ 9223372036854775807; omega) fun j2 hj2 => ?_
        have hj2 : j2 = j + 1 := hj2
        conv => cbv
        refine Again.mk (cp - j2).toNat _ (by omega) (Re.at [(0, 0), (2, 2), (3, 3), (4, 4), (5, 5), (6, 6), (7, 7), (8, 8), (9, 9), (10, 10), (11, 11), (12, 12), (13, 13), (14, 14), (15, 15), (16, 16), (17, 17), (18, 18), (19, 19), (20, 20)] []) ⟨j2, rfl, by omega, by omega, rfl⟩
      · have gj : ¬ j < cp := gj
        conv => cbv
        refine drawn_sound tok (by kernel_rfl) [(21, [19, 18, 17, 16]), (22, []), (23, [])] [0, 1, 2, 3, 4, 5, 6, 7, 8, 9, 10, 11, 12, 13, 14, 15, 16, 17, 18, 19, 20, 21, 22, 23, 24, 25] (by kernel_rfl) ?_; conv => cbv
        refine Br.yes (show (0 : Int) = 0 from rfl) ?_
        conv => cbv
        refine Br.yes (show (0 : Int) = 0 from rfl) ?_
        conv => cbv
        refine Need.mk (show ¬ cp = 0 by omega) ?_
        conv => cbv
        refine Sum.mk fun tq htq => ?_
        have htq : tq = nn % cp := (show tq = nn.tmod cp from htq).trans (Int.tmod_eq_emod_of_nonneg (by omega))
        conv => cbv
        refine Br.yes (show st = tq from hst.trans htq.symm) ?_
        conv => cbv
        refine CallF.le (args0 := [.ptr 17 (.lit 0), .p (.int .i64 (.sym 0))]) (callF_frame (ch12_lx R ws vs C N W 0 0 0 L D Q z false P B V Qr [] 0 M nc ng CS GS o 0 chs hcs hnc (by omega) (by omega)) [(0, 2), (1, 3), (2, 4), (3, 5), (4, 6), (5, 7), (6, 8), (7, 9), (8, 10), (9, 11), (10, 12), (11, 13), (12, 14), (13, 15), (14, 16), (15, 0), (16, 17), (17, 18), (18, 19)] rfl (by simp [hmapOk, nget, hget, renB, okB, renV, renVs, rn, okVs, okV]) rfl rfl (fun r h' n' hrr => ?_)) (by simp [ales, ale, pvle, I.val])
        obtain ⟨⟨x7, e1, hx7⟩, e2, e3⟩ := hrr
        subst e1 e2 e3
        conv => cbv
        obtain rfl : c = x7 := (ch0 hx7 hc0).symm
        refine callF_frame (ringAllM_lx R ws C [] N W 0 0 0 L D Q z false hh M hc c cp 0 0 st b (-1) (-1) (-1) (-1) hMc (by omega)) [(0, 2), (1, 3), (2, 4), (3, 5), (4, 6), (5, 7), (6, 8)] rfl (by simp [hmapOk, nget, hget, renB, okB, renV, renVs, rn, okVs, okV]) rfl rfl (fun r h' n' hrr => ?_)
        obtain ⟨l, ml, cells, e1, e2, e3, hml, hcel, hal⟩ := hrr
        subst e1 e2 e3
        conv => cbv
        have hl0 : l = [] := by
          rcases hal with q | hal
          · exact q.2
          · obtain ⟨_, q, _⟩ := hal _ hMb (by rw [List.length_replicate]; omega)
            exact List.eq_nil_of_length_eq_zero (by omega)
        have hml0 : ml = 0 := by rw [hml, hl0]; rfl
        refine callF_lend (plainE_true [] ml cells [] (by rw [hml, hl0]) (by rw [hcel, hl0]) rfl (by simp)) (by simp [lends, lendV, hget, I.val, pvle, hml0]) (fun r h' n' ⟨e1, e2, e3⟩ => by subst e1 e2; exact ⟨trivial, trivial⟩) (fun r h' n' ⟨e1, e2, e3⟩ => ?_)
        subst e1 e2 e3
        conv => cbv
        refine RetF.mk [.p (.bool true)] [(0, .fix 0 o)] 1 (Re.at [(0, 0)] []) rfl rfl
  · have gm : ¬ (10 : Int) < mw := gm
    obtain ⟨nn, hnn⟩ : ∃ nn : Int, nn = mw := ⟨_, rfl⟩
    have hnn1 : 0 ≤ nn ∧ nn ≤ 10 ∧ nn ≤ mw := by omega
    conv => cbv
    clear S hB hY
    refine LoopF.mk (fun kk s => ∃ (i st : Int) (ws : List Int) (D : List PV) (M : Hp), s = ⟨.p (.int .i64 (.sym cp)) :: .p (.vsl (.sym mw) true WL) :: (undefs 2 ++ .p (.bool false) :: .ptr 17 (.lit 0) :: .p (.int .i64 (.sym nn)) :: .p (.int .i64 (.sym i)) :: undefs 118), [(2, .mix [.ptr 3 (.lit 0), .ptr 7 (.lit 0), .sl 8 3 1 (.lit 0) (.sym W), .p (.int .i64 (.sym 0)), .p (.int .i64 (.sym 0)), .p (.int .i64 (.sym 0))]), (3, .mix [.ptr 4 (.lit 0), .sl 6 3 1 (.lit 0) (.sym W)]), (4, .mix [.sl 5 177 2 (.lit 0) (.sym N)]), (5, .pure true L), (6, .pure true D), (7, .pure false [.str fun _ => z, .bool false]), (8, .pure true Q), (9, .mix [.ptr 10 (.lit 0), .sl 15 3 1 (.lit 0) (.sym W), .ptr 16 (.lit 0), .p (.int .i64 (.sym 0)), .p (.int .i64 (.sym 0)), .p (.int .i64 (.sym 0))]), (10, .mix [.ptr 11 (.lit 0), .sl 14 3 1 (.lit 0) (.sym W)]), (11, .mix [.sl 12 3 1 (.lit 0) (.sym N), .sl 13 215 8 (.lit 0) (.sym N)]), (12, .pure true P), (13, .pure true B), (14, .pure true V), (15, .pure true Qr), (16, .mix [.p (.vsl (.sym 0) true []), .p (.bool false)]), (0, .fix 0 o), (17, .mix [.ptr 2 (.lit 0), .ptr 9 (.lit 0), .sl 18 3 1 (.lit 0) (.sym nc), .sl 19 3 1 (.lit 0) (.sym ng)]), (18, .pure true CS), (19, .pure true GS)], 20⟩ ∧ 0 ≤ i ∧ i ≤ nn ∧ kk = (nn - i).toNat ∧ HM R ws C [] N W L D Q z ∧ Cont R ws M ∧ M c = some (1, [cp, 0, 0, st, b, -1, -1, -1, -1]) ∧ M b = some (2, List.replicate cp.toNat 0) ∧ st = i % cp) nn.toNat _
      (Re.at [(0, 0), (2, 2), (3, 3), (4, 4), (5, 5), (6, 6), (7, 7), (8, 8), (9, 9), (10, 10), (11, 11), (12, 12), (13, 13), (14, 14), (15, 15), (16, 16), (17, 17), (18, 18), (19, 19)] []) ⟨0, 0, ws, D, M, rfl, by omega, by omega, by omega, hh, hc, hMc, hMb, by simp⟩ ?_
    clear hh hc hMc hMb hBC
    rintro kk s ⟨i, st, ws, D, M, rfl, hi0, hi1, hkk, hh, hc, hMc, hMb, hst⟩
    have hst0 : 0 ≤ st ∧ st < cp := by rw [hst]; exact ⟨Int.emod_nonneg _ (by omega), Int.emod_lt_of_pos _ (by omega)⟩
    conv => cbv
    refine Br.mk (fun gi => ?_) (fun gi => ?_)
    · have gi : i < nn := gi
      obtain ⟨wx, hwx⟩ : ∃ a, words[i.toNat]? = some a := ⟨_, List.getElem?_eq_getElem (by omega)⟩
      have hcell : WL[i.toNat]? = some (.int .i64 (.sym wx)) := by rw [hWL]; exact ipv_get hwx
      have hwxb := hwb wx (List.mem_of_getElem? hwx)
      conv => cbv
      refine drawn_sound tok (by kernel_rfl) [(5, [9, 8, 7, 6, 3, 2, 1, 0]), (10, [])] [0, 1, 2, 3, 4, 6, 7, 8, 9, 5, 10, 11] (by kernel_rfl) ?_; conv => cbv
      refine Need.mk (show 0 ≤ i ∧ i < mw from ⟨hi0, by omega⟩) ?_
      conv => cbv
      refine Cell.at i _ hcell (by simp [I.val]) rfl ?_
      conv => cbv
      refine CallF.le (args0 := [.ptr 17 (.lit 0), .p (.int .i64 (.sym 0))]) (callF_frame (ch12_lx R ws vs C N W 0 0 0 L D Q z false P B V Qr [] 0 M nc ng CS GS o 0 chs hcs hnc (by omega) (by omega)) [(0, 2), (1, 3), (2, 4), (3, 5), (4, 6), (5, 7), (6, 8), (7, 9), (8, 10), (9, 11), (10, 12), (11, 13), (12, 14), (13, 15), (14, 16), (15, 0), (16, 17), (17, 18), (18, 19)] rfl (by simp [hmapOk, nget, hget, renB, okB, renV, renVs, rn, okVs, okV]) rfl rfl (fun r h' n' hrr => ?_)) (by simp [ales, ale, pvle, I.val])
      obtain ⟨⟨x1, e1, hx1⟩, e2, e3⟩ := hrr
      subst e1 e2 e3
      conv => cbv
      obtain rfl : c = x1 := (ch0 hx1 hc0).symm
      refine CallF.le (args0 := [.ptr 2 (.lit 0), .p (.int .i64 (.sym c)), .p (.int .i64 (.sym wx))]) (callF_frame (ringPutM_lx R ws C [] N W 0 0 0 L D Q z false hh M hc o ho rfl c wx cp 0 0 st b (-1) (-1) (-1) (-1) hMc hwxb (by decide) hst0.1) [(0, 2), (1, 3), (2, 4), (3, 5), (4, 6), (5, 7), (6, 8), (7, 0)] rfl (by simp [hmapOk, nget, hget, renB, okB, renV, renVs, rn, okVs, okV]) rfl rfl (fun r h' n' hrr => ?_)) (by simp [ales, ale, pvle, I.val])
      obtain ⟨e, ws1, D1, e1, e2, e3, hh1, hr1⟩ := hrr
      subst e1 e2 e3
      conv => cbv
      obtain ⟨X1, hX1, he, hc1⟩ : ∃ X1, X1 = (List.replicate cp.toNat (0 : Int)).set ((st % cp + 0) % cp).toNat wx ∧ e = 0 ∧ Cont R ws1 (upd (upd M b (2, X1)) c (1, [cp, 0, 0 + 1, st, b, -1, -1, -1, -1])) := by
        rcases hr1 with q | hr1
        · omega
        rcases hr1 _ hMb (by rw [List.length_replicate]; omega) with q | ⟨_, _, q1, q2⟩
        · omega
        · exact ⟨_, rfl, q1, q2⟩
      generalize hM1 : upd (upd M b (2, X1)) c (1, [cp, 0, 0 + 1, st, b, -1, -1, -1, -1]) = M1 at hc1
      have hMc1 : M1 c = some (1, [cp, 0, 1, st, b, -1, -1, -1, -1]) := by rw [← hM1]; exact upd_same _ _ _
      have hMb1 : M1 b = some (2, X1) := by rw [← hM1, upd_ne hcb.symm]; exact upd_same _ _ _
      have hmod : ((st % cp + 0) % cp) = st := by rw [Int.add_zero, Int.emod_emod_of_dvd _ (Int.dvd_refl _)]; exact Int.emod_eq_of_lt hst0.1 hst0.2
      have hmod2 : st % cp = st := Int.emod_eq_of_lt hst0.1 hst0.2
      rw [hmod] at hX1
      have hX1l : (X1.length : Int) = cp := by rw [hX1, List.length_set, List.length_replicate]; omega
      refine Br.no (show ¬ ¬ (e = 0) from fun q => q he) ?_
      conv => cbv
      refine drawn_sound tok (by kernel_rfl) [(5, [3, 2, 1, 0]), (6, [])] [0, 1, 2, 3, 4, 5, 6, 7, 8, 9, 10, 11] (by kernel_rfl) ?_; conv => cbv
      refine CallF.le (args0 := [.ptr 17 (.lit 0), .p (.int .i64 (.sym 0))]) (callF_frame (ch12_lx R ws1 vs C N W 0 0 0 L D1 Q z false P B V Qr [] 0 M nc ng CS GS o 0 chs hcs hnc (by omega) (by omega)) [(0, 2), (1, 3), (2, 4), (3, 5), (4, 6), (5, 7), (6, 8), (7, 9), (8, 10), (9, 11), (10, 12), (11, 13), (12, 14), (13, 15), (14, 16), (15, 0), (16, 17), (17, 18), (18, 19)] rfl (by simp [hmapOk, nget, hget, renB, okB, renV, renVs, rn, okVs, okV]) rfl rfl (fun r h' n' hrr => ?_)) (by simp [ales, ale, pvle, I.val])
      obtain ⟨⟨x3, e1, hx3⟩, e2, e3⟩ := hrr
      subst e1 e2 e3
      conv => cbv
      obtain rfl : c = x3 := (ch0 hx3 hc0).symm
      refine CallF.le (args0 := [.ptr 2 (.lit 0), .p (.int .i64 (.sym c))]) (callF_frame (ringTakeM_lx R ws1 C [] N W 0 0 0 L D1 Q z false hh1 M1 hc1 o ho rfl c cp 0 1 st b (-1) (-1) (-1) (-1) hMc1 hst0.1) [(0, 2), (1, 3), (2, 4), (3, 5), (4, 6), (5, 7), (6, 8), (7, 0)] rfl (by simp [hmapOk, nget, hget, renB, okB, renV, renVs, rn, okVs, okV]) rfl rfl (fun r h' n' hrr => ?_)) (by simp [ales, ale, pvle, I.val])
      obtain ⟨v, g, ws2, D2, e1, e2, e3, hh2, hr3⟩ := hrr
      subst e1 e2 e3
      conv => cbv
      obtain ⟨hg, hv, hc2⟩ : g = 0 ∧ v = wx ∧ Cont R ws2 (upd (upd M1 b (2, X1.set (st % cp).toNat 0)) c (1, [cp, 0, 1 - 1, (st % cp + 1) % cp, b, -1, -1, -1, -1])) := by
        rcases hr3 with q | hr3
        · omega
        obtain ⟨_, _, q1, q2, q3⟩ := hr3 _ hMb1 hX1l (by omega)
        refine ⟨q1, ?_, q3⟩
        rw [hmod2, hX1, List.getElem?_set_self (by rw [List.length_replicate]; omega)] at q2
        exact (Option.some.inj q2).symm
      have hX2 : X1.set (st % cp).toNat 0 = List.replicate cp.toNat 0 := by rw [hmod2, hX1, List.set_set, List.set_replicate_self]
      rw [hX2, hmod2] at hc2
      obtain ⟨st2, hst2⟩ : ∃ st2, st2 = (st + 1) % cp := ⟨_, rfl⟩
      rw [← hst2] at hc2
      generalize hM2 : upd (upd M1 b (2, List.replicate cp.toNat 0)) c (1, [cp, 0, 1 - 1, st2, b, -1, -1, -1, -1]) = M2 at hc2
      have hMc2 : M2 c = some (1, [cp, 0, 0, st2, b, -1, -1, -1, -1]) := by rw [← hM2]; exact upd_same _ _ _
      have hMb2 : M2 b = some (2, List.replicate cp.toNat 0) := by rw [← hM2, upd_ne hcb.symm]; exact upd_same _ _ _
      refine Br.no (show ¬ ¬ (g = 0) from fun q => q hg) ?_
      conv => cbv
      refine Need.mk (show 0 ≤ i ∧ i < mw from ⟨hi0, by omega⟩) ?_
      conv => cbv
      refine Cell.at i _ hcell (by simp [I.val]) rfl ?_
      conv => cbv
      refine Br.no (show ¬ ¬ (v = wx) from fun q => q hv) ?_
      conv => cbv
      refine Fit.mk (by show (-9223372036854775808 : Int) ≤ i + 1; omega) (by show i + 1 ≤ 9223372036854775807; omega) fun i2 hi2 => ?_
      have hi2 : i2 = i + 1 := hi2
      conv => cbv
      refine Again.mk (nn - i2).toNat _ (by omega) (Re.at [(0, 0), (2, 2), (3, 3), (4, 4), (5, 5), (6, 6), (7, 7), (8, 8), (9, 9), (10, 10), (11, 11), (12, 12), (13, 13), (14, 14), (15, 15), (16, 16), (17, 17), (18, 18), (19, 19)] []) ⟨i2, st2, ws2, D2, M2, rfl, by omega, by omega, rfl, hh2, hc2, hMc2, hMb2, ?_⟩
      rw [hst2, hst, hi2, Int.emod_add_emod]
    · have gi : ¬ i < nn := gi
      obtain rfl : nn = i := by omega
      conv => cbv
      refine read_sound tok (by kernel_rfl) [0, 2, 3, 4, 5, 6, 7, 8, 9, 10, 11, 12, 13, 14, 15, 16, 17, 18, 19] [5, 6] [(10, [9, 8, 7, 6, 5, 4, 3, 2, 1, 0]), (11, [9])] [0, 1, 2, 3, 4, 5, 6, 7, 8, 9, 10, 11, 12] (by kernel_rfl) ?_
      conv => cbv
      refine ReadF.mk (.p (.int .i64 (.sym c))) (fun h' n' hbR hnR => CallF.le (args0 := [.ptr 17 (.lit 0), .p (.int .i64 (.sym 0))]) (callF_read ((ch12_lx R ws vs C N W 0 0 0 L D Q z false P B V Qr [] 0 M nc ng CS GS o 0 chs hcs hnc (by omega) (by omega)).mono (fun r h n ⟨⟨x, e1, hx⟩, e2, e3⟩ => ⟨by rw [e1, ch0 hx hc0], e2, e3⟩)) [(0, 2), (1, 3), (2, 4), (3, 5), (4, 6), (5, 7), (6, 8), (7, 9), (8, 10), (9, 11), (10, 12), (11, 13), (12, 14), (13, 15), (14, 16), (15, 0), (16, 17), (17, 18), (18, 19)] (by simp [fok, nget, nback]; omega) (by simp [hmapOk, nget, hbR, hget, renB, okB, renV, renVs, rn, okVs, okV]) rfl rfl rfl rfl) (by simp [ales, ale, pvle, I.val])) ?_
      conv => cbv
      refine ReadF.mk (.tup [.agg [.p (.int .i64 (.sym cp)), .p (.int .i64 (.sym 0)), .p (.int .i64 (.sym 0)), .p (.int .i64 (.sym st)), .p (.int .i64 (.sym b)), .p (.int .i64 (.sym (-1))), .p (.int .i64 (.sym (-1))), .p (.int .i64 (.sym (-1))), .p (.int .i64 (.sym (-1)))], .p (.int .i64 (.sym 0))]) (fun h' n' hbR hnR => CallF.le (args0 := [.ptr 2 (.lit 0), .p (.int .i64 (.sym c))]) (callF_read ((chanM_lx R ws C [] N W 0 0 0 L D Q z false hh M hc c cp 0 0 st b (-1) (-1) (-1) (-1) hMc).mono (fun r h n ⟨⟨e, e1, he⟩, e2, e3⟩ => ⟨by rw [e1, he], e2, e3⟩)) [(0, 2), (1, 3), (2, 4), (3, 5), (4, 6), (5, 7), (6, 8)] (by simp [fok, nget, nback]; omega) (by simp [hmapOk, nget, hbR, hget, renB, okB, renV, renVs, rn, okVs, okV]) rfl rfl rfl rfl) (by simp [ales, ale, pvle, I.val])) ?_
      conv => cbv
      refine LoopF.mk (fun kk s => ∃ j : Int, s = ⟨.p (.int .i64 (.sym cp)) :: .p (.vsl (.sym mw) true WL) :: (undefs 3 ++ .ptr 17 (.lit 0) :: .p (.int .i64 (.sym nn)) :: (undefs 3 ++ .ptr 20 (.lit 0) :: .p (.int .i64 (.sym 0)) :: .p (.int .i64 (.sym j)) :: undefs 113)), [(2, .mix [.ptr 3 (.lit 0), .ptr 7 (.lit 0), .sl 8 3 1 (.lit 0) (.sym W), .p (.int .i64 (.sym 0)), .p (.int .i64 (.sym 0)), .p (.int .i64 (.sym 0))]), (3, .mix [.ptr 4 (.lit 0), .sl 6 3 1 (.lit 0) (.sym W)]), (4, .mix [.sl 5 177 2 (.lit 0) (.sym N)]), (5, .pure true L), (6, .pure true D), (7, .pure false [.str fun _ => z, .bool false]), (8, .pure true Q), (9, .mix [.ptr 10 (.lit 0), .sl 15 3 1 (.lit 0) (.sym W), .ptr 16 (.lit 0), .p (.int .i64 (.sym 0)), .p (.int .i64 (.sym 0)), .p (.int .i64 (.sym 0))]), (10, .mix [.ptr 11 (.lit 0), .sl 14 3 1 (.lit 0) (.sym W)]), (11, .mix [.sl 12 3 1 (.lit 0) (.sym N), .sl 13 215 8 (.lit 0) (.sym N)]), (12, .pure true P), (13, .pure true B), (14, .pure true V), (15, .pure true Qr), (16, .mix [.p (.vsl (.sym 0) true []), .p (.bool false)]), (0, .fix 0 o), (17, .mix [.ptr 2 (.lit 0), .ptr 9 (.lit 0), .sl 18 3 1 (.lit 0) (.sym nc), .sl 19 3 1 (.lit 0) (.sym ng)]), (18, .pure true CS), (19, .pure true GS), (20, .pure false [.int .i64 (.sym cp), .int .i64 (.sym 0), .int .i64 (.sym 0), .int .i64 (.sym st), .int .i64 (.sym b), .int .i64 (.sym (-1)), .int .i64 (.sym (-1)), .int .i64 (.sym (-1)), .int .i64 (.sym (-1))])], 21⟩ ∧ 0 ≤ j ∧ j ≤ cp ∧ kk = (cp - j).toNat) cp.toNat _
        (Re.at [(0, 0), (2, 2), (3, 3), (4, 4), (5, 5), (6, 6), (7, 7), (8, 8), (9, 9), (10, 10), (11, 11), (12, 12), (13, 13), (14, 14), (15, 15), (16, 16), (17, 17), (18, 18), (19, 19), (20, 20)] []) ⟨0, rfl, by omega, by omega, by omega⟩ ?_
      rintro kk s ⟨j, rfl, hj0, hj1, hkk⟩
      conv => cbv
      refine Br.mk (fun gj => ?_) (fun gj => ?_)
      · have gj : j < cp := gj
        conv => cbv
        refine drawn_sound tok (by kernel_rfl) [(7, [])] [0, 1, 2, 3, 4, 5, 6, 7, 8, 9, 10, 11, 12] (by kernel_rfl) ?_; conv => cbv
        refine callF_frame (loadM_lx R ws C [] N W 0 0 0 L D Q z false hh M hc b j 0 (List.replicate cp.toNat 0) 2 hMb (by decide) hj0 (by rw [List.getElem?_replicate, if_pos (by omega)])) [(0, 2), (1, 3), (2, 4), (3, 5), (4, 6), (5, 7), (6, 8)] rfl (by simp [hmapOk, nget, hget, renB, okB, renV, renVs, rn, okVs, okV]) rfl rfl (fun r h' n' hrr => ?_)
        obtain ⟨⟨f, e1, hf⟩, e2, e3⟩ := hrr
        subst e1 e2 e3
        conv => cbv
        refine Br.no (show ¬ ¬ (f = 0) from fun q => q hf) ?_
        conv => cbv
        refine Br.no (show ¬ ¬ ((0 : Int) = 0) from fun q => q rfl) ?_
        conv => cbv
        refine Fit.mk (by show (-9223372036854775808 : Int) ≤ j + 1; omega) (by show j + 1 ≤ 9223372036854775807; omega) fun j2 hj2 => ?_
        have hj2 : j2 = j + 1 := hj2
        conv => cbv
        refine Again.mk (cp - j2).toNat _ (by omega) (Re.at [(0, 0), (2, 2), (3, 3), (4, 4), (5, 5), (6, 6), (7, 7), (8, 8), (9, 9), (10, 10), (11, 11), (12, 12), (13, 13), (14, 14), (15, 15), (16, 16), (17, 17), (18, 18), (19, 19), (20, 20)] []) ⟨j2, rfl, by omega, by omega, rfl⟩
      · have gj : ¬ j < cp := gj
        conv => cbv
        refine drawn_sound tok (by kernel_rfl) [(21, [19, 18, 17, 16]), (22, []), (23, [])] [0, 1, 2, 3, 4, 5, 6, 7, 8, 9, 10, 11, 12, 13, 14, 15, 16, 17, 18, 19, 20, 21, 22, 23, 24, 25] (by kernel_rfl) ?_; conv => cbv
        refine Br.yes (show (0 : Int) = 0 from rfl) ?_
        conv => cbv
        refine Br.yes (show (0 : Int) = 0 from rfl) ?_
        conv => cbv
        refine Need.mk (show ¬ cp = 0 by omega) ?_
        conv => cbv
        refine Sum.mk fun tq htq => ?_
        have htq : tq = nn % cp := (show tq = nn.tmod cp from htq).trans (Int.tmod_eq_emod_of_nonneg (by omega))
        conv => cbv
        refine Br.yes (show st = tq from hst.trans htq.symm) ?_
        conv => cbv
        refine CallF.le (args0 := [.ptr 17 (.lit 0), .p (.int .i64 (.sym 0))]) (callF_frame (ch12_lx R ws vs C N W 0 0 0 L D Q z false P B V Qr [] 0 M nc ng CS GS o 0 chs hcs hnc (by omega) (by omega)) [(0, 2), (1, 3), (2, 4), (3, 5), (4, 6), (5, 7), (6, 8), (7, 9), (8, 10), (9, 11), (10, 12), (11, 13), (12, 14), (13, 15), (14, 16), (15, 0), (16, 17), (17, 18), (18, 19)] rfl (by simp [hmapOk, nget, hget, renB, okB, renV, renVs, rn, okVs, okV]) rfl rfl (fun r h' n' hrr => ?_)) (by simp [ales, ale, pvle, I.val])
        obtain ⟨⟨x7, e1, hx7⟩, e2, e3⟩ := hrr
        subst e1 e2 e3
        conv => cbv
        obtain rfl : c = x7 := (ch0 hx7 hc0).symm
        refine callF_frame (ringAllM_lx R ws C [] N W 0 0 0 L D Q z false hh M hc c cp 0 0 st b (-1) (-1) (-1) (-1) hMc (by omega)) [(0, 2), (1, 3), (2, 4), (3, 5), (4, 6), (5, 7), (6, 8)] rfl (by simp [hmapOk, nget, hget, renB, okB, renV, renVs, rn, okVs, okV]) rfl rfl (fun r h' n' hrr => ?_)
        obtain ⟨l, ml, cells, e1, e2, e3, hml, hcel, hal⟩ := hrr
        subst e1 e2 e3
        conv => cbv
        have hl0 : l = [] := by
          rcases hal with q | hal
          · exact q.2
          · obtain ⟨_, q, _⟩ := hal _ hMb (by rw [List.length_replicate]; omega)
            exact List.eq_nil_of_length_eq_zero (by omega)
        have hml0 : ml = 0 := by rw [hml, hl0]; rfl
        refine callF_lend (plainE_true [] ml cells [] (by rw [hml, hl0]) (by rw [hcel, hl0]) rfl (by simp)) (by simp [lends, lendV, hget, I.val, pvle, hml0]) (fun r h' n' ⟨e1, e2, e3⟩ => by subst e1 e2; exact ⟨trivial, trivial⟩) (fun r h' n' ⟨e1, e2, e3⟩ => ?_)
        subst e1 e2 e3
        conv => cbv
        refine RetF.mk [.p (.bool true)] [(0, .fix 0 o)] 1 (Re.at [(0, 0)] []) rfl rfl
end Go.Proofs.YtmpgphfebifbaaaGreatDoor
