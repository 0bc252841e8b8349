/-
  The ground of the proof, part 8: the calculus and what is proved with it.
-/
import Derived.Test.YtjgbhpclmlcbbaaGreatDoorBg
import Derived.Test.YtjgbhpclmlcbbaaGreatDoorBf
import Derived.Test.YtjgbhpclmlcbbaaGreatDoorBc
/-
  Who waits at a channel: Push.
-/
namespace Go.Proofs.YtjgbhpclmlcbbaaGreatDoor

open Go Go.LX
set_option maxRecDepth 100000
set_option linter.unusedVariables false
set_option linter.unusedSimpArgs false

set_option maxHeartbeats 8000000 in
theorem listPush0_lx (R : List Rw) (ws C G : List Int) (N W ph sp cy : Int) (L D Q : List PV) (z : ByteArray) (ov : Bool) (h : HM R ws C G N W L D Q z) (M : Hp) (hM : Cont R ws M) (q : Qs) (hY : Sys M q) (o : Unit → Obj) (ho : IsPow o) (hph : ph = 0) (hch : ∀ a F, M a = some (1, F) → ∃ y0 y1 y2 y3 y4 y5 y6 y7 y8, F = [y0, y1, y2, y3, y4, y5, y6, y7, y8]) (hsu : ∀ a F, M a = some (3, F) → ∃ z0 z1 z2 z3 z4 z5 z6, F = [z0, z1, z2, z3, z4, z5, z6]) (c s y0 y1 y2 y3 y4 y5 y6 y7 y8 g w n p r_ m_ : Int) (hMc : M c = some (1, [y0, y1, y2, y3, y4, y5, y6, y7, y8])) (hMs : M s = some (3, [g, c, w, n, p, r_, m_])) (hns : ∀ d, s ∉ q c d) : CallF (fun _ => Tryz.prog) 16 [.ptr 0 (.lit 0), .p (.int .i64 (.sym c)), .p (.bool false), .p (.int .i64 (.sym s))] [(0, .mix [.ptr 1 (.lit 0), .ptr 5 (.lit 0), .sl 6 3 1 (.lit 0) (.sym W), .p (.int .i64 (.sym ph)), .p (.int .i64 (.sym sp)), .p (.int .i64 (.sym cy))]), (1, .mix [.ptr 2 (.lit 0), .sl 4 3 1 (.lit 0) (.sym W)]), (2, .mix [.sl 3 214 2 (.lit 0) (.sym N)]), (3, .pure true L), (4, .pure true D), (5, .pure false [.str fun _ => z, .bool ov]), (6, .pure true Q), (7, .fix 0 o)] 8 (fun r h n => ∃ (e : Int) (ws' : List Int) (D' : List PV), r = .p (.int .i64 (.sym e)) ∧ e = 0 ∧ h = [(0, .mix [.ptr 1 (.lit 0), .ptr 5 (.lit 0), .sl 6 3 1 (.lit 0) (.sym W), .p (.int .i64 (.sym ph)), .p (.int .i64 (.sym sp)), .p (.int .i64 (.sym cy))]), (1, .mix [.ptr 2 (.lit 0), .sl 4 3 1 (.lit 0) (.sym W)]), (2, .mix [.sl 3 214 2 (.lit 0) (.sym N)]), (3, .pure true L), (4, .pure true D'), (5, .pure false [.str fun _ => z, .bool ov]), (6, .pure true Q), (7, .fix 0 o)] ∧ n = 8 ∧ HM R ws' C G N W L D' Q z ∧ Cont R ws' (relink M (updQ q c false (q c false ++ [s])))) := by
  obtain ⟨hY2, hpe, hpn⟩ := hY.push (d := false) hMc hMs hns
  obtain ⟨hp, hb⟩ := hM.chan h.a hMc
  have hsl := hM.len h.a hMs
  have hRr := h.r
  have hcl := hY.len h.a hM c false
  have hs1 : -1 ≤ s := by omega
  have hs2 : b62 s := by unfold b62; omega
  have hsc : s ≠ c := fun e => by rw [e, hMc] at hMs; cases hMs
  have hh1 : -1 ≤ y5 := hp _ (by simp)
  have hh2 : b62 y5 := hb _ (by simp)
  have hm2 : b62 (-1) := by unfold b62; omega
  refine callF_of_body tok Tryz.func16 (by kernel_rfl) rfl rfl rfl ?_; conv => cbv
  refine callF_frame (chanM_lx R ws C G N W ph sp cy L D Q z ov h M hM c y0 y1 y2 y3 y4 y5 y6 y7 y8 hMc) [(0, 0), (1, 1), (2, 2), (3, 3), (4, 4), (5, 5), (6, 6)] rfl (by simp [hmapOk, nget, hget, renB, okB, renV, renVs, rn, okVs, okV]) rfl rfl (fun r h' n' hrr => ?_)
  obtain ⟨⟨e0, e1, he0⟩, e2, e3⟩ := hrr
  subst e1 e2 e3
  conv => cbv
  refine Br.no (show ¬ ¬ (e0 = 0) from fun q => q he0) ?_
  conv => cbv
  refine callF_frame (sudogM_lx R ws C G N W ph sp cy L D Q z ov h M hM s g c w n p r_ m_ hMs) [(0, 0), (1, 1), (2, 2), (3, 3), (4, 4), (5, 5), (6, 6)] rfl (by simp [hmapOk, nget, hget, renB, okB, renV, renVs, rn, okVs, okV]) rfl rfl (fun r h' n' hrr => ?_)
  obtain ⟨⟨e5, e1, he5⟩, e2, e3⟩ := hrr
  subst e1 e2 e3
  conv => cbv
  refine Br.no (show ¬ ¬ (e5 = 0) from fun q => q he5) ?_
  conv => cbv
  refine callF_frame (lends_lx y0 y1 y2 y3 y4 y5 y6 y7 y8 false) [] rfl trivial rfl rfl (fun r h' n' hrr => ?_)
  obtain ⟨⟨hd, tl, e1, hhd, htl⟩, e2, e3⟩ := hrr
  subst e1 e2 e3
  obtain rfl : y5 = hd := hhd.symm
  conv => cbv
  refine callF_frame (listAll_lx R ws C G N W ph sp cy L D Q z ov h M hM q hY c false (hch c) hsu) [(0, 0), (1, 1), (2, 2), (3, 3), (4, 4), (5, 5), (6, 6)] rfl (by simp [hmapOk, nget, hget, renB, okB, renV, renVs, rn, okVs, okV]) rfl rfl (fun r h' n' hrr => ?_)
  obtain ⟨ml, cells, e1, e2, e3, hml, hcel⟩ := hrr
  subst e1 e2 e3
  conv => cbv
  refine Br.mk (fun gm => ?_) (fun gm => ?_)
  · have gm : ml = 0 := gm
    have he : q c false = [] := List.eq_nil_of_length_eq_zero (by omega)
    conv => cbv
    refine CallF.le (args0 := [.ptr 0 (.lit 0), .p (.int .i64 (.sym c)), .p (.bool false), .p (.int .i64 (.sym s)), .p (.int .i64 (.sym s))]) (callF_frame (setEnds0_lx R ws C G N W ph sp cy L D Q z ov h M hM o ho hph c s s y0 y1 y2 y3 y4 y5 y6 y7 y8 hMc ⟨hs1, hs2⟩ ⟨hs1, hs2⟩) [(0, 0), (1, 1), (2, 2), (3, 3), (4, 4), (5, 5), (6, 6), (7, 7)] rfl (by simp [hmapOk, nget, hget, renB, okB, renV, renVs, rn, okVs, okV]) rfl rfl (fun r h' n' hrr => ?_)) (by simp [ales, ale, pvle, I.val])
    obtain ⟨ws1, D1, e1, e2, e3, h1, c1⟩ := hrr
    subst e1 e2 e3
    conv => cbv
    refine CallF.le (args0 := [.ptr 0 (.lit 0), .p (.int .i64 (.sym s)), .p (.int .i64 (.sym (-1)))]) (callF_frame (setNextM_lx R ws1 C G N W ph sp cy L D1 Q z ov h1 _ c1 o ho hph s (-1) g c w n p r_ m_ ((upd_ne hsc).trans hMs) (by decide) hm2) [(0, 0), (1, 1), (2, 2), (3, 3), (4, 4), (5, 5), (6, 6), (7, 7)] rfl (by simp [hmapOk, nget, hget, renB, okB, renV, renVs, rn, okVs, okV]) rfl rfl (fun r h' n' hrr => ?_)) (by simp [ales, ale, pvle, I.val])
    obtain ⟨ws2, D2, e1, e2, e3, h2, c2⟩ := hrr
    subst e1 e2 e3
    conv => cbv
    refine RetF.mk [.p (.int .i64 (.sym 0))] [(0, .mix [.ptr 1 (.lit 0), .ptr 5 (.lit 0), .sl 6 3 1 (.lit 0) (.sym W), .p (.int .i64 (.sym ph)), .p (.int .i64 (.sym sp)), .p (.int .i64 (.sym cy))]), (1, .mix [.ptr 2 (.lit 0), .sl 4 3 1 (.lit 0) (.sym W)]), (2, .mix [.sl 3 214 2 (.lit 0) (.sym N)]), (3, .pure true L), (4, .pure true D2), (5, .pure false [.str fun _ => z, .bool ov]), (6, .pure true Q), (7, .fix 0 o)] 8 (Re.at [(0, 0), (1, 1), (2, 2), (3, 3), (4, 4), (5, 5), (6, 6), (7, 7)] []) rfl ⟨0, ws2, D2, rfl, rfl, rfl, rfl, h2, by rw [hpe he]; exact c2⟩
  · have gm : ¬ ml = 0 := gm
    have he : q c false ≠ [] := fun e => gm (by rw [hml, e]; rfl)
    obtain ⟨gx, wx, nx, px, rx, mx, hMx, hxs, heq⟩ := hpn he
    obtain ⟨x, hx⟩ : ∃ x, x = ltQ (q c false) := ⟨_, rfl⟩
    rw [← hx] at hMx hxs heq
    have hxc : x ≠ c := fun e => by rw [e, hMc] at hMx; cases hMx
    obtain ⟨k1, hk1⟩ : ∃ k1, k1 = ml - 1 := ⟨_, rfl⟩
    have hcell : cells[k1.toNat]? = some (.int .i64 (.sym x)) := by
      rw [hcel]
      refine ipv_get ?_
      rw [hx]
      unfold ltQ
      rw [List.getLast?_eq_getElem?, show (q c false).length - 1 = k1.toNat by omega]
      obtain ⟨v, hv⟩ : ∃ v, (q c false)[k1.toNat]? = some v := ⟨_, List.getElem?_eq_getElem (by omega)⟩
      rw [hv]; rfl
    conv => cbv
    refine Fit.mk (by show (-9223372036854775808 : Int) ≤ ml - 1; omega) (by show ml - 1 ≤ 9223372036854775807; omega) fun k2 hk2 => ?_
    obtain rfl : k1 = k2 := hk1.trans (show k2 = ml - 1 from hk2).symm
    conv => cbv
    refine Need.mk (show 0 ≤ k1 ∧ k1 < ml by omega) ?_
    conv => cbv
    refine Cell.at k1 _ hcell (by simp [I.val]) rfl ?_
    conv => cbv
    refine CallF.le (args0 := [.ptr 0 (.lit 0), .p (.int .i64 (.sym x)), .p (.int .i64 (.sym s))]) (callF_frame (setNextM_lx R ws C G N W ph sp cy L D Q z ov h M hM o ho hph x s gx c wx nx px rx mx hMx hs1 hs2) [(0, 0), (1, 1), (2, 2), (3, 3), (4, 4), (5, 5), (6, 6), (7, 7)] rfl (by simp [hmapOk, nget, hget, renB, okB, renV, renVs, rn, okVs, okV]) rfl rfl (fun r h' n' hrr => ?_)) (by simp [ales, ale, pvle, I.val])
    obtain ⟨ws1, D1, e1, e2, e3, h1, c1⟩ := hrr
    subst e1 e2 e3
    conv => cbv
    refine CallF.le (args0 := [.ptr 0 (.lit 0), .p (.int .i64 (.sym c)), .p (.bool false), .p (.int .i64 (.sym y5)), .p (.int .i64 (.sym s))]) (callF_frame (setEnds0_lx R ws1 C G N W ph sp cy L D1 Q z ov h1 _ c1 o ho hph c y5 s y0 y1 y2 y3 y4 y5 y6 y7 y8 ((upd_ne hxc.symm).trans hMc) ⟨hh1, hh2⟩ ⟨hs1, hs2⟩) [(0, 0), (1, 1), (2, 2), (3, 3), (4, 4), (5, 5), (6, 6), (7, 7)] rfl (by simp [hmapOk, nget, hget, renB, okB, renV, renVs, rn, okVs, okV]) rfl rfl (fun r h' n' hrr => ?_)) (by simp [ales, ale, pvle, I.val])
    obtain ⟨ws2, D2, e1, e2, e3, h2, c2⟩ := hrr
    subst e1 e2 e3
    conv => cbv
    refine CallF.le (args0 := [.ptr 0 (.lit 0), .p (.int .i64 (.sym s)), .p (.int .i64 (.sym (-1)))]) (callF_frame (setNextM_lx R ws2 C G N W ph sp cy L D2 Q z ov h2 _ c2 o ho hph s (-1) g c w n p r_ m_ ((upd_ne hsc).trans ((upd_ne hxs.symm).trans hMs)) (by decide) hm2) [(0, 0), (1, 1), (2, 2), (3, 3), (4, 4), (5, 5), (6, 6), (7, 7)] rfl (by simp [hmapOk, nget, hget, renB, okB, renV, renVs, rn, okVs, okV]) rfl rfl (fun r h' n' hrr => ?_)) (by simp [ales, ale, pvle, I.val])
    obtain ⟨ws3, D3, e1, e2, e3, h3, c3⟩ := hrr
    subst e1 e2 e3
    conv => cbv
    refine RetF.mk [.p (.int .i64 (.sym 0))] [(0, .mix [.ptr 1 (.lit 0), .ptr 5 (.lit 0), .sl 6 3 1 (.lit 0) (.sym W), .p (.int .i64 (.sym ph)), .p (.int .i64 (.sym sp)), .p (.int .i64 (.sym cy))]), (1, .mix [.ptr 2 (.lit 0), .sl 4 3 1 (.lit 0) (.sym W)]), (2, .mix [.sl 3 214 2 (.lit 0) (.sym N)]), (3, .pure true L), (4, .pure true D3), (5, .pure false [.str fun _ => z, .bool ov]), (6, .pure true Q), (7, .fix 0 o)] 8 (Re.at [(0, 0), (1, 1), (2, 2), (3, 3), (4, 4), (5, 5), (6, 6), (7, 7)] []) rfl ⟨0, ws3, D3, rfl, rfl, rfl, rfl, h3, by rw [heq]; exact c3⟩
set_option maxHeartbeats 8000000 in
theorem listPush1_lx (R : List Rw) (ws C G : List Int) (N W ph sp cy : Int) (L D Q : List PV) (z : ByteArray) (ov : Bool) (h : HM R ws C G N W L D Q z) (M : Hp) (hM : Cont R ws M) (q : Qs) (hY : Sys M q) (o : Unit → Obj) (ho : IsPow o) (hph : ph = 0) (hch : ∀ a F, M a = some (1, F) → ∃ y0 y1 y2 y3 y4 y5 y6 y7 y8, F = [y0, y1, y2, y3, y4, y5, y6, y7, y8]) (hsu : ∀ a F, M a = some (3, F) → ∃ z0 z1 z2 z3 z4 z5 z6, F = [z0, z1, z2, z3, z4, z5, z6]) (c s y0 y1 y2 y3 y4 y5 y6 y7 y8 g w n p r_ m_ : Int) (hMc : M c = some (1, [y0, y1, y2, y3, y4, y5, y6, y7, y8])) (hMs : M s = some (3, [g, c, w, n, p, r_, m_])) (hns : ∀ d, s ∉ q c d) : CallF (fun _ => Tryz.prog) 16 [.ptr 0 (.lit 0), .p (.int .i64 (.sym c)), .p (.bool true), .p (.int .i64 (.sym s))] [(0, .mix [.ptr 1 (.lit 0), .ptr 5 (.lit 0), .sl 6 3 1 (.lit 0) (.sym W), .p (.int .i64 (.sym ph)), .p (.int .i64 (.sym sp)), .p (.int .i64 (.sym cy))]), (1, .mix [.ptr 2 (.lit 0), .sl 4 3 1 (.lit 0) (.sym W)]), (2, .mix [.sl 3 214 2 (.lit 0) (.sym N)]), (3, .pure true L), (4, .pure true D), (5, .pure false [.str fun _ => z, .bool ov]), (6, .pure true Q), (7, .fix 0 o)] 8 (fun r h n => ∃ (e : Int) (ws' : List Int) (D' : List PV), r = .p (.int .i64 (.sym e)) ∧ e = 0 ∧ h = [(0, .mix [.ptr 1 (.lit 0), .ptr 5 (.lit 0), .sl 6 3 1 (.lit 0) (.sym W), .p (.int .i64 (.sym ph)), .p (.int .i64 (.sym sp)), .p (.int .i64 (.sym cy))]), (1, .mix [.ptr 2 (.lit 0), .sl 4 3 1 (.lit 0) (.sym W)]), (2, .mix [.sl 3 214 2 (.lit 0) (.sym N)]), (3, .pure true L), (4, .pure true D'), (5, .pure false [.str fun _ => z, .bool ov]), (6, .pure true Q), (7, .fix 0 o)] ∧ n = 8 ∧ HM R ws' C G N W L D' Q z ∧ Cont R ws' (relink M (updQ q c true (q c true ++ [s])))) := by
  obtain ⟨hY2, hpe, hpn⟩ := hY.push (d := true) hMc hMs hns
  obtain ⟨hp, hb⟩ := hM.chan h.a hMc
  have hsl := hM.len h.a hMs
  have hRr := h.r
  have hcl := hY.len h.a hM c true
  have hs1 : -1 ≤ s := by omega
  have hs2 : b62 s := by unfold b62; omega
  have hsc : s ≠ c := fun e => by rw [e, hMc] at hMs; cases hMs
  have hh1 : -1 ≤ y7 := hp _ (by simp)
  have hh2 : b62 y7 := hb _ (by simp)
  have hm2 : b62 (-1) := by unfold b62; omega
  refine callF_of_body tok Tryz.func16 (by kernel_rfl) rfl rfl rfl ?_; conv => cbv
  refine callF_frame (chanM_lx R ws C G N W ph sp cy L D Q z ov h M hM c y0 y1 y2 y3 y4 y5 y6 y7 y8 hMc) [(0, 0), (1, 1), (2, 2), (3, 3), (4, 4), (5, 5), (6, 6)] rfl (by simp [hmapOk, nget, hget, renB, okB, renV, renVs, rn, okVs, okV]) rfl rfl (fun r h' n' hrr => ?_)
  obtain ⟨⟨e0, e1, he0⟩, e2, e3⟩ := hrr
  subst e1 e2 e3
  conv => cbv
  refine Br.no (show ¬ ¬ (e0 = 0) from fun q => q he0) ?_
  conv => cbv
  refine callF_frame (sudogM_lx R ws C G N W ph sp cy L D Q z ov h M hM s g c w n p r_ m_ hMs) [(0, 0), (1, 1), (2, 2), (3, 3), (4, 4), (5, 5), (6, 6)] rfl (by simp [hmapOk, nget, hget, renB, okB, renV, renVs, rn, okVs, okV]) rfl rfl (fun r h' n' hrr => ?_)
  obtain ⟨⟨e5, e1, he5⟩, e2, e3⟩ := hrr
  subst e1 e2 e3
  conv => cbv
  refine Br.no (show ¬ ¬ (e5 = 0) from fun q => q he5) ?_
  conv => cbv
  refine callF_frame (lends_lx y0 y1 y2 y3 y4 y5 y6 y7 y8 true) [] rfl trivial rfl rfl (fun r h' n' hrr => ?_)
  obtain ⟨⟨hd, tl, e1, hhd, htl⟩, e2, e3⟩ := hrr
  subst e1 e2 e3
  obtain rfl : y7 = hd := hhd.symm
  conv => cbv
  refine callF_frame (listAll_lx R ws C G N W ph sp cy L D Q z ov h M hM q hY c true (hch c) hsu) [(0, 0), (1, 1), (2, 2), (3, 3), (4, 4), (5, 5), (6, 6)] rfl (by simp [hmapOk, nget, hget, renB, okB, renV, renVs, rn, okVs, okV]) rfl rfl (fun r h' n' hrr => ?_)
  obtain ⟨ml, cells, e1, e2, e3, hml, hcel⟩ := hrr
  subst e1 e2 e3
  conv => cbv
  refine Br.mk (fun gm => ?_) (fun gm => ?_)
  · have gm : ml = 0 := gm
    have he : q c true = [] := List.eq_nil_of_length_eq_zero (by omega)
    conv => cbv
    refine CallF.le (args0 := [.ptr 0 (.lit 0), .p (.int .i64 (.sym c)), .p (.bool true), .p (.int .i64 (.sym s)), .p (.int .i64 (.sym s))]) (callF_frame (setEnds1_lx R ws C G N W ph sp cy L D Q z ov h M hM o ho hph c s s y0 y1 y2 y3 y4 y5 y6 y7 y8 hMc ⟨hs1, hs2⟩ ⟨hs1, hs2⟩) [(0, 0), (1, 1), (2, 2), (3, 3), (4, 4), (5, 5), (6, 6), (7, 7)] rfl (by simp [hmapOk, nget, hget, renB, okB, renV, renVs, rn, okVs, okV]) rfl rfl (fun r h' n' hrr => ?_)) (by simp [ales, ale, pvle, I.val])
    obtain ⟨ws1, D1, e1, e2, e3, h1, c1⟩ := hrr
    subst e1 e2 e3
    conv => cbv
    refine CallF.le (args0 := [.ptr 0 (.lit 0), .p (.int .i64 (.sym s)), .p (.int .i64 (.sym (-1)))]) (callF_frame (setNextM_lx R ws1 C G N W ph sp cy L D1 Q z ov h1 _ c1 o ho hph s (-1) g c w n p r_ m_ ((upd_ne hsc).trans hMs) (by decide) hm2) [(0, 0), (1, 1), (2, 2), (3, 3), (4, 4), (5, 5), (6, 6), (7, 7)] rfl (by simp [hmapOk, nget, hget, renB, okB, renV, renVs, rn, okVs, okV]) rfl rfl (fun r h' n' hrr => ?_)) (by simp [ales, ale, pvle, I.val])
    obtain ⟨ws2, D2, e1, e2, e3, h2, c2⟩ := hrr
    subst e1 e2 e3
    conv => cbv
    refine RetF.mk [.p (.int .i64 (.sym 0))] [(0, .mix [.ptr 1 (.lit 0), .ptr 5 (.lit 0), .sl 6 3 1 (.lit 0) (.sym W), .p (.int .i64 (.sym ph)), .p (.int .i64 (.sym sp)), .p (.int .i64 (.sym cy))]), (1, .mix [.ptr 2 (.lit 0), .sl 4 3 1 (.lit 0) (.sym W)]), (2, .mix [.sl 3 214 2 (.lit 0) (.sym N)]), (3, .pure true L), (4, .pure true D2), (5, .pure false [.str fun _ => z, .bool ov]), (6, .pure true Q), (7, .fix 0 o)] 8 (Re.at [(0, 0), (1, 1), (2, 2), (3, 3), (4, 4), (5, 5), (6, 6), (7, 7)] []) rfl ⟨0, ws2, D2, rfl, rfl, rfl, rfl, h2, by rw [hpe he]; exact c2⟩
  · have gm : ¬ ml = 0 := gm
    have he : q c true ≠ [] := fun e => gm (by rw [hml, e]; rfl)
    obtain ⟨gx, wx, nx, px, rx, mx, hMx, hxs, heq⟩ := hpn he
    obtain ⟨x, hx⟩ : ∃ x, x = ltQ (q c true) := ⟨_, rfl⟩
    rw [← hx] at hMx hxs heq
    have hxc : x ≠ c := fun e => by rw [e, hMc] at hMx; cases hMx
    obtain ⟨k1, hk1⟩ : ∃ k1, k1 = ml - 1 := ⟨_, rfl⟩
    have hcell : cells[k1.toNat]? = some (.int .i64 (.sym x)) := by
      rw [hcel]
      refine ipv_get ?_
      rw [hx]
      unfold ltQ
      rw [List.getLast?_eq_getElem?, show (q c true).length - 1 = k1.toNat by omega]
      obtain ⟨v, hv⟩ : ∃ v, (q c true)[k1.toNat]? = some v := ⟨_, List.getElem?_eq_getElem (by omega)⟩
      rw [hv]; rfl
    conv => cbv
    refine Fit.mk (by show (-9223372036854775808 : Int) ≤ ml - 1; omega) (by show ml - 1 ≤ 9223372036854775807; omega) fun k2 hk2 => ?_
    obtain rfl : k1 = k2 := hk1.trans (show k2 = ml - 1 from hk2).symm
    conv => cbv
    refine Need.mk (show 0 ≤ k1 ∧ k1 < ml by omega) ?_
    conv => cbv
    refine Cell.at k1 _ hcell (by simp [I.val]) rfl ?_
    conv => cbv
    refine CallF.le (args0 := [.ptr 0 (.lit 0), .p (.int .i64 (.sym x)), .p (.int .i64 (.sym s))]) (callF_frame (setNextM_lx R ws C G N W ph sp cy L D Q z ov h M hM o ho hph x s gx c wx nx px rx mx hMx hs1 hs2) [(0, 0), (1, 1), (2, 2), (3, 3), (4, 4), (5, 5), (6, 6), (7, 7)] rfl (by simp [hmapOk, nget, hget, renB, okB, renV, renVs, rn, okVs, okV]) rfl rfl (fun r h' n' hrr => ?_)) (by simp [ales, ale, pvle, I.val])
    obtain ⟨ws1, D1, e1, e2, e3, h1, c1⟩ := hrr
    subst e1 e2 e3
    conv => cbv
    refine CallF.le (args0 := [.ptr 0 (.lit 0), .p (.int .i64 (.sym c)), .p (.bool true), .p (.int .i64 (.sym y7)), .p (.int .i64 (.sym s))]) (callF_frame (setEnds1_lx R ws1 C G N W ph sp cy L D1 Q z ov h1 _ c1 o ho hph c y7 s y0 y1 y2 y3 y4 y5 y6 y7 y8 ((upd_ne hxc.symm).trans hMc) ⟨hh1, hh2⟩ ⟨hs1, hs2⟩) [(0, 0), (1, 1), (2, 2), (3, 3), (4, 4), (5, 5), (6, 6), (7, 7)] rfl (by simp [hmapOk, nget, hget, renB, okB, renV, renVs, rn, okVs, okV]) rfl rfl (fun r h' n' hrr => ?_)) (by simp [ales, ale, pvle, I.val])
    obtain ⟨ws2, D2, e1, e2, e3, h2, c2⟩ := hrr
    subst e1 e2 e3
    conv => cbv
    refine CallF.le (args0 := [.ptr 0 (.lit 0), .p (.int .i64 (.sym s)), .p (.int .i64 (.sym (-1)))]) (callF_frame (setNextM_lx R ws2 C G N W ph sp cy L D2 Q z ov h2 _ c2 o ho hph s (-1) g c w n p r_ m_ ((upd_ne hsc).trans ((upd_ne hxs.symm).trans hMs)) (by decide) hm2) [(0, 0), (1, 1), (2, 2), (3, 3), (4, 4), (5, 5), (6, 6), (7, 7)] rfl (by simp [hmapOk, nget, hget, renB, okB, renV, renVs, rn, okVs, okV]) rfl rfl (fun r h' n' hrr => ?_)) (by simp [ales, ale, pvle, I.val])
    obtain ⟨ws3, D3, e1, e2, e3, h3, c3⟩ := hrr
    subst e1 e2 e3
    conv => cbv
    refine RetF.mk [.p (.int .i64 (.sym 0))] [(0, .mix [.ptr 1 (.lit 0), .ptr 5 (.lit 0), .sl 6 3 1 (.lit 0) (.sym W), .p (.int .i64 (.sym ph)), .p (.int .i64 (.sym sp)), .p (.int .i64 (.sym cy))]), (1, .mix [.ptr 2 (.lit 0), .sl 4 3 1 (.lit 0) (.sym W)]), (2, .mix [.sl 3 214 2 (.lit 0) (.sym N)]), (3, .pure true L), (4, .pure true D3), (5, .pure false [.str fun _ => z, .bool ov]), (6, .pure true Q), (7, .fix 0 o)] 8 (Re.at [(0, 0), (1, 1), (2, 2), (3, 3), (4, 4), (5, 5), (6, 6), (7, 7)] []) rfl ⟨0, ws3, D3, rfl, rfl, rfl, rfl, h3, by rw [heq]; exact c3⟩
end Go.Proofs.YtjgbhpclmlcbbaaGreatDoor
/-
  Who waits at a channel: Pop; what is refused.
-/
namespace Go.Proofs.YtjgbhpclmlcbbaaGreatDoor

open Go Go.LX
set_option maxRecDepth 100000
set_option linter.unusedVariables false
set_option linter.unusedSimpArgs false

set_option maxHeartbeats 8000000 in
theorem listPop1_lx (R : List Rw) (ws C G : List Int) (N W ph sp cy : Int) (L D Q : List PV) (z : ByteArray) (ov : Bool) (h : HM R ws C G N W L D Q z) (M : Hp) (hM : Cont R ws M) (q : Qs) (hY : Sys M q) (o : Unit → Obj) (ho : IsPow o) (hph : ph = 0) (hch : ∀ a F, M a = some (1, F) → ∃ y0 y1 y2 y3 y4 y5 y6 y7 y8, F = [y0, y1, y2, y3, y4, y5, y6, y7, y8]) (hsu : ∀ a F, M a = some (3, F) → ∃ z0 z1 z2 z3 z4 z5 z6, F = [z0, z1, z2, z3, z4, z5, z6]) (c s y0 y1 y2 y3 y4 y5 y6 y7 y8 g w n p r_ m_ : Int) (B : List Int) (hq : q c true = s :: B) (hMc : M c = some (1, [y0, y1, y2, y3, y4, y5, y6, y7, y8])) (hMs : M s = some (3, [g, c, w, n, p, r_, m_])) : CallF (fun _ => Tryz.prog) 57 [.ptr 0 (.lit 0), .p (.int .i64 (.sym c)), .p (.bool true)] [(0, .mix [.ptr 1 (.lit 0), .ptr 5 (.lit 0), .sl 6 3 1 (.lit 0) (.sym W), .p (.int .i64 (.sym ph)), .p (.int .i64 (.sym sp)), .p (.int .i64 (.sym cy))]), (1, .mix [.ptr 2 (.lit 0), .sl 4 3 1 (.lit 0) (.sym W)]), (2, .mix [.sl 3 214 2 (.lit 0) (.sym N)]), (3, .pure true L), (4, .pure true D), (5, .pure false [.str fun _ => z, .bool ov]), (6, .pure true Q), (7, .fix 0 o)] 8 (fun r h n => ∃ (ws' : List Int) (D' : List PV), r = .tup [.p (.int .i64 (.sym s)), .p (.bool true)] ∧ h = [(0, .mix [.ptr 1 (.lit 0), .ptr 5 (.lit 0), .sl 6 3 1 (.lit 0) (.sym W), .p (.int .i64 (.sym ph)), .p (.int .i64 (.sym sp)), .p (.int .i64 (.sym cy))]), (1, .mix [.ptr 2 (.lit 0), .sl 4 3 1 (.lit 0) (.sym W)]), (2, .mix [.sl 3 214 2 (.lit 0) (.sym N)]), (3, .pure true L), (4, .pure true D'), (5, .pure false [.str fun _ => z, .bool ov]), (6, .pure true Q), (7, .fix 0 o)] ∧ n = 8 ∧ HM R ws' C G N W L D' Q z ∧ Cont R ws' (relink M (updQ q c true B))) := by
  obtain ⟨hnB, heq⟩ := hY.pop hq hMc hMs
  obtain ⟨hp, hb⟩ := hM.chan h.a hMc
  obtain ⟨hp3, hb3, _⟩ := hM.sudog h.a hMs
  have hlk := hY.lnk hMc
  rw [lnk_chan] at hlk
  simp only [Prod.mk.injEq, List.cons.injEq, true_and, and_true] at hlk
  obtain ⟨hl5, hl6, hl7, hl8⟩ := hlk
  have hsl := hM.len h.a hMs
  have hsc : s ≠ c := fun e => by rw [e, hMc] at hMs; cases hMs
  have hn1 : -1 ≤ n := hp3 _ (by simp)
  have hn2 : b62 n := hb3 _ (by simp)
  have ht1 : -1 ≤ y8 := hp _ (by simp)
  have ht2 : b62 y8 := hb _ (by simp)
  have hm2 : b62 (-1) := by unfold b62; omega
  have hBn : n = -1 ↔ B = [] := by
    rw [hnB]
    constructor
    · intro e
      cases hB : B with
      | nil => rfl
      | cons x l =>
        have hx : x ∈ q c true := by rw [hq, hB]; simp
        obtain ⟨g', w', n', p', r', m', e'⟩ := hY.sg c true x hx
        have := (hM.len h.a e').2.1
        rw [hB] at e
        have : x = -1 := e
        omega
    · intro e; rw [e]; rfl
  have htl : ltQ B = if n = -1 then -1 else y8 := by
    rw [ltQ_tail (a := s), ← hq]
    by_cases e : B = []
    · rw [if_pos e, if_pos (hBn.2 e)]
    · rw [if_neg e, if_neg (fun k => e (hBn.1 k))]; exact hl8
  refine callF_of_body tok Tryz.func57 (by kernel_rfl) rfl rfl rfl ?_; conv => cbv
  refine callF_frame (listAll_lx R ws C G N W ph sp cy L D Q z ov h M hM q hY c true (hch c) hsu) [(0, 0), (1, 1), (2, 2), (3, 3), (4, 4), (5, 5), (6, 6)] rfl (by simp [hmapOk, nget, hget, renB, okB, renV, renVs, rn, okVs, okV]) rfl rfl (fun r h' n' hrr => ?_)
  obtain ⟨ml, cells, e1, e2, e3, hml, hcel⟩ := hrr
  subst e1 e2 e3
  conv => cbv
  have hml1 : 0 < ml := by rw [hml, hq]; simp
  have hcell : cells[(0 : Int).toNat]? = some (.int .i64 (.sym s)) := by rw [hcel, hq]; rfl
  refine Br.no (show ¬ (ml = 0) by omega) ?_
  conv => cbv
  refine callF_frame (chanM_lx R ws C G N W ph sp cy L D Q z ov h M hM c y0 y1 y2 y3 y4 y5 y6 y7 y8 hMc) [(0, 0), (1, 1), (2, 2), (3, 3), (4, 4), (5, 5), (6, 6)] rfl (by simp [hmapOk, nget, hget, renB, okB, renV, renVs, rn, okVs, okV]) rfl rfl (fun r h' n' hrr => ?_)
  obtain ⟨⟨e0, e1, he0⟩, e2, e3⟩ := hrr
  subst e1 e2 e3
  conv => cbv
  refine callF_frame (lends_lx y0 y1 y2 y3 y4 y5 y6 y7 y8 true) [] rfl trivial rfl rfl (fun r h' n' hrr => ?_)
  obtain ⟨⟨hd, tl, e1, hhd, htl2⟩, e2, e3⟩ := hrr
  subst e1 e2 e3
  obtain rfl : y8 = tl := htl2.symm
  conv => cbv
  refine Need.mk (show 0 ≤ (0 : Int) ∧ 0 < ml by omega) ?_
  conv => cbv
  refine Cell.at 0 _ hcell (by simp [I.val]) rfl ?_
  conv => cbv
  refine callF_frame (sudogM_lx R ws C G N W ph sp cy L D Q z ov h M hM s g c w n p r_ m_ hMs) [(0, 0), (1, 1), (2, 2), (3, 3), (4, 4), (5, 5), (6, 6)] rfl (by simp [hmapOk, nget, hget, renB, okB, renV, renVs, rn, okVs, okV]) rfl rfl (fun r h' n' hrr => ?_)
  obtain ⟨⟨e5, e1, he5⟩, e2, e3⟩ := hrr
  subst e1 e2 e3
  conv => cbv
  refine Br.mk (fun gn => ?_) (fun gn => ?_)
  · have gn : n = -1 := gn
    rw [if_pos gn] at htl
    rw [htl, ← hnB] at heq
    conv => cbv
    refine CallF.le (args0 := [.ptr 0 (.lit 0), .p (.int .i64 (.sym c)), .p (.bool true), .p (.int .i64 (.sym n)), .p (.int .i64 (.sym (-1)))]) (callF_frame (setEnds1_lx R ws C G N W ph sp cy L D Q z ov h M hM o ho hph c n (-1) y0 y1 y2 y3 y4 y5 y6 y7 y8 hMc ⟨hn1, hn2⟩ ⟨by decide, hm2⟩) [(0, 0), (1, 1), (2, 2), (3, 3), (4, 4), (5, 5), (6, 6), (7, 7)] rfl (by simp [hmapOk, nget, hget, renB, okB, renV, renVs, rn, okVs, okV]) rfl rfl (fun r h' n' hrr => ?_)) (by simp [ales, ale, pvle, I.val])
    obtain ⟨ws1, D1, e1, e2, e3, h1, c1⟩ := hrr
    subst e1 e2 e3
    conv => cbv
    refine Need.mk (show 0 ≤ (0 : Int) ∧ 0 < ml by omega) ?_
    conv => cbv
    refine Cell.at 0 _ hcell (by simp [I.val]) rfl ?_
    conv => cbv
    refine CallF.le (args0 := [.ptr 0 (.lit 0), .p (.int .i64 (.sym s)), .p (.int .i64 (.sym (-1)))]) (callF_frame (setNextM_lx R ws1 C G N W ph sp cy L D1 Q z ov h1 _ c1 o ho hph s (-1) g c w n p r_ m_ ((upd_ne hsc).trans hMs) (by decide) hm2) [(0, 0), (1, 1), (2, 2), (3, 3), (4, 4), (5, 5), (6, 6), (7, 7)] rfl (by simp [hmapOk, nget, hget, renB, okB, renV, renVs, rn, okVs, okV]) rfl rfl (fun r h' n' hrr => ?_)) (by simp [ales, ale, pvle, I.val])
    obtain ⟨ws2, D2, e1, e2, e3, h2, c2⟩ := hrr
    subst e1 e2 e3
    conv => cbv
    refine Need.mk (show 0 ≤ (0 : Int) ∧ 0 < ml by omega) ?_
    conv => cbv
    refine Cell.at 0 _ hcell (by simp [I.val]) rfl ?_
    conv => cbv
    refine RetF.mk [.p (.int .i64 (.sym s)), .p (.bool true)] [(0, .mix [.ptr 1 (.lit 0), .ptr 5 (.lit 0), .sl 6 3 1 (.lit 0) (.sym W), .p (.int .i64 (.sym ph)), .p (.int .i64 (.sym sp)), .p (.int .i64 (.sym cy))]), (1, .mix [.ptr 2 (.lit 0), .sl 4 3 1 (.lit 0) (.sym W)]), (2, .mix [.sl 3 214 2 (.lit 0) (.sym N)]), (3, .pure true L), (4, .pure true D2), (5, .pure false [.str fun _ => z, .bool ov]), (6, .pure true Q), (7, .fix 0 o)] 8 (Re.at [(0, 0), (1, 1), (2, 2), (3, 3), (4, 4), (5, 5), (6, 6), (7, 7)] []) rfl ⟨ws2, D2, rfl, rfl, rfl, h2, by rw [heq]; exact c2⟩
  · have gn : ¬ n = -1 := gn
    rw [if_neg gn] at htl
    rw [htl, ← hnB] at heq
    conv => cbv
    refine CallF.le (args0 := [.ptr 0 (.lit 0), .p (.int .i64 (.sym c)), .p (.bool true), .p (.int .i64 (.sym n)), .p (.int .i64 (.sym y8))]) (callF_frame (setEnds1_lx R ws C G N W ph sp cy L D Q z ov h M hM o ho hph c n y8 y0 y1 y2 y3 y4 y5 y6 y7 y8 hMc ⟨hn1, hn2⟩ ⟨ht1, ht2⟩) [(0, 0), (1, 1), (2, 2), (3, 3), (4, 4), (5, 5), (6, 6), (7, 7)] rfl (by simp [hmapOk, nget, hget, renB, okB, renV, renVs, rn, okVs, okV]) rfl rfl (fun r h' n' hrr => ?_)) (by simp [ales, ale, pvle, I.val])
    obtain ⟨ws1, D1, e1, e2, e3, h1, c1⟩ := hrr
    subst e1 e2 e3
    conv => cbv
    refine Need.mk (show 0 ≤ (0 : Int) ∧ 0 < ml by omega) ?_
    conv => cbv
    refine Cell.at 0 _ hcell (by simp [I.val]) rfl ?_
    conv => cbv
    refine CallF.le (args0 := [.ptr 0 (.lit 0), .p (.int .i64 (.sym s)), .p (.int .i64 (.sym (-1)))]) (callF_frame (setNextM_lx R ws1 C G N W ph sp cy L D1 Q z ov h1 _ c1 o ho hph s (-1) g c w n p r_ m_ ((upd_ne hsc).trans hMs) (by decide) hm2) [(0, 0), (1, 1), (2, 2), (3, 3), (4, 4), (5, 5), (6, 6), (7, 7)] rfl (by simp [hmapOk, nget, hget, renB, okB, renV, renVs, rn, okVs, okV]) rfl rfl (fun r h' n' hrr => ?_)) (by simp [ales, ale, pvle, I.val])
    obtain ⟨ws2, D2, e1, e2, e3, h2, c2⟩ := hrr
    subst e1 e2 e3
    conv => cbv
    refine Need.mk (show 0 ≤ (0 : Int) ∧ 0 < ml by omega) ?_
    conv => cbv
    refine Cell.at 0 _ hcell (by simp [I.val]) rfl ?_
    conv => cbv
    refine RetF.mk [.p (.int .i64 (.sym s)), .p (.bool true)] [(0, .mix [.ptr 1 (.lit 0), .ptr 5 (.lit 0), .sl 6 3 1 (.lit 0) (.sym W), .p (.int .i64 (.sym ph)), .p (.int .i64 (.sym sp)), .p (.int .i64 (.sym cy))]), (1, .mix [.ptr 2 (.lit 0), .sl 4 3 1 (.lit 0) (.sym W)]), (2, .mix [.sl 3 214 2 (.lit 0) (.sym N)]), (3, .pure true L), (4, .pure true D2), (5, .pure false [.str fun _ => z, .bool ov]), (6, .pure true Q), (7, .fix 0 o)] 8 (Re.at [(0, 0), (1, 1), (2, 2), (3, 3), (4, 4), (5, 5), (6, 6), (7, 7)] []) rfl ⟨ws2, D2, rfl, rfl, rfl, h2, by rw [heq]; exact c2⟩
end Go.Proofs.YtjgbhpclmlcbbaaGreatDoor
/-
  The bench of layer 13: a new sudog.
-/
namespace Go.Proofs.YtjgbhpclmlcbbaaGreatDoor

open Go Go.LX
set_option maxRecDepth 100000
set_option linter.unusedVariables false
set_option linter.unusedSimpArgs false

theorem upd_upd (M : Hp) (a : Int) (v w : Int × List Int) : upd (upd M a v) a w = upd M a w := by
  funext b
  unfold upd
  split <;> rfl
set_option maxHeartbeats 8000000 in
theorem sudog13_lx (R : List Rw) (ws vs C : List Int) (N W ph sp cy : Int) (L D Q : List PV) (z : ByteArray) (ov : Bool) (P B V Qr la : List PV) (m : Int) (M : Hp) (nc ng : Int) (cs gs : List PV) (o : Unit → Obj) (S : Bst R ws vs C N W ph L D Q z P B V Qr la m M) (ho : IsPow o) (c g : Int) (grs : List Int) (hgs : gs = ipv grs) (hng : ng = grs.length) (hn1 : 0 < ng ∧ ng ≤ 100) (hg0 : grs[0]? = some g) (hg : -1 ≤ g ∧ b62 g) (hc : -1 ≤ c ∧ b62 c) (hroom : objCount R < R.length) : CallF (fun _ => Tryz.prog) 14 [.ptr 16 (.lit 0), .p (.int .i64 (.sym c))] [(0, .mix [.ptr 1 (.lit 0), .ptr 5 (.lit 0), .sl 6 3 1 (.lit 0) (.sym W), .p (.int .i64 (.sym ph)), .p (.int .i64 (.sym sp)), .p (.int .i64 (.sym cy))]), (1, .mix [.ptr 2 (.lit 0), .sl 4 3 1 (.lit 0) (.sym W)]), (2, .mix [.sl 3 214 2 (.lit 0) (.sym N)]), (3, .pure true L), (4, .pure true D), (5, .pure false [.str fun _ => z, .bool ov]), (6, .pure true Q), (7, .mix [.ptr 8 (.lit 0), .sl 13 3 1 (.lit 0) (.sym W), .ptr 14 (.lit 0), .p (.int .i64 (.sym ph)), .p (.int .i64 (.sym sp)), .p (.int .i64 (.sym cy))]), (8, .mix [.ptr 9 (.lit 0), .sl 12 3 1 (.lit 0) (.sym W)]), (9, .mix [.sl 10 3 1 (.lit 0) (.sym N), .sl 11 209 8 (.lit 0) (.sym N)]), (10, .pure true P), (11, .pure true B), (12, .pure true V), (13, .pure true Qr), (14, .mix [.p (.vsl (.sym m) true la), .p (.bool ov)]), (15, .fix 0 o), (16, .mix [.ptr 0 (.lit 0), .ptr 7 (.lit 0), .sl 17 3 1 (.lit 0) (.sym nc), .sl 18 3 1 (.lit 0) (.sym ng)]), (17, .pure true cs), (18, .pure true gs)] 19 (fun r h n' => ∃ (x : Int) (R' : List Rw) (ws' vs' : List Int) (L' D' P' B' V' : List PV), r = .p (.int .i64 (.sym x)) ∧ h = [(0, .mix [.ptr 1 (.lit 0), .ptr 5 (.lit 0), .sl 6 3 1 (.lit 0) (.sym W), .p (.int .i64 (.sym ph)), .p (.int .i64 (.sym sp)), .p (.int .i64 (.sym cy))]), (1, .mix [.ptr 2 (.lit 0), .sl 4 3 1 (.lit 0) (.sym W)]), (2, .mix [.sl 3 214 2 (.lit 0) (.sym N)]), (3, .pure true L'), (4, .pure true D'), (5, .pure false [.str fun _ => z, .bool ov]), (6, .pure true Q), (7, .mix [.ptr 8 (.lit 0), .sl 13 3 1 (.lit 0) (.sym W), .ptr 14 (.lit 0), .p (.int .i64 (.sym ph)), .p (.int .i64 (.sym sp)), .p (.int .i64 (.sym cy))]), (8, .mix [.ptr 9 (.lit 0), .sl 12 3 1 (.lit 0) (.sym W)]), (9, .mix [.sl 10 3 1 (.lit 0) (.sym N), .sl 11 209 8 (.lit 0) (.sym N)]), (10, .pure true P'), (11, .pure true B'), (12, .pure true V'), (13, .pure true Qr), (14, .mix [.p (.vsl (.sym m) true la), .p (.bool ov)]), (15, .fix 0 o), (16, .mix [.ptr 0 (.lit 0), .ptr 7 (.lit 0), .sl 17 3 1 (.lit 0) (.sym nc), .sl 18 3 1 (.lit 0) (.sym ng)]), (17, .pure true cs), (18, .pure true gs)] ∧ n' = 19 ∧ Bst R' ws' vs' C N W ph L' D' Q z P' B' V' Qr la m (upd M x (3, [g, c, 0, -1, 0, 0, -1])) ∧ objCount R' = objCount R + 1 ∧ M x = Option.none ∧ 0 ≤ x ∧ x < W ∧ R'.length = R.length) := by
  refine callF_of_body tok Tryz.func14 (by kernel_rfl) rfl rfl rfl ?_; conv => cbv
  refine CallF.le (args0 := [.ptr 16 (.lit 0), .p (.int .i64 (.sym 3)), .p (.int .i64 (.sym 7))]) (callF_frame (alloc13_lx R ws vs C N W ph sp cy L D Q z ov P B V Qr la m M nc ng cs gs o S 3 7 (by decide) ⟨fun q => absurd q (by decide), fun _ => rfl, fun q => absurd q (by decide)⟩ hroom) [(0, 0), (1, 1), (2, 2), (3, 3), (4, 4), (5, 5), (6, 6), (7, 7), (8, 8), (9, 9), (10, 10), (11, 11), (12, 12), (13, 13), (14, 14), (15, 15), (16, 16), (17, 17), (18, 18)] rfl (by simp [hmapOk, nget, hget, renB, okB, renV, renVs, rn, okVs, okV]) rfl rfl (fun r h' n' hrr => ?_)) (by simp [ales, ale, pvle, I.val])
  obtain ⟨x, R1, ws1, vs1, L1, D1, P1, B1, V1, e1, e2, e3, S1, hk1, hx1, hp1, hq1, hl1⟩ := hrr
  subst e1 e2 e3
  conv => cbv
  refine CallF.le (args0 := [.ptr 16 (.lit 0), .p (.int .i64 (.sym 0))]) (callF_frame (gor13_lx R1 ws1 vs1 C N W ph sp cy L1 D1 Q z ov P1 B1 V1 Qr la m M nc ng cs gs o 0 grs hgs hng hn1.1 hn1.2) [(0, 0), (1, 1), (2, 2), (3, 3), (4, 4), (5, 5), (6, 6), (7, 7), (8, 8), (9, 9), (10, 10), (11, 11), (12, 12), (13, 13), (14, 14), (15, 15), (16, 16), (17, 17), (18, 18)] rfl (by simp [hmapOk, nget, hget, renB, okB, renV, renVs, rn, okVs, okV]) rfl rfl (fun r h' n' hrr => ?_)) (by simp [ales, ale, pvle, I.val])
  obtain ⟨⟨g2, e1, hg2⟩, e2, e3⟩ := hrr
  subst e1 e2 e3
  conv => cbv
  obtain rfl : g = g2 := by
    rw [show IntKind.u64.wrap 0 = 0 by decide, Int.zero_emod] at hg2
    exact Option.some.inj (hg0.symm.trans hg2)
  have hbb : ∀ q ∈ [g, c, -1, 0, 0, -1], b62 q := by
    simp only [List.forall_mem_cons]
    exact ⟨hg.2, hc.2, by unfold b62; omega, by unfold b62; omega, by unfold b62; omega, by unfold b62; omega, fun x hx => by cases hx⟩
  have hw0 : ∀ q ∈ [(0 : Int)], -9223372036854775808 ≤ q ∧ q ≤ 9223372036854775807 := by decide
  have hpp : ∀ q ∈ [g, c, -1, -1], -1 ≤ q := by
    simp only [List.forall_mem_cons]
    exact ⟨hg.1, hc.1, by omega, by omega, fun x hx => by cases hx⟩
  refine drawn_sound tok (by kernel_rfl) [(6, [])] [0, 1, 2, 3, 4, 5, 6] (by kernel_rfl) ?_; conv => cbv
  refine CallF.le (args0 := [.ptr 0 (.lit 0), .p (.int .i64 (.sym x)), .agg [.p (.int .i64 (.sym g)), .p (.int .i64 (.sym c)), .p (.int .i64 (.sym 0)), .p (.int .i64 (.sym (-1))), .p (.int .i64 (.sym 0)), .p (.int .i64 (.sym 0)), .p (.int .i64 (.sym (-1)))]]) (callF_frame (putSudogM_lx R1 ws1 C [] N W ph sp cy L1 D1 Q z ov S1.h _ S1.c o ho S1.ph x g c 0 (-1) 0 0 (-1) (zerK 3 7) (upd_same _ _ _) rfl hbb hw0 hpp) [(0, 0), (1, 1), (2, 2), (3, 3), (4, 4), (5, 5), (6, 6), (7, 15)] rfl (by simp [hmapOk, nget, hget, renB, okB, renV, renVs, rn, okVs, okV]) rfl rfl (fun r h' n' hrr => ?_)) (by simp [ales, ale, pvle, I.val])
  obtain ⟨e8, ws8, D8, e1, he8, e2, e3, h8, c8⟩ := hrr
  subst e1 e2 e3
  conv => cbv
  refine drawn_sound tok (by kernel_rfl) [(6, [])] [0, 1, 2, 3, 4, 5, 6] (by kernel_rfl) ?_; conv => cbv
  refine CallF.le (args0 := [.ptr 7 (.lit 0), .p (.int .i64 (.sym x)), .agg [.p (.int .i64 (.sym g)), .p (.int .i64 (.sym c)), .p (.int .i64 (.sym 0)), .p (.int .i64 (.sym (-1))), .p (.int .i64 (.sym 0)), .p (.int .i64 (.sym 0)), .p (.int .i64 (.sym (-1)))]]) (callF_frame (rPutSudogM_lx R1 vs1 C [] N W ph sp cy P1 B1 V1 Qr la m ov S1.r _ S1.d S1.ph x g c 0 (-1) 0 0 (-1) (zerK 3 7) (upd_same _ _ _) rfl hbb hw0 hpp) [(0, 7), (1, 8), (2, 9), (3, 10), (4, 11), (5, 12), (6, 13), (7, 14)] rfl (by simp [hmapOk, nget, hget, renB, okB, renV, renVs, rn, okVs, okV]) rfl rfl (fun r h' n' hrr => ?_)) (by simp [ales, ale, pvle, I.val])
  obtain ⟨e9, vs9, V9, e1, he9, e2, e3, h9, c9⟩ := hrr
  subst e1 e2 e3
  conv => cbv
  rw [upd_upd] at c8 c9
  refine RetF.mk [.p (.int .i64 (.sym x))] [(0, .mix [.ptr 1 (.lit 0), .ptr 5 (.lit 0), .sl 6 3 1 (.lit 0) (.sym W), .p (.int .i64 (.sym ph)), .p (.int .i64 (.sym sp)), .p (.int .i64 (.sym cy))]), (1, .mix [.ptr 2 (.lit 0), .sl 4 3 1 (.lit 0) (.sym W)]), (2, .mix [.sl 3 214 2 (.lit 0) (.sym N)]), (3, .pure true L1), (4, .pure true D8), (5, .pure false [.str fun _ => z, .bool ov]), (6, .pure true Q), (7, .mix [.ptr 8 (.lit 0), .sl 13 3 1 (.lit 0) (.sym W), .ptr 14 (.lit 0), .p (.int .i64 (.sym ph)), .p (.int .i64 (.sym sp)), .p (.int .i64 (.sym cy))]), (8, .mix [.ptr 9 (.lit 0), .sl 12 3 1 (.lit 0) (.sym W)]), (9, .mix [.sl 10 3 1 (.lit 0) (.sym N), .sl 11 209 8 (.lit 0) (.sym N)]), (10, .pure true P1), (11, .pure true B1), (12, .pure true V9), (13, .pure true Qr), (14, .mix [.p (.vsl (.sym m) true la), .p (.bool ov)]), (15, .fix 0 o), (16, .mix [.ptr 0 (.lit 0), .ptr 7 (.lit 0), .sl 17 3 1 (.lit 0) (.sym nc), .sl 18 3 1 (.lit 0) (.sym ng)]), (17, .pure true cs), (18, .pure true gs)] 19 (Re.at [(0, 0), (1, 1), (2, 2), (3, 3), (4, 4), (5, 5), (6, 6), (7, 7), (8, 8), (9, 9), (10, 10), (11, 11), (12, 12), (13, 13), (14, 14), (15, 15), (16, 16), (17, 17), (18, 18)] []) rfl ⟨x, R1, ws8, vs9, L1, D8, P1, B1, V9, rfl, rfl, rfl, ⟨h8, h9, c8, c9, S.ph, S.w⟩, hk1, hx1, hp1, hq1, hl1⟩
end Go.Proofs.YtjgbhpclmlcbbaaGreatDoor
/-
  Layer 13: awake.
-/
namespace Go.Proofs.YtjgbhpclmlcbbaaGreatDoor

open Go Go.LX
set_option maxRecDepth 100000
set_option linter.unusedVariables false
set_option linter.unusedSimpArgs false

theorem capW_small {x : Int} (h : 0 ≤ x ∧ x < 4) : capW x = x := by
  unfold capW
  rw [show IntKind.u64.wrap x = x by simp [IntKind.wrap, IntKind.bits, IntKind.signed]; omega]
  omega
theorem chans1 {chs : List Int} {nc : Int} (hn : nc = (chs.length : Int)) (h1 : nc = 1) : ∃ c, chs = [c] := by
  match chs with
  | [c] => exact ⟨c, rfl⟩
  | [] => simp at hn; omega
  | _ :: _ :: _ => simp at hn; omega
theorem ch0 {chs : List Int} {nc x c : Int} (h : chs[(IntKind.u64.wrap 0 % nc).toNat]? = some x) (hc : chs[0]? = some c) : x = c := by
  rw [show IntKind.u64.wrap 0 = 0 by decide, Int.zero_emod] at h
  exact Option.some.inj (h.symm.trans hc)
theorem list9h {M : Hp} {q : Qs} (hY : Sys M q) : ∀ a F, M a = some (1, F) → ∃ y0 y1 y2 y3 y4 y5 y6 y7 y8, F = [y0, y1, y2, y3, y4, y5, y6, y7, y8] := fun a F e => list9 (hY.sc a F e)
theorem list7h {M : Hp} {q : Qs} (hY : Sys M q) : ∀ a F, M a = some (3, F) → ∃ y0 y1 y2 y3 y4 y5 y6, F = [y0, y1, y2, y3, y4, y5, y6] := fun a F e => list7 (hY.ss a F e)
/-- A new sudog, in no row. -/
theorem Sys.newSu {M : Hp} {q : Qs} {x g c : Int} (h : Sys M q) (hx : M x = Option.none) : Sys (upd M x (3, [g, c, 0, -1, 0, 0, -1])) q ∧ ∀ c d, x ∉ q c d := by
  have hn : ∀ c d, x ∉ q c d := fun c d hs => by obtain ⟨g, w, n, p, r, m, e⟩ := h.sg c d x hs; rw [hx] at e; cases e
  refine ⟨h.updv ?_ (fun F e => by rw [hx] at e; cases e) (fun c d e => absurd e (hn c d)) ⟨fun q => absurd (show (3 : Int) = 1 from q) (by decide), fun _ => rfl⟩, hn⟩
  rw [lnk_sudog, nxtQ_not (fun d => hn _ d)]
set_option maxHeartbeats 8000000 in
theorem awake13_lx (o : Unit → Obj) (ho : IsPow o) : CallF (fun _ => Tryz.prog) 13 [] [(0, .fix 0 o)] 1 (fun r h n => r = .p (.bool true) ∧ h = [(0, .fix 0 o)] ∧ n = 1) := by
  refine callF_of_body tok Tryz.func13 (by kernel_rfl) rfl rfl rfl ?_; conv => cbv
  refine CallF.re (args0 := [.p (.vsl (.sym 1) true [.int .i64 (.sym 0)]), .p (.int .i64 (.sym 1))]) (h' := [(0, .fix 0 o)]) (Re.at [(0, 0)] []) (callF_frame (made13_lx o ho [0] 1 1 [.int .i64 (.sym 0)] rfl rfl) [(0, 0)] rfl (by simp [hmapOk, nget, hget, renB, okB, renV, renVs, rn, okVs, okV]) rfl rfl (fun r h' n' hrr => ?_))
  obtain ⟨N, W, C, R, ws, vs, L, D, Q, z, P, B, V, Qr, M, CS, GS, chs, bufs, grs, nc, ng, e1, e2, e3, S, hB, hY, hcs, hgs, hnc, hng, hnm, hn1, hn4, hngo, hcnt, hR, hW⟩ := hrr
  subst e1 e2 e3
  conv => cbv
  have hnc1 : nc = 1 := by omega
  obtain ⟨c, hcc⟩ := chans1 hnc hnc1
  have hc0 : chs[0]? = some c := by rw [hcc]; rfl
  obtain ⟨b, hb0, hBC⟩ := hB.ch 0 c 0 hc0 rfl
  have hMc := hBC.c
  rw [capW_small (by decide)] at hMc
  have hngb := ngor_bd 1
  have hng1 : 1 ≤ ng ∧ ng ≤ 6 := by omega
  obtain ⟨g, hg0⟩ : ∃ g, grs[0]? = some g := ⟨_, List.getElem?_eq_getElem (by omega)⟩
  have hMg := hB.gr 0 g hg0
  have hgl := S.c.len S.h.a hMg
  have hcl := S.c.len S.h.a hMc
  have hgp : -1 ≤ g ∧ b62 g := ⟨by omega, by unfold b62; omega⟩
  have hcp : -1 ≤ c ∧ b62 c := ⟨by omega, by unfold b62; omega⟩
  refine CallF.le (args0 := [.ptr 17 (.lit 0), .p (.int .i64 (.sym 0))]) (callF_frame (ch13_lx R ws vs C N W 0 0 0 L D Q z false P B V Qr [] 0 M nc ng CS GS o 0 chs hcs hnc (by omega) (by omega)) [(0, 2), (1, 3), (2, 4), (3, 5), (4, 6), (5, 7), (6, 8), (7, 9), (8, 10), (9, 11), (10, 12), (11, 13), (12, 14), (13, 15), (14, 16), (15, 0), (16, 17), (17, 18), (18, 19)] rfl (by simp [hmapOk, nget, hget, renB, okB, renV, renVs, rn, okVs, okV]) rfl rfl (fun r h' n' hrr => ?_)) (by simp [ales, ale, pvle, I.val])
  obtain ⟨⟨x1, e1, hx1⟩, e2, e3⟩ := hrr
  subst e1 e2 e3
  conv => cbv
  obtain rfl : c = x1 := (ch0 hx1 hc0).symm
  refine callF_frame (sudog13_lx R ws vs C N W 0 0 0 L D Q z false P B V Qr [] 0 M nc ng CS GS o S ho c g grs hgs hng ⟨by omega, by omega⟩ hg0 hgp hcp (by rw [hR]; omega)) [(0, 2), (1, 3), (2, 4), (3, 5), (4, 6), (5, 7), (6, 8), (7, 9), (8, 10), (9, 11), (10, 12), (11, 13), (12, 14), (13, 15), (14, 16), (15, 0), (16, 17), (17, 18), (18, 19)] rfl (by simp [hmapOk, nget, hget, renB, okB, renV, renVs, rn, okVs, okV]) rfl rfl (fun r h' n' hrr => ?_)
  obtain ⟨s0, R1, ws1, vs1, L1, D1, P1, B1, V1, e1, e2, e3, S1, hk1, hs0, hp1, hq1, hl1⟩ := hrr
  subst e1 e2 e3
  conv => cbv
  obtain ⟨hY1, hns⟩ := hY.newSu (g := g) (c := c) hs0
  have hcs0 : c ≠ s0 := fun e => by rw [e, hs0] at hMc; cases hMc
  have hM1c : upd M s0 (3, [g, c, 0, -1, 0, 0, -1]) c = some (1, [0, 0, 0, 0, b, -1, -1, -1, -1]) := by rw [upd_ne hcs0]; exact hMc
  have hM1s : upd M s0 (3, [g, c, 0, -1, 0, 0, -1]) s0 = some (3, [g, c, 0, -1, 0, 0, -1]) := upd_same _ _ _
  obtain ⟨hY2, _, _⟩ := hY1.push (d := true) hM1c hM1s (hns c)
  have hh1 := S1.h
  have hc1 := S1.c
  refine drawn_sound tok (by kernel_rfl) [(5, [6, 3, 2, 1, 0]), (7, [])] [0, 1, 2, 3, 4, 6, 5, 7, 8] (by kernel_rfl) ?_; conv => cbv
  refine CallF.le (args0 := [.ptr 17 (.lit 0), .p (.int .i64 (.sym 0))]) (callF_frame (ch13_lx R1 ws1 vs1 C N W 0 0 0 L1 D1 Q z false P1 B1 V1 Qr [] 0 M nc ng CS GS o 0 chs hcs hnc (by omega) (by omega)) [(0, 2), (1, 3), (2, 4), (3, 5), (4, 6), (5, 7), (6, 8), (7, 9), (8, 10), (9, 11), (10, 12), (11, 13), (12, 14), (13, 15), (14, 16), (15, 0), (16, 17), (17, 18), (18, 19)] rfl (by simp [hmapOk, nget, hget, renB, okB, renV, renVs, rn, okVs, okV]) rfl rfl (fun r h' n' hrr => ?_)) (by simp [ales, ale, pvle, I.val])
  obtain ⟨⟨x2, e1, hx2⟩, e2, e3⟩ := hrr
  subst e1 e2 e3
  conv => cbv
  obtain rfl : c = x2 := (ch0 hx2 hc0).symm
  refine callF_frame (listPush1_lx R1 ws1 C [] N W 0 0 0 L1 D1 Q z false hh1 _ hc1 _ hY1 o ho rfl (list9h hY1) (list7h hY1) c s0 0 0 0 0 b (-1) (-1) (-1) (-1) g 0 (-1) 0 0 (-1) hM1c hM1s (hns c)) [(0, 2), (1, 3), (2, 4), (3, 5), (4, 6), (5, 7), (6, 8), (7, 0)] rfl (by simp [hmapOk, nget, hget, renB, okB, renV, renVs, rn, okVs, okV]) rfl rfl (fun r h' n' hrr => ?_)
  obtain ⟨e8, ws2, D2, e1, he8, e2, e3, hh2, hc2⟩ := hrr
  subst e1 e2 e3
  conv => cbv
  generalize hq2 : updQ (fun _ _ => []) c true ([] ++ [s0]) = q2 at hY2 hc2
  generalize hM2 : relink (upd M s0 (3, [g, c, 0, -1, 0, 0, -1])) q2 = M2 at hY2 hc2
  have hq2c : q2 c true = [s0] := by rw [← hq2]; exact updQ_same _ _ _ _
  refine drawn_sound tok (by kernel_rfl) [(5, [3, 2, 1, 0]), (6, [])] [0, 1, 2, 3, 4, 5, 6, 7] (by kernel_rfl) ?_; conv => cbv
  refine CallF.le (args0 := [.ptr 17 (.lit 0), .p (.int .i64 (.sym 0))]) (callF_frame (ch13_lx R1 ws2 vs1 C N W 0 0 0 L1 D2 Q z false P1 B1 V1 Qr [] 0 M nc ng CS GS o 0 chs hcs hnc (by omega) (by omega)) [(0, 2), (1, 3), (2, 4), (3, 5), (4, 6), (5, 7), (6, 8), (7, 9), (8, 10), (9, 11), (10, 12), (11, 13), (12, 14), (13, 15), (14, 16), (15, 0), (16, 17), (17, 18), (18, 19)] rfl (by simp [hmapOk, nget, hget, renB, okB, renV, renVs, rn, okVs, okV]) rfl rfl (fun r h' n' hrr => ?_)) (by simp [ales, ale, pvle, I.val])
  obtain ⟨⟨x3, e1, hx3⟩, e2, e3⟩ := hrr
  subst e1 e2 e3
  conv => cbv
  obtain rfl : c = x3 := (ch0 hx3 hc0).symm
  refine callF_frame (listAll_lx R1 ws2 C [] N W 0 0 0 L1 D2 Q z false hh2 M2 hc2 q2 hY2 c true (list9h hY2 c) (list7h hY2)) [(0, 2), (1, 3), (2, 4), (3, 5), (4, 6), (5, 7), (6, 8)] rfl (by simp [hmapOk, nget, hget, renB, okB, renV, renVs, rn, okVs, okV]) rfl rfl (fun r h' n' hrr => ?_)
  obtain ⟨ml, cells, e1, e2, e3, hml, hcel⟩ := hrr
  subst e1 e2 e3
  conv => cbv
  rw [hq2c] at hml hcel
  refine drawn_sound tok (by kernel_rfl) [(5, [3, 2, 1, 0]), (6, [])] [0, 1, 2, 3, 4, 5, 6, 7, 8, 9, 10, 11] (by kernel_rfl) ?_; conv => cbv
  refine CallF.le (args0 := [.ptr 17 (.lit 0), .p (.int .i64 (.sym 0))]) (callF_frame (ch13_lx R1 ws2 vs1 C N W 0 0 0 L1 D2 Q z false P1 B1 V1 Qr [] 0 M nc ng CS GS o 0 chs hcs hnc (by omega) (by omega)) [(0, 2), (1, 3), (2, 4), (3, 5), (4, 6), (5, 7), (6, 8), (7, 9), (8, 10), (9, 11), (10, 12), (11, 13), (12, 14), (13, 15), (14, 16), (15, 0), (16, 17), (17, 18), (18, 19)] rfl (by simp [hmapOk, nget, hget, renB, okB, renV, renVs, rn, okVs, okV]) rfl rfl (fun r h' n' hrr => ?_)) (by simp [ales, ale, pvle, I.val])
  obtain ⟨⟨x4, e1, hx4⟩, e2, e3⟩ := hrr
  subst e1 e2 e3
  conv => cbv
  obtain rfl : c = x4 := (ch0 hx4 hc0).symm
  obtain ⟨Fc, hFc⟩ := hY2.ch c true s0 (by rw [hq2c]; simp)
  obtain ⟨y0, y1, y2, y3, y4, y5, y6, y7, y8, rfl⟩ := list9h hY2 c Fc hFc
  obtain ⟨g2, w2, n2, p2, r2, m2, hFs⟩ := hY2.sg c true s0 (by rw [hq2c]; simp)
  refine callF_frame (listPop1_lx R1 ws2 C [] N W 0 0 0 L1 D2 Q z false hh2 M2 hc2 q2 hY2 o ho rfl (list9h hY2) (list7h hY2) c s0 y0 y1 y2 y3 y4 y5 y6 y7 y8 g2 w2 n2 p2 r2 m2 [] hq2c hFc hFs) [(0, 2), (1, 3), (2, 4), (3, 5), (4, 6), (5, 7), (6, 8), (7, 0)] rfl (by simp [hmapOk, nget, hget, renB, okB, renV, renVs, rn, okVs, okV]) rfl rfl (fun r h' n' hrr => ?_)
  obtain ⟨ws3, D3, e1, e2, e3, hh3, hc3⟩ := hrr
  subst e1 e2 e3
  conv => cbv
  have hml1 : ml = 1 := hml
  refine Br.yes (show e8 = 0 from he8) ?_
  conv => cbv
  refine callF_lend (plainE_true [s0] ml cells [.int .i64 (.sym s0)] hml hcel rfl (by simp)) (by simp [lends, lendV, hget, I.val, pvle, hml1]) (fun r h' n' ⟨e1, e2, e3⟩ => by subst e1 e2; exact ⟨trivial, trivial⟩) (fun r h' n' ⟨e1, e2, e3⟩ => ?_)
  subst e1 e2 e3
  conv => cbv
  refine Br.yes (show s0 = s0 from rfl) ?_
  conv => cbv
  refine RetF.mk [.p (.bool true)] [(0, .fix 0 o)] 1 (Re.at [(0, 0)] []) rfl ⟨rfl, rfl, rfl⟩
end Go.Proofs.YtjgbhpclmlcbbaaGreatDoor
/-
  Who waits, and who is woken: rows without some, sudogs that hang together.
-/
namespace Go.Proofs.YtjgbhpclmlcbbaaGreatDoor

open Go Go.LX
set_option maxRecDepth 100000
set_option linter.unusedVariables false
set_option linter.unusedSimpArgs false

theorem relink_ch {M : Hp} {q : Qs} {a a0 a1 a2 a3 a4 a5 a6 a7 a8 : Int} (h : M a = some (1, [a0, a1, a2, a3, a4, a5, a6, a7, a8])) : relink M q a = some (1, [a0, a1, a2, a3, a4, hdQ (q a false), ltQ (q a false), hdQ (q a true), ltQ (q a true)]) := by rw [relink_get h, lnk_chan]
end Go.Proofs.YtjgbhpclmlcbbaaGreatDoor
/-
  Who is woken: out of all rows.
-/
namespace Go.Proofs.YtjgbhpclmlcbbaaGreatDoor

open Go Go.LX
set_option maxRecDepth 100000
set_option linter.unusedVariables false
set_option linter.unusedSimpArgs false

theorem hch9 {M : Hp} {q : Qs} (hY : Sys M q) : ∀ a F, M a = some (1, F) → ∃ y0 y1 y2 y3 y4 y5 y6 y7 y8, F = [y0, y1, y2, y3, y4, y5, y6, y7, y8] := fun a F e => list9 (hY.sc a F e)
theorem hsu7 {M : Hp} {q : Qs} (hY : Sys M q) : ∀ a F, M a = some (3, F) → ∃ y0 y1 y2 y3 y4 y5 y6, F = [y0, y1, y2, y3, y4, y5, y6] := fun a F e => list7 (hY.ss a F e)
end Go.Proofs.YtjgbhpclmlcbbaaGreatDoor
/-
  Things, and rows: what both heaps have, told apart; who waits.
-/
namespace Go.Proofs.YtjgbhpclmlcbbaaGreatDoor

open Go Go.LX
set_option maxRecDepth 100000
set_option linter.unusedVariables false
set_option linter.unusedSimpArgs false

theorem upd_upd2 (M : Hp) (a : Int) (v w : Int × List Int) : upd (upd M a v) a w = upd M a w := by
  funext b
  unfold upd
  split <;> rfl
theorem rl_upd (B : Hp) (q q1 : Qs) (x : Int) (v : Int × List Int) : relink (upd (relink B q) x v) q1 = relink (upd B x v) q1 := by rw [relink_upd, relink_relink, ← relink_upd]
theorem newSu2 {M : Hp} {q : Qs} {x g c w p r m : Int} (h : Sys M q) (hx : M x = Option.none) : Sys (upd M x (3, [g, c, w, -1, p, r, m])) q ∧ ∀ c d, x ∉ q c d := by
  have hn : ∀ c d, x ∉ q c d := fun c d hs => by obtain ⟨g, w, n, p, r, m, e⟩ := h.sg c d x hs; rw [hx] at e; cases e
  refine ⟨h.updv ?_ (fun F e => by rw [hx] at e; cases e) (fun c d e => absurd e (hn c d)) ⟨fun q => absurd (show (3 : Int) = 1 from q) (by decide), fun _ => rfl⟩, hn⟩
  rw [lnk_sudog, nxtQ_not (fun d => hn _ d)]
/-- Both heaps, idle, all white, each with its things. -/
structure Bs2 (R : List Rw) (ws vs C : List Int) (N W ph : Int) (L D Q : List PV) (z : ByteArray) (P B V Qr la : List PV) (m : Int) (M M2 : Hp) : Prop where
  h : HM R ws C [] N W L D Q z
  r : RM R vs C [] N W P B V Qr la m
  c : Cont R ws M
  d : Cont R vs M2
  ph : ph = 0
  w : C = List.replicate W.toNat 0
theorem Bst.two {R : List Rw} {ws vs C : List Int} {N W ph : Int} {L D Q : List PV} {z : ByteArray} {P B V Qr la : List PV} {m : Int} {M : Hp} (S : Bst R ws vs C N W ph L D Q z P B V Qr la m M) : Bs2 R ws vs C N W ph L D Q z P B V Qr la m M M := ⟨S.h, S.r, S.c, S.d, S.ph, S.w⟩
theorem Bs2.colour {R R' : List Rw} {ws vs ws' vs' C C' DC : List Int} {N W ph : Int} {L D Q L' D' Q' : List PV} {z : ByteArray} {P B V Qr la P' B' V' Qr' : List PV} {m : Int} {M M2 : Hp} {x e : Int} (S : Bs2 R ws vs C N W ph L D Q z P B V Qr la m M M2) (he : e = 0) (h1 : HM R' ws' C' [] N W L' D' Q' z) (g1 : RM R' vs' DC [] N W P' B' V' Qr' la m) (hC : C' = allocC ph x e C) (hD : DC = allocC ph x e C) : C = C' ∧ C = DC ∧ Q = Q' ∧ Qr = Qr' := by
  have : allocC ph x e C = C := by rw [S.ph, he, S.w]; exact allocC_white x
  rw [this] at hC hD
  exact ⟨hC.symm, hD.symm, by rw [h1.q, S.h.q, hC], by rw [g1.q, S.r.q, hD]⟩
theorem alloct_any {R R' : List Rw} {ws ws' vs : List Int} {kind n a e : Int} (h : Alloct R ws kind n a e R' ws') : ∃ vs', Alloct R vs kind n a e R' vs' := by
  cases h with
  | arg h => exact ⟨_, .arg h⟩
  | room i s R' h ha => exact ⟨_, .room i s R' h ha⟩
  | ok i s at_ R' h ha hi hat => exact ⟨_, .ok i s a R' h ha hi hat⟩
theorem Bs2.alloc {R R' Y : List Rw} {ws vs C ws' vs' : List Int} {N W ph : Int} {L D Q : List PV} {z : ByteArray} {P B V Qr la : List PV} {m kd n x e y f : Int} {M M2 : Hp} (S : Bs2 R ws vs C N W ph L D Q z P B V Qr la m M M2) (hroom : objCount R < R.length) (hk : 0 ≤ n ∧ n ≤ 31 ∧ 1 ≤ kd ∧ kd ≤ 6) (hlen : lenK kd n.toNat) (hT : Alloct R ws kd n x e R' ws') (hU : AlloctV R vs kd n y f Y vs') : e = 0 ∧ x = y ∧ e = f ∧ R' = Y ∧ Cont R' ws' (upd M x (kd, zerK kd n.toNat)) ∧ Cont R' vs' (upd M2 x (kd, zerK kd n.toNat)) ∧ objCount R' = objCount R + 1 ∧ M x = Option.none ∧ M2 x = Option.none ∧ 0 ≤ x ∧ x < 32 * R.length ∧ R'.length = R.length := by
  obtain ⟨wx, hTx⟩ := alloct_any (vs := vs) hT
  obtain ⟨q1, q2, q3, hS1, hl1⟩ := (S.d.toSim S.r.a S.r.a S.d).alloc hTx hU
  subst q1 q2 q3
  obtain ⟨he, hM1, hc1, hx0, hx1, hx2, hx3⟩ := S.c.alloc S.h.a hroom hk hlen hT
  obtain ⟨_, hM2, _, hy0, _, _, _⟩ := S.d.alloc S.r.a hroom hk hlen hTx
  exact ⟨he, rfl, rfl, rfl, hM1, hM2.sim hS1, hc1, hx0, hy0, hx1, hx2, hx3⟩
theorem capS {x : Int} (h : 0 ≤ x ∧ x < 4) : capW x = x := by
  unfold capW
  rw [show IntKind.u64.wrap x = x by simp [IntKind.wrap, IntKind.bits, IntKind.signed]; omega]
  omega
theorem chA1 {chs : List Int} {nc : Int} (hn : nc = (chs.length : Int)) (h1 : nc = 1) : ∃ c, chs = [c] := by
  match chs with
  | [c] => exact ⟨c, rfl⟩
  | [] => simp at hn; omega
  | _ :: _ :: _ => simp at hn; omega
end Go.Proofs.YtjgbhpclmlcbbaaGreatDoor
/-
  The bench of layer 13: who waits.
-/
namespace Go.Proofs.YtjgbhpclmlcbbaaGreatDoor

open Go Go.LX
set_option maxRecDepth 100000
set_option linter.unusedVariables false
set_option linter.unusedSimpArgs false

set_option maxHeartbeats 8000000 in
theorem allocT13_lx (R : List Rw) (ws vs C : List Int) (N W ph sp cy : Int) (L D Q : List PV) (z : ByteArray) (ov : Bool) (P B V Qr la : List PV) (m : Int) (M M2 : Hp) (nc ng : Int) (cs gs : List PV) (o : Unit → Obj) (S : Bs2 R ws vs C N W ph L D Q z P B V Qr la m M M2) (kd n : Int) (hk : 0 ≤ n ∧ n ≤ 31 ∧ 1 ≤ kd ∧ kd ≤ 6) (hlen : lenK kd n.toNat) (hroom : objCount R < R.length) : CallF (fun _ => Tryz.prog) 53 [.ptr 16 (.lit 0), .p (.int .i64 (.sym kd)), .p (.int .i64 (.sym n))] [(0, .mix [.ptr 1 (.lit 0), .ptr 5 (.lit 0), .sl 6 3 1 (.lit 0) (.sym W), .p (.int .i64 (.sym ph)), .p (.int .i64 (.sym sp)), .p (.int .i64 (.sym cy))]), (1, .mix [.ptr 2 (.lit 0), .sl 4 3 1 (.lit 0) (.sym W)]), (2, .mix [.sl 3 214 2 (.lit 0) (.sym N)]), (3, .pure true L), (4, .pure true D), (5, .pure false [.str fun _ => z, .bool ov]), (6, .pure true Q), (7, .mix [.ptr 8 (.lit 0), .sl 13 3 1 (.lit 0) (.sym W), .ptr 14 (.lit 0), .p (.int .i64 (.sym ph)), .p (.int .i64 (.sym sp)), .p (.int .i64 (.sym cy))]), (8, .mix [.ptr 9 (.lit 0), .sl 12 3 1 (.lit 0) (.sym W)]), (9, .mix [.sl 10 3 1 (.lit 0) (.sym N), .sl 11 209 8 (.lit 0) (.sym N)]), (10, .pure true P), (11, .pure true B), (12, .pure true V), (13, .pure true Qr), (14, .mix [.p (.vsl (.sym m) true la), .p (.bool ov)]), (15, .fix 0 o), (16, .mix [.ptr 0 (.lit 0), .ptr 7 (.lit 0), .sl 17 3 1 (.lit 0) (.sym nc), .sl 18 3 1 (.lit 0) (.sym ng)]), (17, .pure true cs), (18, .pure true gs)] 19 (fun r h n' => ∃ (x : Int) (R' : List Rw) (ws' vs' : List Int) (L' D' P' B' V' : List PV), r = .p (.int .i64 (.sym x)) ∧ h = [(0, .mix [.ptr 1 (.lit 0), .ptr 5 (.lit 0), .sl 6 3 1 (.lit 0) (.sym W), .p (.int .i64 (.sym ph)), .p (.int .i64 (.sym sp)), .p (.int .i64 (.sym cy))]), (1, .mix [.ptr 2 (.lit 0), .sl 4 3 1 (.lit 0) (.sym W)]), (2, .mix [.sl 3 214 2 (.lit 0) (.sym N)]), (3, .pure true L'), (4, .pure true D'), (5, .pure false [.str fun _ => z, .bool ov]), (6, .pure true Q), (7, .mix [.ptr 8 (.lit 0), .sl 13 3 1 (.lit 0) (.sym W), .ptr 14 (.lit 0), .p (.int .i64 (.sym ph)), .p (.int .i64 (.sym sp)), .p (.int .i64 (.sym cy))]), (8, .mix [.ptr 9 (.lit 0), .sl 12 3 1 (.lit 0) (.sym W)]), (9, .mix [.sl 10 3 1 (.lit 0) (.sym N), .sl 11 209 8 (.lit 0) (.sym N)]), (10, .pure true P'), (11, .pure true B'), (12, .pure true V'), (13, .pure true Qr), (14, .mix [.p (.vsl (.sym m) true la), .p (.bool ov)]), (15, .fix 0 o), (16, .mix [.ptr 0 (.lit 0), .ptr 7 (.lit 0), .sl 17 3 1 (.lit 0) (.sym nc), .sl 18 3 1 (.lit 0) (.sym ng)]), (17, .pure true cs), (18, .pure true gs)] ∧ n' = 19 ∧ Bs2 R' ws' vs' C N W ph L' D' Q z P' B' V' Qr la m (upd M x (kd, zerK kd n.toNat)) (upd M2 x (kd, zerK kd n.toNat)) ∧ objCount R' = objCount R + 1 ∧ M x = Option.none ∧ M2 x = Option.none ∧ 0 ≤ x ∧ x < W ∧ R'.length = R.length) := by
  refine callF_of_body tok Tryz.func53 (by kernel_rfl) rfl rfl rfl ?_; conv => cbv
  refine callF_frame (alloc9_lx R ws C [] N W ph sp cy L D Q z ov S.h kd n) [(0, 0), (1, 1), (2, 2), (3, 3), (4, 4), (5, 5), (6, 6)] rfl (by simp [hmapOk, nget, hget, renB, okB, renV, renVs, rn, okVs, okV]) rfl rfl (fun r h' n' hrr => ?_)
  obtain ⟨x, e, R', ws', C', L', D', Q', e1, e2, e3, h1, hT, hC⟩ := hrr
  subst e1 e2 e3
  conv => cbv
  refine callF_frame (ralloc9_lx R vs C [] N W ph sp cy P B V Qr la m ov S.r kd n) [(0, 7), (1, 8), (2, 9), (3, 10), (4, 11), (5, 12), (6, 13), (7, 14)] rfl (by simp [hmapOk, nget, hget, renB, okB, renV, renVs, rn, okVs, okV]) rfl rfl (fun r h' n' hrr => ?_)
  obtain ⟨y, f, Y, vs', DC, P', B', V', Qr', e1, e2, e3, g1, hU, hD⟩ := hrr
  subst e1 e2 e3
  obtain ⟨he, q1, q2, q3, hM1, hM2, hc1, hx0, hy0, hx1, hx2, hx3⟩ := S.alloc hroom hk hlen hT hU
  subst q1 q2 q3
  obtain ⟨q4, q5, q6, q7⟩ := Bs2.colour S he h1 g1 hC hD
  subst q4 q5 q6 q7
  conv => cbv
  refine Br.no (show ¬ ¬ (x = x) from fun q => q rfl) ?_
  conv => cbv
  refine Br.no (show ¬ ¬ (e = 0) from fun q => q he) ?_
  conv => cbv
  refine Br.no (show ¬ ¬ (e = 0) from fun q => q he) ?_
  conv => cbv
  refine RetF.mk [.p (.int .i64 (.sym x))] [(0, .mix [.ptr 1 (.lit 0), .ptr 5 (.lit 0), .sl 6 3 1 (.lit 0) (.sym W), .p (.int .i64 (.sym ph)), .p (.int .i64 (.sym sp)), .p (.int .i64 (.sym cy))]), (1, .mix [.ptr 2 (.lit 0), .sl 4 3 1 (.lit 0) (.sym W)]), (2, .mix [.sl 3 214 2 (.lit 0) (.sym N)]), (3, .pure true L'), (4, .pure true D'), (5, .pure false [.str fun _ => z, .bool ov]), (6, .pure true Q), (7, .mix [.ptr 8 (.lit 0), .sl 13 3 1 (.lit 0) (.sym W), .ptr 14 (.lit 0), .p (.int .i64 (.sym ph)), .p (.int .i64 (.sym sp)), .p (.int .i64 (.sym cy))]), (8, .mix [.ptr 9 (.lit 0), .sl 12 3 1 (.lit 0) (.sym W)]), (9, .mix [.sl 10 3 1 (.lit 0) (.sym N), .sl 11 209 8 (.lit 0) (.sym N)]), (10, .pure true P'), (11, .pure true B'), (12, .pure true V'), (13, .pure true Qr), (14, .mix [.p (.vsl (.sym m) true la), .p (.bool ov)]), (15, .fix 0 o), (16, .mix [.ptr 0 (.lit 0), .ptr 7 (.lit 0), .sl 17 3 1 (.lit 0) (.sym nc), .sl 18 3 1 (.lit 0) (.sym ng)]), (17, .pure true cs), (18, .pure true gs)] 19 (Re.at [(0, 0), (1, 1), (2, 2), (3, 3), (4, 4), (5, 5), (6, 6), (7, 7), (8, 8), (9, 9), (10, 10), (11, 11), (12, 12), (13, 13), (14, 14), (15, 15), (16, 16), (17, 17), (18, 18)] []) rfl ⟨x, R', ws', vs', L', D', P', B', V', rfl, rfl, rfl, ⟨h1, g1, hM1, hM2, S.ph, S.w⟩, hc1, hx0, hy0, hx1, by rw [S.h.w, S.h.n]; exact hx2, hx3⟩
set_option maxHeartbeats 8000000 in
theorem sudogT13_lx (R : List Rw) (ws vs C : List Int) (N W ph sp cy : Int) (L D Q : List PV) (z : ByteArray) (ov : Bool) (P B V Qr la : List PV) (m : Int) (M M2 : Hp) (nc ng : Int) (cs gs : List PV) (o : Unit → Obj) (S : Bs2 R ws vs C N W ph L D Q z P B V Qr la m M M2) (ho : IsPow o) (c g : Int) (grs : List Int) (hgs : gs = ipv grs) (hng : ng = grs.length) (hn1 : 0 < ng ∧ ng ≤ 100) (hg0 : grs[0]? = some g) (hg : -1 ≤ g ∧ b62 g) (hc : -1 ≤ c ∧ b62 c) (hroom : objCount R < R.length) : CallF (fun _ => Tryz.prog) 14 [.ptr 16 (.lit 0), .p (.int .i64 (.sym c))] [(0, .mix [.ptr 1 (.lit 0), .ptr 5 (.lit 0), .sl 6 3 1 (.lit 0) (.sym W), .p (.int .i64 (.sym ph)), .p (.int .i64 (.sym sp)), .p (.int .i64 (.sym cy))]), (1, .mix [.ptr 2 (.lit 0), .sl 4 3 1 (.lit 0) (.sym W)]), (2, .mix [.sl 3 214 2 (.lit 0) (.sym N)]), (3, .pure true L), (4, .pure true D), (5, .pure false [.str fun _ => z, .bool ov]), (6, .pure true Q), (7, .mix [.ptr 8 (.lit 0), .sl 13 3 1 (.lit 0) (.sym W), .ptr 14 (.lit 0), .p (.int .i64 (.sym ph)), .p (.int .i64 (.sym sp)), .p (.int .i64 (.sym cy))]), (8, .mix [.ptr 9 (.lit 0), .sl 12 3 1 (.lit 0) (.sym W)]), (9, .mix [.sl 10 3 1 (.lit 0) (.sym N), .sl 11 209 8 (.lit 0) (.sym N)]), (10, .pure true P), (11, .pure true B), (12, .pure true V), (13, .pure true Qr), (14, .mix [.p (.vsl (.sym m) true la), .p (.bool ov)]), (15, .fix 0 o), (16, .mix [.ptr 0 (.lit 0), .ptr 7 (.lit 0), .sl 17 3 1 (.lit 0) (.sym nc), .sl 18 3 1 (.lit 0) (.sym ng)]), (17, .pure true cs), (18, .pure true gs)] 19 (fun r h n' => ∃ (x : Int) (R' : List Rw) (ws' vs' : List Int) (L' D' P' B' V' : List PV), r = .p (.int .i64 (.sym x)) ∧ h = [(0, .mix [.ptr 1 (.lit 0), .ptr 5 (.lit 0), .sl 6 3 1 (.lit 0) (.sym W), .p (.int .i64 (.sym ph)), .p (.int .i64 (.sym sp)), .p (.int .i64 (.sym cy))]), (1, .mix [.ptr 2 (.lit 0), .sl 4 3 1 (.lit 0) (.sym W)]), (2, .mix [.sl 3 214 2 (.lit 0) (.sym N)]), (3, .pure true L'), (4, .pure true D'), (5, .pure false [.str fun _ => z, .bool ov]), (6, .pure true Q), (7, .mix [.ptr 8 (.lit 0), .sl 13 3 1 (.lit 0) (.sym W), .ptr 14 (.lit 0), .p (.int .i64 (.sym ph)), .p (.int .i64 (.sym sp)), .p (.int .i64 (.sym cy))]), (8, .mix [.ptr 9 (.lit 0), .sl 12 3 1 (.lit 0) (.sym W)]), (9, .mix [.sl 10 3 1 (.lit 0) (.sym N), .sl 11 209 8 (.lit 0) (.sym N)]), (10, .pure true P'), (11, .pure true B'), (12, .pure true V'), (13, .pure true Qr), (14, .mix [.p (.vsl (.sym m) true la), .p (.bool ov)]), (15, .fix 0 o), (16, .mix [.ptr 0 (.lit 0), .ptr 7 (.lit 0), .sl 17 3 1 (.lit 0) (.sym nc), .sl 18 3 1 (.lit 0) (.sym ng)]), (17, .pure true cs), (18, .pure true gs)] ∧ n' = 19 ∧ Bs2 R' ws' vs' C N W ph L' D' Q z P' B' V' Qr la m (upd M x (3, [g, c, 0, -1, 0, 0, -1])) (upd M2 x (3, [g, c, 0, -1, 0, 0, -1])) ∧ objCount R' = objCount R + 1 ∧ M x = Option.none ∧ M2 x = Option.none ∧ 0 ≤ x ∧ x < W ∧ R'.length = R.length) := by
  refine callF_of_body tok Tryz.func14 (by kernel_rfl) rfl rfl rfl ?_; conv => cbv
  refine CallF.le (args0 := [.ptr 16 (.lit 0), .p (.int .i64 (.sym 3)), .p (.int .i64 (.sym 7))]) (callF_frame (allocT13_lx R ws vs C N W ph sp cy L D Q z ov P B V Qr la m M M2 nc ng cs gs o S 3 7 (by decide) ⟨fun q => absurd q (by decide), fun _ => rfl, fun q => absurd q (by decide)⟩ hroom) [(0, 0), (1, 1), (2, 2), (3, 3), (4, 4), (5, 5), (6, 6), (7, 7), (8, 8), (9, 9), (10, 10), (11, 11), (12, 12), (13, 13), (14, 14), (15, 15), (16, 16), (17, 17), (18, 18)] rfl (by simp [hmapOk, nget, hget, renB, okB, renV, renVs, rn, okVs, okV]) rfl rfl (fun r h' n' hrr => ?_)) (by simp [ales, ale, pvle, I.val])
  obtain ⟨x, R1, ws1, vs1, L1, D1, P1, B1, V1, e1, e2, e3, S1, hk1, hx1, hy1, hp1, hq1, hl1⟩ := hrr
  subst e1 e2 e3
  conv => cbv
  refine CallF.le (args0 := [.ptr 16 (.lit 0), .p (.int .i64 (.sym 0))]) (callF_frame (gor13_lx R1 ws1 vs1 C N W ph sp cy L1 D1 Q z ov P1 B1 V1 Qr la m M nc ng cs gs o 0 grs hgs hng hn1.1 hn1.2) [(0, 0), (1, 1), (2, 2), (3, 3), (4, 4), (5, 5), (6, 6), (7, 7), (8, 8), (9, 9), (10, 10), (11, 11), (12, 12), (13, 13), (14, 14), (15, 15), (16, 16), (17, 17), (18, 18)] rfl (by simp [hmapOk, nget, hget, renB, okB, renV, renVs, rn, okVs, okV]) rfl rfl (fun r h' n' hrr => ?_)) (by simp [ales, ale, pvle, I.val])
  obtain ⟨⟨g2, e1, hg2⟩, e2, e3⟩ := hrr
  subst e1 e2 e3
  conv => cbv
  obtain rfl : g = g2 := by
    rw [show IntKind.u64.wrap 0 = 0 by decide, Int.zero_emod] at hg2
    exact Option.some.inj (hg0.symm.trans hg2)
  have hbb : ∀ q ∈ [g, c, -1, 0, 0, -1], b62 q := by
    simp only [List.forall_mem_cons]
    exact ⟨hg.2, hc.2, by unfold b62; omega, by unfold b62; omega, by unfold b62; omega, by unfold b62; omega, fun x hx => by cases hx⟩
  have hw0 : ∀ q ∈ [(0 : Int)], -9223372036854775808 ≤ q ∧ q ≤ 9223372036854775807 := by decide
  have hpp : ∀ q ∈ [g, c, -1, -1], -1 ≤ q := by
    simp only [List.forall_mem_cons]
    exact ⟨hg.1, hc.1, by omega, by omega, fun x hx => by cases hx⟩
  refine drawn_sound tok (by kernel_rfl) [(6, [])] [0, 1, 2, 3, 4, 5, 6] (by kernel_rfl) ?_; conv => cbv
  refine CallF.le (args0 := [.ptr 0 (.lit 0), .p (.int .i64 (.sym x)), .agg [.p (.int .i64 (.sym g)), .p (.int .i64 (.sym c)), .p (.int .i64 (.sym 0)), .p (.int .i64 (.sym (-1))), .p (.int .i64 (.sym 0)), .p (.int .i64 (.sym 0)), .p (.int .i64 (.sym (-1)))]]) (callF_frame (putSudogM_lx R1 ws1 C [] N W ph sp cy L1 D1 Q z ov S1.h _ S1.c o ho S1.ph x g c 0 (-1) 0 0 (-1) (zerK 3 7) (upd_same _ _ _) rfl hbb hw0 hpp) [(0, 0), (1, 1), (2, 2), (3, 3), (4, 4), (5, 5), (6, 6), (7, 15)] rfl (by simp [hmapOk, nget, hget, renB, okB, renV, renVs, rn, okVs, okV]) rfl rfl (fun r h' n' hrr => ?_)) (by simp [ales, ale, pvle, I.val])
  obtain ⟨e8, ws8, D8, e1, he8, e2, e3, h8, c8⟩ := hrr
  subst e1 e2 e3
  conv => cbv
  refine drawn_sound tok (by kernel_rfl) [(6, [])] [0, 1, 2, 3, 4, 5, 6] (by kernel_rfl) ?_; conv => cbv
  refine CallF.le (args0 := [.ptr 7 (.lit 0), .p (.int .i64 (.sym x)), .agg [.p (.int .i64 (.sym g)), .p (.int .i64 (.sym c)), .p (.int .i64 (.sym 0)), .p (.int .i64 (.sym (-1))), .p (.int .i64 (.sym 0)), .p (.int .i64 (.sym 0)), .p (.int .i64 (.sym (-1)))]]) (callF_frame (rPutSudogM_lx R1 vs1 C [] N W ph sp cy P1 B1 V1 Qr la m ov S1.r _ S1.d S1.ph x g c 0 (-1) 0 0 (-1) (zerK 3 7) (upd_same _ _ _) rfl hbb hw0 hpp) [(0, 7), (1, 8), (2, 9), (3, 10), (4, 11), (5, 12), (6, 13), (7, 14)] rfl (by simp [hmapOk, nget, hget, renB, okB, renV, renVs, rn, okVs, okV]) rfl rfl (fun r h' n' hrr => ?_)) (by simp [ales, ale, pvle, I.val])
  obtain ⟨e9, vs9, V9, e1, he9, e2, e3, h9, c9⟩ := hrr
  subst e1 e2 e3
  conv => cbv
  rw [upd_upd2] at c8 c9
  refine RetF.mk [.p (.int .i64 (.sym x))] [(0, .mix [.ptr 1 (.lit 0), .ptr 5 (.lit 0), .sl 6 3 1 (.lit 0) (.sym W), .p (.int .i64 (.sym ph)), .p (.int .i64 (.sym sp)), .p (.int .i64 (.sym cy))]), (1, .mix [.ptr 2 (.lit 0), .sl 4 3 1 (.lit 0) (.sym W)]), (2, .mix [.sl 3 214 2 (.lit 0) (.sym N)]), (3, .pure true L1), (4, .pure true D8), (5, .pure false [.str fun _ => z, .bool ov]), (6, .pure true Q), (7, .mix [.ptr 8 (.lit 0), .sl 13 3 1 (.lit 0) (.sym W), .ptr 14 (.lit 0), .p (.int .i64 (.sym ph)), .p (.int .i64 (.sym sp)), .p (.int .i64 (.sym cy))]), (8, .mix [.ptr 9 (.lit 0), .sl 12 3 1 (.lit 0) (.sym W)]), (9, .mix [.sl 10 3 1 (.lit 0) (.sym N), .sl 11 209 8 (.lit 0) (.sym N)]), (10, .pure true P1), (11, .pure true B1), (12, .pure true V9), (13, .pure true Qr), (14, .mix [.p (.vsl (.sym m) true la), .p (.bool ov)]), (15, .fix 0 o), (16, .mix [.ptr 0 (.lit 0), .ptr 7 (.lit 0), .sl 17 3 1 (.lit 0) (.sym nc), .sl 18 3 1 (.lit 0) (.sym ng)]), (17, .pure true cs), (18, .pure true gs)] 19 (Re.at [(0, 0), (1, 1), (2, 2), (3, 3), (4, 4), (5, 5), (6, 6), (7, 7), (8, 8), (9, 9), (10, 10), (11, 11), (12, 12), (13, 13), (14, 14), (15, 15), (16, 16), (17, 17), (18, 18)] []) rfl ⟨x, R1, ws8, vs9, L1, D8, P1, B1, V9, rfl, rfl, rfl, ⟨h8, h9, c8, c9, S.ph, S.w⟩, hk1, hx1, hy1, hp1, hq1, hl1⟩
end Go.Proofs.YtjgbhpclmlcbbaaGreatDoor
/-
  Layers 15 and 16: which channel a word stands for.
-/
namespace Go.Proofs.YtjgbhpclmlcbbaaGreatDoor

open Go Go.LX
set_option maxRecDepth 100000
set_option linter.unusedVariables false
set_option linter.unusedSimpArgs false

theorem atW_ptr (c : Int) : atW (2 * c + 1) = c := by
  unfold atW
  rw [if_pos (by omega)]
  omega
end Go.Proofs.YtjgbhpclmlcbbaaGreatDoor
