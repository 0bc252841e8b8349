/-
  Layer 9: a step of Mark.
-/
import Derived.Test.YtllafhhnciobhaaGreatDoorHe

import Derived.Test.YtllafhhnciobhaaGreatDoorHq

namespace Go.Proofs.YtllafhhnciobhaaGreatDoor

open Go Go.LX
set_option maxRecDepth 100000
set_option linter.unusedVariables false
set_option linter.unusedSimpArgs false

theorem HM.over {R : List Rw} {ws C G : List Int} {N W : Int} {L D Q : List PV} {z z' : ByteArray} {G' : List Int} (h : HM R ws C G N W L D Q z) (hz : z' = ⟨(enc G').toArray⟩) (hG : G = [] ∧ G' = []) : HM R ws C G' N W L D Q z' :=
  ⟨h.a, h.k, h.n, h.r, h.w, h.l, h.d, h.q, h.c, hz, fun x hx => (by rw [hG.2] at hx; cases hx), (by rw [hG.2]; exact Nat.zero_le _)⟩
set_option maxHeartbeats 4000000 in
theorem nextGrey_lx (R : List Rw) (ws C G : List Int) (N W ph sp cy : Int) (L D Q : List PV) (z : ByteArray) (ov : Bool) (h : HM R ws C G N W L D Q z) : CallF (fun _ => Tryz.prog) 82 [.ptr 0 (.lit 0)] [(0, .mix [.ptr 1 (.lit 0), .ptr 5 (.lit 0), .sl 6 3 1 (.lit 0) (.sym W), .p (.int .i64 (.sym ph)), .p (.int .i64 (.sym sp)), .p (.int .i64 (.sym cy))]), (1, .mix [.ptr 2 (.lit 0), .sl 4 3 1 (.lit 0) (.sym W)]), (2, .mix [.sl 3 101 2 (.lit 0) (.sym N)]), (3, .pure true L), (4, .pure true D), (5, .pure false [.str fun _ => z, .bool ov]), (6, .pure true Q)] 7 (fun r h n => ∃ (v : Int) (b : Bool) (G' : List Int) (ov' : Bool) (z' : ByteArray), r = .tup [.p (.int .i64 (.sym v)), .p (.bool b)] ∧ h = [(0, .mix [.ptr 1 (.lit 0), .ptr 5 (.lit 0), .sl 6 3 1 (.lit 0) (.sym W), .p (.int .i64 (.sym ph)), .p (.int .i64 (.sym sp)), .p (.int .i64 (.sym cy))]), (1, .mix [.ptr 2 (.lit 0), .sl 4 3 1 (.lit 0) (.sym W)]), (2, .mix [.sl 3 101 2 (.lit 0) (.sym N)]), (3, .pure true L), (4, .pure true D), (5, .pure false [.str fun _ => z', .bool ov']), (6, .pure true Q)] ∧ n = 7 ∧ HM R ws C G' N W L D Q z' ∧ NextG R C G ov v b G' ov') := by
  by_cases hG0 : G = []
  case neg =>
    obtain ⟨A, v, hG⟩ : ∃ A v, G = A ++ [v] := ⟨_, _, (List.dropLast_concat_getLast hG0).symm⟩
    exact (nextGreyPop_lx R ws C G N W ph sp cy L D Q z ov h A v hG).mono fun r h' n' ⟨z', e1, e2, e3, h2⟩ => ⟨v, true, A, ov, z', e1, e2, e3, h2, .pop A v hG⟩
  refine callF_of_body tok Tryz.func82 (by kernel_rfl) rfl rfl rfl ?_; conv => cbv
  refine callF_frame (greyPop_lx G z ov h.z h.g64 h.g8) [(0, 5)] rfl (by simp [hmapOk, nget, hget, renB, okB, renV, renVs, rn, okVs, okV]) rfl rfl (fun r h' n' hrr => ?_)
  obtain ⟨v2, b, z', A', e1, e2, e3, hz', h4⟩ := hrr
  subst e1 e2 e3
  obtain ⟨rfl, rfl, hA'⟩ : v2 = 0 ∧ b = false ∧ A' = [] := by
    rcases h4 with ⟨_, e1, e2, e3⟩ | ⟨e, _⟩
    · exact ⟨e1, e2, e3⟩
    · rw [hG0] at e; exact absurd e (by simp)
  have h1 := h.over hz' ⟨hG0, hA'⟩
  conv => cbv
  refine callF_frame (greyOver_lx z' ov) [(0, 5)] rfl (by simp [hmapOk, nget, hget, renB, okB, renV, renVs, rn, okVs, okV]) rfl rfl (fun r h' n' ⟨e1, e2, e3⟩ => ?_)
  subst e1 e2 e3
  cases ov with
  | false =>
    conv => cbv
    refine RetF.mk [.p (.int .i64 (.sym 0)), .p (.bool false)] [(0, .mix [.ptr 1 (.lit 0), .ptr 5 (.lit 0), .sl 6 3 1 (.lit 0) (.sym W), .p (.int .i64 (.sym ph)), .p (.int .i64 (.sym sp)), .p (.int .i64 (.sym cy))]), (1, .mix [.ptr 2 (.lit 0), .sl 4 3 1 (.lit 0) (.sym W)]), (2, .mix [.sl 3 101 2 (.lit 0) (.sym N)]), (3, .pure true L), (4, .pure true D), (5, .pure false [.str fun _ => z', .bool false]), (6, .pure true Q)] 7 (Re.at [(0, 0), (1, 1), (2, 2), (3, 3), (4, 4), (5, 5), (6, 6)] []) rfl ⟨0, false, A', false, z', rfl, rfl, rfl, h1, by rw [hA']; exact .none hG0 rfl⟩
  | true =>
    conv => cbv
    obtain ⟨m, hm⟩ : ∃ m : Int, m = objCount R := ⟨_, rfl⟩
    refine callF_frame (objects_lx m R N W L D h.l h.n h.r h.a.rows h.w hm) [(0, 1), (1, 2), (2, 3), (3, 4)] rfl (by simp [hmapOk, nget, hget, renB, okB, renV, renVs, rn, okVs, okV]) rfl rfl (fun r h' n' hrr => ?_)
    obtain ⟨O, e1, e2, e3, hO⟩ := hrr
    subst e1 e2 e3
    have hOl : (O.length : Int) = m := by rw [hO, ipv_length, objs_length h.a.rows, hm]
    have hO : O = ipv (objs R) := hO
    have hol : ((objs R).length : Int) = m := by rw [← hOl, hO, ipv_length]
    have hob : m ≤ 8000 := by have := objsTo_le R R.length; rw [objs_length h.a.rows] at this; have := h.r; omega
    conv => cbv
    refine LoopF.mk (fun k s => ∃ i : Int, s = ⟨.ptr 0 (.lit 0) :: (undefs 27 ++ .sl 7 3 1 (.lit 0) (.sym m) :: .p (.int .i64 (.sym m)) :: .p (.int .i64 (.sym i)) :: undefs 13), [(0, .mix [.ptr 1 (.lit 0), .ptr 5 (.lit 0), .sl 6 3 1 (.lit 0) (.sym W), .p (.int .i64 (.sym ph)), .p (.int .i64 (.sym sp)), .p (.int .i64 (.sym cy))]), (1, .mix [.ptr 2 (.lit 0), .sl 4 3 1 (.lit 0) (.sym W)]), (2, .mix [.sl 3 101 2 (.lit 0) (.sym N)]), (3, .pure true L), (4, .pure true D), (5, .pure false [.str fun _ => z', .bool true]), (6, .pure true Q), (7, .pure true O)], 8⟩ ∧ 0 ≤ i ∧ i ≤ m ∧ (∀ (j : Nat) b, (j : Int) < i → (objs R)[j]? = some b → C[b.toNat]? ≠ some 1) ∧ k = (m - i).toNat) m.toNat _
      (Re.at [(0, 0), (1, 1), (2, 2), (3, 3), (4, 4), (5, 5), (6, 6), (7, 7)] []) ⟨0, rfl, by omega, by omega, fun j b hj => by omega, by omega⟩ ?_
    rintro k s ⟨i, rfl, hi0, hi1, hn, hk⟩
    conv => cbv
    refine Br.mk (fun gi => ?_) (fun gi => ?_)
    · have gi : i < m := gi
      obtain ⟨k', rfl⟩ : ∃ k', k = k' + 1 := ⟨k - 1, by omega⟩
      obtain ⟨a, ha⟩ : ∃ a, (objs R)[i.toNat]? = some a := ⟨_, List.getElem?_eq_getElem (by omega)⟩
      have hc : O[i.toNat]? = some (.int .i64 (.sym a)) := by rw [hO]; exact ipv_get ha
      conv => cbv
      refine Need.mk ⟨hi0, gi⟩ ?_
      conv => cbv
      refine Cell.at i _ hc (by simp [I.val]) rfl ?_
      conv => cbv
      refine CallF.le (args0 := [.ptr 0 (.lit 0), .p (.int .i64 (.sym a)), .p (.int .i64 (.sym 1))]) (callF_frame (is_lx R ws C A' N W ph sp cy L D Q z' true h1 a 1) [(0, 0), (1, 1), (2, 2), (3, 3), (4, 4), (5, 5), (6, 6)] rfl (by simp [hmapOk, nget, hget, renB, okB, renV, renVs, rn, okVs, okV]) rfl rfl (fun r h' n' hrr => ?_)) (by simp [ales, ale, pvle, I.val])
      obtain ⟨b, e1, e2, e3, hb⟩ := hrr
      subst e1 e2 e3
      cases b with
      | true =>
        conv => cbv
        refine RetF.mk [.p (.int .i64 (.sym a)), .p (.bool true)] [(0, .mix [.ptr 1 (.lit 0), .ptr 5 (.lit 0), .sl 6 3 1 (.lit 0) (.sym W), .p (.int .i64 (.sym ph)), .p (.int .i64 (.sym sp)), .p (.int .i64 (.sym cy))]), (1, .mix [.ptr 2 (.lit 0), .sl 4 3 1 (.lit 0) (.sym W)]), (2, .mix [.sl 3 101 2 (.lit 0) (.sym N)]), (3, .pure true L), (4, .pure true D), (5, .pure false [.str fun _ => z', .bool true]), (6, .pure true Q)] 7 (Re.at [(0, 0), (1, 1), (2, 2), (3, 3), (4, 4), (5, 5), (6, 6)] []) rfl ⟨a, true, A', true, z', rfl, rfl, rfl, h1, by rw [hA']; exact .found i.toNat a hG0 rfl ha (hb.1 rfl).2 (fun j b hj => hn j b (by omega))⟩
      | false =>
        have hna : C[a.toNat]? ≠ some 1 := fun hx => by have := hb.2 ⟨List.mem_of_getElem? ha, hx⟩; cases this
        conv => cbv
        refine Fit.mk (by show (-9223372036854775808 : Int) ≤ i + 1; omega) (by show i + 1 ≤ 9223372036854775807; omega) fun i2 hi2 => ?_
        have hi2 : i2 = i + 1 := hi2
        conv => cbv
        refine Again.mk k' _ (Nat.lt_succ_self _) (Re.at [(0, 0), (1, 1), (2, 2), (3, 3), (4, 4), (5, 5), (6, 6), (7, 7)] []) ⟨i2, rfl, by omega, by omega, fun j b hj hjb => ?_, by omega⟩
        by_cases q : j = i.toNat
        · rw [q, ha] at hjb; obtain rfl := Option.some.inj hjb; exact hna
        · have hj : (j : Int) < i2 := hj
          have hj2 : (j : Int) < i := by omega
          exact hn j b hj2 hjb
    · have gi : ¬ i < m := gi
      conv => cbv
      refine callF_frame (greySettle_lx z' true) [(0, 5)] rfl (by simp [hmapOk, nget, hget, renB, okB, renV, renVs, rn, okVs, okV]) rfl rfl (fun r h' n' ⟨e1, e2, e3⟩ => ?_)
      subst e1 e2 e3
      conv => cbv
      refine RetF.mk [.p (.int .i64 (.sym 0)), .p (.bool false)] [(0, .mix [.ptr 1 (.lit 0), .ptr 5 (.lit 0), .sl 6 3 1 (.lit 0) (.sym W), .p (.int .i64 (.sym ph)), .p (.int .i64 (.sym sp)), .p (.int .i64 (.sym cy))]), (1, .mix [.ptr 2 (.lit 0), .sl 4 3 1 (.lit 0) (.sym W)]), (2, .mix [.sl 3 101 2 (.lit 0) (.sym N)]), (3, .pure true L), (4, .pure true D), (5, .pure false [.str fun _ => z', .bool false]), (6, .pure true Q)] 7 (Re.at [(0, 0), (1, 1), (2, 2), (3, 3), (4, 4), (5, 5), (6, 6)] []) rfl ⟨0, false, A', false, z', rfl, rfl, rfl, h1, by rw [hA']; exact .settle hG0 rfl (fun j b hj => hn j b (by have := (List.getElem?_eq_some_iff.1 hj).1; omega) hj)⟩
end Go.Proofs.YtllafhhnciobhaaGreatDoor
