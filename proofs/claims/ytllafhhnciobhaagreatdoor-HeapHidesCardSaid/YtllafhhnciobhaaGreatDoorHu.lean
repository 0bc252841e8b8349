/-
  Layer 9: a step of Mark, whole.
-/
import Derived.Test.YtllafhhnciobhaaGreatDoorHt

namespace Go.Proofs.YtllafhhnciobhaaGreatDoor

open Go Go.LX
set_option maxRecDepth 100000
set_option linter.unusedVariables false
set_option linter.unusedSimpArgs false

inductive LookR (R : List Rw) (ws : List Int) (a : Int) : LV → Prop
  | box (x e : Int) (hk : KindR R ws a 5) (hx : Loaded R ws a 1 x e) : LookR R ws a (.iface 110 (.agg [.p (.int .i64 (.sym a)), .p (.int .i64 (.sym x))]))
  | other (k : Int) (hk : KindR R ws a k) (hne : k ≠ 5) : LookR R ws a (.iface 132 (.agg []))
set_option maxHeartbeats 2000000 in
theorem look9_lx (R : List Rw) (ws C G : List Int) (N W ph sp cy : Int) (L D Q : List PV) (z : ByteArray) (ov : Bool) (h : HM R ws C G N W L D Q z) (a : Int) : CallF (fun _ => Tryz.prog) 104 [.ptr 0 (.lit 0), .p (.int .i64 (.sym a))] [(0, .mix [.ptr 1 (.lit 0), .ptr 5 (.lit 0), .sl 6 3 1 (.lit 0) (.sym W), .p (.int .i64 (.sym ph)), .p (.int .i64 (.sym sp)), .p (.int .i64 (.sym cy))]), (1, .mix [.ptr 2 (.lit 0), .sl 4 3 1 (.lit 0) (.sym W)]), (2, .mix [.sl 3 101 2 (.lit 0) (.sym N)]), (3, .pure true L), (4, .pure true D), (5, .pure false [.str fun _ => z, .bool ov]), (6, .pure true Q)] 7 (fun r h n => LookR R ws a r ∧ h = [(0, .mix [.ptr 1 (.lit 0), .ptr 5 (.lit 0), .sl 6 3 1 (.lit 0) (.sym W), .p (.int .i64 (.sym ph)), .p (.int .i64 (.sym sp)), .p (.int .i64 (.sym cy))]), (1, .mix [.ptr 2 (.lit 0), .sl 4 3 1 (.lit 0) (.sym W)]), (2, .mix [.sl 3 101 2 (.lit 0) (.sym N)]), (3, .pure true L), (4, .pure true D), (5, .pure false [.str fun _ => z, .bool ov]), (6, .pure true Q)] ∧ n = 7) := by
  refine callF_of_body tok Tryz.func104 (by kernel_rfl) rfl rfl rfl ?_; conv => cbv
  refine callF_frame (kind_lx R ws N a W L D h.l h.d h.n h.r h.a h.w) [(0, 1), (1, 2), (2, 3), (3, 4)] rfl (by simp [hmapOk, nget, hget, renB, okB, renV, renVs, rn, okVs, okV]) rfl rfl (fun r h' n' hrr => ?_)
  obtain ⟨v, e1, e2, e3, hv⟩ := hrr
  subst e1 e2 e3
  conv => cbv
  refine Br.mk (fun g => ?_) (fun g => ?_)
  · have g : v = 5 := g
    conv => cbv
    refine CallF.le (args0 := [.ptr 1 (.lit 0), .p (.int .i64 (.sym a)), .p (.int .i64 (.sym 1))]) (callF_frame (load_lx 1 R ws N a W L D h.l h.d h.n h.r h.a h.w) [(0, 1), (1, 2), (2, 3), (3, 4)] rfl (by simp [hmapOk, nget, hget, renB, okB, renV, renVs, rn, okVs, okV]) rfl rfl (fun r h' n' hrr => ?_)) (by simp [ales, ale, pvle, I.val])
    obtain ⟨x, e, e1, e2, e3, hx⟩ := hrr
    subst e1 e2 e3
    conv => cbv
    refine RetF.mk [.iface 110 (.agg [.p (.int .i64 (.sym a)), .p (.int .i64 (.sym x))])] [(0, .mix [.ptr 1 (.lit 0), .ptr 5 (.lit 0), .sl 6 3 1 (.lit 0) (.sym W), .p (.int .i64 (.sym ph)), .p (.int .i64 (.sym sp)), .p (.int .i64 (.sym cy))]), (1, .mix [.ptr 2 (.lit 0), .sl 4 3 1 (.lit 0) (.sym W)]), (2, .mix [.sl 3 101 2 (.lit 0) (.sym N)]), (3, .pure true L), (4, .pure true D), (5, .pure false [.str fun _ => z, .bool ov]), (6, .pure true Q)] 7 (Re.at [(0, 0), (1, 1), (2, 2), (3, 3), (4, 4), (5, 5), (6, 6)] []) rfl ⟨.box x e (g ▸ hv) hx, rfl, rfl⟩
  · have g : ¬ v = 5 := g
    conv => cbv
    refine RetF.mk [.iface 132 (.agg [])] [(0, .mix [.ptr 1 (.lit 0), .ptr 5 (.lit 0), .sl 6 3 1 (.lit 0) (.sym W), .p (.int .i64 (.sym ph)), .p (.int .i64 (.sym sp)), .p (.int .i64 (.sym cy))]), (1, .mix [.ptr 2 (.lit 0), .sl 4 3 1 (.lit 0) (.sym W)]), (2, .mix [.sl 3 101 2 (.lit 0) (.sym N)]), (3, .pure true L), (4, .pure true D), (5, .pure false [.str fun _ => z, .bool ov]), (6, .pure true Q)] 7 (Re.at [(0, 0), (1, 1), (2, 2), (3, 3), (4, 4), (5, 5), (6, 6)] []) rfl ⟨.other v hv g, rfl, rfl⟩
set_option maxHeartbeats 4000000 in
theorem nextFinal_lx (R : List Rw) (ws C G : List Int) (N W ph sp cy : Int) (L D Q : List PV) (z : ByteArray) (ov : Bool) (h : HM R ws C G N W L D Q z) : CallF (fun _ => Tryz.prog) 84 [.ptr 0 (.lit 0)] [(0, .mix [.ptr 1 (.lit 0), .ptr 5 (.lit 0), .sl 6 3 1 (.lit 0) (.sym W), .p (.int .i64 (.sym ph)), .p (.int .i64 (.sym sp)), .p (.int .i64 (.sym cy))]), (1, .mix [.ptr 2 (.lit 0), .sl 4 3 1 (.lit 0) (.sym W)]), (2, .mix [.sl 3 101 2 (.lit 0) (.sym N)]), (3, .pure true L), (4, .pure true D), (5, .pure false [.str fun _ => z, .bool ov]), (6, .pure true Q)] 7 (fun r h n => ∃ (a x : Int) (b : Bool), r = .tup [.agg [.p (.int .i64 (.sym a)), .p (.int .i64 (.sym x))], .p (.bool b)] ∧ h = [(0, .mix [.ptr 1 (.lit 0), .ptr 5 (.lit 0), .sl 6 3 1 (.lit 0) (.sym W), .p (.int .i64 (.sym ph)), .p (.int .i64 (.sym sp)), .p (.int .i64 (.sym cy))]), (1, .mix [.ptr 2 (.lit 0), .sl 4 3 1 (.lit 0) (.sym W)]), (2, .mix [.sl 3 101 2 (.lit 0) (.sym N)]), (3, .pure true L), (4, .pure true D), (5, .pure false [.str fun _ => z, .bool ov]), (6, .pure true Q)] ∧ n = 7 ∧ NextF R ws C a b) := by
  obtain ⟨m, hm⟩ : ∃ m : Int, m = objCount R := ⟨_, rfl⟩
  refine callF_of_body tok Tryz.func84 (by kernel_rfl) rfl rfl rfl ?_; conv => cbv
  refine callF_frame (objects_lx m R N W L D h.l h.n h.r h.a.rows h.w hm) [(0, 1), (1, 2), (2, 3), (3, 4)] rfl (by simp [hmapOk, nget, hget, renB, okB, renV, renVs, rn, okVs, okV]) rfl rfl (fun r h' n' hrr => ?_)
  obtain ⟨O, e1, e2, e3, hO⟩ := hrr
  subst e1 e2 e3
  have hOl : (O.length : Int) = m := by rw [hO, ipv_length, objs_length h.a.rows, hm]
  have hO : O = ipv (objs R) := hO
  have hol : ((objs R).length : Int) = m := by rw [← hOl, hO, ipv_length]
  have hob : m ≤ 8000 := by have := objsTo_le R R.length; rw [objs_length h.a.rows] at this; have := h.r; omega
  conv => cbv
  refine LoopF.mk (fun k s => ∃ i : Int, s = ⟨.ptr 0 (.lit 0) :: .undef :: .ptr 7 (.lit 0) :: .p (.bool false) :: (undefs 8 ++ .sl 8 3 1 (.lit 0) (.sym m) :: .p (.int .i64 (.sym m)) :: .p (.int .i64 (.sym i)) :: undefs 24), [(0, .mix [.ptr 1 (.lit 0), .ptr 5 (.lit 0), .sl 6 3 1 (.lit 0) (.sym W), .p (.int .i64 (.sym ph)), .p (.int .i64 (.sym sp)), .p (.int .i64 (.sym cy))]), (1, .mix [.ptr 2 (.lit 0), .sl 4 3 1 (.lit 0) (.sym W)]), (2, .mix [.sl 3 101 2 (.lit 0) (.sym N)]), (3, .pure true L), (4, .pure true D), (5, .pure false [.str fun _ => z, .bool ov]), (6, .pure true Q), (8, .pure true O), (7, .pure false [.int .i64 (.lit 0), .int .i64 (.lit 0)])], 9⟩ ∧ 0 ≤ i ∧ i ≤ m ∧ (∀ (j : Nat) b, (j : Int) < i → (objs R)[j]? = some b → ¬ Due R ws C b) ∧ k = (m - i).toNat) m.toNat _
    (Re.at [(0, 0), (1, 1), (2, 2), (3, 3), (4, 4), (5, 5), (6, 6), (7, 7), (8, 8)] []) ⟨0, rfl, by omega, by omega, fun j b hj => by omega, by omega⟩ ?_
  rintro k s ⟨i, rfl, hi0, hi1, hn, hk⟩
  conv => cbv
  refine Br.mk (fun gi => ?_) (fun gi => ?_)
  · have gi : i < m := gi
    obtain ⟨k', rfl⟩ : ∃ k', k = k' + 1 := ⟨k - 1, by omega⟩
    obtain ⟨a, ha⟩ : ∃ a, (objs R)[i.toNat]? = some a := ⟨_, List.getElem?_eq_getElem (by omega)⟩
    have hc : O[i.toNat]? = some (.int .i64 (.sym a)) := by rw [hO]; exact ipv_get ha
    have hob2 := (obj_iff h.a a).1 (List.mem_of_getElem? ha)
    have hstep : ∀ i2 : Int, i2 = i + 1 → ¬ Due R ws C a → ∀ (j : Nat) b, (j : Int) < i2 → (objs R)[j]? = some b → ¬ Due R ws C b := by
      intro i2 hi2 hd j b hj hjb
      by_cases q : j = i.toNat
      · rw [q, ha] at hjb; obtain rfl := Option.some.inj hjb; exact hd
      · exact hn j b (by omega) hjb
    conv => cbv
    refine Need.mk ⟨hi0, gi⟩ ?_
    conv => cbv
    refine Cell.at i _ hc (by simp [I.val]) rfl ?_
    conv => cbv
    refine callF_frame (look9_lx R ws C G N W ph sp cy L D Q z ov h a) [(0, 0), (1, 1), (2, 2), (3, 3), (4, 4), (5, 5), (6, 6)] rfl (by simp [hmapOk, nget, hget, renB, okB, renV, renVs, rn, okVs, okV]) rfl rfl (fun r h' n' hrr => ?_)
    obtain ⟨hL, e2, e3⟩ := hrr
    subst e2 e3
    cases hL with
    | other k2 hk2 hne =>
      have hnd : ¬ Due R ws C a := by
        rintro ⟨⟨l, hK⟩, _⟩
        cases hk2 with
        | no hno => exact hno hob2
        | is _ l2 hK2 => exact hne (hK2.det9 hK).1
      conv => cbv
      refine Fit.mk (by show (-9223372036854775808 : Int) ≤ i + 1; omega) (by show i + 1 ≤ 9223372036854775807; omega) fun i2 hi2 => ?_
      have hi2 : i2 = i + 1 := hi2
      conv => cbv
      refine Again.mk k' _ (Nat.lt_succ_self _) (Re.at [(0, 0), (1, 1), (2, 2), (3, 3), (4, 4), (5, 5), (6, 6), (7, 7), (8, 8)] []) ⟨i2, rfl, by omega, by omega, hstep i2 hi2 hnd, by omega⟩
    | box x e hk2 hx =>
      obtain ⟨l, hK⟩ : ∃ l, Kept R ws a 5 l := by
        generalize hk5 : (5 : Int) = k5 at hk2
        cases hk2 with
        | no _ => cases hk5
        | is _ l hK => exact ⟨l, hk5 ▸ hK⟩
      have hx0 : x ≠ 0 → e = 0 := by
        intro hne
        generalize h1 : (1 : Int) = i1 at hx
        cases hx with
        | none _ => exact absurd rfl hne
        | arg _ _ _ _ => exact absurd rfl hne
        | ok _ _ _ _ _ _ => rfl
      conv => cbv
      refine Br.mk (fun gx => ?_) (fun gx => ?_)
      · have gx : x ≠ 0 := gx
        obtain rfl := hx0 gx
        conv => cbv
        refine CallF.le (args0 := [.ptr 0 (.lit 0), .p (.int .i64 (.sym a)), .p (.int .i64 (.sym 0))]) (callF_frame (is_lx R ws C G N W ph sp cy L D Q z ov h a 0) [(0, 0), (1, 1), (2, 2), (3, 3), (4, 4), (5, 5), (6, 6)] rfl (by simp [hmapOk, nget, hget, renB, okB, renV, renVs, rn, okVs, okV]) rfl rfl (fun r h' n' hrr => ?_)) (by simp [ales, ale, pvle, I.val])
        obtain ⟨b, e1, e2, e3, hb⟩ := hrr
        subst e1 e2 e3
        cases b with
        | true =>
          conv => cbv
          refine RetF.mk [.agg [.p (.int .i64 (.sym a)), .p (.int .i64 (.sym x))], .p (.bool true)] [(0, .mix [.ptr 1 (.lit 0), .ptr 5 (.lit 0), .sl 6 3 1 (.lit 0) (.sym W), .p (.int .i64 (.sym ph)), .p (.int .i64 (.sym sp)), .p (.int .i64 (.sym cy))]), (1, .mix [.ptr 2 (.lit 0), .sl 4 3 1 (.lit 0) (.sym W)]), (2, .mix [.sl 3 101 2 (.lit 0) (.sym N)]), (3, .pure true L), (4, .pure true D), (5, .pure false [.str fun _ => z, .bool ov]), (6, .pure true Q)] 7 (Re.at [(0, 0), (1, 1), (2, 2), (3, 3), (4, 4), (5, 5), (6, 6)] []) rfl ⟨a, x, true, rfl, rfl, rfl, .found i.toNat a ha ⟨⟨l, hK⟩, (hb.1 rfl).2, x, hx, gx⟩ (fun j b hj => hn j b (by omega))⟩
        | false =>
          have hnd : ¬ Due R ws C a := fun hd => by have := hb.2 ⟨List.mem_of_getElem? ha, hd.2.1⟩; cases this
          conv => cbv
          refine Fit.mk (by show (-9223372036854775808 : Int) ≤ i + 1; omega) (by show i + 1 ≤ 9223372036854775807; omega) fun i2 hi2 => ?_
          have hi2 : i2 = i + 1 := hi2
          conv => cbv
          refine Again.mk k' _ (Nat.lt_succ_self _) (Re.at [(0, 0), (1, 1), (2, 2), (3, 3), (4, 4), (5, 5), (6, 6), (7, 7), (8, 8)] []) ⟨i2, rfl, by omega, by omega, hstep i2 hi2 hnd, by omega⟩
      · have gx : ¬ x ≠ 0 := gx
        have hnd : ¬ Due R ws C a := by
          rintro ⟨_, _, y, hy, hy0⟩
          obtain ⟨rfl, _⟩ := loaded_det hx hy
          exact gx hy0
        conv => cbv
        refine Fit.mk (by show (-9223372036854775808 : Int) ≤ i + 1; omega) (by show i + 1 ≤ 9223372036854775807; omega) fun i2 hi2 => ?_
        have hi2 : i2 = i + 1 := hi2
        conv => cbv
        refine Again.mk k' _ (Nat.lt_succ_self _) (Re.at [(0, 0), (1, 1), (2, 2), (3, 3), (4, 4), (5, 5), (6, 6), (7, 7), (8, 8)] []) ⟨i2, rfl, by omega, by omega, hstep i2 hi2 hnd, by omega⟩
  · have gi : ¬ i < m := gi
    conv => cbv
    refine RetF.mk [.agg [.p (.int .i64 (.sym 0)), .p (.int .i64 (.sym 0))], .p (.bool false)] [(0, .mix [.ptr 1 (.lit 0), .ptr 5 (.lit 0), .sl 6 3 1 (.lit 0) (.sym W), .p (.int .i64 (.sym ph)), .p (.int .i64 (.sym sp)), .p (.int .i64 (.sym cy))]), (1, .mix [.ptr 2 (.lit 0), .sl 4 3 1 (.lit 0) (.sym W)]), (2, .mix [.sl 3 101 2 (.lit 0) (.sym N)]), (3, .pure true L), (4, .pure true D), (5, .pure false [.str fun _ => z, .bool ov]), (6, .pure true Q)] 7 (Re.at [(0, 0), (1, 1), (2, 2), (3, 3), (4, 4), (5, 5), (6, 6)] []) rfl ⟨0, 0, false, rfl, rfl, rfl, .none (fun j b hj => hn j b (by have := (List.getElem?_eq_some_iff.1 hj).1; omega) hj)⟩
theorem wordsV_lx (R : List Rw) (ws C G : List Int) (N W ph sp cy : Int) (L D Q : List PV) (z : ByteArray) (ov : Bool) (h : HM R ws C G N W L D Q z) (a : Int) : CallF (fun _ => Tryz.prog) 86 [.ptr 0 (.lit 0), .p (.int .i64 (.sym a))] [(0, .mix [.ptr 1 (.lit 0), .ptr 5 (.lit 0), .sl 6 3 1 (.lit 0) (.sym W), .p (.int .i64 (.sym ph)), .p (.int .i64 (.sym sp)), .p (.int .i64 (.sym cy))]), (1, .mix [.ptr 2 (.lit 0), .sl 4 3 1 (.lit 0) (.sym W)]), (2, .mix [.sl 3 101 2 (.lit 0) (.sym N)]), (3, .pure true L), (4, .pure true D), (5, .pure false [.str fun _ => z, .bool ov]), (6, .pure true Q)] 7 (fun r h n => ∃ (X : List Int) (m : Int) (O : List PV), r = .p (.vsl (.sym m) true O) ∧ h = [(0, .mix [.ptr 1 (.lit 0), .ptr 5 (.lit 0), .sl 6 3 1 (.lit 0) (.sym W), .p (.int .i64 (.sym ph)), .p (.int .i64 (.sym sp)), .p (.int .i64 (.sym cy))]), (1, .mix [.ptr 2 (.lit 0), .sl 4 3 1 (.lit 0) (.sym W)]), (2, .mix [.sl 3 101 2 (.lit 0) (.sym N)]), (3, .pure true L), (4, .pure true D), (5, .pure false [.str fun _ => z, .bool ov]), (6, .pure true Q)] ∧ n = 7 ∧ O = ipv X ∧ m = X.length ∧ Wrds R ws a X) :=
  (wordsH_lx R ws C G N W ph sp cy L D Q z ov h a).ret fun r h' n' ⟨X, m, O, e1, e2, e3, hO, hm, hX⟩ => by
    subst e1 e2 e3
    exact RetF.mk [.p (.vsl (.sym m) true O)] [(0, .mix [.ptr 1 (.lit 0), .ptr 5 (.lit 0), .sl 6 3 1 (.lit 0) (.sym W), .p (.int .i64 (.sym ph)), .p (.int .i64 (.sym sp)), .p (.int .i64 (.sym cy))]), (1, .mix [.ptr 2 (.lit 0), .sl 4 3 1 (.lit 0) (.sym W)]), (2, .mix [.sl 3 101 2 (.lit 0) (.sym N)]), (3, .pure true L), (4, .pure true D), (5, .pure false [.str fun _ => z, .bool ov]), (6, .pure true Q)] 7 (Re.at [(0, 0), (1, 1), (2, 2), (3, 3), (4, 4), (5, 5), (6, 6)] []) rfl ⟨X, m, O, rfl, rfl, rfl, hO, hm, hX⟩
theorem shadeW_zero (R : List Rw) (ph : Int) (s : List Int × List Int × Bool) (e : Int) : storeS R ph e 0 s = s := by
  unfold storeS shadeW
  split
  · rw [if_neg (by decide)]
  · rfl
set_option maxHeartbeats 4000000 in
theorem keep_lx (R : List Rw) (ws C G : List Int) (N W ph sp cy : Int) (L D Q : List PV) (z : ByteArray) (ov : Bool) (h : HM R ws C G N W L D Q z) (o : Unit → Obj) (ho : IsPow o) (a x : Int) : CallF (fun _ => Tryz.prog) 85 [.ptr 0 (.lit 0), .agg [.p (.int .i64 (.sym a)), .p (.int .i64 (.sym x))]] [(0, .mix [.ptr 1 (.lit 0), .ptr 5 (.lit 0), .sl 6 3 1 (.lit 0) (.sym W), .p (.int .i64 (.sym ph)), .p (.int .i64 (.sym sp)), .p (.int .i64 (.sym cy))]), (1, .mix [.ptr 2 (.lit 0), .sl 4 3 1 (.lit 0) (.sym W)]), (2, .mix [.sl 3 101 2 (.lit 0) (.sym N)]), (3, .pure true L), (4, .pure true D), (5, .pure false [.str fun _ => z, .bool ov]), (6, .pure true Q), (7, .fix 0 o)] 8 (fun r h n => ∃ (X : List Int) (m e : Int) (O : List PV) (ws' C' G' : List Int) (ov' : Bool) (D' Q' : List PV) (z' : ByteArray), r = .agg [.p (.int .i64 (.lit 5)), .p (.int .i64 (.sym a)), .p (.vsl (.sym m) true O), .p (.bool true)] ∧ h = [(0, .mix [.ptr 1 (.lit 0), .ptr 5 (.lit 0), .sl 6 3 1 (.lit 0) (.sym W), .p (.int .i64 (.sym ph)), .p (.int .i64 (.sym sp)), .p (.int .i64 (.sym cy))]), (1, .mix [.ptr 2 (.lit 0), .sl 4 3 1 (.lit 0) (.sym W)]), (2, .mix [.sl 3 101 2 (.lit 0) (.sym N)]), (3, .pure true L), (4, .pure true D'), (5, .pure false [.str fun _ => z', .bool ov']), (6, .pure true Q'), (7, .fix 0 o)] ∧ n = 8 ∧ HM R ws' C' G' N W L D' Q' z' ∧ O = ipv X ∧ m = X.length ∧ Wrds R ws a X ∧ Stored R ws a 1 0 e ws' ∧ (C', G', ov') = shade R ph a (C, G, ov)) := by
  refine callF_of_body tok Tryz.func85 (by kernel_rfl) rfl rfl rfl ?_; conv => cbv
  refine callF_frame (wordsV_lx R ws C G N W ph sp cy L D Q z ov h a) [(0, 0), (1, 1), (2, 2), (3, 3), (4, 4), (5, 5), (6, 6)] rfl (by simp [hmapOk, nget, hget, renB, okB, renV, renVs, rn, okVs, okV]) rfl rfl (fun r h' n' hrr => ?_)
  obtain ⟨X, m, O, e1, e2, e3, hO, hm, hX⟩ := hrr
  subst e1 e2 e3
  conv => cbv
  refine CallF.le (args0 := [.ptr 0 (.lit 0), .p (.int .i64 (.sym a)), .p (.int .i64 (.sym 1)), .p (.int .i64 (.sym 0))]) (callF_frame (store9_lx R ws C G N W ph sp cy L D Q z ov h o ho a 1 0 (by decide)) [(0, 0), (1, 1), (2, 2), (3, 3), (4, 4), (5, 5), (6, 6), (7, 7)] rfl (by simp [hmapOk, nget, hget, renB, okB, renV, renVs, rn, okVs, okV]) rfl rfl (fun r h' n' hrr => ?_)) (by simp [ales, ale, pvle, I.val])
  obtain ⟨e, ws', C1, G1, ov1, D', Q1, z1, e1, e2, e3, h1, hT, hS⟩ := hrr
  subst e1 e2 e3
  rw [shadeW_zero] at hS
  conv => cbv
  refine callF_frame (shade_lx R ws' C1 G1 N W ph sp cy L D' Q1 z1 ov1 h1 o ho a) [(0, 0), (1, 1), (2, 2), (3, 3), (4, 4), (5, 5), (6, 6), (7, 7)] rfl (by simp [hmapOk, nget, hget, renB, okB, renV, renVs, rn, okVs, okV]) rfl rfl (fun r h' n' hrr => ?_)
  obtain ⟨C', G', ov', Q', z', e1, e2, e3, h2, hS2⟩ := hrr
  subst e1 e2 e3
  rw [hS] at hS2
  conv => cbv
  refine RetF.mk [.agg [.p (.int .i64 (.lit 5)), .p (.int .i64 (.sym a)), .p (.vsl (.sym m) true O), .p (.bool true)]] [(0, .mix [.ptr 1 (.lit 0), .ptr 5 (.lit 0), .sl 6 3 1 (.lit 0) (.sym W), .p (.int .i64 (.sym ph)), .p (.int .i64 (.sym sp)), .p (.int .i64 (.sym cy))]), (1, .mix [.ptr 2 (.lit 0), .sl 4 3 1 (.lit 0) (.sym W)]), (2, .mix [.sl 3 101 2 (.lit 0) (.sym N)]), (3, .pure true L), (4, .pure true D'), (5, .pure false [.str fun _ => z', .bool ov']), (6, .pure true Q'), (7, .fix 0 o)] 8 (Re.at [(0, 0), (1, 1), (2, 2), (3, 3), (4, 4), (5, 5), (6, 6), (7, 7)] []) rfl ⟨X, m, e, O, ws', C', G', ov', D', Q', z', rfl, rfl, rfl, h2, hO, hm, hX, hT, hS2⟩
set_option maxHeartbeats 4000000 in
theorem markH_lx (R : List Rw) (ws C G : List Int) (N W ph sp cy : Int) (L D Q : List PV) (z : ByteArray) (ov : Bool) (h : HM R ws C G N W L D Q z) (o : Unit → Obj) (ho : IsPow o) (hph : ph = 1) : CallF (fun _ => Tryz.prog) 62 [.ptr 0 (.lit 0)] [(0, .mix [.ptr 1 (.lit 0), .ptr 5 (.lit 0), .sl 6 3 1 (.lit 0) (.sym W), .p (.int .i64 (.sym ph)), .p (.int .i64 (.sym sp)), .p (.int .i64 (.sym cy))]), (1, .mix [.ptr 2 (.lit 0), .sl 4 3 1 (.lit 0) (.sym W)]), (2, .mix [.sl 3 101 2 (.lit 0) (.sym N)]), (3, .pure true L), (4, .pure true D), (5, .pure false [.str fun _ => z, .bool ov]), (6, .pure true Q), (7, .fix 0 o)] 8 (fun r h n => ∃ (out : List Gn) (k ph' sp' : Int) (cells : List PV) (ws' C' G' : List Int) (ov' : Bool) (D' Q' : List PV) (z' : ByteArray), r = .p (.vsl (.sym k) true cells) ∧ h = [(0, .mix [.ptr 1 (.lit 0), .ptr 5 (.lit 0), .sl 6 3 1 (.lit 0) (.sym W), .p (.int .i64 (.sym ph')), .p (.int .i64 (.sym sp')), .p (.int .i64 (.sym cy))]), (1, .mix [.ptr 2 (.lit 0), .sl 4 3 1 (.lit 0) (.sym W)]), (2, .mix [.sl 3 101 2 (.lit 0) (.sym N)]), (3, .pure true L), (4, .pure true D'), (5, .pure false [.str fun _ => z', .bool ov']), (6, .pure true Q'), (7, .fix 0 o)] ∧ n = 8 ∧ HM R ws' C' G' N W L D' Q' z' ∧ cells = gpv out ∧ k = out.length ∧ Marked R ws C G ov sp out ph' sp' ws' C' G' ov') := by
  subst hph
  refine callF_of_body tok Tryz.func62 (by kernel_rfl) rfl rfl rfl ?_; conv => cbv
  refine callF_frame (nextGrey_lx R ws C G N W 1 sp cy L D Q z ov h) [(0, 0), (1, 1), (2, 2), (3, 3), (4, 4), (5, 5), (6, 6)] rfl (by simp [hmapOk, nget, hget, renB, okB, renV, renVs, rn, okVs, okV]) rfl rfl (fun r h' n' hrr => ?_)
  obtain ⟨v, b, G1, ov1, z1, e1, e2, e3, h1, hg⟩ := hrr
  subst e1 e2 e3
  cases b with
  | true =>
    have hv : 0 ≤ v ∧ v < W := by
      cases hg with
      | pop A _ hG => exact h.g v (by rw [hG]; simp)
      | found i _ _ _ ha _ _ => have := obj_bd h.a (List.mem_of_getElem? ha); have := h.w; have := h.n; omega
    conv => cbv
    refine callF_frame (scan_lx R ws C G1 N W 1 sp cy L D Q z1 ov1 h1 o ho v hv) [(0, 0), (1, 1), (2, 2), (3, 3), (4, 4), (5, 5), (6, 6), (7, 7)] rfl (by simp [hmapOk, nget, hget, renB, okB, renV, renVs, rn, okVs, okV]) rfl rfl (fun r h' n' hrr => ?_)
    obtain ⟨X, C', G', ov', Q', z', e1, e2, e3, h2, hX, hS⟩ := hrr
    subst e1 e2 e3
    conv => cbv
    refine RetF.mk [.p (.vsl (.sym 0) true [])] [(0, .mix [.ptr 1 (.lit 0), .ptr 5 (.lit 0), .sl 6 3 1 (.lit 0) (.sym W), .p (.int .i64 (.sym 1)), .p (.int .i64 (.sym sp)), .p (.int .i64 (.sym cy))]), (1, .mix [.ptr 2 (.lit 0), .sl 4 3 1 (.lit 0) (.sym W)]), (2, .mix [.sl 3 101 2 (.lit 0) (.sym N)]), (3, .pure true L), (4, .pure true D), (5, .pure false [.str fun _ => z', .bool ov']), (6, .pure true Q'), (7, .fix 0 o)] 8 (Re.at [(0, 0), (1, 1), (2, 2), (3, 3), (4, 4), (5, 5), (6, 6), (7, 7)] []) rfl ⟨[], 0, 1, sp, [], ws, C', G', ov', D, Q', z', rfl, rfl, rfl, h2, rfl, rfl, .scan v G1 X C' G' ov1 ov' hg hX hS⟩
  | false =>
    have hv0 : v = 0 := by
      cases hg <;> rfl
    subst hv0
    conv => cbv
    refine callF_frame (nextFinal_lx R ws C G1 N W 1 sp cy L D Q z1 ov1 h1) [(0, 0), (1, 1), (2, 2), (3, 3), (4, 4), (5, 5), (6, 6)] rfl (by simp [hmapOk, nget, hget, renB, okB, renV, renVs, rn, okVs, okV]) rfl rfl (fun r h' n' hrr => ?_)
    obtain ⟨a, x, b, e1, e2, e3, hf⟩ := hrr
    subst e1 e2 e3
    cases b with
    | true =>
      conv => cbv
      refine callF_frame (keep_lx R ws C G1 N W 1 sp cy L D Q z1 ov1 h1 o ho a x) [(0, 0), (1, 1), (2, 2), (3, 3), (4, 4), (5, 5), (6, 6), (7, 7)] rfl (by simp [hmapOk, nget, hget, renB, okB, renV, renVs, rn, okVs, okV]) rfl rfl (fun r h' n' hrr => ?_)
      obtain ⟨X, m, e, O, ws', C', G', ov', D', Q', z', e1, e2, e3, h2, hO, hm, hX, hT, hS⟩ := hrr
      subst e1 e2 e3
      have he : e = 0 := by
        cases hf with
        | found i _ ha hd _ =>
          obtain ⟨⟨l, hK⟩, _, y, hy, _⟩ := hd
          cases hy with
          | ok _ l2 _ hK2 hi _ =>
            cases hT with
            | none hno => exact absurd hK2.obj6 hno
            | arg k3 l3 hK3 hi3 => obtain ⟨_, rfl⟩ := hK2.det9 hK3; exact absurd hi hi3
            | ok _ _ _ _ => rfl
      subst he
      conv => cbv
      refine RetF.mk [.p (.vsl (.sym 1) true [.int .i64 (.sym 5), .int .i64 (.sym a), .vsl (.sym m) true O, .bool true])] [(0, .mix [.ptr 1 (.lit 0), .ptr 5 (.lit 0), .sl 6 3 1 (.lit 0) (.sym W), .p (.int .i64 (.sym 1)), .p (.int .i64 (.sym sp)), .p (.int .i64 (.sym cy))]), (1, .mix [.ptr 2 (.lit 0), .sl 4 3 1 (.lit 0) (.sym W)]), (2, .mix [.sl 3 101 2 (.lit 0) (.sym N)]), (3, .pure true L), (4, .pure true D'), (5, .pure false [.str fun _ => z', .bool ov']), (6, .pure true Q'), (7, .fix 0 o)] 8 (Re.at [(0, 0), (1, 1), (2, 2), (3, 3), (4, 4), (5, 5), (6, 6), (7, 7)] []) rfl ⟨[(5, a, X, true)], 1, 1, sp, _, ws', C', G', ov', D', Q', z', rfl, rfl, rfl, h2, by rw [hO, hm]; rfl, rfl, .keep a G1 X ws' C' G' ov1 ov' hg hf hX hT hS⟩
    | false =>
      have ha0 : a = 0 := by cases hf; rfl
      subst ha0
      conv => cbv
      refine RetF.mk [.p (.vsl (.sym 0) true [])] [(0, .mix [.ptr 1 (.lit 0), .ptr 5 (.lit 0), .sl 6 3 1 (.lit 0) (.sym W), .p (.int .i64 (.sym 2)), .p (.int .i64 (.sym 0)), .p (.int .i64 (.sym cy))]), (1, .mix [.ptr 2 (.lit 0), .sl 4 3 1 (.lit 0) (.sym W)]), (2, .mix [.sl 3 101 2 (.lit 0) (.sym N)]), (3, .pure true L), (4, .pure true D), (5, .pure false [.str fun _ => z1, .bool ov1]), (6, .pure true Q), (7, .fix 0 o)] 8 (Re.at [(0, 0), (1, 1), (2, 2), (3, 3), (4, 4), (5, 5), (6, 6), (7, 7)] []) rfl ⟨[], 0, 2, 0, [], ws, C, G1, ov1, D, Q, z1, rfl, rfl, rfl, h1, rfl, rfl, .sweep G1 ov1 hg hf⟩
end Go.Proofs.YtllafhhnciobhaaGreatDoor
