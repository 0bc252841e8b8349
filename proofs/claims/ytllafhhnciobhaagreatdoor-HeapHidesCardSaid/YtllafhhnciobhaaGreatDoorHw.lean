/-
  Layer 9: the reference's steps.
-/
import Derived.Test.YtllafhhnciobhaaGreatDoorHr
import Derived.Test.YtllafhhnciobhaaGreatDoorHv
namespace Go.Proofs.YtllafhhnciobhaaGreatDoor

open Go Go.LX
set_option maxRecDepth 100000
set_option linter.unusedVariables false
set_option linter.unusedSimpArgs false

theorem RM.over {R : List Rw} {vs C G G' : List Int} {N W m m' : Int} {P B V Q la la' : List PV} (h : RM R vs C G N W P B V Q la m) (hl : la' = i64s G') (hm : m' = G'.length) (hG : ∀ x ∈ G', x ∈ G) (h8 : G'.length ≤ G.length) : RM R vs C G' N W P B V Q la' m' :=
  ⟨h.a, h.n, h.r, h.w, h.p, h.b, h.v, h.q, h.c, hl, hm, fun x hx => h.g x (hG x hx), Nat.le_trans h8 h.g8⟩
set_option maxHeartbeats 4000000 in
theorem rgrey_lx (R : List Rw) (vs C G : List Int) (N W ph sp cy : Int) (P B V Q la : List PV) (m : Int) (ov : Bool) (h : RM R vs C G N W P B V Q la m) : CallF (fun _ => Tryz.prog) 97 [.ptr 0 (.lit 0)] [(0, .mix [.ptr 1 (.lit 0), .sl 6 3 1 (.lit 0) (.sym W), .ptr 7 (.lit 0), .p (.int .i64 (.sym ph)), .p (.int .i64 (.sym sp)), .p (.int .i64 (.sym cy))]), (1, .mix [.ptr 2 (.lit 0), .sl 5 3 1 (.lit 0) (.sym W)]), (2, .mix [.sl 3 3 1 (.lit 0) (.sym N), .sl 4 120 8 (.lit 0) (.sym N)]), (3, .pure true P), (4, .pure true B), (5, .pure true V), (6, .pure true Q), (7, .mix [.p (.vsl (.sym m) true la), .p (.bool ov)])] 8 (fun r h n => ∃ (v : Int) (b : Bool) (G' : List Int) (ov' : Bool) (la' : List PV) (m' : Int), r = .tup [.p (.int .i64 (.sym v)), .p (.bool b)] ∧ h = [(0, .mix [.ptr 1 (.lit 0), .sl 6 3 1 (.lit 0) (.sym W), .ptr 7 (.lit 0), .p (.int .i64 (.sym ph)), .p (.int .i64 (.sym sp)), .p (.int .i64 (.sym cy))]), (1, .mix [.ptr 2 (.lit 0), .sl 5 3 1 (.lit 0) (.sym W)]), (2, .mix [.sl 3 3 1 (.lit 0) (.sym N), .sl 4 120 8 (.lit 0) (.sym N)]), (3, .pure true P), (4, .pure true B), (5, .pure true V), (6, .pure true Q), (7, .mix [.p (.vsl (.sym m') true la'), .p (.bool ov')])] ∧ n = 8 ∧ RM R vs C G' N W P B V Q la' m' ∧ NextG R C G ov v b G' ov') := by
  have hCl := h.c; have hWn := h.w; have hNr := h.n; have hRr := h.r
  have hQl : Q.length = C.length := by rw [h.q, ipv_length]
  cases ov with
  | false =>
    refine callF_of_body tok Tryz.func97 (by kernel_rfl) rfl rfl rfl ?_; conv => cbv
    refine callF_frame (refPop_lx G m la false h.m h.l h.g8) [(0, 7)] rfl (by simp [hmapOk, nget, hget, renB, okB, renV, renVs, rn, okVs, okV]) rfl rfl (fun r h' n' hrr => ?_)
    obtain ⟨v, b, m', la', G', e1, e2, e3, hm', hl', h4⟩ := hrr
    subst e1 e2 e3
    have hGs : ∀ x ∈ G', x ∈ G := by
      intro x hx
      rcases h4 with ⟨_, _, _, e⟩ | ⟨e, _⟩
      · rw [e] at hx; cases hx
      · rw [e]; exact List.mem_append_left _ hx
    have hG8 : G'.length ≤ G.length := by
      rcases h4 with ⟨_, _, _, e⟩ | ⟨e, _⟩
      · rw [e]; exact Nat.zero_le _
      · rw [e, List.length_append]; omega
    have h1 : RM R vs C G' N W P B V Q la' m' := h.over hl' hm' hGs hG8
    cases b with
    | true =>
      conv => cbv
      have hG : G = G' ++ [v] := by
        rcases h4 with ⟨_, _, e, _⟩ | ⟨e, _⟩
        · cases e
        · exact e
      refine RetF.mk [.p (.int .i64 (.sym v)), .p (.bool true)] [(0, .mix [.ptr 1 (.lit 0), .sl 6 3 1 (.lit 0) (.sym W), .ptr 7 (.lit 0), .p (.int .i64 (.sym ph)), .p (.int .i64 (.sym sp)), .p (.int .i64 (.sym cy))]), (1, .mix [.ptr 2 (.lit 0), .sl 5 3 1 (.lit 0) (.sym W)]), (2, .mix [.sl 3 3 1 (.lit 0) (.sym N), .sl 4 120 8 (.lit 0) (.sym N)]), (3, .pure true P), (4, .pure true B), (5, .pure true V), (6, .pure true Q), (7, .mix [.p (.vsl (.sym m') true la'), .p (.bool false)])] 8 (Re.at [(0, 0), (1, 1), (2, 2), (3, 3), (4, 4), (5, 5), (6, 6), (7, 7)] []) rfl ⟨v, true, G', false, la', m', rfl, rfl, rfl, h1, .pop G' v hG⟩
    | false =>
      conv => cbv
      have hgg : G = [] ∧ v = 0 ∧ G' = [] := by
        rcases h4 with ⟨e, e1, _, e2⟩ | ⟨_, e⟩
        · exact ⟨e, e1, e2⟩
        · cases e
      have hG0 := hgg.1
      have hv0 := hgg.2.1
      have hG' := hgg.2.2
      refine RetF.mk [.p (.int .i64 (.sym v)), .p (.bool false)] [(0, .mix [.ptr 1 (.lit 0), .sl 6 3 1 (.lit 0) (.sym W), .ptr 7 (.lit 0), .p (.int .i64 (.sym ph)), .p (.int .i64 (.sym sp)), .p (.int .i64 (.sym cy))]), (1, .mix [.ptr 2 (.lit 0), .sl 5 3 1 (.lit 0) (.sym W)]), (2, .mix [.sl 3 3 1 (.lit 0) (.sym N), .sl 4 120 8 (.lit 0) (.sym N)]), (3, .pure true P), (4, .pure true B), (5, .pure true V), (6, .pure true Q), (7, .mix [.p (.vsl (.sym m') true la'), .p (.bool false)])] 8 (Re.at [(0, 0), (1, 1), (2, 2), (3, 3), (4, 4), (5, 5), (6, 6), (7, 7)] []) rfl ⟨v, false, G', false, la', m', rfl, rfl, rfl, h1, by rw [hG', hv0]; exact .none hG0 rfl⟩
  | true =>
    refine callF_of_body tok Tryz.func97 (by kernel_rfl) rfl rfl rfl ?_; conv => cbv
    refine callF_frame (refPop_lx G m la true h.m h.l h.g8) [(0, 7)] rfl (by simp [hmapOk, nget, hget, renB, okB, renV, renVs, rn, okVs, okV]) rfl rfl (fun r h' n' hrr => ?_)
    obtain ⟨v, b, m', la', G', e1, e2, e3, hm', hl', h4⟩ := hrr
    subst e1 e2 e3
    have hGs : ∀ x ∈ G', x ∈ G := by
      intro x hx
      rcases h4 with ⟨_, _, _, e⟩ | ⟨e, _⟩
      · rw [e] at hx; cases hx
      · rw [e]; exact List.mem_append_left _ hx
    have hG8 : G'.length ≤ G.length := by
      rcases h4 with ⟨_, _, _, e⟩ | ⟨e, _⟩
      · rw [e]; exact Nat.zero_le _
      · rw [e, List.length_append]; omega
    have h1 : RM R vs C G' N W P B V Q la' m' := h.over hl' hm' hGs hG8
    cases b with
    | true =>
      conv => cbv
      have hG : G = G' ++ [v] := by
        rcases h4 with ⟨_, _, e, _⟩ | ⟨e, _⟩
        · cases e
        · exact e
      refine RetF.mk [.p (.int .i64 (.sym v)), .p (.bool true)] [(0, .mix [.ptr 1 (.lit 0), .sl 6 3 1 (.lit 0) (.sym W), .ptr 7 (.lit 0), .p (.int .i64 (.sym ph)), .p (.int .i64 (.sym sp)), .p (.int .i64 (.sym cy))]), (1, .mix [.ptr 2 (.lit 0), .sl 5 3 1 (.lit 0) (.sym W)]), (2, .mix [.sl 3 3 1 (.lit 0) (.sym N), .sl 4 120 8 (.lit 0) (.sym N)]), (3, .pure true P), (4, .pure true B), (5, .pure true V), (6, .pure true Q), (7, .mix [.p (.vsl (.sym m') true la'), .p (.bool true)])] 8 (Re.at [(0, 0), (1, 1), (2, 2), (3, 3), (4, 4), (5, 5), (6, 6), (7, 7)] []) rfl ⟨v, true, G', true, la', m', rfl, rfl, rfl, h1, .pop G' v hG⟩
    | false =>
      conv => cbv
      have hgg : G = [] ∧ v = 0 ∧ G' = [] := by
        rcases h4 with ⟨e, e1, _, e2⟩ | ⟨_, e⟩
        · exact ⟨e, e1, e2⟩
        · cases e
      have hG0 := hgg.1
      have hv0 := hgg.2.1
      have hG' := hgg.2.2
      obtain ⟨mo, hmo⟩ : ∃ m : Int, m = objCount R := ⟨_, rfl⟩
      refine callF_frame (robjects_lx mo R vs N W P B V h.p h.b h.v h.n h.r h.a h.w hmo) [(0, 1), (1, 2), (2, 3), (3, 4), (4, 5)] rfl (by simp [hmapOk, nget, hget, renB, okB, renV, renVs, rn, okVs, okV]) rfl rfl (fun r h' n' hrr => ?_)
      obtain ⟨O, e1, e2, e3, hO⟩ := hrr
      subst e1 e2 e3
      have hOl : (O.length : Int) = mo := by rw [hO, ipv_length, objs_length h.a.rows, hmo]
      have hO : O = ipv (objs R) := hO
      have hol : ((objs R).length : Int) = mo := by rw [← hOl, hO, ipv_length]
      have hob : mo ≤ 8000 := by have := objsTo_le R R.length; rw [objs_length h.a.rows] at this; omega
      conv => cbv
      refine LoopF.mk (fun k s => ∃ i : Int, s = ⟨.ptr 0 (.lit 0) :: (undefs 5 ++ .sl 8 3 1 (.lit 0) (.sym mo) :: .p (.int .i64 (.sym i)) :: undefs 53), [(0, .mix [.ptr 1 (.lit 0), .sl 6 3 1 (.lit 0) (.sym W), .ptr 7 (.lit 0), .p (.int .i64 (.sym ph)), .p (.int .i64 (.sym sp)), .p (.int .i64 (.sym cy))]), (1, .mix [.ptr 2 (.lit 0), .sl 5 3 1 (.lit 0) (.sym W)]), (2, .mix [.sl 3 3 1 (.lit 0) (.sym N), .sl 4 120 8 (.lit 0) (.sym N)]), (3, .pure true P), (4, .pure true B), (5, .pure true V), (6, .pure true Q), (7, .mix [.p (.vsl (.sym m') true la'), .p (.bool true)]), (8, .pure true O)], 9⟩ ∧ 0 ≤ i ∧ i ≤ mo ∧ (∀ (j : Nat) b, (j : Int) < i → (objs R)[j]? = some b → C[b.toNat]? ≠ some 1) ∧ k = (mo - i).toNat) mo.toNat _
        (Re.at [(0, 0), (1, 1), (2, 2), (3, 3), (4, 4), (5, 5), (6, 6), (7, 7), (8, 8)] []) ⟨0, rfl, by omega, by omega, fun j b hj => by omega, by omega⟩ ?_
      rintro k s ⟨i, rfl, hi0, hi1, hn, hk⟩
      conv => cbv
      refine Br.mk (fun gi => ?_) (fun gi => ?_)
      · have gi : i < mo := gi
        obtain ⟨k', rfl⟩ : ∃ k', k = k' + 1 := ⟨k - 1, by omega⟩
        obtain ⟨a, ha⟩ : ∃ a, (objs R)[i.toNat]? = some a := ⟨_, List.getElem?_eq_getElem (by omega)⟩
        have hc : O[i.toNat]? = some (.int .i64 (.sym a)) := by rw [hO]; exact ipv_get ha
        have hab := obj_bd h.a (List.mem_of_getElem? ha)
        obtain ⟨x, hx⟩ : ∃ x, C[a.toNat]? = some x := ⟨_, List.getElem?_eq_getElem (by omega)⟩
        have hq : Q[a.toNat]? = some (.int .i64 (.sym x)) := by rw [h.q]; exact ipv_get hx
        conv => cbv
        refine drawn_sound tok (by kernel_rfl) [] [0, 1, 2, 3, 4, 5, 6, 7, 8, 9, 10] (by kernel_rfl) ?_; conv => cbv
        refine Need.mk ⟨hi0, gi⟩ ?_
        conv => cbv
        refine Cell.at i _ hc (by simp [I.val]) rfl ?_
        conv => cbv
        refine Need.mk ⟨by show 0 ≤ a; omega, by show a < W; omega⟩ ?_
        conv => cbv
        refine Cell.at a _ hq (by simp [I.val]) rfl ?_
        conv => cbv
        refine Br.mk (fun gx => ?_) (fun gx => ?_)
        · have gx : x = 1 := gx
          conv => cbv
          refine Need.mk ⟨hi0, gi⟩ ?_
          conv => cbv
          refine Cell.at i _ hc (by simp [I.val]) rfl ?_
          conv => cbv
          refine RetF.mk [.p (.int .i64 (.sym a)), .p (.bool true)] [(0, .mix [.ptr 1 (.lit 0), .sl 6 3 1 (.lit 0) (.sym W), .ptr 7 (.lit 0), .p (.int .i64 (.sym ph)), .p (.int .i64 (.sym sp)), .p (.int .i64 (.sym cy))]), (1, .mix [.ptr 2 (.lit 0), .sl 5 3 1 (.lit 0) (.sym W)]), (2, .mix [.sl 3 3 1 (.lit 0) (.sym N), .sl 4 120 8 (.lit 0) (.sym N)]), (3, .pure true P), (4, .pure true B), (5, .pure true V), (6, .pure true Q), (7, .mix [.p (.vsl (.sym m') true la'), .p (.bool true)])] 8 (Re.at [(0, 0), (1, 1), (2, 2), (3, 3), (4, 4), (5, 5), (6, 6), (7, 7)] []) rfl ⟨a, true, G', true, la', m', rfl, rfl, rfl, h1, by rw [hG']; exact .found i.toNat a hG0 rfl ha (by rw [hx, gx]) (fun j b hj => hn j b (by omega))⟩
        · have gx : ¬ x = 1 := gx
          have hna : C[a.toNat]? ≠ some 1 := fun hk => gx (Option.some.inj (hx.symm.trans hk))
          conv => cbv
          refine Fit.mk (by show (-9223372036854775808 : Int) ≤ i + 1; omega) (by show i + 1 ≤ 9223372036854775807; omega) fun i2 hi2 => ?_
          have hi2 : i2 = i + 1 := hi2
          have hn2 : ∀ (j : Nat) b, (j : Int) < i2 → (objs R)[j]? = some b → C[b.toNat]? ≠ some 1 := by
            intro j b hj hjb
            by_cases q : j = i.toNat
            · rw [q, ha] at hjb; obtain rfl := Option.some.inj hjb; exact hna
            · exact hn j b (by omega) hjb
          conv => cbv
          refine Again.mk k' _ (Nat.lt_succ_self _) (Re.at [(0, 0), (1, 1), (2, 2), (3, 3), (4, 4), (5, 5), (6, 6), (7, 7), (8, 8)] []) ⟨i2, rfl, by omega, by omega, hn2, by omega⟩
      · have gi : ¬ i < mo := gi
        conv => cbv
        refine RetF.mk [.p (.int .i64 (.sym 0)), .p (.bool false)] [(0, .mix [.ptr 1 (.lit 0), .sl 6 3 1 (.lit 0) (.sym W), .ptr 7 (.lit 0), .p (.int .i64 (.sym ph)), .p (.int .i64 (.sym sp)), .p (.int .i64 (.sym cy))]), (1, .mix [.ptr 2 (.lit 0), .sl 5 3 1 (.lit 0) (.sym W)]), (2, .mix [.sl 3 3 1 (.lit 0) (.sym N), .sl 4 120 8 (.lit 0) (.sym N)]), (3, .pure true P), (4, .pure true B), (5, .pure true V), (6, .pure true Q), (7, .mix [.p (.vsl (.sym m') true la'), .p (.bool false)])] 8 (Re.at [(0, 0), (1, 1), (2, 2), (3, 3), (4, 4), (5, 5), (6, 6), (7, 7)] []) rfl ⟨0, false, G', false, la', m', rfl, rfl, rfl, h1, by rw [hG']; exact .settle hG0 rfl (fun j b hj => hn j b (by have := (List.getElem?_eq_some_iff.1 hj).1; omega) hj)⟩

theorem rwordsV_lx (R : List Rw) (vs C G : List Int) (N W ph sp cy : Int) (P B V Q la : List PV) (m : Int) (ov : Bool) (h : RM R vs C G N W P B V Q la m) (a : Int) : CallF (fun _ => Tryz.prog) 65 [.ptr 0 (.lit 0), .p (.int .i64 (.sym a))] [(0, .mix [.ptr 1 (.lit 0), .sl 6 3 1 (.lit 0) (.sym W), .ptr 7 (.lit 0), .p (.int .i64 (.sym ph)), .p (.int .i64 (.sym sp)), .p (.int .i64 (.sym cy))]), (1, .mix [.ptr 2 (.lit 0), .sl 5 3 1 (.lit 0) (.sym W)]), (2, .mix [.sl 3 3 1 (.lit 0) (.sym N), .sl 4 120 8 (.lit 0) (.sym N)]), (3, .pure true P), (4, .pure true B), (5, .pure true V), (6, .pure true Q), (7, .mix [.p (.vsl (.sym m) true la), .p (.bool ov)])] 8 (fun r h n => ∃ (X : List Int) (k : Int) (O : List PV), r = .p (.vsl (.sym k) true O) ∧ h = [(0, .mix [.ptr 1 (.lit 0), .sl 6 3 1 (.lit 0) (.sym W), .ptr 7 (.lit 0), .p (.int .i64 (.sym ph)), .p (.int .i64 (.sym sp)), .p (.int .i64 (.sym cy))]), (1, .mix [.ptr 2 (.lit 0), .sl 5 3 1 (.lit 0) (.sym W)]), (2, .mix [.sl 3 3 1 (.lit 0) (.sym N), .sl 4 120 8 (.lit 0) (.sym N)]), (3, .pure true P), (4, .pure true B), (5, .pure true V), (6, .pure true Q), (7, .mix [.p (.vsl (.sym m) true la), .p (.bool ov)])] ∧ n = 8 ∧ O = ipv X ∧ k = X.length ∧ Wrds R vs a X) :=
  (rwords9_lx R vs C G N W ph sp cy P B V Q la m ov h a).ret fun r h' n' ⟨X, k, O, e1, e2, e3, hO, hm, hX⟩ => by
    subst e1 e2 e3
    exact RetF.mk [.p (.vsl (.sym k) true O)] [(0, .mix [.ptr 1 (.lit 0), .sl 6 3 1 (.lit 0) (.sym W), .ptr 7 (.lit 0), .p (.int .i64 (.sym ph)), .p (.int .i64 (.sym sp)), .p (.int .i64 (.sym cy))]), (1, .mix [.ptr 2 (.lit 0), .sl 5 3 1 (.lit 0) (.sym W)]), (2, .mix [.sl 3 3 1 (.lit 0) (.sym N), .sl 4 120 8 (.lit 0) (.sym N)]), (3, .pure true P), (4, .pure true B), (5, .pure true V), (6, .pure true Q), (7, .mix [.p (.vsl (.sym m) true la), .p (.bool ov)])] 8 (Re.at [(0, 0), (1, 1), (2, 2), (3, 3), (4, 4), (5, 5), (6, 6), (7, 7)] []) rfl ⟨X, k, O, rfl, rfl, rfl, hO, hm, hX⟩
theorem Wrds.le {R : List Rw} {ws X : List Int} {a : Int} (hA : AOk R ws) (h : Wrds R ws a X) : X.length ≤ 31 := by
  have hle := h.1
  generalize hxl : (X.length : Int) = xl at hle
  cases hle with
  | no _ => omega
  | is k l hk => have := hk.bounds hA; omega
end Go.Proofs.YtllafhhnciobhaaGreatDoor
/-
  Layer 9: the reference's step of Mark.
-/
namespace Go.Proofs.YtllafhhnciobhaaGreatDoor

open Go Go.LX
set_option maxRecDepth 100000
set_option linter.unusedVariables false
set_option linter.unusedSimpArgs false

set_option maxHeartbeats 8000000 in
theorem rmark_lx (R : List Rw) (vs C G : List Int) (N W ph sp cy : Int) (P B V Q la : List PV) (m : Int) (ov : Bool) (h : RM R vs C G N W P B V Q la m) (hph : ph = 1) : CallF (fun _ => Tryz.prog) 76 [.ptr 0 (.lit 0)] [(0, .mix [.ptr 1 (.lit 0), .sl 6 3 1 (.lit 0) (.sym W), .ptr 7 (.lit 0), .p (.int .i64 (.sym ph)), .p (.int .i64 (.sym sp)), .p (.int .i64 (.sym cy))]), (1, .mix [.ptr 2 (.lit 0), .sl 5 3 1 (.lit 0) (.sym W)]), (2, .mix [.sl 3 3 1 (.lit 0) (.sym N), .sl 4 120 8 (.lit 0) (.sym N)]), (3, .pure true P), (4, .pure true B), (5, .pure true V), (6, .pure true Q), (7, .mix [.p (.vsl (.sym m) true la), .p (.bool ov)])] 8 (fun r h n => ∃ (out : List Gn) (k ph' sp' : Int) (cells : List PV) (vs' C' G' : List Int) (ov' : Bool) (V' Q' la' : List PV) (m' : Int), r = .p (.vsl (.sym k) true cells) ∧ h = [(0, .mix [.ptr 1 (.lit 0), .sl 6 3 1 (.lit 0) (.sym W), .ptr 7 (.lit 0), .p (.int .i64 (.sym ph')), .p (.int .i64 (.sym sp')), .p (.int .i64 (.sym cy))]), (1, .mix [.ptr 2 (.lit 0), .sl 5 3 1 (.lit 0) (.sym W)]), (2, .mix [.sl 3 3 1 (.lit 0) (.sym N), .sl 4 120 8 (.lit 0) (.sym N)]), (3, .pure true P), (4, .pure true B), (5, .pure true V'), (6, .pure true Q'), (7, .mix [.p (.vsl (.sym m') true la'), .p (.bool ov')])] ∧ n = 8 ∧ RM R vs' C' G' N W P B V' Q' la' m' ∧ cells = gpv out ∧ k = out.length ∧ Marked R vs C G ov sp out ph' sp' vs' C' G' ov') := by
  subst hph
  have hCl := h.c; have hWn := h.w; have hNr := h.n; have hRr := h.r
  have hQl : Q.length = C.length := by rw [h.q, ipv_length]
  refine callF_of_body tok Tryz.func76 (by kernel_rfl) rfl rfl rfl ?_; conv => cbv
  refine callF_frame (rgrey_lx R vs C G N W 1 sp cy P B V Q la m ov h) [(0, 0), (1, 1), (2, 2), (3, 3), (4, 4), (5, 5), (6, 6), (7, 7)] rfl (by simp [hmapOk, nget, hget, renB, okB, renV, renVs, rn, okVs, okV]) rfl rfl (fun r h' n' hrr => ?_)
  obtain ⟨v, b, G1, ov1, la1, m1, e1, e2, e3, h1, hg⟩ := hrr
  subst e1 e2 e3
  cases b with
  | true =>
    have hv : 0 ≤ v ∧ v < W := by
      cases hg with
      | pop A _ hG => exact h.g v (by rw [hG]; simp)
      | found i _ _ _ ha _ _ => have := obj_bd h.a (List.mem_of_getElem? ha); omega
    conv => cbv
    refine callF_frame (rwordsV_lx R vs C G1 N W 1 sp cy P B V Q la1 m1 ov1 h1 v) [(0, 0), (1, 1), (2, 2), (3, 3), (4, 4), (5, 5), (6, 6), (7, 7)] rfl (by simp [hmapOk, nget, hget, renB, okB, renV, renVs, rn, okVs, okV]) rfl rfl (fun r h' n' hrr => ?_)
    obtain ⟨X, k, O, e1, e2, e3, hO, hk, hX⟩ := hrr
    subst e1 e2 e3
    have hXb := hX.bd h.a
    have hX31 := hX.le h.a
    conv => cbv
    refine LoopF.mk (fun kk s => ∃ (i : Int) (C' G' : List Int) (ov' : Bool) (Q' la' : List PV) (m' : Int), s = ⟨.ptr 0 (.lit 0) :: (undefs 2 ++ .p (.int .i64 (.sym v)) :: .undef :: .p (.vsl (.sym k) true O) :: .p (.int .i64 (.sym i)) :: undefs 115), [(0, .mix [.ptr 1 (.lit 0), .sl 6 3 1 (.lit 0) (.sym W), .ptr 7 (.lit 0), .p (.int .i64 (.sym 1)), .p (.int .i64 (.sym sp)), .p (.int .i64 (.sym cy))]), (1, .mix [.ptr 2 (.lit 0), .sl 5 3 1 (.lit 0) (.sym W)]), (2, .mix [.sl 3 3 1 (.lit 0) (.sym N), .sl 4 120 8 (.lit 0) (.sym N)]), (3, .pure true P), (4, .pure true B), (5, .pure true V), (6, .pure true Q'), (7, .mix [.p (.vsl (.sym m') true la'), .p (.bool ov')])], 8⟩ ∧ 0 ≤ i ∧ i ≤ k ∧ RM R vs C' G' N W P B V Q' la' m' ∧ (C', G', ov') = (X.take i.toNat).foldl (fun s w => shadeW R 1 w s) (C, G1, ov1) ∧ kk = (k - i).toNat) k.toNat _
      (Re.at [(0, 0), (1, 1), (2, 2), (3, 3), (4, 4), (5, 5), (6, 6), (7, 7)] []) ⟨0, C, G1, ov1, Q, la1, m1, rfl, by omega, by omega, h1, rfl, by omega⟩ ?_
    rintro kk s ⟨i, C', G', ov', Q', la', m', rfl, hi0, hi1, h2, hS, hkk⟩
    conv => cbv
    refine Br.mk (fun gi => ?_) (fun gi => ?_)
    · have gi : i < k := gi
      obtain ⟨k', rfl⟩ : ∃ k', kk = k' + 1 := ⟨kk - 1, by omega⟩
      obtain ⟨w, hw⟩ : ∃ w, X[i.toNat]? = some w := ⟨_, List.getElem?_eq_getElem (by omega)⟩
      have hc : O[i.toNat]? = some (.int .i64 (.sym w)) := by rw [hO]; exact ipv_get hw
      have hstep : ∀ (i2 : Int), i2 = i + 1 → ∀ s2, s2 = shadeW R 1 w (C', G', ov') → s2 = (X.take i2.toNat).foldl (fun s w => shadeW R 1 w s) (C, G1, ov1) := by
        intro i2 hi2 s2 hs2
        rw [show i2.toNat = i.toNat + 1 by omega, List.take_add_one, hw, Option.toList_some, List.foldl_append, ← hS, hs2]; rfl
      conv => cbv
      refine Need.mk ⟨hi0, gi⟩ ?_
      conv => cbv
      refine Cell.at i _ hc (by simp [I.val]) rfl ?_
      conv => cbv
      refine callF_frame (rIsPtr_lx w) [] rfl trivial rfl rfl (fun r h' n' hrr => ?_)
      obtain ⟨b, e1, e2, e3, hb⟩ := hrr
      subst e1 e2 e3
      cases b with
      | false =>
        conv => cbv
        have hb : ¬ w % 2 = 1 := fun k => by have := hb.2 k; cases this
        refine Fit.mk (by show (-9223372036854775808 : Int) ≤ i + 1; omega) (by show i + 1 ≤ 9223372036854775807; omega) fun i2 hi2 => ?_
        have hi2 : i2 = i + 1 := hi2
        have hS2 := hstep i2 hi2 (C', G', ov') (by unfold shadeW; rw [if_neg hb])
        conv => cbv
        refine Again.mk k' _ (Nat.lt_succ_self _) (Re.at [(0, 0), (1, 1), (2, 2), (3, 3), (4, 4), (5, 5), (6, 6), (7, 7)] []) ⟨i2, C', G', ov', Q', la', m', rfl, by omega, by omega, h2, hS2, by omega⟩
      | true =>
        conv => cbv
        have hb : w % 2 = 1 := hb.1 rfl
        refine Need.mk ⟨hi0, gi⟩ ?_
        conv => cbv
        refine Cell.at i _ hc (by simp [I.val]) rfl ?_
        conv => cbv
        refine callF_frame (rAt_lx w (hXb w (List.mem_of_getElem? hw))) [] rfl trivial rfl rfl (fun r h' n' hrr => ?_)
        obtain ⟨y, e1, e2, e3, hy, _⟩ := hrr
        subst e1 e2 e3
        have hy := hy hb
        conv => cbv
        refine callF_frame (rshade_lx R vs C' G' N W 1 sp cy P B V Q' la' m' ov' h2 y) [(0, 0), (1, 1), (2, 2), (3, 3), (4, 4), (5, 5), (6, 6), (7, 7)] rfl (by simp [hmapOk, nget, hget, renB, okB, renV, renVs, rn, okVs, okV]) rfl rfl (fun r h' n' hrr => ?_)
        obtain ⟨C2, G2, ov2, Q2, la2, m2, e1, e2, e3, h3, hs⟩ := hrr
        subst e1 e2 e3
        conv => cbv
        refine Fit.mk (by show (-9223372036854775808 : Int) ≤ i + 1; omega) (by show i + 1 ≤ 9223372036854775807; omega) fun i2 hi2 => ?_
        have hi2 : i2 = i + 1 := hi2
        have hS2 := hstep i2 hi2 (C2, G2, ov2) (by unfold shadeW; rw [if_pos hb, ← hy]; exact hs)
        conv => cbv
        refine Again.mk k' _ (Nat.lt_succ_self _) (Re.at [(0, 0), (1, 1), (2, 2), (3, 3), (4, 4), (5, 5), (6, 6), (7, 7)] []) ⟨i2, C2, G2, ov2, Q2, la2, m2, rfl, by omega, by omega, h3, hS2, by omega⟩
    · have gi : ¬ i < k := gi
      rw [List.take_of_length_le (by omega)] at hS
      have hCl2 := h2.c
      have hQl2 : Q'.length = C'.length := by rw [h2.q, ipv_length]
      obtain ⟨Q3, hQ3⟩ : ∃ Q3, Q3 = ipv (C'.set v.toNat 2) := ⟨_, rfl⟩
      have hfin : RM R vs (C'.set v.toNat 2) G' N W P B V Q3 la' m' := ⟨h2.a, h2.n, h2.r, h2.w, h2.p, h2.b, h2.v, hQ3, by rw [List.length_set]; exact h2.c, h2.l, h2.m, h2.g, h2.g8⟩
      conv => cbv
      refine Need.mk ⟨by show 0 ≤ v; omega, by show v < W; omega⟩ ?_
      conv => cbv
      refine Need.mk (by show v + 1 ≤ (Q'.length : Int); omega) ?_
      conv => cbv
      refine Upd.mk fun Q2 hQ2 => ?_
      have hle : pvles Q2 Q3 := by
        have hQ2 : Q2 = Q'.set v.toNat (.int .i64 (.lit 2)) := hQ2
        rw [hQ2, hQ3, h2.q, ← ipv_set]
        exact pvles_set _ _ _ _ _ (pvles_refl _) (by simp [pvle, I.val])
      unfold pvles at hle
      clear hQ2
      conv => cbv
      refine RetF.mk [.p (.vsl (.sym 0) true [])] [(0, .mix [.ptr 1 (.lit 0), .sl 6 3 1 (.lit 0) (.sym W), .ptr 7 (.lit 0), .p (.int .i64 (.sym 1)), .p (.int .i64 (.sym sp)), .p (.int .i64 (.sym cy))]), (1, .mix [.ptr 2 (.lit 0), .sl 5 3 1 (.lit 0) (.sym W)]), (2, .mix [.sl 3 3 1 (.lit 0) (.sym N), .sl 4 120 8 (.lit 0) (.sym N)]), (3, .pure true P), (4, .pure true B), (5, .pure true V), (6, .pure true Q3), (7, .mix [.p (.vsl (.sym m') true la'), .p (.bool ov')])] 8 (Re.at [(0, 0), (1, 1), (2, 2), (3, 3), (4, 4), (5, 5), (6, 6), (7, 7)] []) rfl ⟨[], 0, 1, sp, [], vs, C'.set v.toNat 2, G', ov', V, Q3, la', m', rfl, rfl, rfl, hfin, rfl, rfl, .scan v G1 X _ G' ov1 ov' hg hX (by unfold scanS; rw [← hS])⟩
  | false =>
    have hv0 : v = 0 := by cases hg <;> rfl
    conv => cbv
    obtain ⟨mo, hmo⟩ : ∃ m : Int, m = objCount R := ⟨_, rfl⟩
    refine callF_frame (robjects_lx mo R vs N W P B V h.p h.b h.v h.n h.r h.a h.w hmo) [(0, 1), (1, 2), (2, 3), (3, 4), (4, 5)] rfl (by simp [hmapOk, nget, hget, renB, okB, renV, renVs, rn, okVs, okV]) rfl rfl (fun r h' n' hrr => ?_)
    obtain ⟨O, e1, e2, e3, hO⟩ := hrr
    subst e1 e2 e3
    have hOl : (O.length : Int) = mo := by rw [hO, ipv_length, objs_length h.a.rows, hmo]
    have hO : O = ipv (objs R) := hO
    have hol : ((objs R).length : Int) = mo := by rw [← hOl, hO, ipv_length]
    have hob : mo ≤ 8000 := by have := objsTo_le R R.length; rw [objs_length h.a.rows] at this; omega
    conv => cbv
    refine LoopF.mk (fun kk s => ∃ i : Int, s = ⟨.ptr 0 (.lit 0) :: (undefs 6 ++ .sl 8 3 1 (.lit 0) (.sym mo) :: .p (.int .i64 (.sym i)) :: undefs 113), [(0, .mix [.ptr 1 (.lit 0), .sl 6 3 1 (.lit 0) (.sym W), .ptr 7 (.lit 0), .p (.int .i64 (.sym 1)), .p (.int .i64 (.sym sp)), .p (.int .i64 (.sym cy))]), (1, .mix [.ptr 2 (.lit 0), .sl 5 3 1 (.lit 0) (.sym W)]), (2, .mix [.sl 3 3 1 (.lit 0) (.sym N), .sl 4 120 8 (.lit 0) (.sym N)]), (3, .pure true P), (4, .pure true B), (5, .pure true V), (6, .pure true Q), (7, .mix [.p (.vsl (.sym m1) true la1), .p (.bool ov1)]), (8, .pure true O)], 9⟩ ∧ 0 ≤ i ∧ i ≤ mo ∧ (∀ (j : Nat) b, (j : Int) < i → (objs R)[j]? = some b → ¬ Due R vs C b) ∧ kk = (mo - i).toNat) mo.toNat _
      (Re.at [(0, 0), (1, 1), (2, 2), (3, 3), (4, 4), (5, 5), (6, 6), (7, 7), (8, 8)] []) ⟨0, rfl, by omega, by omega, fun j b hj => by omega, by omega⟩ ?_
    rintro kk s ⟨i, rfl, hi0, hi1, hn, hkk⟩
    conv => cbv
    refine Br.mk (fun gi => ?_) (fun gi => ?_)
    · have gi : i < mo := gi
      obtain ⟨k', rfl⟩ : ∃ k', kk = k' + 1 := ⟨kk - 1, by omega⟩
      obtain ⟨a, ha⟩ : ∃ a, (objs R)[i.toNat]? = some a := ⟨_, List.getElem?_eq_getElem (by omega)⟩
      have hc : O[i.toNat]? = some (.int .i64 (.sym a)) := by rw [hO]; exact ipv_get ha
      have hab := obj_bd h.a (List.mem_of_getElem? ha)
      have hob2 := (obj_iff h.a a).1 (List.mem_of_getElem? ha)
      obtain ⟨x, hx⟩ : ∃ x, C[a.toNat]? = some x := ⟨_, List.getElem?_eq_getElem (by omega)⟩
      have hq : Q[a.toNat]? = some (.int .i64 (.sym x)) := by rw [h.q]; exact ipv_get hx
      have hstep : ∀ i2 : Int, i2 = i + 1 → ¬ Due R vs C a → ∀ (j : Nat) b, (j : Int) < i2 → (objs R)[j]? = some b → ¬ Due R vs C b := by
        intro i2 hi2 hd j b hj hjb
        by_cases q : j = i.toNat
        · rw [q, ha] at hjb; obtain rfl := Option.some.inj hjb; exact hd
        · exact hn j b (by omega) hjb
      conv => cbv
      refine Need.mk ⟨hi0, gi⟩ ?_
      conv => cbv
      refine Cell.at i _ hc (by simp [I.val]) rfl ?_
      conv => cbv
      refine callF_frame (rwordsV_lx R vs C G1 N W 1 sp cy P B V Q la1 m1 ov1 h1 a) [(0, 0), (1, 1), (2, 2), (3, 3), (4, 4), (5, 5), (6, 6), (7, 7)] rfl (by simp [hmapOk, nget, hget, renB, okB, renV, renVs, rn, okVs, okV]) rfl rfl (fun r h' n' hrr => ?_)
      obtain ⟨X, k, O2, e1, e2, e3, hO2, hk, hX⟩ := hrr
      subst e1 e2 e3
      have hX31 := hX.le h.a
      conv => cbv
      refine drawn_sound tok (by kernel_rfl) [(8, [])] [0, 1, 2, 3, 4, 5, 6, 7, 8, 9, 10, 11, 12, 13, 14, 15, 16, 17, 18, 19, 20, 21, 22, 23, 24, 25, 26, 27, 28, 29, 30, 31, 32, 33] (by kernel_rfl) ?_; conv => cbv
      refine Need.mk ⟨hi0, gi⟩ ?_
      conv => cbv
      refine Cell.at i _ hc (by simp [I.val]) rfl ?_
      conv => cbv
      refine callF_frame (rkind_lx R vs N a W P B V h.p h.b h.v h.n h.r h.a h.w) [(0, 1), (1, 2), (2, 3), (3, 4), (4, 5)] rfl (by simp [hmapOk, nget, hget, renB, okB, renV, renVs, rn, okVs, okV]) rfl rfl (fun r h' n' hrr => ?_)
      obtain ⟨kd, e1, e2, e3, hkd⟩ := hrr
      subst e1 e2 e3
      conv => cbv
      refine Br.mk (fun g5 => ?_) (fun g5 => ?_)
      · have g5 : kd = 5 := g5
        obtain ⟨l, hK⟩ : ∃ l, Kept R vs a 5 l := by
          cases hkd with
          | no _ => cases g5
          | is _ l hK => exact ⟨l, g5 ▸ hK⟩
        conv => cbv
        refine Need.mk ⟨hi0, gi⟩ ?_
        conv => cbv
        refine Cell.at i _ hc (by simp [I.val]) rfl ?_
        conv => cbv
        refine Need.mk ⟨by show 0 ≤ a; omega, by show a < W; omega⟩ ?_
        conv => cbv
        refine Cell.at a _ hq (by simp [I.val]) rfl ?_
        conv => cbv
        refine Br.mk (fun g0 => ?_) (fun g0 => ?_)
        · have g0 : x = 0 := g0
          conv => cbv
          refine Br.mk (fun g1 => ?_) (fun g1 => ?_)
          · have g1 : 1 < k := g1
            obtain ⟨y, hy⟩ : ∃ y, X[(1 : Nat)]? = some y := ⟨_, List.getElem?_eq_getElem (by omega)⟩
            have hcy : O2[(1 : Nat)]? = some (.int .i64 (.sym y)) := by rw [hO2]; exact ipv_get hy
            have hld : Loaded R vs a 1 y 0 := hX.2 1 y hy
            conv => cbv
            refine Need.mk ⟨by show (0 : Int) ≤ 1; omega, by show 1 < k; omega⟩ ?_
            conv => cbv
            refine Cell.at 1 _ hcy (by simp [I.val]) rfl ?_
            conv => cbv
            refine Br.mk (fun gy => ?_) (fun gy => ?_)
            · have gy : y ≠ 0 := gy
              have hdue : Due R vs C a := ⟨⟨l, hK⟩, by rw [hx, g0], y, hld, gy⟩
              conv => cbv
              refine drawn_sound tok (by kernel_rfl) [(8, [])] [0, 1, 2, 3, 4, 5, 6, 7, 8] (by kernel_rfl) ?_; conv => cbv
              refine Need.mk ⟨hi0, gi⟩ ?_
              conv => cbv
              refine Cell.at i _ hc (by simp [I.val]) rfl ?_
              conv => cbv
              refine CallF.le (args0 := [.ptr 1 (.lit 0), .p (.int .i64 (.sym a)), .p (.int .i64 (.sym 1)), .p (.int .i64 (.sym 0))]) (callF_frame (rstore_lx 1 0 R vs N a W P B V h.p h.b h.v h.n h.r h.a h.w) [(0, 1), (1, 2), (2, 3), (3, 4), (4, 5)] rfl (by simp [hmapOk, nget, hget, renB, okB, renV, renVs, rn, okVs, okV]) rfl rfl (fun r h' n' hrr => ?_)) (by simp [ales, ale, pvle, I.val])
              obtain ⟨e, vs', V', e1, e2, e3, hV', hT⟩ := hrr
              subst e1 e2 e3
              have he : e = 0 := by
                cases hld with
                | ok _ l2 _ hK2 hi2 _ =>
                  cases hT with
                  | none hno => exact absurd hob2 hno
                  | arg k3 l3 hK3 hi3 => obtain ⟨_, rfl⟩ := hK2.det9 hK3; exact absurd hi2 hi3
                  | ok _ _ _ _ => rfl
              have h2 := h1.stored (by decide) hT hV'
              conv => cbv
              refine Need.mk ⟨hi0, gi⟩ ?_
              conv => cbv
              refine Cell.at i _ hc (by simp [I.val]) rfl ?_
              conv => cbv
              refine callF_frame (rshade_lx R vs' C G1 N W 1 sp cy P B V' Q la1 m1 ov1 h2 a) [(0, 0), (1, 1), (2, 2), (3, 3), (4, 4), (5, 5), (6, 6), (7, 7)] rfl (by simp [hmapOk, nget, hget, renB, okB, renV, renVs, rn, okVs, okV]) rfl rfl (fun r h' n' hrr => ?_)
              obtain ⟨C', G', ov', Q', la', m', e1, e2, e3, h3, hS⟩ := hrr
              subst e1 e2 e3
              conv => cbv
              refine Need.mk ⟨hi0, gi⟩ ?_
              conv => cbv
              refine Cell.at i _ hc (by simp [I.val]) rfl ?_
              conv => cbv
              refine RetF.mk [.p (.vsl (.sym 1) true [.int .i64 (.sym 5), .int .i64 (.sym a), .vsl (.sym k) true O2, .bool true])] [(0, .mix [.ptr 1 (.lit 0), .sl 6 3 1 (.lit 0) (.sym W), .ptr 7 (.lit 0), .p (.int .i64 (.sym 1)), .p (.int .i64 (.sym sp)), .p (.int .i64 (.sym cy))]), (1, .mix [.ptr 2 (.lit 0), .sl 5 3 1 (.lit 0) (.sym W)]), (2, .mix [.sl 3 3 1 (.lit 0) (.sym N), .sl 4 120 8 (.lit 0) (.sym N)]), (3, .pure true P), (4, .pure true B), (5, .pure true V'), (6, .pure true Q'), (7, .mix [.p (.vsl (.sym m') true la'), .p (.bool ov')])] 8 (Re.at [(0, 0), (1, 1), (2, 2), (3, 3), (4, 4), (5, 5), (6, 6), (7, 7)] []) rfl ⟨[(5, a, X, true)], 1, 1, sp, _, vs', C', G', ov', V', Q', la', m', rfl, rfl, rfl, h3, by rw [hO2, hk]; rfl, rfl, .keep a G1 X vs' C' G' ov1 ov' (hv0 ▸ hg) (.found i.toNat a ha hdue (fun j b hj => hn j b (by omega))) hX (he ▸ hT) hS⟩
            · have gy : ¬ y ≠ 0 := gy
              have hnd : ¬ Due R vs C a := by
                rintro ⟨_, _, y2, hy2, hy0⟩
                obtain ⟨rfl, _⟩ := loaded_det hld hy2
                exact gy hy0
              conv => cbv
              refine Fit.mk (by show (-9223372036854775808 : Int) ≤ i + 1; omega) (by show i + 1 ≤ 9223372036854775807; omega) fun i2 hi2 => ?_
              have hi2 : i2 = i + 1 := hi2
              conv => cbv
              refine Again.mk k' _ (Nat.lt_succ_self _) (Re.at [(0, 0), (1, 1), (2, 2), (3, 3), (4, 4), (5, 5), (6, 6), (7, 7), (8, 8)] []) ⟨i2, rfl, by omega, by omega, hstep i2 hi2 hnd, by omega⟩
          · have g1 : ¬ 1 < k := g1
            have hnd : ¬ Due R vs C a := by
              rintro ⟨_, _, y2, hy2, hy0⟩
              cases hy2 with
              | ok k2 l2 _ hK2 hi2 _ =>
                have hlen := hX.1
                generalize hxl : (X.length : Int) = xl at hlen
                cases hlen with
                | no hno => exact hno hob2
                | is k3 l3 hK3 => have := (hK3.det9 hK2).2; omega
            conv => cbv
            refine Fit.mk (by show (-9223372036854775808 : Int) ≤ i + 1; omega) (by show i + 1 ≤ 9223372036854775807; omega) fun i2 hi2 => ?_
            have hi2 : i2 = i + 1 := hi2
            conv => cbv
            refine Again.mk k' _ (Nat.lt_succ_self _) (Re.at [(0, 0), (1, 1), (2, 2), (3, 3), (4, 4), (5, 5), (6, 6), (7, 7), (8, 8)] []) ⟨i2, rfl, by omega, by omega, hstep i2 hi2 hnd, by omega⟩
        · have g0 : ¬ x = 0 := g0
          have hnd : ¬ Due R vs C a := fun hd => g0 (Option.some.inj (hx.symm.trans hd.2.1))
          conv => cbv
          refine Fit.mk (by show (-9223372036854775808 : Int) ≤ i + 1; omega) (by show i + 1 ≤ 9223372036854775807; omega) fun i2 hi2 => ?_
          have hi2 : i2 = i + 1 := hi2
          conv => cbv
          refine Again.mk k' _ (Nat.lt_succ_self _) (Re.at [(0, 0), (1, 1), (2, 2), (3, 3), (4, 4), (5, 5), (6, 6), (7, 7), (8, 8)] []) ⟨i2, rfl, by omega, by omega, hstep i2 hi2 hnd, by omega⟩
      · have g5 : ¬ kd = 5 := g5
        have hnd : ¬ Due R vs C a := by
          rintro ⟨⟨l, hK⟩, _⟩
          cases hkd with
          | no hno => exact hno hob2
          | is _ l2 hK2 => exact g5 (hK2.det9 hK).1
        conv => cbv
        refine Fit.mk (by show (-9223372036854775808 : Int) ≤ i + 1; omega) (by show i + 1 ≤ 9223372036854775807; omega) fun i2 hi2 => ?_
        have hi2 : i2 = i + 1 := hi2
        conv => cbv
        refine Again.mk k' _ (Nat.lt_succ_self _) (Re.at [(0, 0), (1, 1), (2, 2), (3, 3), (4, 4), (5, 5), (6, 6), (7, 7), (8, 8)] []) ⟨i2, rfl, by omega, by omega, hstep i2 hi2 hnd, by omega⟩
    · have gi : ¬ i < mo := gi
      conv => cbv
      refine RetF.mk [.p (.vsl (.sym 0) true [])] [(0, .mix [.ptr 1 (.lit 0), .sl 6 3 1 (.lit 0) (.sym W), .ptr 7 (.lit 0), .p (.int .i64 (.sym 2)), .p (.int .i64 (.sym 0)), .p (.int .i64 (.sym cy))]), (1, .mix [.ptr 2 (.lit 0), .sl 5 3 1 (.lit 0) (.sym W)]), (2, .mix [.sl 3 3 1 (.lit 0) (.sym N), .sl 4 120 8 (.lit 0) (.sym N)]), (3, .pure true P), (4, .pure true B), (5, .pure true V), (6, .pure true Q), (7, .mix [.p (.vsl (.sym m1) true la1), .p (.bool ov1)])] 8 (Re.at [(0, 0), (1, 1), (2, 2), (3, 3), (4, 4), (5, 5), (6, 6), (7, 7)] []) rfl ⟨[], 0, 2, 0, [], vs, C, G1, ov1, V, Q, la1, m1, rfl, rfl, rfl, h1, rfl, rfl, .sweep G1 ov1 (hv0 ▸ hg) (.none (fun j b hj => hn j b (by have := (List.getElem?_eq_some_iff.1 hj).1; omega) hj))⟩
end Go.Proofs.YtllafhhnciobhaaGreatDoor
