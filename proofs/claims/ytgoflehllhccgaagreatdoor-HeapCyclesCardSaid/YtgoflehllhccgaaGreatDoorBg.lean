/-
  The ground of the proof, part 7: the calculus and what is proved with it.
-/
import Derived.Test.YtgoflehllhccgaaGreatDoorBf
/-
  Layer 9: the reference's heap: words, what is allotted, a cycle begun.
-/
namespace Go.Proofs.YtgoflehllhccgaaGreatDoor

open Go Go.LX
set_option maxRecDepth 100000
set_option linter.unusedVariables false
set_option linter.unusedSimpArgs false

set_option maxHeartbeats 4000000 in
theorem rwords9_lx (R : List Rw) (vs C G : List Int) (N W ph sp cy : Int) (P B V Q la : List PV) (m : Int) (ov : Bool) (h : RM R vs C G N W P B V Q la m) (a : Int) : CallF (fun _ => Tryz.prog) 67 [.ptr 0 (.lit 0), .p (.int .i64 (.sym a))] [(0, .mix [.ptr 1 (.lit 0), .sl 6 3 1 (.lit 0) (.sym W), .ptr 7 (.lit 0), .p (.int .i64 (.sym ph)), .p (.int .i64 (.sym sp)), .p (.int .i64 (.sym cy))]), (1, .mix [.ptr 2 (.lit 0), .sl 5 3 1 (.lit 0) (.sym W)]), (2, .mix [.sl 3 3 1 (.lit 0) (.sym N), .sl 4 211 8 (.lit 0) (.sym N)]), (3, .pure true P), (4, .pure true B), (5, .pure true V), (6, .pure true Q), (7, .mix [.p (.vsl (.sym m) true la), .p (.bool ov)])] 8 (fun r h n => ∃ (X : List Int) (k : Int) (O : List PV), r = .sl 8 3 1 (.lit 0) (.sym k) ∧ h = [(0, .mix [.ptr 1 (.lit 0), .sl 6 3 1 (.lit 0) (.sym W), .ptr 7 (.lit 0), .p (.int .i64 (.sym ph)), .p (.int .i64 (.sym sp)), .p (.int .i64 (.sym cy))]), (1, .mix [.ptr 2 (.lit 0), .sl 5 3 1 (.lit 0) (.sym W)]), (2, .mix [.sl 3 3 1 (.lit 0) (.sym N), .sl 4 211 8 (.lit 0) (.sym N)]), (3, .pure true P), (4, .pure true B), (5, .pure true V), (6, .pure true Q), (7, .mix [.p (.vsl (.sym m) true la), .p (.bool ov)]), (8, .pure true O)] ∧ n = 9 ∧ O = ipv X ∧ k = X.length ∧ Wrds R vs a X) := by
  have hVl : V.length = vs.length := by rw [h.v, ipv_length]
  have hWn := h.w; have hNr := h.n; have hRr := h.r
  have hlen := h.a.len
  obtain ⟨v, hv⟩ : ∃ v, LenR R vs a v := by
    by_cases ho : IsObj R a
    · obtain ⟨k, l, hk⟩ := Kept.of h.a ho; exact ⟨l, .is k l hk⟩
    · exact ⟨0, .no ho⟩
  obtain ⟨X, hX, hvX, hX31⟩ := wrds_ex h.a hv
  refine callF_of_body tok Tryz.func67 (by kernel_rfl) rfl rfl rfl ?_; conv => cbv
  refine LoopF.mk (fun k s => ∃ (i : Int) (O : List PV), s = ⟨.ptr 0 (.lit 0) :: .p (.int .i64 (.sym a)) :: (undefs 3 ++ .sl 8 3 1 (.lit 0) (.sym i) :: .p (.int .i64 (.sym i)) :: undefs 27), [(0, .mix [.ptr 1 (.lit 0), .sl 6 3 1 (.lit 0) (.sym W), .ptr 7 (.lit 0), .p (.int .i64 (.sym ph)), .p (.int .i64 (.sym sp)), .p (.int .i64 (.sym cy))]), (1, .mix [.ptr 2 (.lit 0), .sl 5 3 1 (.lit 0) (.sym W)]), (2, .mix [.sl 3 3 1 (.lit 0) (.sym N), .sl 4 211 8 (.lit 0) (.sym N)]), (3, .pure true P), (4, .pure true B), (5, .pure true V), (6, .pure true Q), (7, .mix [.p (.vsl (.sym m) true la), .p (.bool ov)]), (8, .pure true O)], 9⟩ ∧ 0 ≤ i ∧ i ≤ v ∧ O = ipv (X.take i.toNat) ∧ k = (v - i).toNat) v.toNat _
    (Re.at [(0, 0), (1, 1), (2, 2), (3, 3), (4, 4), (5, 5), (6, 6), (7, 7)] [8]) ⟨0, [], rfl, by omega, by omega, by simp [ipv], by omega⟩ ?_
  rintro k s ⟨i, O, rfl, hi0, hi1, hO, hk⟩
  have hOl : (O.length : Int) = i := by rw [hO, ipv_length, List.length_take]; omega
  conv => cbv
  refine callF_frame (rlen_lx R vs N a W P B V h.p h.b h.v h.n h.r h.a h.w) [(0, 1), (1, 2), (2, 3), (3, 4), (4, 5)] rfl (by simp [hmapOk, nget, hget, renB, okB, renV, renVs, rn, okVs, okV]) rfl rfl (fun r h' n' hrr => ?_)
  obtain ⟨v2, e1, e2, e3, hv2⟩ := hrr
  subst e1 e2 e3
  obtain rfl : v2 = v := by
    cases hv with
    | no hn => cases hv2 with
      | no _ => rfl
      | is k l hk => exact absurd hk.obj6 hn
    | is k l hk => cases hv2 with
      | no hn => exact absurd hk.obj6 hn
      | is k' l' hk' => exact (hk'.det9 hk).2
  conv => cbv
  refine Br.mk (fun gi => ?_) (fun gi => ?_)
  · have gi : i < v2 := gi
    obtain ⟨k', rfl⟩ : ∃ k', k = k' + 1 := ⟨k - 1, by omega⟩
    obtain ⟨x0, hx0⟩ : ∃ x0, X[i.toNat]? = some x0 := ⟨_, List.getElem?_eq_getElem (by omega)⟩
    have hld := hX.2 _ _ hx0
    rw [show ((i.toNat : Nat) : Int) = i by omega] at hld
    obtain ⟨hab, hxv⟩ : (0 ≤ a ∧ a + 1 + v2 ≤ W) ∧ vs[(a + 1 + i).toNat]? = some x0 := by
      cases hld with
      | ok k0 l0 _ hK hi hx =>
        have hb := hK.bounds h.a
        have : l0 = v2 := by
          clear hX hvX hO hOl
          cases hv with
          | no hn => exact absurd hK.obj6 hn
          | is k' l' hK' => exact (hK.det9 hK').2
        exact ⟨⟨by omega, by omega⟩, hx⟩
    have hq : V[(a + 1 + i).toNat]? = some (.int .i64 (.sym x0)) := by rw [h.v]; exact ipv_get hxv
    conv => cbv
    refine Fit.mk (by show (-9223372036854775808 : Int) ≤ a + 1; omega) (by show a + 1 ≤ 9223372036854775807; omega) fun a1 ha1 => ?_
    have ha1 : a1 = a + 1 := ha1
    conv => cbv
    refine Fit.mk (by show (-9223372036854775808 : Int) ≤ a1 + i; omega) (by show a1 + i ≤ 9223372036854775807; omega) fun a2 ha2 => ?_
    have ha2 : a2 = a1 + i := ha2
    rw [show (a + 1 + i).toNat = a2.toNat by omega] at hq
    conv => cbv
    refine Need.mk ⟨by show 0 ≤ a2; omega, by show a2 < W; omega⟩ ?_
    conv => cbv
    refine Cell.at a2 _ hq (by simp [I.val]) rfl ?_
    conv => cbv
    refine Room.new rfl ?_
    conv => cbv
    refine Room.new ⟨?_, ?_, ?_⟩ ?_
    · show (O.length : Int) = i * 1; omega
    · show (i + 1) * 8 ≤ 140737488355328; omega
    · show i + 1 ≤ 9223372036854775807; omega
    conv => cbv
    refine Upd.mk fun O3 hO3 => ?_
    have hO3 : O3 = O ++ [.int .i64 (.sym x0)] := hO3
    have hO3 : O3 = ipv (X.take (i.toNat + 1)) := by
      rw [hO3, hO, List.take_add_one, hx0]
      simp [ipv]
    conv => cbv
    refine Sum.mk fun j2 hj2 => ?_
    have hj2 : j2 = i + 1 := hj2
    conv => cbv
    refine Fit.mk (by show (-9223372036854775808 : Int) ≤ i + 1; omega) (by show i + 1 ≤ 9223372036854775807; omega) fun i2 hi2 => ?_
    have hi2 : i2 = i + 1 := hi2
    obtain rfl : j2 = i2 := by omega
    have htt : j2.toNat = i.toNat + 1 := by omega
    rw [← htt] at hO3
    conv => cbv
    refine Again.mk k' _ (Nat.lt_succ_self _) (Re.at [(0, 0), (1, 1), (2, 2), (3, 3), (4, 4), (5, 5), (6, 6), (7, 7), (10, 8)] []) ⟨j2, O3, rfl, by omega, by omega, hO3, by omega⟩
  · have gi : ¬ i < v2 := gi
    obtain rfl : i = v2 := by omega
    have hOX : O = ipv X := by rw [hO, List.take_of_length_le (by omega)]
    conv => cbv
    refine RetF.mk [.sl 8 3 1 (.lit 0) (.sym i)] [(0, .mix [.ptr 1 (.lit 0), .sl 6 3 1 (.lit 0) (.sym W), .ptr 7 (.lit 0), .p (.int .i64 (.sym ph)), .p (.int .i64 (.sym sp)), .p (.int .i64 (.sym cy))]), (1, .mix [.ptr 2 (.lit 0), .sl 5 3 1 (.lit 0) (.sym W)]), (2, .mix [.sl 3 3 1 (.lit 0) (.sym N), .sl 4 211 8 (.lit 0) (.sym N)]), (3, .pure true P), (4, .pure true B), (5, .pure true V), (6, .pure true Q), (7, .mix [.p (.vsl (.sym m) true la), .p (.bool ov)]), (8, .pure true O)] 9 (Re.at [(0, 0), (1, 1), (2, 2), (3, 3), (4, 4), (5, 5), (6, 6), (7, 7), (8, 8)] []) rfl ⟨X, i, O, rfl, rfl, rfl, hOX, hvX, hX⟩
theorem alloctV_gen9 {R R' : List Rw} {vs vs' : List Int} {kind n a e : Int} (hA : AOk R vs) (h : AlloctV R vs kind n a e R' vs') :
    AOk R' vs' ∧ R'.length = R.length ∧ ((e ≠ 0 ∧ a = 0 ∧ R' = R ∧ vs' = vs) ∨ (e = 0 ∧ (0 ≤ n ∧ n ≤ 31 ∧ 1 ≤ kind ∧ kind ≤ 6) ∧ Kept R' vs' a kind n ∧ (∀ b k l, Kept R vs b k l → Kept R' vs' b k l ∧ b ≠ a ∧ ∀ i, 0 ≤ i → i < l → vs'[(b + 1 + i).toNat]? = vs[(b + 1 + i).toNat]?) ∧ (∀ b, IsObj R' b → b = a ∨ IsObj R b))) := by
  cases h with
  | arg h => exact ⟨hA, rfl, .inl ⟨by decide, rfl, rfl, rfl⟩⟩
  | room i s R' hc ha =>
    obtain ⟨rfl, _⟩ := full_count hA.rows (ofN_slots n) ha
    exact ⟨hA, rfl, .inl ⟨by decide, rfl, rfl, rfl⟩⟩
  | ok i s _ R' hc ha hat =>
    obtain ⟨w, hw⟩ : ∃ w, w = wordsOf (ofN n) := ⟨_, rfl⟩
    obtain ⟨q1, q2, q3, q4, q5⟩ := alloc_objs hA.rows ha a w hat hw
    have hobj : ObjAt R' a w := (q5 _ _).2 (.inr ⟨rfl, rfl⟩)
    obtain ⟨f1, f2, f3, _⟩ := hobj.facts q1
    have hnw : n < w := by rw [hw]; exact (ofN_words ⟨hc.1, hc.2.1⟩).1
    have hlv := hA.len
    have gv : ∀ j : Nat, j < vs.length → j ≠ a.toNat → ((zer vs a.toNat (wordsOf (ofN n)).toNat).set a.toNat (kind + 16 * n))[j]? = if a.toNat ≤ j ∧ j < a.toNat + (wordsOf (ofN n)).toNat then some 0 else vs[j]? := fun j hj hne => by
      rw [List.getElem?_set_ne (fun e => hne e.symm), zer_get _ _ _ _ hj]
    rw [← hw] at gv ⊢
    have farv : ∀ j : Nat, (j : Int) < a ∨ a + w ≤ j → ((zer vs a.toNat w.toNat).set a.toNat (kind + 16 * n))[j]? = vs[j]? := fun j hj => by
      by_cases hjl : j < vs.length
      · rw [gv j hjl (by omega), if_neg (by omega)]
      · rw [List.getElem?_eq_none (by rw [List.length_set, zer_length]; omega), List.getElem?_eq_none (by omega)]
    have hbdv : ∀ x ∈ (zer vs a.toNat w.toNat).set a.toNat (kind + 16 * n), -9223372036854775808 ≤ x ∧ x ≤ 9223372036854775807 := by
      intro x hx
      rcases List.mem_or_eq_of_mem_set hx with hx | rfl
      · obtain ⟨j, hj⟩ := List.getElem?_of_mem hx
        have hjl : j < vs.length := by have := (List.getElem?_eq_some_iff.1 hj).1; rw [zer_length] at this; exact this
        rw [zer_get _ _ _ _ hjl] at hj
        split at hj
        · cases hj; omega
        · exact hA.bd x (List.mem_of_getElem? hj)
      · omega
    obtain ⟨r1, r2, r3, r4⟩ := alloc_gen hA hc ha hat hw (by rw [List.length_set, zer_length]) (by rw [List.getElem?_set_self (by rw [zer_length]; omega)]) farv hbdv
    exact ⟨r1, q2, .inr ⟨rfl, hc, r2, r3, r4⟩⟩
theorem RM.alloct {R R' : List Rw} {vs vs' C C' G : List Int} {N W m : Int} {P P' B B' V V' Q Q' la : List PV} {kind n a e : Int} (h : RM R vs C G N W P B V Q la m) (hs : AlloctV R vs kind n a e R' vs') (hP : P' = cpv R') (hB : B' = bpv R') (hV : V' = ipv vs') (hC : C'.length = C.length) (hQ : Q' = ipv C') : RM R' vs' C' G N W P' B' V' Q' la m := by
  obtain ⟨h1, h2, _⟩ := alloctV_gen9 h.a hs
  exact ⟨h1, by rw [h2]; exact h.n, by rw [h2]; exact h.r, h.w, hP, hB, hV, hQ, by rw [hC]; exact h.c, h.l, h.m, h.g, h.g8⟩
set_option maxHeartbeats 2000000 in
theorem ralloc9_lx (R : List Rw) (vs C G : List Int) (N W ph sp cy : Int) (P B V Q la : List PV) (m : Int) (ov : Bool) (h : RM R vs C G N W P B V Q la m) (kind mm : Int) : CallF (fun _ => Tryz.prog) 56 [.ptr 0 (.lit 0), .p (.int .i64 (.sym kind)), .p (.int .i64 (.sym mm))] [(0, .mix [.ptr 1 (.lit 0), .sl 6 3 1 (.lit 0) (.sym W), .ptr 7 (.lit 0), .p (.int .i64 (.sym ph)), .p (.int .i64 (.sym sp)), .p (.int .i64 (.sym cy))]), (1, .mix [.ptr 2 (.lit 0), .sl 5 3 1 (.lit 0) (.sym W)]), (2, .mix [.sl 3 3 1 (.lit 0) (.sym N), .sl 4 211 8 (.lit 0) (.sym N)]), (3, .pure true P), (4, .pure true B), (5, .pure true V), (6, .pure true Q), (7, .mix [.p (.vsl (.sym m) true la), .p (.bool ov)])] 8 (fun r h n => ∃ (a e : Int) (R' : List Rw) (vs' C' : List Int) (P' B' V' Q' : List PV), r = .tup [.p (.int .i64 (.sym a)), .p (.int .i64 (.sym e))] ∧ h = [(0, .mix [.ptr 1 (.lit 0), .sl 6 3 1 (.lit 0) (.sym W), .ptr 7 (.lit 0), .p (.int .i64 (.sym ph)), .p (.int .i64 (.sym sp)), .p (.int .i64 (.sym cy))]), (1, .mix [.ptr 2 (.lit 0), .sl 5 3 1 (.lit 0) (.sym W)]), (2, .mix [.sl 3 3 1 (.lit 0) (.sym N), .sl 4 211 8 (.lit 0) (.sym N)]), (3, .pure true P'), (4, .pure true B'), (5, .pure true V'), (6, .pure true Q'), (7, .mix [.p (.vsl (.sym m) true la), .p (.bool ov)])] ∧ n = 8 ∧ RM R' vs' C' G N W P' B' V' Q' la m ∧ AlloctV R vs kind mm a e R' vs' ∧ C' = allocC ph a e C) := by
  have hCl := h.c; have hWn := h.w; have hNr := h.n; have hRr := h.r
  have hQl : Q.length = C.length := by rw [h.q, ipv_length]
  refine callF_of_body tok Tryz.func56 (by kernel_rfl) rfl rfl rfl ?_; conv => cbv
  refine callF_frame (rallocA_lx kind mm R vs N W P B V h.p h.b h.v h.n h.r h.a h.w) [(0, 1), (1, 2), (2, 3), (3, 4), (4, 5)] rfl (by simp [hmapOk, nget, hget, renB, okB, renV, renVs, rn, okVs, okV]) rfl rfl (fun r h' n' hrr => ?_)
  obtain ⟨a, e, R', vs', P', B', V', e1, e2, e3, hP', hB', hV', hT⟩ := hrr
  subst e1 e2 e3
  conv => cbv
  have hgen := alloctV_gen9 h.a hT
  refine Br.mk (fun g => ?_) (fun g => ?_)
  · have g : e ≠ 0 := g
    have ha0 : a = 0 := by
      rcases hgen.2.2 with h | h
      · exact h.2.1
      · exact absurd h.1 g
    conv => cbv
    refine RetF.mk [.p (.int .i64 (.sym a)), .p (.int .i64 (.sym e))] [(0, .mix [.ptr 1 (.lit 0), .sl 6 3 1 (.lit 0) (.sym W), .ptr 7 (.lit 0), .p (.int .i64 (.sym ph)), .p (.int .i64 (.sym sp)), .p (.int .i64 (.sym cy))]), (1, .mix [.ptr 2 (.lit 0), .sl 5 3 1 (.lit 0) (.sym W)]), (2, .mix [.sl 3 3 1 (.lit 0) (.sym N), .sl 4 211 8 (.lit 0) (.sym N)]), (3, .pure true P'), (4, .pure true B'), (5, .pure true V'), (6, .pure true Q), (7, .mix [.p (.vsl (.sym m) true la), .p (.bool ov)])] 8 (Re.at [(0, 0), (1, 1), (2, 2), (3, 3), (4, 4), (5, 5), (6, 6), (7, 7)] []) rfl ⟨a, e, R', vs', C, P', B', V', Q, rfl, rfl, rfl, h.alloct hT hP' hB' hV' rfl h.q, hT, by unfold allocC; rw [if_neg g]⟩
  · have g : ¬ e ≠ 0 := g
    have g : e = 0 := by omega
    have hA1 := hgen.1
    have hlR := hgen.2.1
    have hb : 0 ≤ a ∧ a < W := by
      rcases hgen.2.2 with h | h
      · exact absurd g h.1
      · have h1 := (h.2.2.1).bounds hA1
        omega
    obtain ⟨C', hC'⟩ : ∃ C', C' = allocC ph a e C := ⟨_, rfl⟩
    obtain ⟨Q', hQ'⟩ : ∃ Q', Q' = ipv C' := ⟨_, rfl⟩
    have hfin := h.alloct hT hP' hB' hV' (by rw [hC']; exact allocC_length _ _ _ _) hQ'
    conv => cbv
    refine Need.mk ⟨by show 0 ≤ a; omega, by show a < W; omega⟩ ?_
    conv => cbv
    refine Need.mk (by show a + 1 ≤ (Q.length : Int); omega) ?_
    conv => cbv
    refine Upd.mk fun Q2 hQ2 => ?_
    have hQ2 : Q2 = Q.set a.toNat (.int .i64 (.lit 0)) := hQ2
    conv => cbv
    refine Br.mk (fun gp => ?_) (fun gp => ?_)
    · have gp : ph ≠ 0 := gp
      conv => cbv
      refine Need.mk ⟨by show 0 ≤ a; omega, by show a < W; omega⟩ ?_
      conv => cbv
      refine Need.mk (by show a + 1 ≤ (Q2.length : Int); rw [hQ2, List.length_set]; omega) ?_
      conv => cbv
      refine Upd.mk fun Q3 hQ3 => ?_
      have hle : pvles Q3 Q' := by
        have hQ3 : Q3 = Q2.set a.toNat (.int .i64 (.lit 2)) := hQ3
        rw [hQ3, hQ2, hQ', hC', allocC, if_pos g, if_neg gp, h.q, ← ipv_set, List.set_set]
        exact pvles_set _ _ _ _ _ (pvles_refl _) (by simp [pvle, I.val])
      unfold pvles at hle
      clear hQ3 hQ2
      conv => cbv
      refine RetF.mk [.p (.int .i64 (.sym a)), .p (.int .i64 (.sym e))] [(0, .mix [.ptr 1 (.lit 0), .sl 6 3 1 (.lit 0) (.sym W), .ptr 7 (.lit 0), .p (.int .i64 (.sym ph)), .p (.int .i64 (.sym sp)), .p (.int .i64 (.sym cy))]), (1, .mix [.ptr 2 (.lit 0), .sl 5 3 1 (.lit 0) (.sym W)]), (2, .mix [.sl 3 3 1 (.lit 0) (.sym N), .sl 4 211 8 (.lit 0) (.sym N)]), (3, .pure true P'), (4, .pure true B'), (5, .pure true V'), (6, .pure true Q'), (7, .mix [.p (.vsl (.sym m) true la), .p (.bool ov)])] 8 (Re.at [(0, 0), (1, 1), (2, 2), (3, 3), (4, 4), (5, 5), (6, 6), (7, 7)] []) rfl ⟨a, e, R', vs', C', P', B', V', Q', rfl, rfl, rfl, hfin, hT, hC'⟩
    · have gp : ¬ ph ≠ 0 := gp
      have gp : ph = 0 := by omega
      have hle : pvles Q2 Q' := by
        rw [hQ2, hQ', hC', allocC, if_pos g, if_pos gp, h.q, ← ipv_set]
        exact pvles_set _ _ _ _ _ (pvles_refl _) (by simp [pvle, I.val])
      unfold pvles at hle
      clear hQ2
      conv => cbv
      refine RetF.mk [.p (.int .i64 (.sym a)), .p (.int .i64 (.sym e))] [(0, .mix [.ptr 1 (.lit 0), .sl 6 3 1 (.lit 0) (.sym W), .ptr 7 (.lit 0), .p (.int .i64 (.sym ph)), .p (.int .i64 (.sym sp)), .p (.int .i64 (.sym cy))]), (1, .mix [.ptr 2 (.lit 0), .sl 5 3 1 (.lit 0) (.sym W)]), (2, .mix [.sl 3 3 1 (.lit 0) (.sym N), .sl 4 211 8 (.lit 0) (.sym N)]), (3, .pure true P'), (4, .pure true B'), (5, .pure true V'), (6, .pure true Q'), (7, .mix [.p (.vsl (.sym m) true la), .p (.bool ov)])] 8 (Re.at [(0, 0), (1, 1), (2, 2), (3, 3), (4, 4), (5, 5), (6, 6), (7, 7)] []) rfl ⟨a, e, R', vs', C', P', B', V', Q', rfl, rfl, rfl, hfin, hT, hC'⟩
set_option maxHeartbeats 4000000 in
theorem rbegin_lx (R : List Rw) (vs C G : List Int) (N W ph sp cy : Int) (P B V Q la : List PV) (m : Int) (ov : Bool) (h : RM R vs C G N W P B V Q la m) (A : List Int) (k : Int) (rs : List PV) (hrs : rs = ipv A) (hk : k = A.length) (hA : (A.length : Int) < 1000000) (hph : ph = 0) : CallF (fun _ => Tryz.prog) 30 [.ptr 0 (.lit 0), .p (.vsl (.sym k) true rs)] [(0, .mix [.ptr 1 (.lit 0), .sl 6 3 1 (.lit 0) (.sym W), .ptr 7 (.lit 0), .p (.int .i64 (.sym ph)), .p (.int .i64 (.sym sp)), .p (.int .i64 (.sym cy))]), (1, .mix [.ptr 2 (.lit 0), .sl 5 3 1 (.lit 0) (.sym W)]), (2, .mix [.sl 3 3 1 (.lit 0) (.sym N), .sl 4 211 8 (.lit 0) (.sym N)]), (3, .pure true P), (4, .pure true B), (5, .pure true V), (6, .pure true Q), (7, .mix [.p (.vsl (.sym m) true la), .p (.bool ov)])] 8 (fun r h n => ∃ (C' G' : List Int) (ov' : Bool) (Q' la' : List PV) (m' : Int), r = .p (.int .i64 (.lit 0)) ∧ h = [(0, .mix [.ptr 1 (.lit 0), .sl 6 3 1 (.lit 0) (.sym W), .ptr 8 (.lit 0), .p (.int .i64 (.sym 1)), .p (.int .i64 (.sym sp)), .p (.int .i64 (.sym cy))]), (1, .mix [.ptr 2 (.lit 0), .sl 5 3 1 (.lit 0) (.sym W)]), (2, .mix [.sl 3 3 1 (.lit 0) (.sym N), .sl 4 211 8 (.lit 0) (.sym N)]), (3, .pure true P), (4, .pure true B), (5, .pure true V), (6, .pure true Q'), (8, .mix [.p (.vsl (.sym m') true la'), .p (.bool ov')])] ∧ n = 9 ∧ RM R vs C' G' N W P B V Q' la' m' ∧ (C', G', ov') = begS R W A) := by
  have hCl := h.c; have hWn := h.w; have hNr := h.n; have hRr := h.r
  have hQl : Q.length = C.length := by rw [h.q, ipv_length]
  refine callF_of_body tok Tryz.func30 (by kernel_rfl) rfl rfl rfl ?_; conv => cbv
  refine Br.no (show ¬ (ph ≠ 0) by omega) ?_
  conv => cbv
  refine LoopF.mk (fun kk s => ∃ (i : Int) (C' : List Int) (Q' : List PV), s = ⟨.ptr 0 (.lit 0) :: .p (.vsl (.sym k) true rs) :: (undefs 3 ++ .p (.int .i64 (.sym i)) :: undefs 41), [(0, .mix [.ptr 1 (.lit 0), .sl 6 3 1 (.lit 0) (.sym W), .ptr 7 (.lit 0), .p (.int .i64 (.sym ph)), .p (.int .i64 (.sym sp)), .p (.int .i64 (.sym cy))]), (1, .mix [.ptr 2 (.lit 0), .sl 5 3 1 (.lit 0) (.sym W)]), (2, .mix [.sl 3 3 1 (.lit 0) (.sym N), .sl 4 211 8 (.lit 0) (.sym N)]), (3, .pure true P), (4, .pure true B), (5, .pure true V), (6, .pure true Q'), (7, .mix [.p (.vsl (.sym m) true la), .p (.bool ov)])], 8⟩ ∧ 0 ≤ i ∧ i ≤ W ∧ Q' = ipv C' ∧ C' = List.replicate i.toNat 0 ++ C.drop i.toNat ∧ kk = (W - i).toNat) W.toNat _
    (Re.at [(0, 0), (1, 1), (2, 2), (3, 3), (4, 4), (5, 5), (6, 6), (7, 7)] []) ⟨0, C, Q, rfl, by omega, by omega, h.q, by simp, by omega⟩ ?_
  rintro kk s ⟨i, C', Q', rfl, hi0, hi1, hQ', hC', hkk⟩
  have hC'l : C'.length = C.length := by rw [hC', List.length_append, List.length_replicate, List.length_drop]; omega
  have hQ'l : Q'.length = C.length := by rw [hQ', ipv_length]; exact hC'l
  conv => cbv
  refine Br.mk (fun gi => ?_) (fun gi => ?_)
  · have gi : i < W := gi
    obtain ⟨k', rfl⟩ : ∃ k', kk = k' + 1 := ⟨kk - 1, by omega⟩
    conv => cbv
    refine Need.mk ⟨hi0, gi⟩ ?_
    conv => cbv
    refine Need.mk (by show i + 1 ≤ (Q'.length : Int); omega) ?_
    conv => cbv
    obtain ⟨C2, hC2⟩ : ∃ C2, C2 = C'.set i.toNat 0 := ⟨_, rfl⟩
    obtain ⟨Q3, hQ3⟩ : ∃ Q3, Q3 = ipv C2 := ⟨_, rfl⟩
    refine Upd.mk fun Q2 hQ2 => ?_
    have hle : pvles Q2 Q3 := by
      have hQ2 : Q2 = Q'.set i.toNat (.int .i64 (.lit 0)) := hQ2
      rw [hQ2, hQ3, hC2, hQ', ← ipv_set]
      exact pvles_set _ _ _ _ _ (pvles_refl _) (by simp [pvle, I.val])
    unfold pvles at hle
    clear hQ2
    have hC3 : C2 = List.replicate (i.toNat + 1) 0 ++ C.drop (i.toNat + 1) := by
      rw [hC2, hC', List.set_append_right _ _ (by rw [List.length_replicate]; omega), List.length_replicate, Nat.sub_self, List.drop_eq_getElem_cons (by omega), List.set_cons_zero, List.replicate_succ', List.append_assoc]
      rfl
    conv => cbv
    refine Fit.mk (by show (-9223372036854775808 : Int) ≤ i + 1; omega) (by show i + 1 ≤ 9223372036854775807; omega) fun i2 hi2 => ?_
    have hi2 : i2 = i + 1 := hi2
    rw [show i.toNat + 1 = i2.toNat by omega] at hC3
    conv => cbv
    refine Again.mk k' _ (Nat.lt_succ_self _) (Re.at [(0, 0), (1, 1), (2, 2), (3, 3), (4, 4), (5, 5), (6, 6), (7, 7)] []) ⟨i2, C2, Q3, rfl, by omega, by omega, hQ3, hC3, by omega⟩
  · have gi : ¬ i < W := gi
    have hC' : C' = List.replicate W.toNat 0 := by rw [hC', show i.toNat = W.toNat by omega, List.drop_of_length_le (by omega), List.append_nil]
    have hM0 : RM R vs (List.replicate W.toNat 0) [] N W P B V Q' [] 0 := ⟨h.a, h.n, h.r, h.w, h.p, h.b, h.v, by rw [hQ', hC'], by rw [List.length_replicate]; omega, rfl, rfl, fun x hx => (by cases hx), Nat.zero_le _⟩
    clear hQ' hC' hC'l hQ'l
    conv => cbv
    refine LoopF.mk (fun kk s => ∃ (i : Int) (C' G' : List Int) (ov' : Bool) (Q' la' : List PV) (m' : Int), s = ⟨.ptr 0 (.lit 0) :: .p (.vsl (.sym k) true rs) :: (undefs 4 ++ .p (.int .i64 (.sym i)) :: undefs 40), [(0, .mix [.ptr 1 (.lit 0), .sl 6 3 1 (.lit 0) (.sym W), .ptr 8 (.lit 0), .p (.int .i64 (.sym 1)), .p (.int .i64 (.sym sp)), .p (.int .i64 (.sym cy))]), (1, .mix [.ptr 2 (.lit 0), .sl 5 3 1 (.lit 0) (.sym W)]), (2, .mix [.sl 3 3 1 (.lit 0) (.sym N), .sl 4 211 8 (.lit 0) (.sym N)]), (3, .pure true P), (4, .pure true B), (5, .pure true V), (6, .pure true Q'), (8, .mix [.p (.vsl (.sym m') true la'), .p (.bool ov')])], 9⟩ ∧ 0 ≤ i ∧ i ≤ k ∧ RM R vs C' G' N W P B V Q' la' m' ∧ (C', G', ov') = begS R W (A.take i.toNat) ∧ kk = (k - i).toNat) k.toNat _
      (Re.at [(0, 0), (1, 1), (2, 2), (3, 3), (4, 4), (5, 5), (6, 6), (8, 8)] []) ⟨0, _, _, _, Q', [], 0, rfl, by omega, by omega, hM0, rfl, by omega⟩ ?_
    clear hM0
    rintro kk s ⟨i, C', G', ov', Q', la', m', rfl, hi0, hi1, h2, hS, hk2⟩
    conv => cbv
    refine Br.mk (fun gi => ?_) (fun gi => ?_)
    · have gi : i < k := gi
      obtain ⟨k', rfl⟩ : ∃ k', kk = k' + 1 := ⟨kk - 1, by omega⟩
      obtain ⟨a, ha⟩ : ∃ a, A[i.toNat]? = some a := ⟨_, List.getElem?_eq_getElem (by omega)⟩
      have hc : rs[i.toNat]? = some (.int .i64 (.sym a)) := by rw [hrs]; exact ipv_get ha
      conv => cbv
      refine Need.mk ⟨hi0, gi⟩ ?_
      conv => cbv
      refine Cell.at i _ hc (by simp [I.val]) rfl ?_
      conv => cbv
      refine callF_frame (rshade_lx R vs C' G' N W 1 sp cy P B V Q' la' m' ov' h2 a) [(0, 0), (1, 1), (2, 2), (3, 3), (4, 4), (5, 5), (6, 6), (7, 8)] rfl (by simp [hmapOk, nget, hget, renB, okB, renV, renVs, rn, okVs, okV]) rfl rfl (fun r h' n' hrr => ?_)
      obtain ⟨C2, G2, ov2, Q2, la2, m2, e1, e2, e3, h3, hS2⟩ := hrr
      subst e1 e2 e3
      have hS3 : (C2, G2, ov2) = begS R W (A.take (i.toNat + 1)) := by
        rw [hS2, hS]
        unfold begS
        rw [List.take_add_one, ha, Option.toList_some, List.foldl_append]; rfl
      conv => cbv
      refine Fit.mk (by show (-9223372036854775808 : Int) ≤ i + 1; omega) (by show i + 1 ≤ 9223372036854775807; omega) fun i2 hi2 => ?_
      have hi2 : i2 = i + 1 := hi2
      rw [show i.toNat + 1 = i2.toNat by omega] at hS3
      conv => cbv
      refine Again.mk k' _ (Nat.lt_succ_self _) (Re.at [(0, 0), (1, 1), (2, 2), (3, 3), (4, 4), (5, 5), (6, 6), (8, 8)] []) ⟨i2, C2, G2, ov2, Q2, la2, m2, rfl, by omega, by omega, h3, hS3, by omega⟩
    · have gi : ¬ i < k := gi
      rw [List.take_of_length_le (by omega)] at hS
      conv => cbv
      refine RetF.mk [.p (.int .i64 (.lit 0))] [(0, .mix [.ptr 1 (.lit 0), .sl 6 3 1 (.lit 0) (.sym W), .ptr 8 (.lit 0), .p (.int .i64 (.sym 1)), .p (.int .i64 (.sym sp)), .p (.int .i64 (.sym cy))]), (1, .mix [.ptr 2 (.lit 0), .sl 5 3 1 (.lit 0) (.sym W)]), (2, .mix [.sl 3 3 1 (.lit 0) (.sym N), .sl 4 211 8 (.lit 0) (.sym N)]), (3, .pure true P), (4, .pure true B), (5, .pure true V), (6, .pure true Q'), (8, .mix [.p (.vsl (.sym m') true la'), .p (.bool ov')])] 9 (Re.at [(0, 0), (1, 1), (2, 2), (3, 3), (4, 4), (5, 5), (6, 6), (8, 8)] []) rfl ⟨C', G', ov', Q', la', m', rfl, rfl, rfl, h2, hS⟩
set_option maxHeartbeats 2000000 in
theorem rbeginState_lx (R : List Rw) (vs C G : List Int) (N W ph sp cy : Int) (P B V Q la : List PV) (m : Int) (ov : Bool) (h : RM R vs C G N W P B V Q la m) (k : Int) (rs : List PV) (hph : ph ≠ 0) : CallF (fun _ => Tryz.prog) 30 [.ptr 0 (.lit 0), .p (.vsl (.sym k) true rs)] [(0, .mix [.ptr 1 (.lit 0), .sl 6 3 1 (.lit 0) (.sym W), .ptr 7 (.lit 0), .p (.int .i64 (.sym ph)), .p (.int .i64 (.sym sp)), .p (.int .i64 (.sym cy))]), (1, .mix [.ptr 2 (.lit 0), .sl 5 3 1 (.lit 0) (.sym W)]), (2, .mix [.sl 3 3 1 (.lit 0) (.sym N), .sl 4 211 8 (.lit 0) (.sym N)]), (3, .pure true P), (4, .pure true B), (5, .pure true V), (6, .pure true Q), (7, .mix [.p (.vsl (.sym m) true la), .p (.bool ov)])] 8 (fun r h n => r = .p (.int .i64 (.lit 11)) ∧ h = [(0, .mix [.ptr 1 (.lit 0), .sl 6 3 1 (.lit 0) (.sym W), .ptr 7 (.lit 0), .p (.int .i64 (.sym ph)), .p (.int .i64 (.sym sp)), .p (.int .i64 (.sym cy))]), (1, .mix [.ptr 2 (.lit 0), .sl 5 3 1 (.lit 0) (.sym W)]), (2, .mix [.sl 3 3 1 (.lit 0) (.sym N), .sl 4 211 8 (.lit 0) (.sym N)]), (3, .pure true P), (4, .pure true B), (5, .pure true V), (6, .pure true Q), (7, .mix [.p (.vsl (.sym m) true la), .p (.bool ov)])] ∧ n = 8) := by
  refine callF_of_body tok Tryz.func30 (by kernel_rfl) rfl rfl rfl ?_; conv => cbv
  refine Br.yes (show ph ≠ 0 from hph) ?_
  conv => cbv
  refine RetF.mk [.p (.int .i64 (.lit 11))] [(0, .mix [.ptr 1 (.lit 0), .sl 6 3 1 (.lit 0) (.sym W), .ptr 7 (.lit 0), .p (.int .i64 (.sym ph)), .p (.int .i64 (.sym sp)), .p (.int .i64 (.sym cy))]), (1, .mix [.ptr 2 (.lit 0), .sl 5 3 1 (.lit 0) (.sym W)]), (2, .mix [.sl 3 3 1 (.lit 0) (.sym N), .sl 4 211 8 (.lit 0) (.sym N)]), (3, .pure true P), (4, .pure true B), (5, .pure true V), (6, .pure true Q), (7, .mix [.p (.vsl (.sym m) true la), .p (.bool ov)])] 8 (Re.at [(0, 0), (1, 1), (2, 2), (3, 3), (4, 4), (5, 5), (6, 6), (7, 7)] []) rfl ⟨rfl, rfl, rfl⟩
end Go.Proofs.YtgoflehllhccgaaGreatDoor
/-
  Layer 9: a step, where something is grey; HeapNil.
-/
namespace Go.Proofs.YtgoflehllhccgaaGreatDoor

open Go Go.LX
set_option maxRecDepth 100000
set_option linter.unusedVariables false
set_option linter.unusedSimpArgs false

theorem HM.pop {R : List Rw} {ws C A : List Int} {v : Int} {N W : Int} {L D Q : List PV} {z z' : ByteArray} (h : HM R ws C (A ++ [v]) N W L D Q z) (hz : z' = ⟨(enc A).toArray⟩) : HM R ws C A N W L D Q z' ∧ 0 ≤ v ∧ v < W :=
  ⟨⟨h.a, h.k, h.n, h.r, h.w, h.l, h.d, h.q, h.c, hz, fun x hx => h.g x (List.mem_append_left _ hx), by have := h.g8; rw [List.length_append] at this; omega⟩, h.g v (by simp)⟩
set_option maxHeartbeats 2000000 in
theorem nextGreyPop_lx (R : List Rw) (ws C G : List Int) (N W ph sp cy : Int) (L D Q : List PV) (z : ByteArray) (ov : Bool) (h : HM R ws C G N W L D Q z) (A : List Int) (v : Int) (hG : G = A ++ [v]) : CallF (fun _ => Tryz.prog) 110 [.ptr 0 (.lit 0)] [(0, .mix [.ptr 1 (.lit 0), .ptr 5 (.lit 0), .sl 6 3 1 (.lit 0) (.sym W), .p (.int .i64 (.sym ph)), .p (.int .i64 (.sym sp)), .p (.int .i64 (.sym cy))]), (1, .mix [.ptr 2 (.lit 0), .sl 4 3 1 (.lit 0) (.sym W)]), (2, .mix [.sl 3 157 2 (.lit 0) (.sym N)]), (3, .pure true L), (4, .pure true D), (5, .pure false [.str fun _ => z, .bool ov]), (6, .pure true Q)] 7 (fun r h n => ∃ (z' : ByteArray), r = .tup [.p (.int .i64 (.sym v)), .p (.bool true)] ∧ h = [(0, .mix [.ptr 1 (.lit 0), .ptr 5 (.lit 0), .sl 6 3 1 (.lit 0) (.sym W), .p (.int .i64 (.sym ph)), .p (.int .i64 (.sym sp)), .p (.int .i64 (.sym cy))]), (1, .mix [.ptr 2 (.lit 0), .sl 4 3 1 (.lit 0) (.sym W)]), (2, .mix [.sl 3 157 2 (.lit 0) (.sym N)]), (3, .pure true L), (4, .pure true D), (5, .pure false [.str fun _ => z', .bool ov]), (6, .pure true Q)] ∧ n = 7 ∧ HM R ws C A N W L D Q z') := by
  refine callF_of_body tok Tryz.func110 (by kernel_rfl) rfl rfl rfl ?_; conv => cbv
  refine callF_frame (greyPop_lx G z ov h.z h.g64 h.g8) [(0, 5)] rfl (by simp [hmapOk, nget, hget, renB, okB, renV, renVs, rn, okVs, okV]) rfl rfl (fun r h' n' hrr => ?_)
  obtain ⟨v2, b, z', A', e1, e2, e3, hz', h4⟩ := hrr
  subst e1 e2 e3
  obtain ⟨hGA, rfl⟩ : G = A' ++ [v2] ∧ b = true := by
    rcases h4 with ⟨e, _⟩ | h4
    · rw [e] at hG; exact absurd hG.symm (by simp)
    · exact h4
  obtain ⟨rfl, hv2⟩ := List.append_inj' (hG.symm.trans hGA) rfl
  obtain rfl : v = v2 := by simpa using hv2
  conv => cbv
  refine RetF.mk [.p (.int .i64 (.sym v)), .p (.bool true)] [(0, .mix [.ptr 1 (.lit 0), .ptr 5 (.lit 0), .sl 6 3 1 (.lit 0) (.sym W), .p (.int .i64 (.sym ph)), .p (.int .i64 (.sym sp)), .p (.int .i64 (.sym cy))]), (1, .mix [.ptr 2 (.lit 0), .sl 4 3 1 (.lit 0) (.sym W)]), (2, .mix [.sl 3 157 2 (.lit 0) (.sym N)]), (3, .pure true L), (4, .pure true D), (5, .pure false [.str fun _ => z', .bool ov]), (6, .pure true Q)] 7 (Re.at [(0, 0), (1, 1), (2, 2), (3, 3), (4, 4), (5, 5), (6, 6)] []) rfl ⟨z', rfl, rfl, rfl, (HM.pop (hG ▸ h) hz').1⟩
set_option maxHeartbeats 2000000 in
theorem markPop_lx (R : List Rw) (ws C G : List Int) (N W ph sp cy : Int) (L D Q : List PV) (z : ByteArray) (ov : Bool) (h : HM R ws C G N W L D Q z) (o : Unit → Obj) (ho : IsPow o) (A : List Int) (v : Int) (hG : G = A ++ [v]) : CallF (fun _ => Tryz.prog) 63 [.ptr 0 (.lit 0)] [(0, .mix [.ptr 1 (.lit 0), .ptr 5 (.lit 0), .sl 6 3 1 (.lit 0) (.sym W), .p (.int .i64 (.sym ph)), .p (.int .i64 (.sym sp)), .p (.int .i64 (.sym cy))]), (1, .mix [.ptr 2 (.lit 0), .sl 4 3 1 (.lit 0) (.sym W)]), (2, .mix [.sl 3 157 2 (.lit 0) (.sym N)]), (3, .pure true L), (4, .pure true D), (5, .pure false [.str fun _ => z, .bool ov]), (6, .pure true Q), (7, .fix 0 o)] 8 (fun r h n => ∃ (X C' G' : List Int) (ov' : Bool) (Q' : List PV) (z' : ByteArray), r = .p .nils ∧ h = [(0, .mix [.ptr 1 (.lit 0), .ptr 5 (.lit 0), .sl 6 3 1 (.lit 0) (.sym W), .p (.int .i64 (.sym ph)), .p (.int .i64 (.sym sp)), .p (.int .i64 (.sym cy))]), (1, .mix [.ptr 2 (.lit 0), .sl 4 3 1 (.lit 0) (.sym W)]), (2, .mix [.sl 3 157 2 (.lit 0) (.sym N)]), (3, .pure true L), (4, .pure true D), (5, .pure false [.str fun _ => z', .bool ov']), (6, .pure true Q'), (7, .fix 0 o)] ∧ n = 8 ∧ HM R ws C' G' N W L D Q' z' ∧ Wrds R ws v X ∧ (C', G', ov') = scanS R ph v X (C, A, ov)) := by
  have hv := (HM.pop (z' := ⟨(enc A).toArray⟩) (hG ▸ h) rfl).2
  refine callF_of_body tok Tryz.func63 (by kernel_rfl) rfl rfl rfl ?_; conv => cbv
  refine callF_frame (nextGreyPop_lx R ws C G N W ph sp cy L D Q z ov h A v hG) [(0, 0), (1, 1), (2, 2), (3, 3), (4, 4), (5, 5), (6, 6)] rfl (by simp [hmapOk, nget, hget, renB, okB, renV, renVs, rn, okVs, okV]) rfl rfl (fun r h' n' hrr => ?_)
  obtain ⟨z1, e1, e2, e3, h1⟩ := hrr
  subst e1 e2 e3
  conv => cbv
  refine callF_frame (scan_lx R ws C A N W ph sp cy L D Q z1 ov h1 o ho v hv) [(0, 0), (1, 1), (2, 2), (3, 3), (4, 4), (5, 5), (6, 6), (7, 7)] rfl (by simp [hmapOk, nget, hget, renB, okB, renV, renVs, rn, okVs, okV]) rfl rfl (fun r h' n' hrr => ?_)
  obtain ⟨X, C', G', ov', Q', z', e1, e2, e3, h2, hX, hS⟩ := hrr
  subst e1 e2 e3
  conv => cbv
  refine RetF.mk [.p .nils] [(0, .mix [.ptr 1 (.lit 0), .ptr 5 (.lit 0), .sl 6 3 1 (.lit 0) (.sym W), .p (.int .i64 (.sym ph)), .p (.int .i64 (.sym sp)), .p (.int .i64 (.sym cy))]), (1, .mix [.ptr 2 (.lit 0), .sl 4 3 1 (.lit 0) (.sym W)]), (2, .mix [.sl 3 157 2 (.lit 0) (.sym N)]), (3, .pure true L), (4, .pure true D), (5, .pure false [.str fun _ => z', .bool ov']), (6, .pure true Q'), (7, .fix 0 o)] 8 (Re.at [(0, 0), (1, 1), (2, 2), (3, 3), (4, 4), (5, 5), (6, 6), (7, 7)] []) rfl ⟨X, C', G', ov', Q', z', rfl, rfl, rfl, h2, hX, hS⟩
set_option maxHeartbeats 2000000 in
theorem stepPop_lx (R : List Rw) (ws C G : List Int) (N W ph sp cy : Int) (L D Q : List PV) (z : ByteArray) (ov : Bool) (h : HM R ws C G N W L D Q z) (o : Unit → Obj) (ho : IsPow o) (A : List Int) (v : Int) (hG : G = A ++ [v]) (hph : ph = 1) : CallF (fun _ => Tryz.prog) 16 [.ptr 0 (.lit 0)] [(0, .mix [.ptr 1 (.lit 0), .ptr 5 (.lit 0), .sl 6 3 1 (.lit 0) (.sym W), .p (.int .i64 (.sym ph)), .p (.int .i64 (.sym sp)), .p (.int .i64 (.sym cy))]), (1, .mix [.ptr 2 (.lit 0), .sl 4 3 1 (.lit 0) (.sym W)]), (2, .mix [.sl 3 157 2 (.lit 0) (.sym N)]), (3, .pure true L), (4, .pure true D), (5, .pure false [.str fun _ => z, .bool ov]), (6, .pure true Q), (7, .fix 0 o)] 8 (fun r h n => ∃ (X C' G' : List Int) (ov' : Bool) (Q' : List PV) (z' : ByteArray), r = .p .nils ∧ h = [(0, .mix [.ptr 1 (.lit 0), .ptr 5 (.lit 0), .sl 6 3 1 (.lit 0) (.sym W), .p (.int .i64 (.sym ph)), .p (.int .i64 (.sym sp)), .p (.int .i64 (.sym cy))]), (1, .mix [.ptr 2 (.lit 0), .sl 4 3 1 (.lit 0) (.sym W)]), (2, .mix [.sl 3 157 2 (.lit 0) (.sym N)]), (3, .pure true L), (4, .pure true D), (5, .pure false [.str fun _ => z', .bool ov']), (6, .pure true Q'), (7, .fix 0 o)] ∧ n = 8 ∧ HM R ws C' G' N W L D Q' z' ∧ Wrds R ws v X ∧ (C', G', ov') = scanS R ph v X (C, A, ov)) := by
  refine callF_of_body tok Tryz.func16 (by kernel_rfl) rfl rfl rfl ?_; conv => cbv
  refine callF_frame (phase_lx R ws C G N W ph sp cy L D Q z ov) [(0, 0), (1, 1), (2, 2), (3, 3), (4, 4), (5, 5), (6, 6)] rfl (by simp [hmapOk, nget, hget, renB, okB, renV, renVs, rn, okVs, okV]) rfl rfl (fun r h' n' ⟨e1, e2, e3⟩ => ?_)
  subst e1 e2 e3
  conv => cbv
  refine Br.mk (fun g => ?_) (fun g => ?_)
  case refine_2 =>
    have g : ¬ ph = 1 := g
    exact absurd hph g
  conv => cbv
  refine callF_frame (markPop_lx R ws C G N W ph sp cy L D Q z ov h o ho A v hG) [(0, 0), (1, 1), (2, 2), (3, 3), (4, 4), (5, 5), (6, 6), (7, 7)] rfl (by simp [hmapOk, nget, hget, renB, okB, renV, renVs, rn, okVs, okV]) rfl rfl (fun r h' n' hrr => ?_)
  obtain ⟨X, C', G', ov', Q', z', e1, e2, e3, h2, hX, hS⟩ := hrr
  subst e1 e2 e3
  conv => cbv
  refine RetF.mk [.p .nils] [(0, .mix [.ptr 1 (.lit 0), .ptr 5 (.lit 0), .sl 6 3 1 (.lit 0) (.sym W), .p (.int .i64 (.sym ph)), .p (.int .i64 (.sym sp)), .p (.int .i64 (.sym cy))]), (1, .mix [.ptr 2 (.lit 0), .sl 4 3 1 (.lit 0) (.sym W)]), (2, .mix [.sl 3 157 2 (.lit 0) (.sym N)]), (3, .pure true L), (4, .pure true D), (5, .pure false [.str fun _ => z', .bool ov']), (6, .pure true Q'), (7, .fix 0 o)] 8 (Re.at [(0, 0), (1, 1), (2, 2), (3, 3), (4, 4), (5, 5), (6, 6), (7, 7)] []) rfl ⟨X, C', G', ov', Q', z', rfl, rfl, rfl, h2, hX, hS⟩
theorem scan_self {R : List Rw} {ph a : Int} {X C G : List Int} {ov : Bool} {s : List Int × List Int × Bool} (h : (C, G, ov) = scanS R ph a X s) (hl : a.toNat < C.length) : C[a.toNat]? = some 2 := by
  unfold scanS at h
  have h1 := congrArg Prod.fst h
  dsimp only at h1
  rw [h1] at hl ⊢
  rw [List.length_set] at hl
  exact List.getElem?_set_self hl
theorem beg_one {R : List Rw} {ws C G : List Int} {ov : Bool} {W a : Int} (ha : a ∈ objs R) (hA : AOk R ws) (hW : W = 32 * R.length) (hS : (C, G, ov) = begS R W [a]) : C = (List.replicate W.toNat 0).set a.toNat 1 ∧ G = [a] ∧ ov = false := by
  have hb := obj_bd hA ha
  have hS : (C, G, ov) = shade R 1 a (List.replicate W.toNat 0, [], false) := hS
  unfold shade at hS
  rw [if_pos ⟨rfl, ha, by show (List.replicate W.toNat (0 : Int))[a.toNat]? = some 0; rw [List.getElem?_replicate, if_pos (by omega)]⟩] at hS
  simpa using hS
set_option maxHeartbeats 4000000 in
theorem awake09_lx (o : Unit → Obj) (ho : IsPow o) : CallF (fun _ => Tryz.prog) 9 [] [(0, .fix 0 o)] 1 (fun r h n => r = .p (.bool true) ∧ h = [(0, .fix 0 o)] ∧ n = 1) := by
  obtain ⟨Rz, hRz⟩ : ∃ Rz, Rz = List.replicate (2 : Int).toNat ((0, []) : Rw) := ⟨_, rfl⟩
  obtain ⟨wz, hwz⟩ : ∃ wz, wz = List.replicate (64 : Int).toNat (0 : Int) := ⟨_, rfl⟩
  obtain ⟨L0, hL0⟩ : ∃ L0, L0 = rpv Rz := ⟨_, rfl⟩
  obtain ⟨D0, hD0⟩ : ∃ D0, D0 = ipv wz := ⟨_, rfl⟩
  obtain ⟨z0, hz0⟩ : ∃ z0 : ByteArray, z0 = ⟨(enc []).toArray⟩ := ⟨_, rfl⟩
  have hM0 : HM Rz wz wz [] 2 64 L0 D0 D0 z0 := by
    have := HM.new (N := 2) (W := 64) (by decide) (by decide) (by decide) (L := L0) (D := D0) (Q := D0) (z := z0) (by rw [hL0, hRz]) (by rw [hD0, hwz]) (by rw [hD0, hwz]) hz0
    rw [← hRz, ← hwz] at this
    exact this
  refine callF_of_body tok Tryz.func9 (by kernel_rfl) rfl rfl rfl ?_; conv => cbv
  refine CallF.le (args0 := [.p (.int .i64 (.sym 2))]) (callF_frame (newH_lx 2 64 (by decide) (by decide) rfl L0 D0 D0 z0 (by rw [hL0, hRz]) (by rw [hD0, hwz]) (by rw [hD0, hwz]) hz0) [] rfl trivial rfl rfl (fun r h' n' ⟨e1, e2, e3⟩ => ?_)) (by simp [ales, ale, pvle, I.val])
  subst e1 e2 e3
  conv => cbv
  refine callF_frame (arena_lx Rz wz wz [] 2 64 0 0 0 L0 D0 D0 z0 false) [(0, 1), (1, 2), (2, 3), (3, 4), (4, 5), (5, 6), (6, 7)] rfl (by simp [hmapOk, nget, hget, renB, okB, renV, renVs, rn, okVs, okV]) rfl rfl (fun r h' n' ⟨e1, e2, e3⟩ => ?_)
  subst e1 e2 e3
  conv => cbv
  refine CallF.le (args0 := [.ptr 1 (.lit 0), .p (.int .i64 (.sym 5)), .p (.int .i64 (.sym 2))]) (callF_frame (alloc9_lx Rz wz wz [] 2 64 0 0 0 L0 D0 D0 z0 false hM0 5 2) [(0, 1), (1, 2), (2, 3), (3, 4), (4, 5), (5, 6), (6, 7)] rfl (by simp [hmapOk, nget, hget, renB, okB, renV, renVs, rn, okVs, okV]) rfl rfl (fun r h' n' hrr => ?_)) (by simp [ales, ale, pvle, I.val])
  obtain ⟨a, e, R1, w1, C1, L1, D1, Q1, e1, e2, e3, hM1, hT, hC1⟩ := hrr
  subst e1 e2 e3
  conv => cbv
  have he : e = 0 := by have := alloct_err hM0.a hT (by rw [hRz]; decide); rw [if_pos (by decide)] at this; exact this
  have hk : Kept R1 w1 a 5 2 := by
    rcases alloct_gen9 hM0.a hT with h | h
    · exact absurd he h.1
    · exact h.2.2.1
  have ho1 : a ∈ objs R1 := (obj_iff hM1.a a).2 hk.obj6
  have hab := obj_bd hM1.a ho1
  have hR1l : (R1.length : Int) = 2 := hM1.n.symm
  have hC1l : C1.length = 64 := by have := hM1.c; omega
  refine CallF.re (args0 := [.ptr 1 (.lit 0), .p (.vsl (.sym 1) true [.int .i64 (.sym a)])]) (h' := [(1, .mix [.ptr 2 (.lit 0), .ptr 6 (.lit 0), .sl 7 3 1 (.lit 0) (.sym 64), .p (.int .i64 (.sym 0)), .p (.int .i64 (.sym 0)), .p (.int .i64 (.sym 0))]), (2, .mix [.ptr 3 (.lit 0), .sl 5 3 1 (.lit 0) (.sym 64)]), (3, .mix [.sl 4 157 2 (.lit 0) (.sym 2)]), (4, .pure true L1), (5, .pure true D1), (6, .pure false [.str fun _ => z0, .bool false]), (7, .pure true Q1), (0, .fix 0 o)]) (Re.at [(0, 0), (1, 1), (2, 2), (3, 3), (4, 4), (5, 5), (6, 6), (7, 7)] []) (callF_frame (begin_lx R1 w1 C1 [] 2 64 0 0 0 L1 D1 Q1 z0 false hM1 o ho [a] 1 [.int .i64 (.sym a)] rfl rfl (by simp) rfl) [(0, 1), (1, 2), (2, 3), (3, 4), (4, 5), (5, 6), (6, 7), (7, 0)] rfl (by simp [hmapOk, nget, hget, renB, okB, renV, renVs, rn, okVs, okV]) rfl rfl (fun r h' n' hrr => ?_))
  obtain ⟨C2, G2, ov2, Q2, z2, e1, e2, e3, hM2, hS⟩ := hrr
  subst e1 e2 e3
  obtain ⟨hC2, hG2, _⟩ := beg_one ho1 hM1.a (show (64 : Int) = 32 * R1.length by omega) hS
  clear hS
  conv => cbv
  refine Br.yes (show e = 0 from he) ?_
  conv => cbv
  refine callF_frame (phase_lx R1 w1 C2 G2 2 64 1 0 0 L1 D1 Q2 z2 ov2) [(0, 1), (1, 2), (2, 3), (3, 4), (4, 5), (5, 9), (6, 7)] rfl (by simp [hmapOk, nget, hget, renB, okB, renV, renVs, rn, okVs, okV]) rfl rfl (fun r h' n' ⟨e1, e2, e3⟩ => ?_)
  subst e1 e2 e3
  conv => cbv
  refine Br.yes (show (1 : Int) = 1 from rfl) ?_
  conv => cbv
  refine callF_frame (colour_lx R1 w1 C2 G2 2 64 1 0 0 L1 D1 Q2 z2 ov2 hM2 a) [(0, 1), (1, 2), (2, 3), (3, 4), (4, 5), (5, 9), (6, 7)] rfl (by simp [hmapOk, nget, hget, renB, okB, renV, renVs, rn, okVs, okV]) rfl rfl (fun r h' n' hrr => ?_)
  obtain ⟨c1, e1, e2, e3, hc1, _⟩ := hrr
  subst e1 e2 e3
  conv => cbv
  have hc1 : c1 = 1 := by
    have := hc1 ho1
    rw [hC2, List.getElem?_set_self (by rw [List.length_replicate]; omega)] at this
    exact (Option.some.inj this).symm
  refine Br.yes (show c1 = 1 from hc1) ?_
  conv => cbv
  refine callF_frame (stepPop_lx R1 w1 C2 G2 2 64 1 0 0 L1 D1 Q2 z2 ov2 hM2 o ho [] a hG2 rfl) [(0, 1), (1, 2), (2, 3), (3, 4), (4, 5), (5, 9), (6, 7), (7, 0)] rfl (by simp [hmapOk, nget, hget, renB, okB, renV, renVs, rn, okVs, okV]) rfl rfl (fun r h' n' hrr => ?_)
  obtain ⟨X, C3, G3, ov3, Q3, z3, e1, e2, e3, hM3, hX, hS⟩ := hrr
  subst e1 e2 e3
  conv => cbv
  refine callF_frame (colour_lx R1 w1 C3 G3 2 64 1 0 0 L1 D1 Q3 z3 ov3 hM3 a) [(0, 1), (1, 2), (2, 3), (3, 4), (4, 5), (5, 9), (6, 7)] rfl (by simp [hmapOk, nget, hget, renB, okB, renV, renVs, rn, okVs, okV]) rfl rfl (fun r h' n' hrr => ?_)
  obtain ⟨c2, e1, e2, e3, hc2, _⟩ := hrr
  subst e1 e2 e3
  conv => cbv
  have hc2 : c2 = 2 := by
    have := hc2 ho1
    rw [scan_self hS (by have := hM3.c; omega)] at this
    exact (Option.some.inj this).symm
  refine Br.yes (show c2 = 2 from hc2) ?_
  conv => cbv
  refine RetF.mk [.p (.bool true)] [(0, .fix 0 o)] 1 (Re.at [(0, 0)] []) rfl ⟨rfl, rfl, rfl⟩
end Go.Proofs.YtgoflehllhccgaaGreatDoor
/-
  Layer 9: what a step does, in pure words.
-/
namespace Go.Proofs.YtgoflehllhccgaaGreatDoor

open Go Go.LX
set_option maxRecDepth 100000
set_option linter.unusedVariables false
set_option linter.unusedSimpArgs false

/-- What is looked at next. -/
inductive NextG (R : List Rw) (C G : List Int) (ov : Bool) : Int → Bool → List Int → Bool → Prop
  | pop (A : List Int) (v : Int) (h : G = A ++ [v]) : NextG R C G ov v true A ov
  | none (h : G = []) (ho : ov = false) : NextG R C G ov 0 false [] false
  | found (i : Nat) (a : Int) (h : G = []) (ho : ov = true) (ha : (objs R)[i]? = some a) (hc : C[a.toNat]? = some 1) (hn : ∀ j b, j < i → (objs R)[j]? = some b → C[b.toNat]? ≠ some 1) : NextG R C G ov a true [] true
  | settle (h : G = []) (ho : ov = true) (hn : ∀ (j : Nat) b, (objs R)[j]? = some b → C[b.toNat]? ≠ some 1) : NextG R C G ov 0 false [] false
theorem NextG.det {R : List Rw} {C G G1 G2 : List Int} {ov o1 o2 b1 b2 : Bool} {v1 v2 : Int} (h1 : NextG R C G ov v1 b1 G1 o1) (h2 : NextG R C G ov v2 b2 G2 o2) : v1 = v2 ∧ b1 = b2 ∧ G1 = G2 ∧ o1 = o2 := by
  cases h1 with
  | pop A v h => cases h2 with
    | pop A' v' h' =>
      obtain ⟨rfl, e⟩ := List.append_inj' (h.symm.trans h') rfl
      obtain rfl : v1 = v2 := by simpa using e
      exact ⟨rfl, rfl, rfl, rfl⟩
    | none h' _ => rw [h'] at h; exact absurd h.symm (by simp)
    | found i a h' _ _ _ _ => rw [h'] at h; exact absurd h.symm (by simp)
    | settle h' _ _ => rw [h'] at h; exact absurd h.symm (by simp)
  | none h ho => cases h2 with
    | pop A' v' h' => rw [h] at h'; exact absurd h'.symm (by simp)
    | none _ _ => exact ⟨rfl, rfl, rfl, rfl⟩
    | found i a h' ho' _ _ _ => rw [ho] at ho'; cases ho'
    | settle h' ho' _ => rw [ho] at ho'; cases ho'
  | found i a h ho ha hc hn => cases h2 with
    | pop A' v' h' => rw [h] at h'; exact absurd h'.symm (by simp)
    | none _ ho' => rw [ho] at ho'; cases ho'
    | found i' a' h' ho' ha' hc' hn' =>
      obtain rfl : i = i' := by
        rcases Nat.lt_trichotomy i i' with q | q | q
        · exact absurd hc (hn' _ _ q ha)
        · exact q
        · exact absurd hc' (hn _ _ q ha')
      rw [ha] at ha'
      obtain rfl := Option.some.inj ha'
      exact ⟨rfl, rfl, rfl, rfl⟩
    | settle _ _ hn' => exact absurd hc (hn' _ _ ha)
  | settle h ho hn => cases h2 with
    | pop A' v' h' => rw [h] at h'; exact absurd h'.symm (by simp)
    | none _ ho' => rw [ho] at ho'; cases ho'
    | found i' a' h' ho' ha' hc' hn' => exact absurd hc' (hn _ _ ha')
    | settle _ _ _ => exact ⟨rfl, rfl, rfl, rfl⟩
/-- A box that nobody has reached, whose finaliser is due. -/
def Due (R : List Rw) (ws C : List Int) (a : Int) : Prop := (∃ l, Kept R ws a 5 l) ∧ C[a.toNat]? = some 0 ∧ ∃ x, Loaded R ws a 1 x 0 ∧ x ≠ 0
inductive NextF (R : List Rw) (ws C : List Int) : Int → Bool → Prop
  | found (i : Nat) (a : Int) (ha : (objs R)[i]? = some a) (hd : Due R ws C a) (hn : ∀ j b, j < i → (objs R)[j]? = some b → ¬ Due R ws C b) : NextF R ws C a true
  | none (hn : ∀ (j : Nat) b, (objs R)[j]? = some b → ¬ Due R ws C b) : NextF R ws C 0 false
theorem NextF.det {R : List Rw} {ws C : List Int} {b1 b2 : Bool} {v1 v2 : Int} (h1 : NextF R ws C v1 b1) (h2 : NextF R ws C v2 b2) : v1 = v2 ∧ b1 = b2 := by
  cases h1 with
  | found i a ha hd hn => cases h2 with
    | found i' a' ha' hd' hn' =>
      obtain rfl : i = i' := by
        rcases Nat.lt_trichotomy i i' with q | q | q
        · exact absurd hd (hn' _ _ q ha)
        · exact q
        · exact absurd hd' (hn _ _ q ha')
      rw [ha] at ha'
      obtain rfl := Option.some.inj ha'
      exact ⟨rfl, rfl⟩
    | none hn' => exact absurd hd (hn' _ _ ha)
  | none hn => cases h2 with
    | found i' a' ha' hd' hn' => exact absurd hd' (hn _ _ ha')
    | none _ => exact ⟨rfl, rfl⟩
/-- What is gone, or kept: kind, place, words, kept. -/
abbrev Gn := Int × Int × List Int × Bool
def gpv : List Gn → List PV
  | [] => []
  | g :: l => .int .i64 (.sym g.1) :: .int .i64 (.sym g.2.1) :: .vsl (.sym (g.2.2.1.length : Int)) true (ipv g.2.2.1) :: .bool g.2.2.2 :: gpv l
theorem gpv_length : ∀ l, (gpv l).length = 4 * l.length
  | [] => rfl
  | g :: l => by simp [gpv, gpv_length l]; omega
theorem gpv_app : ∀ l m, gpv (l ++ m) = gpv l ++ gpv m
  | [], m => rfl
  | g :: l, m => by simp [gpv, gpv_app l m]
/-- A step of Mark. -/
inductive Marked (R : List Rw) (ws C G : List Int) (ov : Bool) (sp : Int) : List Gn → Int → Int → List Int → List Int → List Int → Bool → Prop
  | scan (v : Int) (A X C' G' : List Int) (o1 ov' : Bool) (hg : NextG R C G ov v true A o1) (hX : Wrds R ws v X) (hs : (C', G', ov') = scanS R 1 v X (C, A, o1)) : Marked R ws C G ov sp [] 1 sp ws C' G' ov'
  | keep (a : Int) (A X ws' C' G' : List Int) (o1 ov' : Bool) (hg : NextG R C G ov 0 false A o1) (hf : NextF R ws C a true) (hX : Wrds R ws a X) (hst : Stored R ws a 1 0 0 ws') (hs : (C', G', ov') = shade R 1 a (C, A, o1)) : Marked R ws C G ov sp [(5, a, X, true)] 1 sp ws' C' G' ov'
  | sweep (A : List Int) (o1 : Bool) (hg : NextG R C G ov 0 false A o1) (hf : NextF R ws C 0 false) : Marked R ws C G ov sp [] 2 0 ws C A o1
end Go.Proofs.YtgoflehllhccgaaGreatDoor
/-
  Layer 9: a step of Mark.
-/
namespace Go.Proofs.YtgoflehllhccgaaGreatDoor

open Go Go.LX
set_option maxRecDepth 100000
set_option linter.unusedVariables false
set_option linter.unusedSimpArgs false

theorem HM.over {R : List Rw} {ws C G : List Int} {N W : Int} {L D Q : List PV} {z z' : ByteArray} {G' : List Int} (h : HM R ws C G N W L D Q z) (hz : z' = ⟨(enc G').toArray⟩) (hG : G = [] ∧ G' = []) : HM R ws C G' N W L D Q z' :=
  ⟨h.a, h.k, h.n, h.r, h.w, h.l, h.d, h.q, h.c, hz, fun x hx => (by rw [hG.2] at hx; cases hx), (by rw [hG.2]; exact Nat.zero_le _)⟩
set_option maxHeartbeats 4000000 in
theorem nextGrey_lx (R : List Rw) (ws C G : List Int) (N W ph sp cy : Int) (L D Q : List PV) (z : ByteArray) (ov : Bool) (h : HM R ws C G N W L D Q z) : CallF (fun _ => Tryz.prog) 110 [.ptr 0 (.lit 0)] [(0, .mix [.ptr 1 (.lit 0), .ptr 5 (.lit 0), .sl 6 3 1 (.lit 0) (.sym W), .p (.int .i64 (.sym ph)), .p (.int .i64 (.sym sp)), .p (.int .i64 (.sym cy))]), (1, .mix [.ptr 2 (.lit 0), .sl 4 3 1 (.lit 0) (.sym W)]), (2, .mix [.sl 3 157 2 (.lit 0) (.sym N)]), (3, .pure true L), (4, .pure true D), (5, .pure false [.str fun _ => z, .bool ov]), (6, .pure true Q)] 7 (fun r h n => ∃ (v : Int) (b : Bool) (G' : List Int) (ov' : Bool) (z' : ByteArray), r = .tup [.p (.int .i64 (.sym v)), .p (.bool b)] ∧ h = [(0, .mix [.ptr 1 (.lit 0), .ptr 5 (.lit 0), .sl 6 3 1 (.lit 0) (.sym W), .p (.int .i64 (.sym ph)), .p (.int .i64 (.sym sp)), .p (.int .i64 (.sym cy))]), (1, .mix [.ptr 2 (.lit 0), .sl 4 3 1 (.lit 0) (.sym W)]), (2, .mix [.sl 3 157 2 (.lit 0) (.sym N)]), (3, .pure true L), (4, .pure true D), (5, .pure false [.str fun _ => z', .bool ov']), (6, .pure true Q)] ∧ n = 7 ∧ HM R ws C G' N W L D Q z' ∧ NextG R C G ov v b G' ov') := by
  by_cases hG0 : G = []
  case neg =>
    obtain ⟨A, v, hG⟩ : ∃ A v, G = A ++ [v] := ⟨_, _, (List.dropLast_concat_getLast hG0).symm⟩
    exact (nextGreyPop_lx R ws C G N W ph sp cy L D Q z ov h A v hG).mono fun r h' n' ⟨z', e1, e2, e3, h2⟩ => ⟨v, true, A, ov, z', e1, e2, e3, h2, .pop A v hG⟩
  refine callF_of_body tok Tryz.func110 (by kernel_rfl) rfl rfl rfl ?_; conv => cbv
  refine callF_frame (greyPop_lx G z ov h.z h.g64 h.g8) [(0, 5)] rfl (by simp [hmapOk, nget, hget, renB, okB, renV, renVs, rn, okVs, okV]) rfl rfl (fun r h' n' hrr => ?_)
  obtain ⟨v2, b, z', A', e1, e2, e3, hz', h4⟩ := hrr
  subst e1 e2 e3
  obtain ⟨rfl, rfl, hA'⟩ : v2 = 0 ∧ b = false ∧ A' = [] := by
    rcases h4 with ⟨_, e1, e2, e3⟩ | ⟨e, _⟩
    · exact ⟨e1, e2, e3⟩
    · rw [hG0] at e; exact absurd e (by simp)
  have h1 := h.over hz' ⟨hG0, hA'⟩
  conv => cbv
  refine callF_frame (greyOver_lx z' ov) [(0, 5)] rfl (by simp [hmapOk, nget, hget, renB, okB, renV, renVs, rn, okVs, okV]) rfl rfl (fun r h' n' ⟨e1, e2, e3⟩ => ?_)
  subst e1 e2 e3
  cases ov with
  | false =>
    conv => cbv
    refine RetF.mk [.p (.int .i64 (.sym 0)), .p (.bool false)] [(0, .mix [.ptr 1 (.lit 0), .ptr 5 (.lit 0), .sl 6 3 1 (.lit 0) (.sym W), .p (.int .i64 (.sym ph)), .p (.int .i64 (.sym sp)), .p (.int .i64 (.sym cy))]), (1, .mix [.ptr 2 (.lit 0), .sl 4 3 1 (.lit 0) (.sym W)]), (2, .mix [.sl 3 157 2 (.lit 0) (.sym N)]), (3, .pure true L), (4, .pure true D), (5, .pure false [.str fun _ => z', .bool false]), (6, .pure true Q)] 7 (Re.at [(0, 0), (1, 1), (2, 2), (3, 3), (4, 4), (5, 5), (6, 6)] []) rfl ⟨0, false, A', false, z', rfl, rfl, rfl, h1, by rw [hA']; exact .none hG0 rfl⟩
  | true =>
    conv => cbv
    obtain ⟨m, hm⟩ : ∃ m : Int, m = objCount R := ⟨_, rfl⟩
    refine callF_frame (objects_lx m R N W L D h.l h.n h.r h.a.rows h.w hm) [(0, 1), (1, 2), (2, 3), (3, 4)] rfl (by simp [hmapOk, nget, hget, renB, okB, renV, renVs, rn, okVs, okV]) rfl rfl (fun r h' n' hrr => ?_)
    obtain ⟨O, e1, e2, e3, hO⟩ := hrr
    subst e1 e2 e3
    have hOl : (O.length : Int) = m := by rw [hO, ipv_length, objs_length h.a.rows, hm]
    have hO : O = ipv (objs R) := hO
    have hol : ((objs R).length : Int) = m := by rw [← hOl, hO, ipv_length]
    have hob : m ≤ 8000 := by have := objsTo_le R R.length; rw [objs_length h.a.rows] at this; have := h.r; omega
    conv => cbv
    refine LoopF.mk (fun k s => ∃ i : Int, s = ⟨.ptr 0 (.lit 0) :: (undefs 27 ++ .sl 7 3 1 (.lit 0) (.sym m) :: .p (.int .i64 (.sym m)) :: .p (.int .i64 (.sym i)) :: undefs 13), [(0, .mix [.ptr 1 (.lit 0), .ptr 5 (.lit 0), .sl 6 3 1 (.lit 0) (.sym W), .p (.int .i64 (.sym ph)), .p (.int .i64 (.sym sp)), .p (.int .i64 (.sym cy))]), (1, .mix [.ptr 2 (.lit 0), .sl 4 3 1 (.lit 0) (.sym W)]), (2, .mix [.sl 3 157 2 (.lit 0) (.sym N)]), (3, .pure true L), (4, .pure true D), (5, .pure false [.str fun _ => z', .bool true]), (6, .pure true Q), (7, .pure true O)], 8⟩ ∧ 0 ≤ i ∧ i ≤ m ∧ (∀ (j : Nat) b, (j : Int) < i → (objs R)[j]? = some b → C[b.toNat]? ≠ some 1) ∧ k = (m - i).toNat) m.toNat _
      (Re.at [(0, 0), (1, 1), (2, 2), (3, 3), (4, 4), (5, 5), (6, 6), (7, 7)] []) ⟨0, rfl, by omega, by omega, fun j b hj => by omega, by omega⟩ ?_
    rintro k s ⟨i, rfl, hi0, hi1, hn, hk⟩
    conv => cbv
    refine Br.mk (fun gi => ?_) (fun gi => ?_)
    · have gi : i < m := gi
      obtain ⟨k', rfl⟩ : ∃ k', k = k' + 1 := ⟨k - 1, by omega⟩
      obtain ⟨a, ha⟩ : ∃ a, (objs R)[i.toNat]? = some a := ⟨_, List.getElem?_eq_getElem (by omega)⟩
      have hc : O[i.toNat]? = some (.int .i64 (.sym a)) := by rw [hO]; exact ipv_get ha
      conv => cbv
      refine Need.mk ⟨hi0, gi⟩ ?_
      conv => cbv
      refine Cell.at i _ hc (by simp [I.val]) rfl ?_
      conv => cbv
      refine CallF.le (args0 := [.ptr 0 (.lit 0), .p (.int .i64 (.sym a)), .p (.int .i64 (.sym 1))]) (callF_frame (is_lx R ws C A' N W ph sp cy L D Q z' true h1 a 1) [(0, 0), (1, 1), (2, 2), (3, 3), (4, 4), (5, 5), (6, 6)] rfl (by simp [hmapOk, nget, hget, renB, okB, renV, renVs, rn, okVs, okV]) rfl rfl (fun r h' n' hrr => ?_)) (by simp [ales, ale, pvle, I.val])
      obtain ⟨b, e1, e2, e3, hb⟩ := hrr
      subst e1 e2 e3
      cases b with
      | true =>
        conv => cbv
        refine RetF.mk [.p (.int .i64 (.sym a)), .p (.bool true)] [(0, .mix [.ptr 1 (.lit 0), .ptr 5 (.lit 0), .sl 6 3 1 (.lit 0) (.sym W), .p (.int .i64 (.sym ph)), .p (.int .i64 (.sym sp)), .p (.int .i64 (.sym cy))]), (1, .mix [.ptr 2 (.lit 0), .sl 4 3 1 (.lit 0) (.sym W)]), (2, .mix [.sl 3 157 2 (.lit 0) (.sym N)]), (3, .pure true L), (4, .pure true D), (5, .pure false [.str fun _ => z', .bool true]), (6, .pure true Q)] 7 (Re.at [(0, 0), (1, 1), (2, 2), (3, 3), (4, 4), (5, 5), (6, 6)] []) rfl ⟨a, true, A', true, z', rfl, rfl, rfl, h1, by rw [hA']; exact .found i.toNat a hG0 rfl ha (hb.1 rfl).2 (fun j b hj => hn j b (by omega))⟩
      | false =>
        have hna : C[a.toNat]? ≠ some 1 := fun hx => by have := hb.2 ⟨List.mem_of_getElem? ha, hx⟩; cases this
        conv => cbv
        refine Fit.mk (by show (-9223372036854775808 : Int) ≤ i + 1; omega) (by show i + 1 ≤ 9223372036854775807; omega) fun i2 hi2 => ?_
        have hi2 : i2 = i + 1 := hi2
        conv => cbv
        refine Again.mk k' _ (Nat.lt_succ_self _) (Re.at [(0, 0), (1, 1), (2, 2), (3, 3), (4, 4), (5, 5), (6, 6), (7, 7)] []) ⟨i2, rfl, by omega, by omega, fun j b hj hjb => ?_, by omega⟩
        by_cases q : j = i.toNat
        · rw [q, ha] at hjb; obtain rfl := Option.some.inj hjb; exact hna
        · have hj : (j : Int) < i2 := hj
          have hj2 : (j : Int) < i := by omega
          exact hn j b hj2 hjb
    · have gi : ¬ i < m := gi
      conv => cbv
      refine callF_frame (greySettle_lx z' true) [(0, 5)] rfl (by simp [hmapOk, nget, hget, renB, okB, renV, renVs, rn, okVs, okV]) rfl rfl (fun r h' n' ⟨e1, e2, e3⟩ => ?_)
      subst e1 e2 e3
      conv => cbv
      refine RetF.mk [.p (.int .i64 (.sym 0)), .p (.bool false)] [(0, .mix [.ptr 1 (.lit 0), .ptr 5 (.lit 0), .sl 6 3 1 (.lit 0) (.sym W), .p (.int .i64 (.sym ph)), .p (.int .i64 (.sym sp)), .p (.int .i64 (.sym cy))]), (1, .mix [.ptr 2 (.lit 0), .sl 4 3 1 (.lit 0) (.sym W)]), (2, .mix [.sl 3 157 2 (.lit 0) (.sym N)]), (3, .pure true L), (4, .pure true D), (5, .pure false [.str fun _ => z', .bool false]), (6, .pure true Q)] 7 (Re.at [(0, 0), (1, 1), (2, 2), (3, 3), (4, 4), (5, 5), (6, 6)] []) rfl ⟨0, false, A', false, z', rfl, rfl, rfl, h1, by rw [hA']; exact .settle hG0 rfl (fun j b hj => hn j b (by have := (List.getElem?_eq_some_iff.1 hj).1; omega) hj)⟩
end Go.Proofs.YtgoflehllhccgaaGreatDoor
/-
  Layer 9: a step of Mark, whole.
-/
namespace Go.Proofs.YtgoflehllhccgaaGreatDoor

open Go Go.LX
set_option maxRecDepth 100000
set_option linter.unusedVariables false
set_option linter.unusedSimpArgs false

inductive LookR (R : List Rw) (ws : List Int) (a : Int) : LV → Prop
  | box (x e : Int) (hk : KindR R ws a 5) (hx : Loaded R ws a 1 x e) : LookR R ws a (.iface 161 (.agg [.p (.int .i64 (.sym a)), .p (.int .i64 (.sym x))]))
  | other (k : Int) (hk : KindR R ws a k) (hne : k ≠ 5) : LookR R ws a (.iface 246 (.agg []))
set_option maxHeartbeats 2000000 in
theorem look9_lx (R : List Rw) (ws C G : List Int) (N W ph sp cy : Int) (L D Q : List PV) (z : ByteArray) (ov : Bool) (h : HM R ws C G N W L D Q z) (a : Int) : CallF (fun _ => Tryz.prog) 164 [.ptr 0 (.lit 0), .p (.int .i64 (.sym a))] [(0, .mix [.ptr 1 (.lit 0), .ptr 5 (.lit 0), .sl 6 3 1 (.lit 0) (.sym W), .p (.int .i64 (.sym ph)), .p (.int .i64 (.sym sp)), .p (.int .i64 (.sym cy))]), (1, .mix [.ptr 2 (.lit 0), .sl 4 3 1 (.lit 0) (.sym W)]), (2, .mix [.sl 3 157 2 (.lit 0) (.sym N)]), (3, .pure true L), (4, .pure true D), (5, .pure false [.str fun _ => z, .bool ov]), (6, .pure true Q)] 7 (fun r h n => LookR R ws a r ∧ h = [(0, .mix [.ptr 1 (.lit 0), .ptr 5 (.lit 0), .sl 6 3 1 (.lit 0) (.sym W), .p (.int .i64 (.sym ph)), .p (.int .i64 (.sym sp)), .p (.int .i64 (.sym cy))]), (1, .mix [.ptr 2 (.lit 0), .sl 4 3 1 (.lit 0) (.sym W)]), (2, .mix [.sl 3 157 2 (.lit 0) (.sym N)]), (3, .pure true L), (4, .pure true D), (5, .pure false [.str fun _ => z, .bool ov]), (6, .pure true Q)] ∧ n = 7) := by
  refine callF_of_body tok Tryz.func164 (by kernel_rfl) rfl rfl rfl ?_; conv => cbv
  refine callF_frame (kind_lx R ws N a W L D h.l h.d h.n h.r h.a h.w) [(0, 1), (1, 2), (2, 3), (3, 4)] rfl (by simp [hmapOk, nget, hget, renB, okB, renV, renVs, rn, okVs, okV]) rfl rfl (fun r h' n' hrr => ?_)
  obtain ⟨v, e1, e2, e3, hv⟩ := hrr
  subst e1 e2 e3
  conv => cbv
  refine Br.mk (fun g => ?_) (fun g => ?_)
  · have g : v = 5 := g
    conv => cbv
    refine CallF.le (args0 := [.ptr 1 (.lit 0), .p (.int .i64 (.sym a)), .p (.int .i64 (.sym 1))]) (callF_frame (load_lx 1 R ws N a W L D h.l h.d h.n h.r h.a h.w) [(0, 1), (1, 2), (2, 3), (3, 4)] rfl (by simp [hmapOk, nget, hget, renB, okB, renV, renVs, rn, okVs, okV]) rfl rfl (fun r h' n' hrr => ?_)) (by simp [ales, ale, pvle, I.val])
    obtain ⟨x, e, e1, e2, e3, hx⟩ := hrr
    subst e1 e2 e3
    conv => cbv
    refine RetF.mk [.iface 161 (.agg [.p (.int .i64 (.sym a)), .p (.int .i64 (.sym x))])] [(0, .mix [.ptr 1 (.lit 0), .ptr 5 (.lit 0), .sl 6 3 1 (.lit 0) (.sym W), .p (.int .i64 (.sym ph)), .p (.int .i64 (.sym sp)), .p (.int .i64 (.sym cy))]), (1, .mix [.ptr 2 (.lit 0), .sl 4 3 1 (.lit 0) (.sym W)]), (2, .mix [.sl 3 157 2 (.lit 0) (.sym N)]), (3, .pure true L), (4, .pure true D), (5, .pure false [.str fun _ => z, .bool ov]), (6, .pure true Q)] 7 (Re.at [(0, 0), (1, 1), (2, 2), (3, 3), (4, 4), (5, 5), (6, 6)] []) rfl ⟨.box x e (g ▸ hv) hx, rfl, rfl⟩
  · have g : ¬ v = 5 := g
    conv => cbv
    refine RetF.mk [.iface 246 (.agg [])] [(0, .mix [.ptr 1 (.lit 0), .ptr 5 (.lit 0), .sl 6 3 1 (.lit 0) (.sym W), .p (.int .i64 (.sym ph)), .p (.int .i64 (.sym sp)), .p (.int .i64 (.sym cy))]), (1, .mix [.ptr 2 (.lit 0), .sl 4 3 1 (.lit 0) (.sym W)]), (2, .mix [.sl 3 157 2 (.lit 0) (.sym N)]), (3, .pure true L), (4, .pure true D), (5, .pure false [.str fun _ => z, .bool ov]), (6, .pure true Q)] 7 (Re.at [(0, 0), (1, 1), (2, 2), (3, 3), (4, 4), (5, 5), (6, 6)] []) rfl ⟨.other v hv g, rfl, rfl⟩
set_option maxHeartbeats 4000000 in
theorem nextFinal_lx (R : List Rw) (ws C G : List Int) (N W ph sp cy : Int) (L D Q : List PV) (z : ByteArray) (ov : Bool) (h : HM R ws C G N W L D Q z) : CallF (fun _ => Tryz.prog) 112 [.ptr 0 (.lit 0)] [(0, .mix [.ptr 1 (.lit 0), .ptr 5 (.lit 0), .sl 6 3 1 (.lit 0) (.sym W), .p (.int .i64 (.sym ph)), .p (.int .i64 (.sym sp)), .p (.int .i64 (.sym cy))]), (1, .mix [.ptr 2 (.lit 0), .sl 4 3 1 (.lit 0) (.sym W)]), (2, .mix [.sl 3 157 2 (.lit 0) (.sym N)]), (3, .pure true L), (4, .pure true D), (5, .pure false [.str fun _ => z, .bool ov]), (6, .pure true Q)] 7 (fun r h n => ∃ (a x : Int) (b : Bool), r = .tup [.agg [.p (.int .i64 (.sym a)), .p (.int .i64 (.sym x))], .p (.bool b)] ∧ h = [(0, .mix [.ptr 1 (.lit 0), .ptr 5 (.lit 0), .sl 6 3 1 (.lit 0) (.sym W), .p (.int .i64 (.sym ph)), .p (.int .i64 (.sym sp)), .p (.int .i64 (.sym cy))]), (1, .mix [.ptr 2 (.lit 0), .sl 4 3 1 (.lit 0) (.sym W)]), (2, .mix [.sl 3 157 2 (.lit 0) (.sym N)]), (3, .pure true L), (4, .pure true D), (5, .pure false [.str fun _ => z, .bool ov]), (6, .pure true Q)] ∧ n = 7 ∧ NextF R ws C a b) := by
  obtain ⟨m, hm⟩ : ∃ m : Int, m = objCount R := ⟨_, rfl⟩
  refine callF_of_body tok Tryz.func112 (by kernel_rfl) rfl rfl rfl ?_; conv => cbv
  refine callF_frame (objects_lx m R N W L D h.l h.n h.r h.a.rows h.w hm) [(0, 1), (1, 2), (2, 3), (3, 4)] rfl (by simp [hmapOk, nget, hget, renB, okB, renV, renVs, rn, okVs, okV]) rfl rfl (fun r h' n' hrr => ?_)
  obtain ⟨O, e1, e2, e3, hO⟩ := hrr
  subst e1 e2 e3
  have hOl : (O.length : Int) = m := by rw [hO, ipv_length, objs_length h.a.rows, hm]
  have hO : O = ipv (objs R) := hO
  have hol : ((objs R).length : Int) = m := by rw [← hOl, hO, ipv_length]
  have hob : m ≤ 8000 := by have := objsTo_le R R.length; rw [objs_length h.a.rows] at this; have := h.r; omega
  conv => cbv
  refine LoopF.mk (fun k s => ∃ i : Int, s = ⟨.ptr 0 (.lit 0) :: .undef :: .ptr 7 (.lit 0) :: .p (.bool false) :: (undefs 8 ++ .sl 8 3 1 (.lit 0) (.sym m) :: .p (.int .i64 (.sym m)) :: .p (.int .i64 (.sym i)) :: undefs 24), [(0, .mix [.ptr 1 (.lit 0), .ptr 5 (.lit 0), .sl 6 3 1 (.lit 0) (.sym W), .p (.int .i64 (.sym ph)), .p (.int .i64 (.sym sp)), .p (.int .i64 (.sym cy))]), (1, .mix [.ptr 2 (.lit 0), .sl 4 3 1 (.lit 0) (.sym W)]), (2, .mix [.sl 3 157 2 (.lit 0) (.sym N)]), (3, .pure true L), (4, .pure true D), (5, .pure false [.str fun _ => z, .bool ov]), (6, .pure true Q), (8, .pure true O), (7, .pure false [.int .i64 (.lit 0), .int .i64 (.lit 0)])], 9⟩ ∧ 0 ≤ i ∧ i ≤ m ∧ (∀ (j : Nat) b, (j : Int) < i → (objs R)[j]? = some b → ¬ Due R ws C b) ∧ k = (m - i).toNat) m.toNat _
    (Re.at [(0, 0), (1, 1), (2, 2), (3, 3), (4, 4), (5, 5), (6, 6), (7, 7), (8, 8)] []) ⟨0, rfl, by omega, by omega, fun j b hj => by omega, by omega⟩ ?_
  rintro k s ⟨i, rfl, hi0, hi1, hn, hk⟩
  conv => cbv
  refine Br.mk (fun gi => ?_) (fun gi => ?_)
  · have gi : i < m := gi
    obtain ⟨k', rfl⟩ : ∃ k', k = k' + 1 := ⟨k - 1, by omega⟩
    obtain ⟨a, ha⟩ : ∃ a, (objs R)[i.toNat]? = some a := ⟨_, List.getElem?_eq_getElem (by omega)⟩
    have hc : O[i.toNat]? = some (.int .i64 (.sym a)) := by rw [hO]; exact ipv_get ha
    have hob2 := (obj_iff h.a a).1 (List.mem_of_getElem? ha)
    have hstep : ∀ i2 : Int, i2 = i + 1 → ¬ Due R ws C a → ∀ (j : Nat) b, (j : Int) < i2 → (objs R)[j]? = some b → ¬ Due R ws C b := by
      intro i2 hi2 hd j b hj hjb
      by_cases q : j = i.toNat
      · rw [q, ha] at hjb; obtain rfl := Option.some.inj hjb; exact hd
      · exact hn j b (by omega) hjb
    conv => cbv
    refine Need.mk ⟨hi0, gi⟩ ?_
    conv => cbv
    refine Cell.at i _ hc (by simp [I.val]) rfl ?_
    conv => cbv
    refine callF_frame (look9_lx R ws C G N W ph sp cy L D Q z ov h a) [(0, 0), (1, 1), (2, 2), (3, 3), (4, 4), (5, 5), (6, 6)] rfl (by simp [hmapOk, nget, hget, renB, okB, renV, renVs, rn, okVs, okV]) rfl rfl (fun r h' n' hrr => ?_)
    obtain ⟨hL, e2, e3⟩ := hrr
    subst e2 e3
    cases hL with
    | other k2 hk2 hne =>
      have hnd : ¬ Due R ws C a := by
        rintro ⟨⟨l, hK⟩, _⟩
        cases hk2 with
        | no hno => exact hno hob2
        | is _ l2 hK2 => exact hne (hK2.det9 hK).1
      conv => cbv
      refine Fit.mk (by show (-9223372036854775808 : Int) ≤ i + 1; omega) (by show i + 1 ≤ 9223372036854775807; omega) fun i2 hi2 => ?_
      have hi2 : i2 = i + 1 := hi2
      conv => cbv
      refine Again.mk k' _ (Nat.lt_succ_self _) (Re.at [(0, 0), (1, 1), (2, 2), (3, 3), (4, 4), (5, 5), (6, 6), (7, 7), (8, 8)] []) ⟨i2, rfl, by omega, by omega, hstep i2 hi2 hnd, by omega⟩
    | box x e hk2 hx =>
      obtain ⟨l, hK⟩ : ∃ l, Kept R ws a 5 l := by
        generalize hk5 : (5 : Int) = k5 at hk2
        cases hk2 with
        | no _ => cases hk5
        | is _ l hK => exact ⟨l, hk5 ▸ hK⟩
      have hx0 : x ≠ 0 → e = 0 := by
        intro hne
        generalize h1 : (1 : Int) = i1 at hx
        cases hx with
        | none _ => exact absurd rfl hne
        | arg _ _ _ _ => exact absurd rfl hne
        | ok _ _ _ _ _ _ => rfl
      conv => cbv
      refine Br.mk (fun gx => ?_) (fun gx => ?_)
      · have gx : x ≠ 0 := gx
        obtain rfl := hx0 gx
        conv => cbv
        refine CallF.le (args0 := [.ptr 0 (.lit 0), .p (.int .i64 (.sym a)), .p (.int .i64 (.sym 0))]) (callF_frame (is_lx R ws C G N W ph sp cy L D Q z ov h a 0) [(0, 0), (1, 1), (2, 2), (3, 3), (4, 4), (5, 5), (6, 6)] rfl (by simp [hmapOk, nget, hget, renB, okB, renV, renVs, rn, okVs, okV]) rfl rfl (fun r h' n' hrr => ?_)) (by simp [ales, ale, pvle, I.val])
        obtain ⟨b, e1, e2, e3, hb⟩ := hrr
        subst e1 e2 e3
        cases b with
        | true =>
          conv => cbv
          refine RetF.mk [.agg [.p (.int .i64 (.sym a)), .p (.int .i64 (.sym x))], .p (.bool true)] [(0, .mix [.ptr 1 (.lit 0), .ptr 5 (.lit 0), .sl 6 3 1 (.lit 0) (.sym W), .p (.int .i64 (.sym ph)), .p (.int .i64 (.sym sp)), .p (.int .i64 (.sym cy))]), (1, .mix [.ptr 2 (.lit 0), .sl 4 3 1 (.lit 0) (.sym W)]), (2, .mix [.sl 3 157 2 (.lit 0) (.sym N)]), (3, .pure true L), (4, .pure true D), (5, .pure false [.str fun _ => z, .bool ov]), (6, .pure true Q)] 7 (Re.at [(0, 0), (1, 1), (2, 2), (3, 3), (4, 4), (5, 5), (6, 6)] []) rfl ⟨a, x, true, rfl, rfl, rfl, .found i.toNat a ha ⟨⟨l, hK⟩, (hb.1 rfl).2, x, hx, gx⟩ (fun j b hj => hn j b (by omega))⟩
        | false =>
          have hnd : ¬ Due R ws C a := fun hd => by have := hb.2 ⟨List.mem_of_getElem? ha, hd.2.1⟩; cases this
          conv => cbv
          refine Fit.mk (by show (-9223372036854775808 : Int) ≤ i + 1; omega) (by show i + 1 ≤ 9223372036854775807; omega) fun i2 hi2 => ?_
          have hi2 : i2 = i + 1 := hi2
          conv => cbv
          refine Again.mk k' _ (Nat.lt_succ_self _) (Re.at [(0, 0), (1, 1), (2, 2), (3, 3), (4, 4), (5, 5), (6, 6), (7, 7), (8, 8)] []) ⟨i2, rfl, by omega, by omega, hstep i2 hi2 hnd, by omega⟩
      · have gx : ¬ x ≠ 0 := gx
        have hnd : ¬ Due R ws C a := by
          rintro ⟨_, _, y, hy, hy0⟩
          obtain ⟨rfl, _⟩ := loaded_det hx hy
          exact gx hy0
        conv => cbv
        refine Fit.mk (by show (-9223372036854775808 : Int) ≤ i + 1; omega) (by show i + 1 ≤ 9223372036854775807; omega) fun i2 hi2 => ?_
        have hi2 : i2 = i + 1 := hi2
        conv => cbv
        refine Again.mk k' _ (Nat.lt_succ_self _) (Re.at [(0, 0), (1, 1), (2, 2), (3, 3), (4, 4), (5, 5), (6, 6), (7, 7), (8, 8)] []) ⟨i2, rfl, by omega, by omega, hstep i2 hi2 hnd, by omega⟩
  · have gi : ¬ i < m := gi
    conv => cbv
    refine RetF.mk [.agg [.p (.int .i64 (.sym 0)), .p (.int .i64 (.sym 0))], .p (.bool false)] [(0, .mix [.ptr 1 (.lit 0), .ptr 5 (.lit 0), .sl 6 3 1 (.lit 0) (.sym W), .p (.int .i64 (.sym ph)), .p (.int .i64 (.sym sp)), .p (.int .i64 (.sym cy))]), (1, .mix [.ptr 2 (.lit 0), .sl 4 3 1 (.lit 0) (.sym W)]), (2, .mix [.sl 3 157 2 (.lit 0) (.sym N)]), (3, .pure true L), (4, .pure true D), (5, .pure false [.str fun _ => z, .bool ov]), (6, .pure true Q)] 7 (Re.at [(0, 0), (1, 1), (2, 2), (3, 3), (4, 4), (5, 5), (6, 6)] []) rfl ⟨0, 0, false, rfl, rfl, rfl, .none (fun j b hj => hn j b (by have := (List.getElem?_eq_some_iff.1 hj).1; omega) hj)⟩
theorem wordsV_lx (R : List Rw) (ws C G : List Int) (N W ph sp cy : Int) (L D Q : List PV) (z : ByteArray) (ov : Bool) (h : HM R ws C G N W L D Q z) (a : Int) : CallF (fun _ => Tryz.prog) 114 [.ptr 0 (.lit 0), .p (.int .i64 (.sym a))] [(0, .mix [.ptr 1 (.lit 0), .ptr 5 (.lit 0), .sl 6 3 1 (.lit 0) (.sym W), .p (.int .i64 (.sym ph)), .p (.int .i64 (.sym sp)), .p (.int .i64 (.sym cy))]), (1, .mix [.ptr 2 (.lit 0), .sl 4 3 1 (.lit 0) (.sym W)]), (2, .mix [.sl 3 157 2 (.lit 0) (.sym N)]), (3, .pure true L), (4, .pure true D), (5, .pure false [.str fun _ => z, .bool ov]), (6, .pure true Q)] 7 (fun r h n => ∃ (X : List Int) (m : Int) (O : List PV), r = .p (.vsl (.sym m) true O) ∧ h = [(0, .mix [.ptr 1 (.lit 0), .ptr 5 (.lit 0), .sl 6 3 1 (.lit 0) (.sym W), .p (.int .i64 (.sym ph)), .p (.int .i64 (.sym sp)), .p (.int .i64 (.sym cy))]), (1, .mix [.ptr 2 (.lit 0), .sl 4 3 1 (.lit 0) (.sym W)]), (2, .mix [.sl 3 157 2 (.lit 0) (.sym N)]), (3, .pure true L), (4, .pure true D), (5, .pure false [.str fun _ => z, .bool ov]), (6, .pure true Q)] ∧ n = 7 ∧ O = ipv X ∧ m = X.length ∧ Wrds R ws a X) :=
  (wordsH_lx R ws C G N W ph sp cy L D Q z ov h a).ret fun r h' n' ⟨X, m, O, e1, e2, e3, hO, hm, hX⟩ => by
    subst e1 e2 e3
    exact RetF.mk [.p (.vsl (.sym m) true O)] [(0, .mix [.ptr 1 (.lit 0), .ptr 5 (.lit 0), .sl 6 3 1 (.lit 0) (.sym W), .p (.int .i64 (.sym ph)), .p (.int .i64 (.sym sp)), .p (.int .i64 (.sym cy))]), (1, .mix [.ptr 2 (.lit 0), .sl 4 3 1 (.lit 0) (.sym W)]), (2, .mix [.sl 3 157 2 (.lit 0) (.sym N)]), (3, .pure true L), (4, .pure true D), (5, .pure false [.str fun _ => z, .bool ov]), (6, .pure true Q)] 7 (Re.at [(0, 0), (1, 1), (2, 2), (3, 3), (4, 4), (5, 5), (6, 6)] []) rfl ⟨X, m, O, rfl, rfl, rfl, hO, hm, hX⟩
theorem shadeW_zero (R : List Rw) (ph : Int) (s : List Int × List Int × Bool) (e : Int) : storeS R ph e 0 s = s := by
  unfold storeS shadeW
  split
  · rw [if_neg (by decide)]
  · rfl
set_option maxHeartbeats 4000000 in
theorem keep_lx (R : List Rw) (ws C G : List Int) (N W ph sp cy : Int) (L D Q : List PV) (z : ByteArray) (ov : Bool) (h : HM R ws C G N W L D Q z) (o : Unit → Obj) (ho : IsPow o) (a x : Int) : CallF (fun _ => Tryz.prog) 113 [.ptr 0 (.lit 0), .agg [.p (.int .i64 (.sym a)), .p (.int .i64 (.sym x))]] [(0, .mix [.ptr 1 (.lit 0), .ptr 5 (.lit 0), .sl 6 3 1 (.lit 0) (.sym W), .p (.int .i64 (.sym ph)), .p (.int .i64 (.sym sp)), .p (.int .i64 (.sym cy))]), (1, .mix [.ptr 2 (.lit 0), .sl 4 3 1 (.lit 0) (.sym W)]), (2, .mix [.sl 3 157 2 (.lit 0) (.sym N)]), (3, .pure true L), (4, .pure true D), (5, .pure false [.str fun _ => z, .bool ov]), (6, .pure true Q), (7, .fix 0 o)] 8 (fun r h n => ∃ (X : List Int) (m e : Int) (O : List PV) (ws' C' G' : List Int) (ov' : Bool) (D' Q' : List PV) (z' : ByteArray), r = .agg [.p (.int .i64 (.lit 5)), .p (.int .i64 (.sym a)), .p (.vsl (.sym m) true O), .p (.bool true)] ∧ h = [(0, .mix [.ptr 1 (.lit 0), .ptr 5 (.lit 0), .sl 6 3 1 (.lit 0) (.sym W), .p (.int .i64 (.sym ph)), .p (.int .i64 (.sym sp)), .p (.int .i64 (.sym cy))]), (1, .mix [.ptr 2 (.lit 0), .sl 4 3 1 (.lit 0) (.sym W)]), (2, .mix [.sl 3 157 2 (.lit 0) (.sym N)]), (3, .pure true L), (4, .pure true D'), (5, .pure false [.str fun _ => z', .bool ov']), (6, .pure true Q'), (7, .fix 0 o)] ∧ n = 8 ∧ HM R ws' C' G' N W L D' Q' z' ∧ O = ipv X ∧ m = X.length ∧ Wrds R ws a X ∧ Stored R ws a 1 0 e ws' ∧ (C', G', ov') = shade R ph a (C, G, ov)) := by
  refine callF_of_body tok Tryz.func113 (by kernel_rfl) rfl rfl rfl ?_; conv => cbv
  refine callF_frame (wordsV_lx R ws C G N W ph sp cy L D Q z ov h a) [(0, 0), (1, 1), (2, 2), (3, 3), (4, 4), (5, 5), (6, 6)] rfl (by simp [hmapOk, nget, hget, renB, okB, renV, renVs, rn, okVs, okV]) rfl rfl (fun r h' n' hrr => ?_)
  obtain ⟨X, m, O, e1, e2, e3, hO, hm, hX⟩ := hrr
  subst e1 e2 e3
  conv => cbv
  refine CallF.le (args0 := [.ptr 0 (.lit 0), .p (.int .i64 (.sym a)), .p (.int .i64 (.sym 1)), .p (.int .i64 (.sym 0))]) (callF_frame (store9_lx R ws C G N W ph sp cy L D Q z ov h o ho a 1 0 (by decide)) [(0, 0), (1, 1), (2, 2), (3, 3), (4, 4), (5, 5), (6, 6), (7, 7)] rfl (by simp [hmapOk, nget, hget, renB, okB, renV, renVs, rn, okVs, okV]) rfl rfl (fun r h' n' hrr => ?_)) (by simp [ales, ale, pvle, I.val])
  obtain ⟨e, ws', C1, G1, ov1, D', Q1, z1, e1, e2, e3, h1, hT, hS⟩ := hrr
  subst e1 e2 e3
  rw [shadeW_zero] at hS
  conv => cbv
  refine callF_frame (shade_lx R ws' C1 G1 N W ph sp cy L D' Q1 z1 ov1 h1 o ho a) [(0, 0), (1, 1), (2, 2), (3, 3), (4, 4), (5, 5), (6, 6), (7, 7)] rfl (by simp [hmapOk, nget, hget, renB, okB, renV, renVs, rn, okVs, okV]) rfl rfl (fun r h' n' hrr => ?_)
  obtain ⟨C', G', ov', Q', z', e1, e2, e3, h2, hS2⟩ := hrr
  subst e1 e2 e3
  rw [hS] at hS2
  conv => cbv
  refine RetF.mk [.agg [.p (.int .i64 (.lit 5)), .p (.int .i64 (.sym a)), .p (.vsl (.sym m) true O), .p (.bool true)]] [(0, .mix [.ptr 1 (.lit 0), .ptr 5 (.lit 0), .sl 6 3 1 (.lit 0) (.sym W), .p (.int .i64 (.sym ph)), .p (.int .i64 (.sym sp)), .p (.int .i64 (.sym cy))]), (1, .mix [.ptr 2 (.lit 0), .sl 4 3 1 (.lit 0) (.sym W)]), (2, .mix [.sl 3 157 2 (.lit 0) (.sym N)]), (3, .pure true L), (4, .pure true D'), (5, .pure false [.str fun _ => z', .bool ov']), (6, .pure true Q'), (7, .fix 0 o)] 8 (Re.at [(0, 0), (1, 1), (2, 2), (3, 3), (4, 4), (5, 5), (6, 6), (7, 7)] []) rfl ⟨X, m, e, O, ws', C', G', ov', D', Q', z', rfl, rfl, rfl, h2, hO, hm, hX, hT, hS2⟩
set_option maxHeartbeats 4000000 in
theorem markH_lx (R : List Rw) (ws C G : List Int) (N W ph sp cy : Int) (L D Q : List PV) (z : ByteArray) (ov : Bool) (h : HM R ws C G N W L D Q z) (o : Unit → Obj) (ho : IsPow o) (hph : ph = 1) : CallF (fun _ => Tryz.prog) 63 [.ptr 0 (.lit 0)] [(0, .mix [.ptr 1 (.lit 0), .ptr 5 (.lit 0), .sl 6 3 1 (.lit 0) (.sym W), .p (.int .i64 (.sym ph)), .p (.int .i64 (.sym sp)), .p (.int .i64 (.sym cy))]), (1, .mix [.ptr 2 (.lit 0), .sl 4 3 1 (.lit 0) (.sym W)]), (2, .mix [.sl 3 157 2 (.lit 0) (.sym N)]), (3, .pure true L), (4, .pure true D), (5, .pure false [.str fun _ => z, .bool ov]), (6, .pure true Q), (7, .fix 0 o)] 8 (fun r h n => ∃ (out : List Gn) (k ph' sp' : Int) (cells : List PV) (ws' C' G' : List Int) (ov' : Bool) (D' Q' : List PV) (z' : ByteArray), r = .p (.vsl (.sym k) true cells) ∧ h = [(0, .mix [.ptr 1 (.lit 0), .ptr 5 (.lit 0), .sl 6 3 1 (.lit 0) (.sym W), .p (.int .i64 (.sym ph')), .p (.int .i64 (.sym sp')), .p (.int .i64 (.sym cy))]), (1, .mix [.ptr 2 (.lit 0), .sl 4 3 1 (.lit 0) (.sym W)]), (2, .mix [.sl 3 157 2 (.lit 0) (.sym N)]), (3, .pure true L), (4, .pure true D'), (5, .pure false [.str fun _ => z', .bool ov']), (6, .pure true Q'), (7, .fix 0 o)] ∧ n = 8 ∧ HM R ws' C' G' N W L D' Q' z' ∧ cells = gpv out ∧ k = out.length ∧ Marked R ws C G ov sp out ph' sp' ws' C' G' ov') := by
  subst hph
  refine callF_of_body tok Tryz.func63 (by kernel_rfl) rfl rfl rfl ?_; conv => cbv
  refine callF_frame (nextGrey_lx R ws C G N W 1 sp cy L D Q z ov h) [(0, 0), (1, 1), (2, 2), (3, 3), (4, 4), (5, 5), (6, 6)] rfl (by simp [hmapOk, nget, hget, renB, okB, renV, renVs, rn, okVs, okV]) rfl rfl (fun r h' n' hrr => ?_)
  obtain ⟨v, b, G1, ov1, z1, e1, e2, e3, h1, hg⟩ := hrr
  subst e1 e2 e3
  cases b with
  | true =>
    have hv : 0 ≤ v ∧ v < W := by
      cases hg with
      | pop A _ hG => exact h.g v (by rw [hG]; simp)
      | found i _ _ _ ha _ _ => have := obj_bd h.a (List.mem_of_getElem? ha); have := h.w; have := h.n; omega
    conv => cbv
    refine callF_frame (scan_lx R ws C G1 N W 1 sp cy L D Q z1 ov1 h1 o ho v hv) [(0, 0), (1, 1), (2, 2), (3, 3), (4, 4), (5, 5), (6, 6), (7, 7)] rfl (by simp [hmapOk, nget, hget, renB, okB, renV, renVs, rn, okVs, okV]) rfl rfl (fun r h' n' hrr => ?_)
    obtain ⟨X, C', G', ov', Q', z', e1, e2, e3, h2, hX, hS⟩ := hrr
    subst e1 e2 e3
    conv => cbv
    refine RetF.mk [.p (.vsl (.sym 0) true [])] [(0, .mix [.ptr 1 (.lit 0), .ptr 5 (.lit 0), .sl 6 3 1 (.lit 0) (.sym W), .p (.int .i64 (.sym 1)), .p (.int .i64 (.sym sp)), .p (.int .i64 (.sym cy))]), (1, .mix [.ptr 2 (.lit 0), .sl 4 3 1 (.lit 0) (.sym W)]), (2, .mix [.sl 3 157 2 (.lit 0) (.sym N)]), (3, .pure true L), (4, .pure true D), (5, .pure false [.str fun _ => z', .bool ov']), (6, .pure true Q'), (7, .fix 0 o)] 8 (Re.at [(0, 0), (1, 1), (2, 2), (3, 3), (4, 4), (5, 5), (6, 6), (7, 7)] []) rfl ⟨[], 0, 1, sp, [], ws, C', G', ov', D, Q', z', rfl, rfl, rfl, h2, rfl, rfl, .scan v G1 X C' G' ov1 ov' hg hX hS⟩
  | false =>
    have hv0 : v = 0 := by
      cases hg <;> rfl
    subst hv0
    conv => cbv
    refine callF_frame (nextFinal_lx R ws C G1 N W 1 sp cy L D Q z1 ov1 h1) [(0, 0), (1, 1), (2, 2), (3, 3), (4, 4), (5, 5), (6, 6)] rfl (by simp [hmapOk, nget, hget, renB, okB, renV, renVs, rn, okVs, okV]) rfl rfl (fun r h' n' hrr => ?_)
    obtain ⟨a, x, b, e1, e2, e3, hf⟩ := hrr
    subst e1 e2 e3
    cases b with
    | true =>
      conv => cbv
      refine callF_frame (keep_lx R ws C G1 N W 1 sp cy L D Q z1 ov1 h1 o ho a x) [(0, 0), (1, 1), (2, 2), (3, 3), (4, 4), (5, 5), (6, 6), (7, 7)] rfl (by simp [hmapOk, nget, hget, renB, okB, renV, renVs, rn, okVs, okV]) rfl rfl (fun r h' n' hrr => ?_)
      obtain ⟨X, m, e, O, ws', C', G', ov', D', Q', z', e1, e2, e3, h2, hO, hm, hX, hT, hS⟩ := hrr
      subst e1 e2 e3
      have he : e = 0 := by
        cases hf with
        | found i _ ha hd _ =>
          obtain ⟨⟨l, hK⟩, _, y, hy, _⟩ := hd
          cases hy with
          | ok _ l2 _ hK2 hi _ =>
            cases hT with
            | none hno => exact absurd hK2.obj6 hno
            | arg k3 l3 hK3 hi3 => obtain ⟨_, rfl⟩ := hK2.det9 hK3; exact absurd hi hi3
            | ok _ _ _ _ => rfl
      subst he
      conv => cbv
      refine RetF.mk [.p (.vsl (.sym 1) true [.int .i64 (.sym 5), .int .i64 (.sym a), .vsl (.sym m) true O, .bool true])] [(0, .mix [.ptr 1 (.lit 0), .ptr 5 (.lit 0), .sl 6 3 1 (.lit 0) (.sym W), .p (.int .i64 (.sym 1)), .p (.int .i64 (.sym sp)), .p (.int .i64 (.sym cy))]), (1, .mix [.ptr 2 (.lit 0), .sl 4 3 1 (.lit 0) (.sym W)]), (2, .mix [.sl 3 157 2 (.lit 0) (.sym N)]), (3, .pure true L), (4, .pure true D'), (5, .pure false [.str fun _ => z', .bool ov']), (6, .pure true Q'), (7, .fix 0 o)] 8 (Re.at [(0, 0), (1, 1), (2, 2), (3, 3), (4, 4), (5, 5), (6, 6), (7, 7)] []) rfl ⟨[(5, a, X, true)], 1, 1, sp, _, ws', C', G', ov', D', Q', z', rfl, rfl, rfl, h2, by rw [hO, hm]; rfl, rfl, .keep a G1 X ws' C' G' ov1 ov' hg hf hX hT hS⟩
    | false =>
      have ha0 : a = 0 := by cases hf; rfl
      subst ha0
      conv => cbv
      refine RetF.mk [.p (.vsl (.sym 0) true [])] [(0, .mix [.ptr 1 (.lit 0), .ptr 5 (.lit 0), .sl 6 3 1 (.lit 0) (.sym W), .p (.int .i64 (.sym 2)), .p (.int .i64 (.sym 0)), .p (.int .i64 (.sym cy))]), (1, .mix [.ptr 2 (.lit 0), .sl 4 3 1 (.lit 0) (.sym W)]), (2, .mix [.sl 3 157 2 (.lit 0) (.sym N)]), (3, .pure true L), (4, .pure true D), (5, .pure false [.str fun _ => z1, .bool ov1]), (6, .pure true Q), (7, .fix 0 o)] 8 (Re.at [(0, 0), (1, 1), (2, 2), (3, 3), (4, 4), (5, 5), (6, 6), (7, 7)] []) rfl ⟨[], 0, 2, 0, [], ws, C, G1, ov1, D, Q, z1, rfl, rfl, rfl, h1, rfl, rfl, .sweep G1 ov1 hg hf⟩
end Go.Proofs.YtgoflehllhccgaaGreatDoor
/-
  Layer 9: a step of Sweep; a step.
-/
namespace Go.Proofs.YtgoflehllhccgaaGreatDoor

open Go Go.LX
set_option maxRecDepth 100000
set_option linter.unusedVariables false
set_option linter.unusedSimpArgs false

def Wh (R : List Rw) (C : List Int) (p : Int) : Prop := p ∈ objs R ∧ C[p.toNat]? = some 0
/-- What is swept, from a place on. -/
inductive SweptTo (ws C : List Int) (R : List Rw) (p : Int) : Nat → List Gn → List Rw → Prop
  | zero : SweptTo ws C R p 0 [] R
  | skip (i : Nat) (out : List Gn) (R1 : List Rw) (h : SweptTo ws C R p i out R1) (hn : ¬ Wh R1 C (p + i)) : SweptTo ws C R p (i + 1) out R1
  | free (i : Nat) (out : List Gn) (R1 R2 : List Rw) (k : Int) (X : List Int) (h : SweptTo ws C R p i out R1) (hw : Wh R1 C (p + i)) (hk : KindR R1 ws (p + i) k) (hX : Wrds R1 ws (p + i) X) (hf : Freet R1 (p + i) 0 R2) : SweptTo ws C R p (i + 1) (out ++ [(k, p + i, X, false)]) R2
theorem SweptTo.le {ws C : List Int} {R R' : List Rw} {p : Int} {i : Nat} {out : List Gn} (h : SweptTo ws C R p i out R') : out.length ≤ i := by
  induction h with
  | zero => exact Nat.le_refl _
  | skip i out R1 h hn ih => omega
  | free i out R1 R2 k X h hw hk hX hf ih => rw [List.length_append]; simp; omega
theorem kept_freet {R R' : List Rw} {ws : List Int} {a e : Int} (hA : AOk R ws) (h : Freet R a e R') : ∀ b k l, Kept R' ws b k l → Kept R ws b k l := by
  cases h with
  | none _ => exact fun _ _ _ hk => hk
  | ok q s e he hs hat =>
    obtain ⟨_, _, _, g4⟩ := free_objs hA.rows he hs a hat
    rintro b k l ⟨w, h1, h2, h3, h4, h5, h6⟩
    exact .mk k l w ((g4 b w).1 h1).1 h2 h3 h4 h5 h6
theorem HM.freet {R R' : List Rw} {ws C G : List Int} {N W : Int} {L L' D Q : List PV} {z : ByteArray} {a e : Int} (h : HM R ws C G N W L D Q z) (hf : Freet R a e R') (hL : L' = rpv R') : HM R' ws C G N W L' D Q z := by
  obtain ⟨h1, h2⟩ := h.a.freet hf
  exact ⟨h1, fun b k l hb => h.k b k l (kept_freet h.a hf b k l hb), by rw [h2]; exact h.n, by rw [h2]; exact h.r, h.w, hL, h.d, h.q, h.c, h.z, h.g, h.g8⟩
theorem freet_ok {R R' : List Rw} {ws : List Int} {a e : Int} (hA : AOk R ws) (ho : a ∈ objs R) (h : Freet R a e R') : e = 0 := by
  cases h with
  | none hn => exact absurd ((obj_iff hA a).1 ho) hn
  | ok _ _ _ _ _ _ => rfl
/-- Where Sweep stands behind a step. -/
def swPh (sp W : Int) : Int := if W ≤ (sp + 1) * 32 then 0 else 2
def swCy (sp W cy : Int) : Int := if W ≤ (sp + 1) * 32 then cy + 1 else cy
set_option maxHeartbeats 4000000 in
theorem sweepH_lx (R : List Rw) (ws C G : List Int) (N W ph sp cy : Int) (L D Q : List PV) (z : ByteArray) (ov : Bool) (h : HM R ws C G N W L D Q z) (hph : ph = 2) (hsp : 0 ≤ sp ∧ sp ≤ 1000) (hcy : 0 ≤ cy ∧ cy ≤ 1000000000) : CallF (fun _ => Tryz.prog) 64 [.ptr 0 (.lit 0)] [(0, .mix [.ptr 1 (.lit 0), .ptr 5 (.lit 0), .sl 6 3 1 (.lit 0) (.sym W), .p (.int .i64 (.sym ph)), .p (.int .i64 (.sym sp)), .p (.int .i64 (.sym cy))]), (1, .mix [.ptr 2 (.lit 0), .sl 4 3 1 (.lit 0) (.sym W)]), (2, .mix [.sl 3 157 2 (.lit 0) (.sym N)]), (3, .pure true L), (4, .pure true D), (5, .pure false [.str fun _ => z, .bool ov]), (6, .pure true Q)] 7 (fun r h n => ∃ (out : List Gn) (k ph' sp' cy' : Int) (cells L' : List PV) (R' : List Rw), r = .p (.vsl (.sym k) true cells) ∧ h = [(0, .mix [.ptr 1 (.lit 0), .ptr 5 (.lit 0), .sl 6 3 1 (.lit 0) (.sym W), .p (.int .i64 (.sym ph')), .p (.int .i64 (.sym sp')), .p (.int .i64 (.sym cy'))]), (1, .mix [.ptr 2 (.lit 0), .sl 4 3 1 (.lit 0) (.sym W)]), (2, .mix [.sl 3 157 2 (.lit 0) (.sym N)]), (3, .pure true L'), (4, .pure true D), (5, .pure false [.str fun _ => z, .bool ov]), (6, .pure true Q)] ∧ n = 7 ∧ HM R' ws C G N W L' D Q z ∧ cells = gpv out ∧ k = out.length ∧ SweptTo ws C R (32 * sp) 32 out R' ∧ sp' = sp + 1 ∧ ph' = swPh sp W ∧ cy' = swCy sp W cy) := by
  have hWn := h.w; have hNr := h.n; have hRr := h.r
  refine callF_of_body tok Tryz.func64 (by kernel_rfl) rfl rfl rfl ?_; conv => cbv
  refine drawn_sound tok (by kernel_rfl) [] [0, 1, 2, 3, 4, 5, 6, 7, 8, 9, 10, 11, 12] (by kernel_rfl) ?_; conv => cbv
  refine Fit.mk (by show (-9223372036854775808 : Int) ≤ sp * 32; omega) (by show sp * 32 ≤ 9223372036854775807; omega) fun f hf => ?_
  have hf : f = sp * 32 := hf
  conv => cbv
  refine Fit.mk (by show (-9223372036854775808 : Int) ≤ sp + 1; omega) (by show sp + 1 ≤ 9223372036854775807; omega) fun s1 hs1 => ?_
  have hs1 : s1 = sp + 1 := hs1
  conv => cbv
  refine Fit.mk (by show (-9223372036854775808 : Int) ≤ s1 * 32; omega) (by show s1 * 32 ≤ 9223372036854775807; omega) fun be hbe => ?_
  have hbe : be = s1 * 32 := hbe
  conv => cbv
  refine LoopF.mk (fun kk s => ∃ (at_ k : Int) (i : Nat) (out : List Gn) (cells L1 : List PV) (R1 : List Rw), s = ⟨.ptr 0 (.lit 0) :: (undefs 2 ++ .sl 7 45 4 (.lit 0) (.sym k) :: .undef :: .p (.int .i64 (.sym be)) :: .p (.int .i64 (.sym at_)) :: undefs 65), [(0, .mix [.ptr 1 (.lit 0), .ptr 5 (.lit 0), .sl 6 3 1 (.lit 0) (.sym W), .p (.int .i64 (.sym ph)), .p (.int .i64 (.sym sp)), .p (.int .i64 (.sym cy))]), (1, .mix [.ptr 2 (.lit 0), .sl 4 3 1 (.lit 0) (.sym W)]), (2, .mix [.sl 3 157 2 (.lit 0) (.sym N)]), (3, .pure true L1), (4, .pure true D), (5, .pure false [.str fun _ => z, .bool ov]), (6, .pure true Q), (7, .pure true cells)], 8⟩ ∧ at_ = 32 * sp + i ∧ i ≤ 32 ∧ HM R1 ws C G N W L1 D Q z ∧ SweptTo ws C R (32 * sp) i out R1 ∧ cells = gpv out ∧ k = out.length ∧ kk = 32 - i) 32 _
    (Re.at [(0, 0), (1, 1), (2, 2), (3, 3), (4, 4), (5, 5), (6, 6)] [7]) ⟨f, 0, 0, [], [], L, R, rfl, by omega, by omega, h, .zero, rfl, rfl, by omega⟩ ?_
  rintro kk s ⟨at_, k, i, out, cells, L1, R1, rfl, hat, hi, h1, hS, hcs, hk, hkk⟩
  have hle := hS.le
  have hcl : (cells.length : Int) = 4 * k := by rw [hcs, gpv_length]; omega
  conv => cbv
  refine Br.mk (fun gi => ?_) (fun gi => ?_)
  · have gi : at_ < be := gi
    obtain ⟨k', rfl⟩ : ∃ k', kk = k' + 1 := ⟨kk - 1, by omega⟩
    conv => cbv
    refine CallF.le (args0 := [.ptr 0 (.lit 0), .p (.int .i64 (.sym at_)), .p (.int .i64 (.sym 0))]) (callF_frame (is_lx R1 ws C G N W ph sp cy L1 D Q z ov h1 at_ 0) [(0, 0), (1, 1), (2, 2), (3, 3), (4, 4), (5, 5), (6, 6)] rfl (by simp [hmapOk, nget, hget, renB, okB, renV, renVs, rn, okVs, okV]) rfl rfl (fun r h' n' hrr => ?_)) (by simp [ales, ale, pvle, I.val])
    obtain ⟨b, e1, e2, e3, hb⟩ := hrr
    subst e1 e2 e3
    cases b with
    | false =>
      have hnw : ¬ Wh R1 C (32 * sp + i) := fun hw => by have := hb.2 (hat ▸ hw); cases this
      conv => cbv
      refine Fit.mk (by show (-9223372036854775808 : Int) ≤ at_ + 1; omega) (by show at_ + 1 ≤ 9223372036854775807; omega) fun i2 hi2 => ?_
      have hi2 : i2 = at_ + 1 := hi2
      have hat2 : i2 = 32 * sp + ((i + 1 : Nat) : Int) := by omega
      conv => cbv
      refine Again.mk k' _ (Nat.lt_succ_self _) (Re.at [(0, 0), (1, 1), (2, 2), (3, 3), (4, 4), (5, 5), (6, 6), (7, 7)] []) ⟨i2, k, i + 1, out, cells, L1, R1, rfl, hat2, by omega, h1, .skip i out R1 hS hnw, hcs, hk, by omega⟩
    | true =>
      have hw : Wh R1 C (32 * sp + i) := hat ▸ hb.1 rfl
      conv => cbv
      refine callF_frame (kind_lx R1 ws N at_ W L1 D h1.l h1.d h1.n h1.r h1.a h1.w) [(0, 1), (1, 2), (2, 3), (3, 4)] rfl (by simp [hmapOk, nget, hget, renB, okB, renV, renVs, rn, okVs, okV]) rfl rfl (fun r h' n' hrr => ?_)
      obtain ⟨v, e1, e2, e3, hv⟩ := hrr
      subst e1 e2 e3
      conv => cbv
      refine callF_frame (wordsV_lx R1 ws C G N W ph sp cy L1 D Q z ov h1 at_) [(0, 0), (1, 1), (2, 2), (3, 3), (4, 4), (5, 5), (6, 6)] rfl (by simp [hmapOk, nget, hget, renB, okB, renV, renVs, rn, okVs, okV]) rfl rfl (fun r h' n' hrr => ?_)
      obtain ⟨X, m, O, e1, e2, e3, hO, hm, hX⟩ := hrr
      subst e1 e2 e3
      conv => cbv
      refine Room.new rfl ?_
      conv => cbv
      refine Room.new ⟨?_, ?_, ?_⟩ ?_
      · show (cells.length : Int) = k * 4; omega
      · show (k + 1) * 48 ≤ 140737488355328; omega
      · show k + 1 ≤ 9223372036854775807; omega
      conv => cbv
      refine Upd.mk fun c2 hc2 => ?_
      have hc2 : c2 = cells ++ [.int .i64 (.sym v), .int .i64 (.sym at_), .vsl (.sym m) true O, .bool false] := hc2
      have hc2 : c2 = gpv (out ++ [(v, 32 * sp + i, X, false)]) := by rw [hc2, hcs, gpv_app, hO, hm, hat]; rfl
      conv => cbv
      refine Sum.mk fun k2 hk2 => ?_
      have hk2 : k2 = k + 1 := hk2
      conv => cbv
      refine callF_frame (freeA_lx at_ R1 ws N W L1 D h1.l h1.d h1.n h1.r h1.a h1.w) [(0, 1), (1, 2), (2, 3), (3, 4)] rfl (by simp [hmapOk, nget, hget, renB, okB, renV, renVs, rn, okVs, okV]) rfl rfl (fun r h' n' hrr => ?_)
      obtain ⟨e, R2, L2, e1, e2, e3, hL2, hF⟩ := hrr
      subst e1 e2 e3
      have he := freet_ok h1.a (hat.symm ▸ hw.1) hF
      subst he
      have h2 := h1.freet hF hL2
      conv => cbv
      refine Fit.mk (by show (-9223372036854775808 : Int) ≤ at_ + 1; omega) (by show at_ + 1 ≤ 9223372036854775807; omega) fun i2 hi2 => ?_
      have hi2 : i2 = at_ + 1 := hi2
      have hat2 : i2 = 32 * sp + ((i + 1 : Nat) : Int) := by omega
      have hS2 := SweptTo.free i out R1 R2 v X hS hw (hat ▸ hv) (hat ▸ hX) (hat ▸ hF)
      have hk3 : k2 = ((out ++ [(v, 32 * sp + (i : Int), X, false)]).length : Int) := by rw [List.length_append]; show k2 = ((out.length + 1 : Nat) : Int); omega
      conv => cbv
      refine Again.mk k' _ (Nat.lt_succ_self _) (Re.at [(0, 0), (1, 1), (2, 2), (3, 3), (4, 4), (5, 5), (6, 6), (9, 7)] []) ⟨i2, k2, i + 1, _, c2, L2, R2, rfl, hat2, by omega, h2, hS2, hc2, hk3, by omega⟩
  · have gi : ¬ at_ < be := gi
    obtain rfl : i = 32 := by omega
    conv => cbv
    refine Fit.mk (by show (-9223372036854775808 : Int) ≤ sp + 1; omega) (by show sp + 1 ≤ 9223372036854775807; omega) fun s2 hs2 => ?_
    have hs2 : s2 = sp + 1 := hs2
    conv => cbv
    refine callF_frame (wordsA_lx R1 ws N W L1 D h1.l h1.d h1.n h1.r h1.a h1.w) [(0, 1), (1, 2), (2, 3), (3, 4)] rfl (by simp [hmapOk, nget, hget, renB, okB, renV, renVs, rn, okVs, okV]) rfl rfl (fun r h' n' ⟨e1, e2, e3⟩ => ?_)
    subst e1 e2 e3
    conv => cbv
    refine Br.mk (fun gw => ?_) (fun gw => ?_)
    · have gw : W ≤ be := gw
      conv => cbv
      refine Fit.mk (by show (-9223372036854775808 : Int) ≤ cy + 1; omega) (by show cy + 1 ≤ 9223372036854775807; omega) fun c2 hc2 => ?_
      have hc2 : c2 = cy + 1 := hc2
      conv => cbv
      refine RetF.mk [.p (.vsl (.sym k) true cells)] [(0, .mix [.ptr 1 (.lit 0), .ptr 5 (.lit 0), .sl 6 3 1 (.lit 0) (.sym W), .p (.int .i64 (.sym 0)), .p (.int .i64 (.sym s2)), .p (.int .i64 (.sym c2))]), (1, .mix [.ptr 2 (.lit 0), .sl 4 3 1 (.lit 0) (.sym W)]), (2, .mix [.sl 3 157 2 (.lit 0) (.sym N)]), (3, .pure true L1), (4, .pure true D), (5, .pure false [.str fun _ => z, .bool ov]), (6, .pure true Q)] 7 (Re.at [(0, 0), (1, 1), (2, 2), (3, 3), (4, 4), (5, 5), (6, 6)] []) rfl ⟨out, k, 0, s2, c2, cells, L1, R1, rfl, rfl, rfl, h1, hcs, hk, hS, hs2, by unfold swPh; rw [if_pos (by omega)], by unfold swCy; rw [if_pos (by omega)]; exact hc2⟩
    · have gw : ¬ W ≤ be := gw
      conv => cbv
      refine RetF.mk [.p (.vsl (.sym k) true cells)] [(0, .mix [.ptr 1 (.lit 0), .ptr 5 (.lit 0), .sl 6 3 1 (.lit 0) (.sym W), .p (.int .i64 (.sym ph)), .p (.int .i64 (.sym s2)), .p (.int .i64 (.sym cy))]), (1, .mix [.ptr 2 (.lit 0), .sl 4 3 1 (.lit 0) (.sym W)]), (2, .mix [.sl 3 157 2 (.lit 0) (.sym N)]), (3, .pure true L1), (4, .pure true D), (5, .pure false [.str fun _ => z, .bool ov]), (6, .pure true Q)] 7 (Re.at [(0, 0), (1, 1), (2, 2), (3, 3), (4, 4), (5, 5), (6, 6)] []) rfl ⟨out, k, ph, s2, cy, cells, L1, R1, rfl, rfl, rfl, h1, hcs, hk, hS, hs2, by unfold swPh; rw [if_neg (by omega)]; exact hph, by unfold swCy; rw [if_neg (by omega)]⟩
inductive Stepd (R : List Rw) (ws C G : List Int) (ov : Bool) (ph sp cy W : Int) : List Gn → List Rw → List Int → List Int → List Int → Bool → Int → Int → Int → Prop
  | mark (out : List Gn) (ws' C' G' : List Int) (ov' : Bool) (ph' sp' : Int) (h : ph = 1) (hm : Marked R ws C G ov sp out ph' sp' ws' C' G' ov') : Stepd R ws C G ov ph sp cy W out R ws' C' G' ov' ph' sp' cy
  | sweep (out : List Gn) (R' : List Rw) (h : ph = 2) (hs : SweptTo ws C R (32 * sp) 32 out R') : Stepd R ws C G ov ph sp cy W out R' ws C G ov (swPh sp W) (sp + 1) (swCy sp W cy)
  | idle (h : ph ≠ 1) (h2 : ph ≠ 2) : Stepd R ws C G ov ph sp cy W [] R ws C G ov ph sp cy
set_option maxHeartbeats 4000000 in
theorem step_lx (R : List Rw) (ws C G : List Int) (N W ph sp cy : Int) (L D Q : List PV) (z : ByteArray) (ov : Bool) (h : HM R ws C G N W L D Q z) (o : Unit → Obj) (ho : IsPow o) (hsp : 0 ≤ sp ∧ sp ≤ 1000) (hcy : 0 ≤ cy ∧ cy ≤ 1000000000) : CallF (fun _ => Tryz.prog) 16 [.ptr 0 (.lit 0)] [(0, .mix [.ptr 1 (.lit 0), .ptr 5 (.lit 0), .sl 6 3 1 (.lit 0) (.sym W), .p (.int .i64 (.sym ph)), .p (.int .i64 (.sym sp)), .p (.int .i64 (.sym cy))]), (1, .mix [.ptr 2 (.lit 0), .sl 4 3 1 (.lit 0) (.sym W)]), (2, .mix [.sl 3 157 2 (.lit 0) (.sym N)]), (3, .pure true L), (4, .pure true D), (5, .pure false [.str fun _ => z, .bool ov]), (6, .pure true Q), (7, .fix 0 o)] 8 (fun r h n => ∃ (out : List Gn) (k ph' sp' cy' : Int) (R' : List Rw) (ws' C' G' : List Int) (ov' : Bool) (cells L' D' Q' : List PV) (z' : ByteArray), r = .p (.vsl (.sym k) true cells) ∧ h = [(0, .mix [.ptr 1 (.lit 0), .ptr 5 (.lit 0), .sl 6 3 1 (.lit 0) (.sym W), .p (.int .i64 (.sym ph')), .p (.int .i64 (.sym sp')), .p (.int .i64 (.sym cy'))]), (1, .mix [.ptr 2 (.lit 0), .sl 4 3 1 (.lit 0) (.sym W)]), (2, .mix [.sl 3 157 2 (.lit 0) (.sym N)]), (3, .pure true L'), (4, .pure true D'), (5, .pure false [.str fun _ => z', .bool ov']), (6, .pure true Q'), (7, .fix 0 o)] ∧ n = 8 ∧ HM R' ws' C' G' N W L' D' Q' z' ∧ cells = gpv out ∧ k = out.length ∧ Stepd R ws C G ov ph sp cy W out R' ws' C' G' ov' ph' sp' cy') := by
  refine callF_of_body tok Tryz.func16 (by kernel_rfl) rfl rfl rfl ?_; conv => cbv
  refine callF_frame (phase_lx R ws C G N W ph sp cy L D Q z ov) [(0, 0), (1, 1), (2, 2), (3, 3), (4, 4), (5, 5), (6, 6)] rfl (by simp [hmapOk, nget, hget, renB, okB, renV, renVs, rn, okVs, okV]) rfl rfl (fun r h' n' ⟨e1, e2, e3⟩ => ?_)
  subst e1 e2 e3
  conv => cbv
  refine Br.mk (fun g => ?_) (fun g => ?_)
  · have g : ph = 1 := g
    conv => cbv
    refine callF_frame (markH_lx R ws C G N W ph sp cy L D Q z ov h o ho g) [(0, 0), (1, 1), (2, 2), (3, 3), (4, 4), (5, 5), (6, 6), (7, 7)] rfl (by simp [hmapOk, nget, hget, renB, okB, renV, renVs, rn, okVs, okV]) rfl rfl (fun r h' n' hrr => ?_)
    obtain ⟨out, k, ph', sp', cells, ws', C', G', ov', D', Q', z', e1, e2, e3, h2, hcs, hk, hM⟩ := hrr
    subst e1 e2 e3
    conv => cbv
    refine RetF.mk [.p (.vsl (.sym k) true cells)] [(0, .mix [.ptr 1 (.lit 0), .ptr 5 (.lit 0), .sl 6 3 1 (.lit 0) (.sym W), .p (.int .i64 (.sym ph')), .p (.int .i64 (.sym sp')), .p (.int .i64 (.sym cy))]), (1, .mix [.ptr 2 (.lit 0), .sl 4 3 1 (.lit 0) (.sym W)]), (2, .mix [.sl 3 157 2 (.lit 0) (.sym N)]), (3, .pure true L), (4, .pure true D'), (5, .pure false [.str fun _ => z', .bool ov']), (6, .pure true Q'), (7, .fix 0 o)] 8 (Re.at [(0, 0), (1, 1), (2, 2), (3, 3), (4, 4), (5, 5), (6, 6), (7, 7)] []) rfl ⟨out, k, ph', sp', cy, R, ws', C', G', ov', cells, L, D', Q', z', rfl, rfl, rfl, h2, hcs, hk, .mark out ws' C' G' ov' ph' sp' g hM⟩
  · have g : ¬ ph = 1 := g
    conv => cbv
    refine Br.mk (fun g2 => ?_) (fun g2 => ?_)
    · have g2 : ph = 2 := g2
      conv => cbv
      refine callF_frame (sweepH_lx R ws C G N W ph sp cy L D Q z ov h g2 hsp hcy) [(0, 0), (1, 1), (2, 2), (3, 3), (4, 4), (5, 5), (6, 6)] rfl (by simp [hmapOk, nget, hget, renB, okB, renV, renVs, rn, okVs, okV]) rfl rfl (fun r h' n' hrr => ?_)
      obtain ⟨out, k, ph', sp', cy', cells, L', R', e1, e2, e3, h2, hcs, hk, hS, q1, q2, q3⟩ := hrr
      subst e1 e2 e3
      conv => cbv
      refine RetF.mk [.p (.vsl (.sym k) true cells)] [(0, .mix [.ptr 1 (.lit 0), .ptr 5 (.lit 0), .sl 6 3 1 (.lit 0) (.sym W), .p (.int .i64 (.sym ph')), .p (.int .i64 (.sym sp')), .p (.int .i64 (.sym cy'))]), (1, .mix [.ptr 2 (.lit 0), .sl 4 3 1 (.lit 0) (.sym W)]), (2, .mix [.sl 3 157 2 (.lit 0) (.sym N)]), (3, .pure true L'), (4, .pure true D), (5, .pure false [.str fun _ => z, .bool ov]), (6, .pure true Q), (7, .fix 0 o)] 8 (Re.at [(0, 0), (1, 1), (2, 2), (3, 3), (4, 4), (5, 5), (6, 6), (7, 7)] []) rfl ⟨out, k, ph', sp', cy', R', ws, C, G, ov, cells, L', D, Q, z, rfl, rfl, rfl, h2, hcs, hk, by rw [q1, q2, q3]; exact .sweep out R' g2 hS⟩
    · have g2 : ¬ ph = 2 := g2
      conv => cbv
      refine RetF.mk [.p (.vsl (.sym 0) true [])] [(0, .mix [.ptr 1 (.lit 0), .ptr 5 (.lit 0), .sl 6 3 1 (.lit 0) (.sym W), .p (.int .i64 (.sym ph)), .p (.int .i64 (.sym sp)), .p (.int .i64 (.sym cy))]), (1, .mix [.ptr 2 (.lit 0), .sl 4 3 1 (.lit 0) (.sym W)]), (2, .mix [.sl 3 157 2 (.lit 0) (.sym N)]), (3, .pure true L), (4, .pure true D), (5, .pure false [.str fun _ => z, .bool ov]), (6, .pure true Q), (7, .fix 0 o)] 8 (Re.at [(0, 0), (1, 1), (2, 2), (3, 3), (4, 4), (5, 5), (6, 6), (7, 7)] []) rfl ⟨[], 0, ph, sp, cy, R, ws, C, G, ov, [], L, D, Q, z, rfl, rfl, rfl, h, rfl, rfl, .idle g g2⟩
end Go.Proofs.YtgoflehllhccgaaGreatDoor
/-
  Layer 9: the reference's steps.
-/
namespace Go.Proofs.YtgoflehllhccgaaGreatDoor

open Go Go.LX
set_option maxRecDepth 100000
set_option linter.unusedVariables false
set_option linter.unusedSimpArgs false

theorem RM.over {R : List Rw} {vs C G G' : List Int} {N W m m' : Int} {P B V Q la la' : List PV} (h : RM R vs C G N W P B V Q la m) (hl : la' = i64s G') (hm : m' = G'.length) (hG : ∀ x ∈ G', x ∈ G) (h8 : G'.length ≤ G.length) : RM R vs C G' N W P B V Q la' m' :=
  ⟨h.a, h.n, h.r, h.w, h.p, h.b, h.v, h.q, h.c, hl, hm, fun x hx => h.g x (hG x hx), Nat.le_trans h8 h.g8⟩
theorem rwordsV_lx (R : List Rw) (vs C G : List Int) (N W ph sp cy : Int) (P B V Q la : List PV) (m : Int) (ov : Bool) (h : RM R vs C G N W P B V Q la m) (a : Int) : CallF (fun _ => Tryz.prog) 67 [.ptr 0 (.lit 0), .p (.int .i64 (.sym a))] [(0, .mix [.ptr 1 (.lit 0), .sl 6 3 1 (.lit 0) (.sym W), .ptr 7 (.lit 0), .p (.int .i64 (.sym ph)), .p (.int .i64 (.sym sp)), .p (.int .i64 (.sym cy))]), (1, .mix [.ptr 2 (.lit 0), .sl 5 3 1 (.lit 0) (.sym W)]), (2, .mix [.sl 3 3 1 (.lit 0) (.sym N), .sl 4 211 8 (.lit 0) (.sym N)]), (3, .pure true P), (4, .pure true B), (5, .pure true V), (6, .pure true Q), (7, .mix [.p (.vsl (.sym m) true la), .p (.bool ov)])] 8 (fun r h n => ∃ (X : List Int) (k : Int) (O : List PV), r = .p (.vsl (.sym k) true O) ∧ h = [(0, .mix [.ptr 1 (.lit 0), .sl 6 3 1 (.lit 0) (.sym W), .ptr 7 (.lit 0), .p (.int .i64 (.sym ph)), .p (.int .i64 (.sym sp)), .p (.int .i64 (.sym cy))]), (1, .mix [.ptr 2 (.lit 0), .sl 5 3 1 (.lit 0) (.sym W)]), (2, .mix [.sl 3 3 1 (.lit 0) (.sym N), .sl 4 211 8 (.lit 0) (.sym N)]), (3, .pure true P), (4, .pure true B), (5, .pure true V), (6, .pure true Q), (7, .mix [.p (.vsl (.sym m) true la), .p (.bool ov)])] ∧ n = 8 ∧ O = ipv X ∧ k = X.length ∧ Wrds R vs a X) :=
  (rwords9_lx R vs C G N W ph sp cy P B V Q la m ov h a).ret fun r h' n' ⟨X, k, O, e1, e2, e3, hO, hm, hX⟩ => by
    subst e1 e2 e3
    exact RetF.mk [.p (.vsl (.sym k) true O)] [(0, .mix [.ptr 1 (.lit 0), .sl 6 3 1 (.lit 0) (.sym W), .ptr 7 (.lit 0), .p (.int .i64 (.sym ph)), .p (.int .i64 (.sym sp)), .p (.int .i64 (.sym cy))]), (1, .mix [.ptr 2 (.lit 0), .sl 5 3 1 (.lit 0) (.sym W)]), (2, .mix [.sl 3 3 1 (.lit 0) (.sym N), .sl 4 211 8 (.lit 0) (.sym N)]), (3, .pure true P), (4, .pure true B), (5, .pure true V), (6, .pure true Q), (7, .mix [.p (.vsl (.sym m) true la), .p (.bool ov)])] 8 (Re.at [(0, 0), (1, 1), (2, 2), (3, 3), (4, 4), (5, 5), (6, 6), (7, 7)] []) rfl ⟨X, k, O, rfl, rfl, rfl, hO, hm, hX⟩
theorem Wrds.le {R : List Rw} {ws X : List Int} {a : Int} (hA : AOk R ws) (h : Wrds R ws a X) : X.length ≤ 31 := by
  have hle := h.1
  generalize hxl : (X.length : Int) = xl at hle
  cases hle with
  | no _ => omega
  | is k l hk => have := hk.bounds hA; omega
end Go.Proofs.YtgoflehllhccgaaGreatDoor
/-
  Layer 9: the reference's step of Sweep; its steps.
-/
namespace Go.Proofs.YtgoflehllhccgaaGreatDoor

open Go Go.LX
set_option maxRecDepth 100000
set_option linter.unusedVariables false
set_option linter.unusedSimpArgs false

/-- What the reference takes out of a span. -/
inductive RG (R : List Rw) (vs C : List Int) (sp : Int) : Nat → List Gn → Prop
  | zero : RG R vs C sp 0 []
  | skip (i : Nat) (a : Int) (out : List Gn) (h : RG R vs C sp i out) (ha : (objs R)[i]? = some a) (hn : ¬ (a / 32 = sp ∧ C[a.toNat]? = some 0)) : RG R vs C sp (i + 1) out
  | add (i : Nat) (a k : Int) (X : List Int) (out : List Gn) (h : RG R vs C sp i out) (ha : (objs R)[i]? = some a) (hw : a / 32 = sp ∧ C[a.toNat]? = some 0) (hk : KindR R vs a k) (hX : Wrds R vs a X) : RG R vs C sp (i + 1) (out ++ [(k, a, X, false)])
theorem RG.le {R : List Rw} {vs C : List Int} {sp : Int} {i : Nat} {out : List Gn} (h : RG R vs C sp i out) : out.length ≤ i := by
  induction h with
  | zero => exact Nat.le_refl _
  | skip i a out h ha hn ih => omega
  | add i a k X out h ha hw hk hX ih => rw [List.length_append]; simp; omega
/-- Places freed one after another. -/
inductive Frees : List Rw → List Int → List Rw → Prop
  | nil (R : List Rw) : Frees R [] R
  | snoc (R R1 R2 : List Rw) (l : List Int) (a e : Int) (h : Frees R l R1) (hf : Freet R1 a e R2) : Frees R (l ++ [a]) R2
theorem RM.freet {R R' : List Rw} {vs C G : List Int} {N W m : Int} {P P' B B' V Q la : List PV} {a e : Int} (h : RM R vs C G N W P B V Q la m) (hf : Freet R a e R') (hP : P' = cpv R') (hB : B' = bpv R') : RM R' vs C G N W P' B' V Q la m := by
  obtain ⟨h1, h2⟩ := h.a.freet hf
  exact ⟨h1, by rw [h2]; exact h.n, by rw [h2]; exact h.r, h.w, hP, hB, h.v, h.q, h.c, h.l, h.m, h.g, h.g8⟩
theorem gpv_get (l : List Gn) : ∀ (i : Nat) (g : Gn), l[i]? = some g → (gpv l)[4 * i + 1]? = some (.int .i64 (.sym g.2.1)) := by
  induction l with
  | nil => intro i g h; simp at h
  | cons x l ih =>
    intro i g h
    cases i with
    | zero => simp at h; subst h; rfl
    | succ i =>
      have := ih i g (by simpa using h)
      show (gpv (x :: l))[4 * (i + 1) + 1]? = _
      rw [show 4 * (i + 1) + 1 = (4 * i + 1) + 4 by omega]
      exact this
end Go.Proofs.YtgoflehllhccgaaGreatDoor
/-
  Layer 9: both step alike.
-/
namespace Go.Proofs.YtgoflehllhccgaaGreatDoor

open Go Go.LX
set_option maxRecDepth 100000
set_option linter.unusedVariables false
set_option linter.unusedSimpArgs false

theorem Sim.due {R : List Rw} {ws vs C : List Int} {a : Int} (h : Sim R ws vs) (hd : Due R ws C a) : Due R vs C a := by
  obtain ⟨⟨l, hK⟩, hc, x, hx, hx0⟩ := hd
  obtain ⟨k', l', hK'⟩ := Kept.of h.b hK.obj6
  obtain rfl := h.kind (.is 5 l hK) (.is k' l' hK')
  obtain ⟨y, f, hy⟩ : ∃ y f, Loaded R vs a 1 y f := by
    by_cases hi : (0 : Int) ≤ 1 ∧ 1 < l'
    · have hb := hK'.bounds h.b
      have hlen := h.b.len
      obtain ⟨y, hy⟩ : ∃ y, vs[(a + 1 + 1).toNat]? = some y := ⟨_, List.getElem?_eq_getElem (by omega)⟩
      exact ⟨y, 0, .ok 5 l' y hK' hi hy⟩
    · exact ⟨0, 1, .arg 5 l' hK' hi⟩
  obtain ⟨rfl, rfl⟩ := h.load hx hy
  exact ⟨⟨l', hK'⟩, hc, x, hy, hx0⟩
theorem freet_objs {R R' : List Rw} {ws : List Int} {a e : Int} (hA : AOk R ws) (ha : a ∈ objs R) (h : Freet R a e R') : AOk R' ws ∧ ∀ b, b ∈ objs R' ↔ b ∈ objs R ∧ b ≠ a := by
  have hA' := (hA.freet h).1
  refine ⟨hA', fun b => ?_⟩
  rw [obj_iff hA', obj_iff hA]
  cases h with
  | none hn => exact absurd ((obj_iff hA a).1 ha) hn
  | ok q s e he hs hat =>
    obtain ⟨_, _, _, g4⟩ := free_objs hA.rows he hs a hat
    rw [isObj_iff, isObj_iff]
    constructor
    · rintro ⟨w, hw⟩; exact ⟨⟨w, ((g4 b w).1 hw).1⟩, ((g4 b w).1 hw).2⟩
    · rintro ⟨⟨w, hw⟩, hne⟩; exact ⟨w, (g4 b w).2 ⟨hw, hne⟩⟩
/-- Of what is swept: each was an object, and as it is told. -/
structure SwF (R R1 : List Rw) (ws C : List Int) (p : Int) (i : Nat) (out : List Gn) : Prop where
  each : ∀ g ∈ out, KindR R ws g.2.1 g.1 ∧ Wrds R ws g.2.1 g.2.2.1 ∧ g.2.2.2 = false
  asc : (out.map fun g => g.2.1).Pairwise (· < ·)
  mem : ∀ x, x ∈ (out.map fun g => g.2.1) ↔ p ≤ x ∧ x < p + i ∧ Wh R C x
  frees : Frees R (out.map fun g => g.2.1) R1
  ok : AOk R1 ws
  left : ∀ b, b ∈ objs R1 ↔ b ∈ objs R ∧ b ∉ (out.map fun g => g.2.1)
  kept : ∀ b k l, Kept R1 ws b k l → Kept R ws b k l
end Go.Proofs.YtgoflehllhccgaaGreatDoor
/-
  Layer 9: both sweep alike.
-/
namespace Go.Proofs.YtgoflehllhccgaaGreatDoor

open Go Go.LX
set_option maxRecDepth 100000
set_option linter.unusedVariables false
set_option linter.unusedSimpArgs false

theorem gmap_app (out : List Gn) (g : Gn) : (out ++ [g]).map (fun g => g.2.1) = out.map (fun g => g.2.1) ++ [g.2.1] := by
  rw [List.map_append]; rfl
theorem SweptTo.facts {ws C : List Int} {R R1 : List Rw} {p : Int} {i : Nat} {out : List Gn} (hA : AOk R ws) (h : SweptTo ws C R p i out R1) : SwF R R1 ws C p i out := by
  induction h with
  | zero =>
    refine ⟨fun g hg => (by cases hg), List.Pairwise.nil, fun x => ⟨fun hx => (by cases hx), fun hx => (by have := hx.1; have := hx.2.1; omega)⟩, .nil R, hA, fun b => ⟨fun hb => ⟨hb, fun hk => (by cases hk)⟩, fun hb => hb.1⟩, fun _ _ _ hk => hk⟩
  | skip i out R1 h hn ih =>
    refine ⟨ih.each, ih.asc, fun x => ?_, ih.frees, ih.ok, ih.left, ih.kept⟩
    rw [ih.mem x]
    constructor
    · rintro ⟨h1, h2, h3⟩; exact ⟨h1, by omega, h3⟩
    · rintro ⟨h1, h2, h3⟩
      refine ⟨h1, ?_, h3⟩
      by_cases e : x = p + i
      · subst e
        exfalso
        refine hn ⟨(ih.left _).2 ⟨h3.1, fun hk => ?_⟩, h3.2⟩
        have := ((ih.mem _).1 hk).2.1
        omega
      · omega
  | free i out R1 R2 k X h hw hk hX hf ih =>
    obtain ⟨hA2, hob⟩ := freet_objs ih.ok hw.1 hf
    have hnew := (ih.left (p + i)).1 hw.1
    have hK1 : ∃ l, Kept R1 ws (p + i) k l := by
      cases hk with
      | no hn => exact absurd ((obj_iff ih.ok _).1 hw.1) hn
      | is _ l hK => exact ⟨l, hK⟩
    obtain ⟨l, hK⟩ := hK1
    have hKR := ih.kept _ _ _ hK
    refine ⟨fun g hg => ?_, ?_, fun x => ?_, ?_, hA2, fun b => ?_, fun b k l hb => ih.kept b k l (kept_freet ih.ok hf b k l hb)⟩
    · rcases List.mem_append.1 hg with hg | hg
      · exact ih.each g hg
      · rw [List.mem_singleton.1 hg]
        refine ⟨.is k l hKR, ⟨?_, fun j x hx => ?_⟩, rfl⟩
        · have hl := hX.1
          generalize hxl : (X.length : Int) = xl at hl
          cases hl with
          | no hn => exact absurd hK.obj6 hn
          | is k2 l2 hK2 => exact .is k2 _ (ih.kept _ _ _ hK2)
        · cases hX.2 j x hx with
          | ok k2 l2 _ hK2 hi hx => exact .ok k2 l2 x (ih.kept _ _ _ hK2) hi hx
    · rw [gmap_app, List.pairwise_append]
      refine ⟨ih.asc, List.pairwise_singleton _ _, fun x hx y hy => ?_⟩
      rw [List.mem_singleton.1 hy]
      exact ((ih.mem x).1 hx).2.1
    · rw [gmap_app, List.mem_append, List.mem_singleton, ih.mem x]
      constructor
      · rintro (⟨h1, h2, h3⟩ | h1)
        · exact ⟨h1, by omega, h3⟩
        · have h1 : x = p + i := h1
          subst h1
          exact ⟨by omega, by omega, hnew.1, hw.2⟩
      · rintro ⟨h1, h2, h3⟩
        by_cases e : x = p + i
        · exact .inr e
        · exact .inl ⟨h1, by omega, h3⟩
    · rw [gmap_app]; exact .snoc R R1 R2 _ _ 0 ih.frees hf
    · rw [hob b, ih.left b, gmap_app, List.mem_append, List.mem_singleton]
      constructor
      · rintro ⟨⟨h1, h2⟩, h3⟩; exact ⟨h1, fun hk => hk.elim h2 h3⟩
      · rintro ⟨h1, h2⟩; exact ⟨⟨h1, fun hk => h2 (.inl hk)⟩, fun hk => h2 (.inr hk)⟩
structure RgF (R : List Rw) (vs C : List Int) (sp : Int) (i : Nat) (out : List Gn) : Prop where
  each : ∀ g ∈ out, KindR R vs g.2.1 g.1 ∧ Wrds R vs g.2.1 g.2.2.1 ∧ g.2.2.2 = false
  asc : (out.map fun g => g.2.1).Pairwise (· < ·)
  mem : ∀ x, x ∈ (out.map fun g => g.2.1) ↔ (∃ j : Nat, j < i ∧ (objs R)[j]? = some x) ∧ x / 32 = sp ∧ C[x.toNat]? = some 0
theorem objs_lt {R : List Rw} (hR : RowsOk R) {i j : Nat} {a b : Int} (hij : i < j) (ha : (objs R)[i]? = some a) (hb : (objs R)[j]? = some b) : a < b := by
  obtain ⟨h1, h2⟩ := List.getElem?_eq_some_iff.1 ha
  obtain ⟨h3, h4⟩ := List.getElem?_eq_some_iff.1 hb
  have := (List.pairwise_iff_getElem.1 (objsTo_asc hR R.length)) i j h1 h3 hij
  rw [← h2, ← h4]; exact this
theorem RG.facts {R : List Rw} {vs C : List Int} {sp : Int} {i : Nat} {out : List Gn} (hR : RowsOk R) (h : RG R vs C sp i out) : RgF R vs C sp i out := by
  induction h with
  | zero => exact ⟨fun g hg => (by cases hg), List.Pairwise.nil, fun x => ⟨fun hx => (by cases hx), fun ⟨⟨j, hj, _⟩, _⟩ => (by omega)⟩⟩
  | skip i a out h ha hn ih =>
    refine ⟨ih.each, ih.asc, fun x => ?_⟩
    rw [ih.mem x]
    constructor
    · rintro ⟨⟨j, h1, h2⟩, h3⟩; exact ⟨⟨j, by omega, h2⟩, h3⟩
    · rintro ⟨⟨j, h1, h2⟩, h3⟩
      refine ⟨⟨j, ?_, h2⟩, h3⟩
      by_cases e : j = i
      · subst e
        rw [ha] at h2
        obtain rfl := Option.some.inj h2
        exact absurd h3 hn
      · omega
  | add i a k X out h ha hw hk hX ih =>
    refine ⟨fun g hg => ?_, ?_, fun x => ?_⟩
    · rcases List.mem_append.1 hg with hg | hg
      · exact ih.each g hg
      · rw [List.mem_singleton.1 hg]; exact ⟨hk, hX, rfl⟩
    · rw [gmap_app, List.pairwise_append]
      refine ⟨ih.asc, List.pairwise_singleton _ _, fun x hx y hy => ?_⟩
      rw [List.mem_singleton.1 hy]
      obtain ⟨⟨j, h1, h2⟩, _⟩ := (ih.mem x).1 hx
      exact objs_lt hR h1 h2 ha
    · rw [gmap_app, List.mem_append, List.mem_singleton, ih.mem x]
      constructor
      · rintro (⟨⟨j, h1, h2⟩, h3⟩ | h1)
        · exact ⟨⟨j, by omega, h2⟩, h3⟩
        · have h1 : x = a := h1
          subst h1
          exact ⟨⟨i, by omega, ha⟩, hw⟩
      · rintro ⟨⟨j, h1, h2⟩, h3⟩
        by_cases e : j = i
        · subst e
          rw [ha] at h2
          obtain rfl := Option.some.inj h2
          exact .inr rfl
        · exact .inl ⟨⟨j, by omega, h2⟩, h3⟩
theorem Frees.det {R R1 : List Rw} {l : List Int} {ws : List Int} (hA : AOk R ws) (h1 : Frees R l R1) : ∀ {R2}, Frees R l R2 → R1 = R2 ∧ AOk R1 ws := by
  induction h1 with
  | nil =>
    intro R2 h2
    generalize hl : ([] : List Int) = l at h2
    cases h2 with
    | nil => exact ⟨rfl, hA⟩
    | snoc _ _ l a _ _ _ => exact absurd hl (by simp)
  | snoc Ra Rb l a e h hf ih =>
    intro R2 h2
    generalize hl : l ++ [a] = l' at h2
    cases h2 with
    | nil => exact absurd hl (by simp)
    | snoc Rc _ l2 a2 e2 h' hf' =>
      obtain ⟨rfl, e3⟩ := List.append_inj' hl rfl
      obtain rfl : a = a2 := by simpa using e3
      obtain ⟨rfl, hB⟩ := ih h'
      exact ⟨(hf.det hB.rows hf').2, (hB.freet hf).1⟩
end Go.Proofs.YtgoflehllhccgaaGreatDoor
/-
  Layer 9: what is gone, held against each other; a reference's heap made.
-/
namespace Go.Proofs.YtgoflehllhccgaaGreatDoor

open Go Go.LX
set_option maxRecDepth 100000
set_option linter.unusedVariables false
set_option linter.unusedSimpArgs false

set_option maxHeartbeats 4000000 in
theorem rnewH_lx (N W : Int) (h2 : 2 ≤ N) (h8 : N ≤ 128) (hW : W = 32 * N) : CallF (fun _ => Tryz.prog) 8 [.p (.int .i64 (.sym N))] [] 0 (fun r h n => ∃ P B V Q : List PV, r = .tup [.ptr 0 (.lit 0), .p (.int .i64 (.lit 0))] ∧ h = [(0, .mix [.ptr 1 (.lit 0), .sl 6 3 1 (.lit 0) (.sym W), .ptr 7 (.lit 0), .p (.int .i64 (.sym 0)), .p (.int .i64 (.sym 0)), .p (.int .i64 (.sym 0))]), (1, .mix [.ptr 2 (.lit 0), .sl 5 3 1 (.lit 0) (.sym W)]), (2, .mix [.sl 3 3 1 (.lit 0) (.sym N), .sl 4 211 8 (.lit 0) (.sym N)]), (3, .pure true P), (4, .pure true B), (5, .pure true V), (6, .pure true Q), (7, .mix [.p (.vsl (.sym 0) true []), .p (.bool false)])] ∧ n = 8 ∧ RM (List.replicate N.toNat (0, [])) (List.replicate W.toNat 0) (List.replicate W.toNat 0) [] N W P B V Q [] 0) := by
  refine callF_of_body tok Tryz.func8 (by kernel_rfl) rfl rfl rfl ?_; conv => cbv
  refine callF_frame (rnewA_lx N W h2 h8 hW) [] rfl trivial rfl rfl (fun r h' n' hrr => ?_)
  obtain ⟨P, B, V, e1, e2, e3, hP, hB, hV⟩ := hrr
  subst e1 e2 e3
  conv => cbv
  refine Need.mk ⟨by show 0 ≤ W; omega, Int.le_refl _, by show W * 8 ≤ 140737488355328; omega, by show W ≤ 9223372036854775807; omega⟩ ?_
  conv => cbv
  obtain ⟨Q, hQ⟩ : ∃ Q, Q = ipv (List.replicate W.toNat 0) := ⟨_, rfl⟩
  refine Upd.mk fun Q0 hQ0 => ?_
  have hle : pvles Q0 Q := by
    have hQ0 : Q0 = repsP [.int .i64 (.lit 0)] W.toNat := hQ0
    rw [hQ0, hQ]; exact zero_ipv _
  unfold pvles at hle
  clear hQ0
  conv => cbv
  refine RetF.mk [.ptr 0 (.lit 0), .p (.int .i64 (.lit 0))] [(0, .mix [.ptr 1 (.lit 0), .sl 6 3 1 (.lit 0) (.sym W), .ptr 7 (.lit 0), .p (.int .i64 (.sym 0)), .p (.int .i64 (.sym 0)), .p (.int .i64 (.sym 0))]), (1, .mix [.ptr 2 (.lit 0), .sl 5 3 1 (.lit 0) (.sym W)]), (2, .mix [.sl 3 3 1 (.lit 0) (.sym N), .sl 4 211 8 (.lit 0) (.sym N)]), (3, .pure true P), (4, .pure true B), (5, .pure true V), (6, .pure true Q), (7, .mix [.p (.vsl (.sym 0) true []), .p (.bool false)])] 8 (Re.at [(7, 0), (0, 1), (1, 2), (2, 3), (3, 4), (4, 5), (5, 6), (6, 7)] []) rfl ⟨P, B, V, Q, rfl, rfl, rfl, ⟨by rw [show W.toNat = 32 * N.toNat by omega]; exact AOk.new _, by rw [List.length_replicate]; omega, by rw [List.length_replicate]; omega, hW, hP, hB, hV, hQ, by rw [List.length_replicate]; omega, rfl, rfl, fun x hx => (by cases hx), Nat.zero_le _⟩⟩
end Go.Proofs.YtgoflehllhccgaaGreatDoor
/-
  Layer 9: HeapPlays' parts.
-/
namespace Go.Proofs.YtgoflehllhccgaaGreatDoor

open Go Go.LX
set_option maxRecDepth 100000
set_option linter.unusedVariables false
set_option linter.unusedSimpArgs false

theorem rPtr_lx (a : Int) (ha : -1000000 ≤ a ∧ a ≤ 1000000) : CallF (fun _ => Tryz.prog) 24 [.p (.int .i64 (.sym a))] [] 0 (fun r h n => ∃ x : Int, r = .p (.int .i64 (.sym x)) ∧ h = [] ∧ n = 0 ∧ x = a * 2 + 1) := by
  refine callF_of_body tok Tryz.func24 (by kernel_rfl) rfl rfl rfl ?_; conv => cbv
  refine Fit.mk (by show (-9223372036854775808 : Int) ≤ a * 2; omega) (by show a * 2 ≤ 9223372036854775807; omega) fun x hx => ?_
  have hx : x = a * 2 := hx
  conv => cbv
  refine Fit.mk (by show (-9223372036854775808 : Int) ≤ x + 1; omega) (by show x + 1 ≤ 9223372036854775807; omega) fun y hy => ?_
  have hy : y = x + 1 := hy
  conv => cbv
  refine RetF.mk [.p (.int .i64 (.sym y))] [] 0 (Re.at [] []) rfl ⟨y, rfl, rfl, rfl, by omega⟩
theorem rInt_lx (a : Int) (ha : -1000000 ≤ a ∧ a ≤ 1000000) : CallF (fun _ => Tryz.prog) 54 [.p (.int .i64 (.sym a))] [] 0 (fun r h n => ∃ x : Int, r = .p (.int .i64 (.sym x)) ∧ h = [] ∧ n = 0 ∧ x = a * 2) := by
  refine callF_of_body tok Tryz.func54 (by kernel_rfl) rfl rfl rfl ?_; conv => cbv
  refine Fit.mk (by show (-9223372036854775808 : Int) ≤ a * 2; omega) (by show a * 2 ≤ 9223372036854775807; omega) fun x hx => ?_
  have hx : x = a * 2 := hx
  conv => cbv
  refine RetF.mk [.p (.int .i64 (.sym x))] [] 0 (Re.at [] []) rfl ⟨x, rfl, rfl, rfl, hx⟩
def sizeF (k : Int) : Int := if k = 1 then 9 else if k = 2 then 3 else if k = 3 then 7 else if k = 4 then 10 else 2
theorem sizes_lx (k : Int) (h1 : 1 ≤ k) (h6 : k ≤ 6) : CallF (fun _ => Tryz.prog) 55 [.p (.int .i64 (.sym k))] [] 0 (fun r h n => ∃ x : Int, r = .p (.int .i64 (.sym x)) ∧ h = [] ∧ n = 0 ∧ x = sizeF k) := by
  have hk : k = 1 ∨ k = 2 ∨ k = 3 ∨ k = 4 ∨ k = 5 ∨ k = 6 := by omega
  rcases hk with rfl | rfl | rfl | rfl | rfl | rfl
  · refine callF_of_body tok Tryz.func55 (by kernel_rfl) rfl rfl rfl ?_; conv => cbv
    refine Need.mk ⟨by show (0 : Int) ≤ 1; omega, by show (1 : Int) < 7; omega⟩ ?_
    conv => cbv
    refine Cell.at 1 1 rfl rfl rfl ?_
    conv => cbv
    refine RetF.mk [.p (.int .i64 (.sym 9))] [] 0 (Re.at [] []) rfl ⟨9, rfl, rfl, rfl, rfl⟩
  · refine callF_of_body tok Tryz.func55 (by kernel_rfl) rfl rfl rfl ?_; conv => cbv
    refine Need.mk ⟨by show (0 : Int) ≤ 2; omega, by show (2 : Int) < 7; omega⟩ ?_
    conv => cbv
    refine Cell.at 2 2 rfl rfl rfl ?_
    conv => cbv
    refine RetF.mk [.p (.int .i64 (.sym 3))] [] 0 (Re.at [] []) rfl ⟨3, rfl, rfl, rfl, rfl⟩
  · refine callF_of_body tok Tryz.func55 (by kernel_rfl) rfl rfl rfl ?_; conv => cbv
    refine Need.mk ⟨by show (0 : Int) ≤ 3; omega, by show (3 : Int) < 7; omega⟩ ?_
    conv => cbv
    refine Cell.at 3 3 rfl rfl rfl ?_
    conv => cbv
    refine RetF.mk [.p (.int .i64 (.sym 7))] [] 0 (Re.at [] []) rfl ⟨7, rfl, rfl, rfl, rfl⟩
  · refine callF_of_body tok Tryz.func55 (by kernel_rfl) rfl rfl rfl ?_; conv => cbv
    refine Need.mk ⟨by show (0 : Int) ≤ 4; omega, by show (4 : Int) < 7; omega⟩ ?_
    conv => cbv
    refine Cell.at 4 4 rfl rfl rfl ?_
    conv => cbv
    refine RetF.mk [.p (.int .i64 (.sym 10))] [] 0 (Re.at [] []) rfl ⟨10, rfl, rfl, rfl, rfl⟩
  · refine callF_of_body tok Tryz.func55 (by kernel_rfl) rfl rfl rfl ?_; conv => cbv
    refine Need.mk ⟨by show (0 : Int) ≤ 5; omega, by show (5 : Int) < 7; omega⟩ ?_
    conv => cbv
    refine Cell.at 5 5 rfl rfl rfl ?_
    conv => cbv
    refine RetF.mk [.p (.int .i64 (.sym 2))] [] 0 (Re.at [] []) rfl ⟨2, rfl, rfl, rfl, rfl⟩
  · refine callF_of_body tok Tryz.func55 (by kernel_rfl) rfl rfl rfl ?_; conv => cbv
    refine Need.mk ⟨by show (0 : Int) ≤ 6; omega, by show (6 : Int) < 7; omega⟩ ?_
    conv => cbv
    refine Cell.at 6 6 rfl rfl rfl ?_
    conv => cbv
    refine RetF.mk [.p (.int .i64 (.sym 2))] [] 0 (Re.at [] []) rfl ⟨2, rfl, rfl, rfl, rfl⟩
set_option maxHeartbeats 2000000 in
theorem pick_lx (R : List Rw) (vs C G : List Int) (N W ph sp cy : Int) (P B V Q la : List PV) (m : Int) (ov : Bool) (h : RM R vs C G N W P B V Q la m) (x : Int) (hx : -9223372036854775808 ≤ x ∧ x ≤ 9223372036854775807) : CallF (fun _ => Tryz.prog) 12 [.ptr 0 (.lit 0), .p (.int .i64 (.sym x))] [(0, .mix [.ptr 1 (.lit 0), .sl 6 3 1 (.lit 0) (.sym W), .ptr 7 (.lit 0), .p (.int .i64 (.sym ph)), .p (.int .i64 (.sym sp)), .p (.int .i64 (.sym cy))]), (1, .mix [.ptr 2 (.lit 0), .sl 5 3 1 (.lit 0) (.sym W)]), (2, .mix [.sl 3 3 1 (.lit 0) (.sym N), .sl 4 211 8 (.lit 0) (.sym N)]), (3, .pure true P), (4, .pure true B), (5, .pure true V), (6, .pure true Q), (7, .mix [.p (.vsl (.sym m) true la), .p (.bool ov)])] 8 (fun r h n => ∃ a : Int, r = .p (.int .i64 (.sym a)) ∧ h = [(0, .mix [.ptr 1 (.lit 0), .sl 6 3 1 (.lit 0) (.sym W), .ptr 7 (.lit 0), .p (.int .i64 (.sym ph)), .p (.int .i64 (.sym sp)), .p (.int .i64 (.sym cy))]), (1, .mix [.ptr 2 (.lit 0), .sl 5 3 1 (.lit 0) (.sym W)]), (2, .mix [.sl 3 3 1 (.lit 0) (.sym N), .sl 4 211 8 (.lit 0) (.sym N)]), (3, .pure true P), (4, .pure true B), (5, .pure true V), (6, .pure true Q), (7, .mix [.p (.vsl (.sym m) true la), .p (.bool ov)])] ∧ n = 8 ∧ -1 ≤ a ∧ a < W) := by
  have hCl := h.c; have hWn := h.w; have hNr := h.n; have hRr := h.r
  obtain ⟨mo, hmo⟩ : ∃ m : Int, m = objCount R := ⟨_, rfl⟩
  refine callF_of_body tok Tryz.func12 (by kernel_rfl) rfl rfl rfl ?_; conv => cbv
  refine callF_frame (robjects_lx mo R vs N W P B V h.p h.b h.v h.n h.r h.a h.w hmo) [(0, 1), (1, 2), (2, 3), (3, 4), (4, 5)] rfl (by simp [hmapOk, nget, hget, renB, okB, renV, renVs, rn, okVs, okV]) rfl rfl (fun r h' n' hrr => ?_)
  obtain ⟨O, e1, e2, e3, hO⟩ := hrr
  subst e1 e2 e3
  have hOl : (O.length : Int) = mo := by rw [hO, ipv_length, objs_length h.a.rows, hmo]
  have hO : O = ipv (objs R) := hO
  have hol : ((objs R).length : Int) = mo := by rw [← hOl, hO, ipv_length]
  have hob : mo ≤ 8000 := by have := objsTo_le R R.length; rw [objs_length h.a.rows] at this; omega
  conv => cbv
  refine Br.mk (fun g => ?_) (fun g => ?_)
  · have g : mo = 0 := g
    conv => cbv
    refine RetF.mk [.p (.int .i64 (.sym (-1)))] [(0, .mix [.ptr 1 (.lit 0), .sl 6 3 1 (.lit 0) (.sym W), .ptr 7 (.lit 0), .p (.int .i64 (.sym ph)), .p (.int .i64 (.sym sp)), .p (.int .i64 (.sym cy))]), (1, .mix [.ptr 2 (.lit 0), .sl 5 3 1 (.lit 0) (.sym W)]), (2, .mix [.sl 3 3 1 (.lit 0) (.sym N), .sl 4 211 8 (.lit 0) (.sym N)]), (3, .pure true P), (4, .pure true B), (5, .pure true V), (6, .pure true Q), (7, .mix [.p (.vsl (.sym m) true la), .p (.bool ov)])] 8 (Re.at [(0, 0), (1, 1), (2, 2), (3, 3), (4, 4), (5, 5), (6, 6), (7, 7)] []) rfl ⟨-1, rfl, rfl, rfl, by omega, by omega⟩
  · have g : ¬ mo = 0 := g
    conv => cbv
    refine Fit.wrap fun xa hxa => ?_
    have hxa : xa = IntKind.u64.wrap x := hxa
    have hxa0 : 0 ≤ xa := by rw [hxa]; simp [IntKind.wrap, IntKind.bits, IntKind.signed]; omega
    clear hxa
    conv => cbv
    refine Fit.mk (by show (0 : Int) ≤ mo; omega) (by show mo ≤ 18446744073709551615; omega) fun mu hmu => ?_
    have hmu : mu = mo := hmu
    conv => cbv
    refine Need.mk (show mu ≠ 0 by omega) ?_
    conv => cbv
    refine Sum.mk fun ya hya => ?_
    have hya : ya = xa % mu := (show ya = xa.tmod mu from hya).trans (Int.tmod_eq_emod_of_nonneg hxa0)
    have hya0 : 0 ≤ ya := by rw [hya]; exact Int.emod_nonneg _ (by omega)
    have hya1 : ya < mo := by rw [hya, ← hmu]; exact Int.emod_lt_of_pos _ (by omega)
    conv => cbv
    refine Fit.mk (by show (-9223372036854775808 : Int) ≤ ya; omega) (by show ya ≤ 9223372036854775807; omega) fun za hza => ?_
    have hza : za = ya := hza
    obtain ⟨a, hat⟩ : ∃ a, (objs R)[za.toNat]? = some a := ⟨_, List.getElem?_eq_getElem (by omega)⟩
    have hab := obj_bd h.a (List.mem_of_getElem? hat)
    have hcO : O[za.toNat]? = some (.int .i64 (.sym a)) := by rw [hO]; exact ipv_get hat
    conv => cbv
    refine Need.mk ⟨by show 0 ≤ za; omega, by show za < mo; omega⟩ ?_
    conv => cbv
    refine Cell.at za _ hcO (by simp [I.val]) rfl ?_
    conv => cbv
    refine RetF.mk [.p (.int .i64 (.sym a))] [(0, .mix [.ptr 1 (.lit 0), .sl 6 3 1 (.lit 0) (.sym W), .ptr 7 (.lit 0), .p (.int .i64 (.sym ph)), .p (.int .i64 (.sym sp)), .p (.int .i64 (.sym cy))]), (1, .mix [.ptr 2 (.lit 0), .sl 5 3 1 (.lit 0) (.sym W)]), (2, .mix [.sl 3 3 1 (.lit 0) (.sym N), .sl 4 211 8 (.lit 0) (.sym N)]), (3, .pure true P), (4, .pure true B), (5, .pure true V), (6, .pure true Q), (7, .mix [.p (.vsl (.sym m) true la), .p (.bool ov)])] 8 (Re.at [(0, 0), (1, 1), (2, 2), (3, 3), (4, 4), (5, 5), (6, 6), (7, 7)] []) rfl ⟨a, rfl, rfl, rfl, by omega, by omega⟩
end Go.Proofs.YtgoflehllhccgaaGreatDoor
/-
  Layer 9: one thing done to both heaps.
-/
namespace Go.Proofs.YtgoflehllhccgaaGreatDoor

open Go Go.LX
set_option maxRecDepth 100000
set_option linter.unusedVariables false
set_option linter.unusedSimpArgs false

theorem three_eq {a a' b b' : List Int} {c c' : Bool} {x : List Int × List Int × Bool} (h : (a, b, c) = x) (h' : (a', b', c') = x) : a = a' ∧ b = b' ∧ c = c' := by
  rw [← h'] at h
  cases h
  exact ⟨rfl, rfl, rfl⟩
end Go.Proofs.YtgoflehllhccgaaGreatDoor
/-
  Layer 9: while it is Mark, no black object leads to a white one.
-/
namespace Go.Proofs.YtgoflehllhccgaaGreatDoor

open Go Go.LX
set_option maxRecDepth 100000
set_option linter.unusedVariables false
set_option linter.unusedSimpArgs false

def Dk (R : List Rw) (ws C : List Int) : Prop := ∀ (a x i : Int), a ∈ objs R → C[a.toNat]? = some 2 → Loaded R ws a i x 0 → x % 2 = 1 → (x - 1) / 2 ∈ objs R → C[((x - 1) / 2).toNat]? ≠ some 0
/-- Colours that went on: nothing is white anew, nothing black anew. -/
def CLe (C C' : List Int) : Prop := (∀ p : Nat, C'[p]? = some 0 → C[p]? = some 0) ∧ (∀ p : Nat, C'[p]? = some 2 → C[p]? = some 2)
theorem CLe.refl (C : List Int) : CLe C C := ⟨fun _ h => h, fun _ h => h⟩
theorem CLe.trans {A B C : List Int} (h : CLe A B) (k : CLe B C) : CLe A C := ⟨fun p q => h.1 p (k.1 p q), fun p q => h.2 p (k.2 p q)⟩
theorem shade_le (R : List Rw) (ph a : Int) (s : List Int × List Int × Bool) : CLe s.1 (shade R ph a s).1 := by
  unfold shade
  split
  · rename_i hc
    have h0 := hc.2.2
    have hl := (List.getElem?_eq_some_iff.1 h0).1
    refine ⟨fun p hp => ?_, fun p hp => ?_⟩
    · by_cases e : a.toNat = p
      · subst e; exact h0
      · have hp : (s.1.set a.toNat 1)[p]? = some 0 := hp
        rw [List.getElem?_set_ne e] at hp; exact hp
    · have hp : (s.1.set a.toNat 1)[p]? = some 2 := hp
      by_cases e : a.toNat = p
      · subst e
        rw [List.getElem?_set_self hl] at hp
        exact absurd (Option.some.inj hp) (by decide)
      · rw [List.getElem?_set_ne e] at hp; exact hp
  · exact CLe.refl _
theorem shade_hit (R : List Rw) (a : Int) (s : List Int × List Int × Bool) (ha : a ∈ objs R) : (shade R 1 a s).1[a.toNat]? ≠ some 0 := by
  unfold shade
  split
  · rename_i hc
    have hl := (List.getElem?_eq_some_iff.1 hc.2.2).1
    show (s.1.set a.toNat 1)[a.toNat]? ≠ some 0
    rw [List.getElem?_set_self hl]
    exact fun h => absurd (Option.some.inj h) (by decide)
  · rename_i hc
    exact fun h => hc ⟨rfl, ha, h⟩
theorem shadeW_le (R : List Rw) (ph w : Int) (s : List Int × List Int × Bool) : CLe s.1 (shadeW R ph w s).1 := by
  unfold shadeW
  split
  · exact shade_le _ _ _ _
  · exact CLe.refl _
theorem shadeW_hit (R : List Rw) (w : Int) (s : List Int × List Int × Bool) (hw : w % 2 = 1) (ha : (w - 1) / 2 ∈ objs R) : (shadeW R 1 w s).1[((w - 1) / 2).toNat]? ≠ some 0 := by
  unfold shadeW
  rw [if_pos hw]
  exact shade_hit _ _ _ ha
theorem fold_le (R : List Rw) (ph : Int) : ∀ (X : List Int) (s : List Int × List Int × Bool), CLe s.1 (X.foldl (fun s w => shadeW R ph w s) s).1
  | [], s => CLe.refl _
  | w :: X, s => (shadeW_le R ph w s).trans (fold_le R ph X _)
theorem fold_hit (R : List Rw) : ∀ (X : List Int) (s : List Int × List Int × Bool) (w : Int), w ∈ X → w % 2 = 1 → (w - 1) / 2 ∈ objs R → (X.foldl (fun s w => shadeW R 1 w s) s).1[((w - 1) / 2).toNat]? ≠ some 0
  | [], s, w, hw, _, _ => by cases hw
  | v :: X, s, w, hw, h1, h2 => by
    rcases List.mem_cons.1 hw with rfl | hw
    · exact fun h => shadeW_hit R w s h1 h2 ((fold_le R 1 X _).1 _ h)
    · exact fold_hit R X _ w hw h1 h2
theorem Dk.le {R : List Rw} {ws C C' : List Int} (h : Dk R ws C) (hc : CLe C C') : Dk R ws C' :=
  fun a x i ha h2 hl hx hp h0 => h a x i ha (hc.2 _ h2) hl hx hp (hc.1 _ h0)
theorem beg_le (R : List Rw) : ∀ (A : List Int) (s : List Int × List Int × Bool), CLe s.1 (A.foldl (fun s a => shade R 1 a s) s).1
  | [], s => CLe.refl _
  | a :: A, s => (shade_le R 1 a s).trans (beg_le R A _)
theorem Dk.begin {R : List Rw} {ws C G A : List Int} {ov : Bool} {W : Int} (h : (C, G, ov) = begS R W A) : Dk R ws C := by
  intro a x i ha h2 hl hx hp
  have hc : C = (begS R W A).1 := congrArg Prod.fst h
  have hle := beg_le R A (List.replicate W.toNat 0, [], false)
  rw [hc] at h2
  have h3 : (List.replicate W.toNat (0 : Int))[a.toNat]? = some 2 := hle.2 _ h2
  rw [List.getElem?_replicate] at h3
  split at h3
  · exact absurd (Option.some.inj h3) (by decide)
  · cases h3
theorem stored_kept {R : List Rw} {ws ws' : List Int} {a i x e : Int} (hA : AOk R ws) (h : Stored R ws a i x e ws') : ∀ b k l, Kept R ws' b k l → Kept R ws b k l := by
  cases h with
  | none _ => exact fun _ _ _ hk => hk
  | arg _ _ _ _ => exact fun _ _ _ hk => hk
  | ok k l hka hi =>
    intro b k' l' hb
    have hbn := hka.bounds hA
    obtain ⟨w, q1, q2, q3, q4, q5, q6⟩ := hb
    have hne : (a + 1 + i).toNat ≠ b.toNat := by
      obtain ⟨wa, p1, p2, p3, p4, p5, p6⟩ := hka
      have := within_not hA.rows p1 q1 (j := a + 1 + i) (by omega) (by omega)
      have := q1.facts hA.rows
      omega
    rw [List.getElem?_set_ne hne] at q2
    exact .mk k' l' w q1 q2 q3 q4 q5 q6
theorem stored_loaded {R : List Rw} {ws ws' : List Int} {a i x e b j y : Int} (hA : AOk R ws) (h : Stored R ws a i x e ws') (hl : Loaded R ws' b j y 0) : (e = 0 ∧ y = x) ∨ Loaded R ws b j y 0 := by
  have hk := stored_kept hA h
  cases h with
  | none _ => exact .inr hl
  | arg _ _ _ _ => exact .inr hl
  | ok k l hka hi =>
    cases hl with
    | ok k' l' _ hK hj hy =>
      have hbn := hka.bounds hA
      have hlen := hA.len
      rcases set_get (by omega) hy with ⟨_, e⟩ | ⟨_, e⟩
      · exact .inl ⟨rfl, e⟩
      · exact .inr (.ok k' l' y (hk _ _ _ hK) hj e)
theorem Dk.store {R : List Rw} {ws ws' C C' G G' : List Int} {ov ov' : Bool} {a i x e : Int} (hA : AOk R ws) (h : Dk R ws C) (hs : Stored R ws a i x e ws') (hc : (C', G', ov') = storeS R 1 e x (C, G, ov)) : Dk R ws' C' := by
  have hC : C' = (storeS R 1 e x (C, G, ov)).1 := congrArg Prod.fst hc
  have hle : CLe C C' := by
    rw [hC]; unfold storeS
    split
    · exact shadeW_le R 1 x (C, G, ov)
    · exact CLe.refl _
  intro b y j hb h2 hl hy hp
  rcases stored_loaded hA hs hl with ⟨he, rfl⟩ | hl
  · rw [hC]; unfold storeS
    rw [if_pos he]
    exact shadeW_hit R y _ hy hp
  · exact (h.le hle) b y j hb h2 hl hy hp
theorem Dk.alloc {R R' : List Rw} {ws ws' C C' : List Int} {kind n a e ph : Int} (hA : AOk R ws) (hCl : (C.length : Int) = 32 * R.length) (h : Dk R ws C) (hs : Alloct R ws kind n a e R' ws') (hph : ph = 1) (hc : C' = allocC ph a e C) : Dk R' ws' C' := by
  by_cases he : e = 0
  · obtain ⟨h1, h2, _, h4, h5, h6, h7⟩ := alloct_ok hA hs he
    obtain ⟨hA', hlR⟩ := hA.alloct hs
    have hab := h1.bounds hA'
    have hC : C' = C.set a.toNat 2 := by rw [hc, allocC, if_pos he, hph]; rfl
    have hself : C'[a.toNat]? = some 2 := by rw [hC]; exact List.getElem?_set_self (by omega)
    intro b x i hb hb2 hl hx hp
    have hpl : (x - 1) / 2 = a ∨ ((x - 1) / 2 ≠ a ∧ (x - 1) / 2 ∈ objs R) := by
      by_cases q : (x - 1) / 2 = a
      · exact .inl q
      · rcases h6 _ ((obj_iff hA' _).1 hp) with q2 | q2
        · exact .inl q2
        · exact .inr ⟨q, (obj_iff hA _).2 q2⟩
    rcases h6 b ((obj_iff hA' b).1 hb) with rfl | hbo
    · exfalso
      cases hl with
      | ok k l _ hK hi hxw =>
        obtain ⟨_, rfl⟩ := hK.det9 h1
        rw [h4 i hi.1 hi.2] at hxw
        obtain rfl := Option.some.inj hxw
        omega
    · have hbR := (obj_iff hA b).2 hbo
      have hbb := obj_bd hA hbR
      have hne : b ≠ a := fun q => h2 (q ▸ hbo)
      have hlR : Loaded R ws b i x 0 := by
        cases hl with
        | ok k l _ hK hi hxw =>
          obtain ⟨k', l', hK'⟩ := Kept.of hA hbo
          obtain ⟨_, rfl⟩ := (h5 b k' l' hK').det9 hK
          exact .ok k' l' x hK' hi (by rw [← h7 b k' l' i hK' hi.1 hi.2]; exact hxw)
      have hcb : C[b.toNat]? = some 2 := by rw [hC, List.getElem?_set_ne (by omega)] at hb2; exact hb2
      rcases hpl with q | ⟨q1, q2⟩
      · rw [q, hself]; exact fun k => absurd (Option.some.inj k) (by decide)
      · have hpb := obj_bd hA q2
        rw [hC, List.getElem?_set_ne (by omega)]
        exact h b x i hbR hcb hlR hx q2
  · have hg := alloct_gen9 hA hs
    rcases hg with ⟨_, _, rfl, rfl⟩ | ⟨q, _⟩
    · rw [hc, allocC, if_neg he]; exact h
    · exact absurd q he
theorem Dk.marked {R : List Rw} {ws ws' C C' G G' : List Int} {ov ov' : Bool} {sp p s : Int} {out : List Gn} (hA : AOk R ws) (hg0 : ∀ x ∈ G, 0 ≤ x) (hCl : (C.length : Int) = 32 * R.length) (h : Dk R ws C) (hm : Marked R ws C G ov sp out p s ws' C' G' ov') (hp : p = 1) : Dk R ws' C' := by
  cases hm with
  | scan v A X _ _ o1 _ hg hX hs =>
    have hC : C' = (X.foldl (fun s w => shadeW R 1 w s) (C, A, o1)).1.set v.toNat 2 := congrArg Prod.fst hs
    have hle := fold_le R 1 X (C, A, o1)
    have hhit := fold_hit R X (C, A, o1)
    generalize (X.foldl (fun s w => shadeW R 1 w s) (C, A, o1)).1 = F at hC hle hhit
    have hset : ∀ q : Nat, C'[q]? = some 0 → F[q]? = some 0 := by
      intro q hq
      rw [hC] at hq
      by_cases e : v.toNat = q
      · subst e
        by_cases hl : v.toNat < F.length
        · rw [List.getElem?_set_self hl] at hq; exact absurd (Option.some.inj hq) (by decide)
        · rw [List.getElem?_eq_none (by rw [List.length_set]; omega)] at hq; cases hq
      · rw [List.getElem?_set_ne e] at hq; exact hq
    intro b x i hb hb2 hl hx hpl h0
    by_cases e : v.toNat = b.toNat
    · have hbb := obj_bd hA hb
      have hv : 0 ≤ v := by
        cases hg with
        | pop A' _ hG => exact hg0 v (by rw [hG]; simp)
        | found _ _ _ _ ha _ _ => exact (obj_bd hA (List.mem_of_getElem? ha)).1
      have hvb : v = b := by omega
      subst hvb
      have hxX : x ∈ X := by
        have hlen := hX.1
        cases hl with
        | ok k l _ hK hi hxw =>
          generalize hxl : (X.length : Int) = xl at hlen
          cases hlen with
          | no hn => exact absurd hK.obj6 hn
          | is k' l' hK' =>
            obtain ⟨_, rfl⟩ := hK.det9 hK'
            obtain ⟨y, hy⟩ : ∃ y, X[i.toNat]? = some y := ⟨_, List.getElem?_eq_getElem (by omega)⟩
            have hld := hX.2 _ _ hy
            rw [show ((i.toNat : Nat) : Int) = i by omega] at hld
            obtain ⟨rfl, _⟩ := loaded_det hld (.ok k l x hK hi hxw)
            exact List.mem_of_getElem? hy
      exact hhit x hxX hx hpl (hset _ h0)
    · rw [hC, List.getElem?_set_ne e] at hb2
      exact h b x i hb (hle.2 _ hb2) hl hx hpl (hle.1 _ (hset _ h0))
  | keep a A X _ _ _ o1 _ hg hf hX hst hs =>
    have hC : C' = (shade R 1 a (C, A, o1)).1 := congrArg Prod.fst hs
    have h2 : Dk R ws' C := by
      intro b y j hb hb2 hl hy hpl
      rcases stored_loaded hA hst hl with ⟨_, rfl⟩ | hl
      · exact absurd hy (by decide)
      · exact h b y j hb hb2 hl hy hpl
    rw [hC]
    exact h2.le (shade_le R 1 a (C, A, o1))
  | sweep _ _ _ _ => exact absurd hp (by decide)
theorem Dk.stepd {R R' : List Rw} {ws ws' C C' G G' : List Int} {ov ov' : Bool} {ph sp cy W p s y : Int} {out : List Gn} (hA : AOk R ws) (hg0 : ∀ x ∈ G, 0 ≤ x) (hCl : (C.length : Int) = 32 * R.length) (h : ph = 1 → Dk R ws C) (hs : Stepd R ws C G ov ph sp cy W out R' ws' C' G' ov' p s y) (hp : p = 1) : Dk R' ws' C' := by
  cases hs with
  | mark _ _ _ _ _ _ _ hph hm => exact (h hph).marked hA hg0 hCl hm hp
  | sweep _ _ _ _ =>
    unfold swPh at hp
    split at hp <;> exact absurd hp (by decide)
  | idle h1 _ => exact absurd hp h1
end Go.Proofs.YtgoflehllhccgaaGreatDoor
/-
  Layer 9: one thing done to both heaps while they are Idle.
-/
namespace Go.Proofs.YtgoflehllhccgaaGreatDoor

open Go Go.LX
set_option maxRecDepth 100000
set_option linter.unusedVariables false
set_option linter.unusedSimpArgs false

set_option maxHeartbeats 8000000 in
theorem play0_lx (R : List Rw) (ws vs C G : List Int) (N W ph sp cy : Int) (L D Q : List PV) (z : ByteArray) (ov : Bool) (P B V Qr la : List PV) (m : Int) (h : HM R ws C G N W L D Q z) (hr : RM R vs C G N W P B V Qr la m) (hS : Sim R ws vs) (o : Unit → Obj) (ho : IsPow o) (kd oo oa oi ow ot : Int) (hoo : -9223372036854775808 ≤ oo ∧ oo ≤ 9223372036854775807) (hoa : -9223372036854775808 ≤ oa ∧ oa ≤ 9223372036854775807) (hoi : -9223372036854775808 ≤ oi ∧ oi ≤ 9223372036854775807) (how : -9223372036854775808 ≤ ow ∧ ow ≤ 9223372036854775807) (hot : -9223372036854775808 ≤ ot ∧ ot ≤ 9223372036854775807) (hsp : 0 ≤ sp ∧ sp ≤ 1000) (hcy : 0 ≤ cy ∧ cy ≤ 1000000) (hk1 : kd ≠ 1) (hk2 : kd ≠ 2) (hk3 : kd ≠ 3) (hk4 : kd ≠ 4) : CallF (fun _ => Tryz.prog) 11 [.ptr 0 (.lit 0), .ptr 7 (.lit 0), .agg [.p (.int .i64 (.sym kd)), .p (.int .i64 (.sym oo)), .p (.int .i64 (.sym oa)), .p (.int .i64 (.sym oi)), .p (.int .i64 (.sym ow)), .p (.int .i64 (.sym ot))]] [(0, .mix [.ptr 1 (.lit 0), .ptr 5 (.lit 0), .sl 6 3 1 (.lit 0) (.sym W), .p (.int .i64 (.sym ph)), .p (.int .i64 (.sym sp)), .p (.int .i64 (.sym cy))]), (1, .mix [.ptr 2 (.lit 0), .sl 4 3 1 (.lit 0) (.sym W)]), (2, .mix [.sl 3 157 2 (.lit 0) (.sym N)]), (3, .pure true L), (4, .pure true D), (5, .pure false [.str fun _ => z, .bool ov]), (6, .pure true Q), (7, .mix [.ptr 8 (.lit 0), .sl 13 3 1 (.lit 0) (.sym W), .ptr 14 (.lit 0), .p (.int .i64 (.sym ph)), .p (.int .i64 (.sym sp)), .p (.int .i64 (.sym cy))]), (8, .mix [.ptr 9 (.lit 0), .sl 12 3 1 (.lit 0) (.sym W)]), (9, .mix [.sl 10 3 1 (.lit 0) (.sym N), .sl 11 211 8 (.lit 0) (.sym N)]), (10, .pure true P), (11, .pure true B), (12, .pure true V), (13, .pure true Qr), (14, .mix [.p (.vsl (.sym m) true la), .p (.bool ov)]), (15, .fix 0 o)] 16 (fun r h n => ∃ (R' : List Rw) (ws' vs' C' G' : List Int) (L' D' Q' : List PV) (z' : ByteArray) (ov' : Bool) (P' B' V' Qr' la' : List PV) (m' : Int), r = .p (.bool true) ∧ h = [(0, .mix [.ptr 1 (.lit 0), .ptr 5 (.lit 0), .sl 6 3 1 (.lit 0) (.sym W), .p (.int .i64 (.sym ph)), .p (.int .i64 (.sym sp)), .p (.int .i64 (.sym cy))]), (1, .mix [.ptr 2 (.lit 0), .sl 4 3 1 (.lit 0) (.sym W)]), (2, .mix [.sl 3 157 2 (.lit 0) (.sym N)]), (3, .pure true L'), (4, .pure true D'), (5, .pure false [.str fun _ => z', .bool ov']), (6, .pure true Q'), (7, .mix [.ptr 8 (.lit 0), .sl 13 3 1 (.lit 0) (.sym W), .ptr 14 (.lit 0), .p (.int .i64 (.sym ph)), .p (.int .i64 (.sym sp)), .p (.int .i64 (.sym cy))]), (8, .mix [.ptr 9 (.lit 0), .sl 12 3 1 (.lit 0) (.sym W)]), (9, .mix [.sl 10 3 1 (.lit 0) (.sym N), .sl 11 211 8 (.lit 0) (.sym N)]), (10, .pure true P'), (11, .pure true B'), (12, .pure true V'), (13, .pure true Qr'), (14, .mix [.p (.vsl (.sym m') true la'), .p (.bool ov')]), (15, .fix 0 o)] ∧ n = 16 ∧ HM R' ws' C' G' N W L' D' Q' z' ∧ RM R' vs' C' G' N W P' B' V' Qr' la' m' ∧ Sim R' ws' vs') := by
  have hWn := h.w; have hNr := h.n; have hRr := h.r
  have hCl : (C.length : Int) = 32 * R.length := by have := h.c; omega
  have hg0 : ∀ x ∈ G, 0 ≤ x := fun x hx => (h.g x hx).1
  refine callF_of_body tok Tryz.func11 (by kernel_rfl) rfl rfl rfl ?_; conv => cbv
  refine Br.no (show ¬ kd = 1 from hk1) ?_
  conv => cbv
  refine Br.no (show ¬ kd = 2 from hk2) ?_
  conv => cbv
  refine Br.no (show ¬ kd = 3 from hk3) ?_
  conv => cbv
  refine Br.no (show ¬ kd = 4 from hk4) ?_
  conv => cbv
  refine Br.mk (fun q5 => ?_) (fun q5 => ?_)
  · have q5 : kd = 5 := q5
    conv => cbv
    refine drawn_sound tok (by kernel_rfl) [(3, [6, 5, 4]), (7, []), (8, [])] [0, 1, 2, 4, 5, 6, 3, 7, 8, 9, 10] (by kernel_rfl) ?_; conv => cbv
    refine callF_frame (pick_lx R vs C G N W ph sp cy P B V Qr la m ov hr oa hoa) [(0, 7), (1, 8), (2, 9), (3, 10), (4, 11), (5, 12), (6, 13), (7, 14)] rfl (by simp [hmapOk, nget, hget, renB, okB, renV, renVs, rn, okVs, okV]) rfl rfl (fun r h' n' hrr => ?_)
    obtain ⟨pa, e1, e2, e3, hpa1, hpa2⟩ := hrr
    subst e1 e2 e3
    conv => cbv
    refine callF_frame (pick_lx R vs C G N W ph sp cy P B V Qr la m ov hr ot hot) [(0, 7), (1, 8), (2, 9), (3, 10), (4, 11), (5, 12), (6, 13), (7, 14)] rfl (by simp [hmapOk, nget, hget, renB, okB, renV, renVs, rn, okVs, okV]) rfl rfl (fun r h' n' hrr => ?_)
    obtain ⟨pt, e1, e2, e3, hpt1, hpt2⟩ := hrr
    subst e1 e2 e3
    conv => cbv
    refine callF_frame (rPtr_lx pt ⟨by omega, by omega⟩) [] rfl trivial rfl rfl (fun r h' n' hrr => ?_)
    obtain ⟨v, e1, e2, e3, hv⟩ := hrr
    subst e1 e2 e3
    conv => cbv
    refine Br.no (show ¬ kd = 6 by omega) ?_
    conv => cbv
    refine Fit.wrap fun xa hxa => ?_
    have hxa : xa = IntKind.u64.wrap oi := hxa
    have hxa0 : 0 ≤ xa := by rw [hxa]; simp [IntKind.wrap, IntKind.bits, IntKind.signed]; omega
    clear hxa
    conv => cbv
    refine Sum.mk fun ya hya => ?_
    have hya : ya = xa % 10 := (show ya = xa.tmod 10 from hya).trans (Int.tmod_eq_emod_of_nonneg hxa0)
    conv => cbv
    refine Fit.mk (by show (-9223372036854775808 : Int) ≤ ya; omega) (by show ya ≤ 9223372036854775807; omega) fun ix hix => ?_
    have hix : ix = ya := hix
    have hvb : -9223372036854775808 ≤ v ∧ v ≤ 9223372036854775807 := ⟨by omega, by omega⟩
    conv => cbv
    refine callF_frame (store9_lx R ws C G N W ph sp cy L D Q z ov h o ho pa ix v hvb) [(0, 0), (1, 1), (2, 2), (3, 3), (4, 4), (5, 5), (6, 6), (7, 15)] rfl (by simp [hmapOk, nget, hget, renB, okB, renV, renVs, rn, okVs, okV]) rfl rfl (fun r h' n' hrr => ?_)
    obtain ⟨e, ws', C1, G1, ov1, D', Q', z', e1, e2, e3, h2, hT, hC⟩ := hrr
    subst e1 e2 e3
    conv => cbv
    refine callF_frame (rstore9_lx R vs C G N W ph sp cy P B V Qr la m ov hr pa ix v hvb) [(0, 7), (1, 8), (2, 9), (3, 10), (4, 11), (5, 12), (6, 13), (7, 14)] rfl (by simp [hmapOk, nget, hget, renB, okB, renV, renVs, rn, okVs, okV]) rfl rfl (fun r h' n' hrr => ?_)
    obtain ⟨e', vs', C2, G2, ov2, V', Qr', la', m', e1, e2, e3, h3, hT2, hC2⟩ := hrr
    subst e1 e2 e3
    conv => cbv
    have hss := hS.store hvb hT hT2
    have h3e := three_eq hC (hss.1 ▸ hC2)
    obtain ⟨q1, q2, q3⟩ := h3e
    subst q1 q2 q3
    refine Br.yes (show e = e' from hss.1) ?_
    conv => cbv
    refine RetF.mk [.p (.bool true)] [(0, .mix [.ptr 1 (.lit 0), .ptr 5 (.lit 0), .sl 6 3 1 (.lit 0) (.sym W), .p (.int .i64 (.sym ph)), .p (.int .i64 (.sym sp)), .p (.int .i64 (.sym cy))]), (1, .mix [.ptr 2 (.lit 0), .sl 4 3 1 (.lit 0) (.sym W)]), (2, .mix [.sl 3 157 2 (.lit 0) (.sym N)]), (3, .pure true L), (4, .pure true D'), (5, .pure false [.str fun _ => z', .bool ov1]), (6, .pure true Q'), (7, .mix [.ptr 8 (.lit 0), .sl 13 3 1 (.lit 0) (.sym W), .ptr 14 (.lit 0), .p (.int .i64 (.sym ph)), .p (.int .i64 (.sym sp)), .p (.int .i64 (.sym cy))]), (8, .mix [.ptr 9 (.lit 0), .sl 12 3 1 (.lit 0) (.sym W)]), (9, .mix [.sl 10 3 1 (.lit 0) (.sym N), .sl 11 211 8 (.lit 0) (.sym N)]), (10, .pure true P), (11, .pure true B), (12, .pure true V'), (13, .pure true Qr'), (14, .mix [.p (.vsl (.sym m') true la'), .p (.bool ov1)]), (15, .fix 0 o)] 16 (Re.at [(0, 0), (1, 1), (2, 2), (3, 3), (4, 4), (5, 5), (6, 6), (7, 7), (8, 8), (9, 9), (10, 10), (11, 11), (12, 12), (13, 13), (14, 14), (15, 15)] []) rfl ⟨R, ws', vs', C1, G1, L, D', Q', z', ov1, P, B, V', Qr', la', m', rfl, rfl, rfl, h2, h3, hss.2⟩
  · have q5 : ¬ kd = 5 := q5
    conv => cbv
    refine Br.mk (fun q6 => ?_) (fun q6 => ?_)
    · have q6 : kd = 6 := q6
      conv => cbv
      refine drawn_sound tok (by kernel_rfl) [(3, [6, 5, 4]), (7, []), (8, [])] [0, 1, 2, 4, 5, 6, 3, 7, 8, 9, 10] (by kernel_rfl) ?_; conv => cbv
      refine callF_frame (pick_lx R vs C G N W ph sp cy P B V Qr la m ov hr oa hoa) [(0, 7), (1, 8), (2, 9), (3, 10), (4, 11), (5, 12), (6, 13), (7, 14)] rfl (by simp [hmapOk, nget, hget, renB, okB, renV, renVs, rn, okVs, okV]) rfl rfl (fun r h' n' hrr => ?_)
      obtain ⟨pa, e1, e2, e3, hpa1, hpa2⟩ := hrr
      subst e1 e2 e3
      conv => cbv
      refine callF_frame (pick_lx R vs C G N W ph sp cy P B V Qr la m ov hr ot hot) [(0, 7), (1, 8), (2, 9), (3, 10), (4, 11), (5, 12), (6, 13), (7, 14)] rfl (by simp [hmapOk, nget, hget, renB, okB, renV, renVs, rn, okVs, okV]) rfl rfl (fun r h' n' hrr => ?_)
      obtain ⟨pt, e1, e2, e3, hpt1, hpt2⟩ := hrr
      subst e1 e2 e3
      conv => cbv
      refine callF_frame (rPtr_lx pt ⟨by omega, by omega⟩) [] rfl trivial rfl rfl (fun r h' n' hrr => ?_)
      obtain ⟨v, e1, e2, e3, hv⟩ := hrr
      subst e1 e2 e3
      conv => cbv
      refine Br.yes (show kd = 6 from q6) ?_
      conv => cbv
      refine Sum.mk fun wm hwm => ?_
      have hwm : wm = ow.tmod 1000 := hwm
      have hw1 : wm < 1000 := by rw [hwm]; exact Int.tmod_lt_of_pos _ (by decide)
      have hw2 : -1000 < wm := by rw [hwm]; exact Int.lt_tmod_of_pos _ (by decide)
      conv => cbv
      refine callF_frame (rInt_lx wm ⟨by omega, by omega⟩) [] rfl trivial rfl rfl (fun r h' n' hrr => ?_)
      obtain ⟨v, e1, e2, e3, hv⟩ := hrr
      subst e1 e2 e3
      conv => cbv
      refine Fit.wrap fun xa hxa => ?_
      have hxa : xa = IntKind.u64.wrap oi := hxa
      have hxa0 : 0 ≤ xa := by rw [hxa]; simp [IntKind.wrap, IntKind.bits, IntKind.signed]; omega
      clear hxa
      conv => cbv
      refine Sum.mk fun ya hya => ?_
      have hya : ya = xa % 10 := (show ya = xa.tmod 10 from hya).trans (Int.tmod_eq_emod_of_nonneg hxa0)
      conv => cbv
      refine Fit.mk (by show (-9223372036854775808 : Int) ≤ ya; omega) (by show ya ≤ 9223372036854775807; omega) fun ix hix => ?_
      have hix : ix = ya := hix
      have hvb : -9223372036854775808 ≤ v ∧ v ≤ 9223372036854775807 := ⟨by omega, by omega⟩
      conv => cbv
      refine callF_frame (store9_lx R ws C G N W ph sp cy L D Q z ov h o ho pa ix v hvb) [(0, 0), (1, 1), (2, 2), (3, 3), (4, 4), (5, 5), (6, 6), (7, 15)] rfl (by simp [hmapOk, nget, hget, renB, okB, renV, renVs, rn, okVs, okV]) rfl rfl (fun r h' n' hrr => ?_)
      obtain ⟨e, ws', C1, G1, ov1, D', Q', z', e1, e2, e3, h2, hT, hC⟩ := hrr
      subst e1 e2 e3
      conv => cbv
      refine callF_frame (rstore9_lx R vs C G N W ph sp cy P B V Qr la m ov hr pa ix v hvb) [(0, 7), (1, 8), (2, 9), (3, 10), (4, 11), (5, 12), (6, 13), (7, 14)] rfl (by simp [hmapOk, nget, hget, renB, okB, renV, renVs, rn, okVs, okV]) rfl rfl (fun r h' n' hrr => ?_)
      obtain ⟨e', vs', C2, G2, ov2, V', Qr', la', m', e1, e2, e3, h3, hT2, hC2⟩ := hrr
      subst e1 e2 e3
      conv => cbv
      have hss := hS.store hvb hT hT2
      have h3e := three_eq hC (hss.1 ▸ hC2)
      obtain ⟨q1, q2, q3⟩ := h3e
      subst q1 q2 q3
      refine Br.yes (show e = e' from hss.1) ?_
      conv => cbv
      refine RetF.mk [.p (.bool true)] [(0, .mix [.ptr 1 (.lit 0), .ptr 5 (.lit 0), .sl 6 3 1 (.lit 0) (.sym W), .p (.int .i64 (.sym ph)), .p (.int .i64 (.sym sp)), .p (.int .i64 (.sym cy))]), (1, .mix [.ptr 2 (.lit 0), .sl 4 3 1 (.lit 0) (.sym W)]), (2, .mix [.sl 3 157 2 (.lit 0) (.sym N)]), (3, .pure true L), (4, .pure true D'), (5, .pure false [.str fun _ => z', .bool ov1]), (6, .pure true Q'), (7, .mix [.ptr 8 (.lit 0), .sl 13 3 1 (.lit 0) (.sym W), .ptr 14 (.lit 0), .p (.int .i64 (.sym ph)), .p (.int .i64 (.sym sp)), .p (.int .i64 (.sym cy))]), (8, .mix [.ptr 9 (.lit 0), .sl 12 3 1 (.lit 0) (.sym W)]), (9, .mix [.sl 10 3 1 (.lit 0) (.sym N), .sl 11 211 8 (.lit 0) (.sym N)]), (10, .pure true P), (11, .pure true B), (12, .pure true V'), (13, .pure true Qr'), (14, .mix [.p (.vsl (.sym m') true la'), .p (.bool ov1)]), (15, .fix 0 o)] 16 (Re.at [(0, 0), (1, 1), (2, 2), (3, 3), (4, 4), (5, 5), (6, 6), (7, 7), (8, 8), (9, 9), (10, 10), (11, 11), (12, 12), (13, 13), (14, 14), (15, 15)] []) rfl ⟨R, ws', vs', C1, G1, L, D', Q', z', ov1, P, B, V', Qr', la', m', rfl, rfl, rfl, h2, h3, hss.2⟩
    · have q6 : ¬ kd = 6 := q6
      conv => cbv
      refine Fit.wrap fun xa hxa => ?_
      have hxa : xa = IntKind.u64.wrap oo := hxa
      have hxa0 : 0 ≤ xa := by rw [hxa]; simp [IntKind.wrap, IntKind.bits, IntKind.signed]; omega
      clear hxa
      conv => cbv
      refine Sum.mk fun ya hya => ?_
      have hya : ya = xa % 6 := (show ya = xa.tmod 6 from hya).trans (Int.tmod_eq_emod_of_nonneg hxa0)
      conv => cbv
      refine Fit.mk (by show (-9223372036854775808 : Int) ≤ ya; omega) (by show ya ≤ 9223372036854775807; omega) fun za hza => ?_
      have hza : za = ya := hza
      conv => cbv
      refine Fit.mk (by show (-9223372036854775808 : Int) ≤ 1 + za; omega) (by show 1 + za ≤ 9223372036854775807; omega) fun kk hkk => ?_
      have hkk : kk = 1 + za := hkk
      conv => cbv
      refine callF_frame (sizes_lx kk (by omega) (by omega)) [] rfl trivial rfl rfl (fun r h' n' hrr => ?_)
      obtain ⟨s1, e1, e2, e3, hs1⟩ := hrr
      subst e1 e2 e3
      conv => cbv
      refine callF_frame (alloc9_lx R ws C G N W ph sp cy L D Q z ov h kk s1) [(0, 0), (1, 1), (2, 2), (3, 3), (4, 4), (5, 5), (6, 6)] rfl (by simp [hmapOk, nget, hget, renB, okB, renV, renVs, rn, okVs, okV]) rfl rfl (fun r h' n' hrr => ?_)
      obtain ⟨a, e, R', ws', C', L', D', Q', e1, e2, e3, h2, hT, hC⟩ := hrr
      subst e1 e2 e3
      conv => cbv
      refine callF_frame (sizes_lx kk (by omega) (by omega)) [] rfl trivial rfl rfl (fun r h' n' hrr => ?_)
      obtain ⟨s2, e1, e2, e3, hs2⟩ := hrr
      subst e1 e2 e3
      conv => cbv
      refine callF_frame (ralloc9_lx R vs C G N W ph sp cy P B V Qr la m ov hr kk s2) [(0, 7), (1, 8), (2, 9), (3, 10), (4, 11), (5, 12), (6, 13), (7, 14)] rfl (by simp [hmapOk, nget, hget, renB, okB, renV, renVs, rn, okVs, okV]) rfl rfl (fun r h' n' hrr => ?_)
      obtain ⟨a2, f, R2, vs', C2, P', B', V', Qr', e1, e2, e3, h3, hT2, hC2⟩ := hrr
      subst e1 e2 e3
      conv => cbv
      have hss : s2 = s1 := hs2.trans hs1.symm
      subst hss
      have hal := hS.alloc hT hT2
      obtain ⟨q1, q2, q3, hS2, _⟩ := hal
      subst q1 q2 q3
      have hCC : C2 = C' := hC2.trans hC.symm
      subst hCC
      refine Br.yes (show a = a from rfl) ?_
      conv => cbv
      refine Br.yes (show e = e from rfl) ?_
      conv => cbv
      refine RetF.mk [.p (.bool true)] [(0, .mix [.ptr 1 (.lit 0), .ptr 5 (.lit 0), .sl 6 3 1 (.lit 0) (.sym W), .p (.int .i64 (.sym ph)), .p (.int .i64 (.sym sp)), .p (.int .i64 (.sym cy))]), (1, .mix [.ptr 2 (.lit 0), .sl 4 3 1 (.lit 0) (.sym W)]), (2, .mix [.sl 3 157 2 (.lit 0) (.sym N)]), (3, .pure true L'), (4, .pure true D'), (5, .pure false [.str fun _ => z, .bool ov]), (6, .pure true Q'), (7, .mix [.ptr 8 (.lit 0), .sl 13 3 1 (.lit 0) (.sym W), .ptr 14 (.lit 0), .p (.int .i64 (.sym ph)), .p (.int .i64 (.sym sp)), .p (.int .i64 (.sym cy))]), (8, .mix [.ptr 9 (.lit 0), .sl 12 3 1 (.lit 0) (.sym W)]), (9, .mix [.sl 10 3 1 (.lit 0) (.sym N), .sl 11 211 8 (.lit 0) (.sym N)]), (10, .pure true P'), (11, .pure true B'), (12, .pure true V'), (13, .pure true Qr'), (14, .mix [.p (.vsl (.sym m) true la), .p (.bool ov)]), (15, .fix 0 o)] 16 (Re.at [(0, 0), (1, 1), (2, 2), (3, 3), (4, 4), (5, 5), (6, 6), (7, 7), (8, 8), (9, 9), (10, 10), (11, 11), (12, 12), (13, 13), (14, 14), (15, 15)] []) rfl ⟨R', ws', vs', C2, G, L', D', Q', z, ov, P', B', V', Qr', la, m, rfl, rfl, rfl, h2, h3, hS2⟩
end Go.Proofs.YtgoflehllhccgaaGreatDoor
