/-
  Layer 7: the reference's arena: what is allotted, given back, and there.
-/
import Derived.Test.YtllafhhnciobhaaGreatDoorAr
import Derived.Test.YtllafhhnciobhaaGreatDoorAs
namespace Go.Proofs.YtllafhhnciobhaaGreatDoor

open Go Go.LX
set_option maxRecDepth 100000
set_option linter.unusedVariables false
set_option linter.unusedSimpArgs false

theorem rclassOf_lx (n : Int) : CallF (fun _ => Tryz.prog) 99 [.p (.int .i64 (.sym n))] [] 0 (fun r h m => ∃ (c : Int) (b : Bool), r = .tup [.p (.int .i64 (.sym c)), .p (.bool b)] ∧ h = [] ∧ m = 0 ∧ OfR n c b) := by
  refine callF_of_body tok Tryz.func99 (by kernel_rfl) rfl rfl rfl ?_; conv => cbv
  refine LoopF.mk (fun k s => ∃ c : Int, s = ⟨.p (.int .i64 (.sym n)) :: (undefs 3 ++ .p (.int .i64 (.sym c)) :: undefs 13), [], 0⟩ ∧ 0 ≤ c ∧ c ≤ 4 ∧ (1 ≤ c → 4 ≤ n) ∧ (2 ≤ c → 8 ≤ n) ∧ (3 ≤ c → 16 ≤ n) ∧ (4 ≤ c → 32 ≤ n) ∧ k = (4 - c).toNat) 4 _
    (Re.at [] []) ⟨0, rfl, by omega, by omega, by omega, by omega, by omega, by omega, by omega⟩ ?_
  rintro k s ⟨c, rfl, h0, h4, q1, q2, q3, q4, hk⟩
  conv => cbv
  refine Br.mk (fun g => ?_) (fun g => ?_)
  case refine_2 =>
    have g : ¬ c < 4 := g
    have q : OfR n 0 false := .no (by omega)
    conv => cbv
    refine RetF.mk [.p (.int .i64 (.sym 0)), .p (.bool false)] [] 0 (Re.at [] []) rfl ⟨0, false, rfl, rfl, rfl, q⟩
  have g : c < 4 := g
  conv => cbv
  refine Br.mk (fun g2 => ?_) (fun g2 => ?_)
  case refine_2 =>
    have g2 : ¬ 0 ≤ n := g2
    have q : OfR n 0 false := .no (by omega)
    conv => cbv
    refine RetF.mk [.p (.int .i64 (.sym 0)), .p (.bool false)] [] 0 (Re.at [] []) rfl ⟨0, false, rfl, rfl, rfl, q⟩
  have g2 : 0 ≤ n := g2
  obtain ⟨k', rfl⟩ : ∃ k', k = k' + 1 := ⟨k - 1, by omega⟩
  obtain ⟨w, hw⟩ : ∃ w, w = wordsOf c := ⟨_, rfl⟩
  have hw4 : c = 0 ∧ w = 4 ∨ c = 1 ∧ w = 8 ∨ c = 2 ∧ w = 16 ∨ c = 3 ∧ w = 32 := by
    have : c = 0 ∨ c = 1 ∨ c = 2 ∨ c = 3 := by omega
    rcases this with e | e | e | e <;> (rw [e] at hw; rw [hw, e]; decide)
  conv => cbv
  refine callF_frame (refWordsA_lx c w hw) [] rfl trivial rfl rfl (fun r h' n' ⟨e1, e2, e3⟩ => ?_)
  subst e1 e2 e3
  conv => cbv
  refine Br.mk (fun g3 => ?_) (fun g3 => ?_)
  · have g3 : n < w := g3
    have hc : c = ofN n := by
      unfold ofN
      rcases hw4 with ⟨e1, e2⟩ | ⟨e1, e2⟩ | ⟨e1, e2⟩ | ⟨e1, e2⟩
      · rw [if_pos (by omega)]; exact e1
      · rw [if_neg (by omega), if_pos (by omega)]; exact e1
      · rw [if_neg (by omega), if_neg (by omega), if_pos (by omega)]; exact e1
      · rw [if_neg (by omega), if_neg (by omega), if_neg (by omega)]; exact e1
    have qq : OfR n c true := .yes c hc (by omega)
    conv => cbv
    refine RetF.mk [.p (.int .i64 (.sym c)), .p (.bool true)] [] 0 (Re.at [] []) rfl ⟨c, true, rfl, rfl, rfl, qq⟩
  · have g3 : ¬ n < w := g3
    conv => cbv
    refine Fit.mk (by show (-9223372036854775808 : Int) ≤ c + 1; omega) (by show c + 1 ≤ 9223372036854775807; omega) fun c2 hc2 => ?_
    have hc2 : c2 = c + 1 := hc2
    conv => cbv
    refine Again.mk k' _ (Nat.lt_succ_self _) (Re.at [] []) ⟨c2, rfl, by omega, by omega, by omega, by omega, by omega, by omega, by omega⟩
set_option maxHeartbeats 2000000 in
theorem robjects_lx (m : Int) (R : List Rw) (vs : List Int) (n W : Int) (C B V : List PV) (hC : C = cpv R) (hB : B = bpv R) (hV : V = ipv vs) (hn : n = R.length) (hR : R.length ≤ 1000) (hA : AOk R vs) (hW : W = 32 * n) (hm : m = objCount R) : CallF (fun _ => Tryz.prog) 51 [.ptr 0 (.lit 0)] [(0, .mix [.ptr 1 (.lit 0), .sl 4 3 1 (.lit 0) (.sym W)]), (1, .mix [.sl 2 3 1 (.lit 0) (.sym n), .sl 3 120 8 (.lit 0) (.sym n)]), (2, .pure true C), (3, .pure true B), (4, .pure true V)] 5
    (fun r h n' => ∃ O : List PV, r = .sl 5 3 1 (.lit 0) (.sym m) ∧ h = [(0, .mix [.ptr 1 (.lit 0), .sl 4 3 1 (.lit 0) (.sym W)]), (1, .mix [.sl 2 3 1 (.lit 0) (.sym n), .sl 3 120 8 (.lit 0) (.sym n)]), (2, .pure true C), (3, .pure true B), (4, .pure true V), (5, .pure true O)] ∧ n' = 6 ∧ O = ipv (objsTo R R.length)) := by
  have hlen := hA.len
  obtain ⟨gl, hg⟩ : ∃ gl : List Int → Int, ∀ l, gl l = l.length := ⟨_, fun _ => rfl⟩
  have g0 : gl [] = 0 := by rw [hg]; rfl
  have P0 : (∀ x, x ∈ ([] : List Int) ↔ IsObj R x ∧ x < 0) := fun x => ⟨fun h => (by cases h), fun ⟨h, h2⟩ => by have := obj_in hA.rows h; omega⟩
  refine callF_of_body tok Tryz.func51 (by kernel_rfl) rfl rfl rfl ?_; conv => cbv
  refine LoopF.mk (fun k s => ∃ (a j : Int) (O : List PV) (l : List Int), s = ⟨.ptr 0 (.lit 0) :: (undefs 2 ++ .sl 5 3 1 (.lit 0) (.sym j) :: .p (.int .i64 (.sym a)) :: undefs 17), [(0, .mix [.ptr 1 (.lit 0), .sl 4 3 1 (.lit 0) (.sym W)]), (1, .mix [.sl 2 3 1 (.lit 0) (.sym n), .sl 3 120 8 (.lit 0) (.sym n)]), (2, .pure true C), (3, .pure true B), (4, .pure true V), (5, .pure true O)], 6⟩ ∧ O = ipv l ∧ j = gl l ∧ l.Pairwise (· < ·) ∧ (∀ x, x ∈ l ↔ IsObj R x ∧ x < a) ∧ 0 ≤ a ∧ a ≤ W ∧ 0 ≤ j ∧ j ≤ a ∧ k = (W - a).toNat) W.toNat _
    (Re.at [(0, 0), (1, 1), (2, 2), (3, 3), (4, 4)] [5]) ⟨0, 0, [], [], rfl, rfl, g0.symm, .nil, P0, by omega, by omega, by omega, by omega, by omega⟩ ?_
  clear P0 g0
  rintro k s ⟨a, j, O, l, rfl, hO, hj, hasc, hmem, ha0, ha1, hj0, hj1, hk⟩
  conv => cbv
  refine Br.mk (fun ga => ?_) (fun ga => ?_)
  · have ga : a < W := ga
    obtain ⟨k', rfl⟩ : ∃ k', k = k' + 1 := ⟨k - 1, by omega⟩
    conv => cbv
    refine callF_frame (ris_lx R vs n a W C B V hC hB hV hn hR hA hW) [(0, 0), (1, 1), (2, 2), (3, 3), (4, 4)] rfl (by simp [hmapOk, nget, hget, renB, okB, renV, renVs, rn, okVs, okV]) rfl rfl (fun r h' n' hrr => ?_)
    obtain ⟨b, e1, e2, e3, hb⟩ := hrr
    subst e1 e2 e3
    cases b with
    | false =>
      have hno : ¬ IsObj R a := fun h => by cases hb.2 h
      have hm2 : ∀ x, x ∈ l ↔ IsObj R x ∧ x < a + 1 := fun x => by
        rw [hmem x]
        constructor
        · rintro ⟨h1, h2⟩; exact ⟨h1, by omega⟩
        · rintro ⟨h1, h2⟩
          refine ⟨h1, ?_⟩
          have : x ≠ a := fun e => hno (e ▸ h1)
          omega
      conv => cbv
      refine Fit.mk (by show (-9223372036854775808 : Int) ≤ a + 1; omega) (by show a + 1 ≤ 9223372036854775807; omega) fun a2 ha2 => ?_
      have ha2 : a2 = a + 1 := ha2
      rw [← ha2] at hm2
      conv => cbv
      refine Again.mk k' _ (Nat.lt_succ_self _) (Re.at [(0, 0), (1, 1), (2, 2), (3, 3), (4, 4), (5, 5)] []) ⟨a2, j, O, l, rfl, hO, hj, hasc, hm2, by omega, by omega, by omega, by omega, by omega⟩
    | true =>
      have hobj := hb.1 rfl
      have hm2 : ∀ x, x ∈ l ++ [a] ↔ IsObj R x ∧ x < a + 1 := fun x => by
        rw [List.mem_append, hmem x, List.mem_singleton]
        constructor
        · rintro (⟨h1, h2⟩ | rfl)
          · exact ⟨h1, by omega⟩
          · exact ⟨hobj, by omega⟩
        · rintro ⟨h1, h2⟩
          by_cases e : x = a
          · exact .inr e
          · exact .inl ⟨h1, by omega⟩
      have hasc2 : (l ++ [a]).Pairwise (· < ·) := List.pairwise_append.2 ⟨hasc, List.pairwise_singleton _ _, fun x hx y hy => by
        have := (hmem x).1 hx
        rw [List.mem_singleton.1 hy]; exact this.2⟩
      have hol : (O.length : Int) = j := by rw [hO, ipv_length, hj, hg]
      conv => cbv
      refine Room.new rfl ?_
      conv => cbv
      refine Room.new ⟨?_, ?_, ?_⟩ ?_
      · show (O.length : Int) = j * 1; omega
      · show (j + 1) * 8 ≤ 140737488355328; omega
      · show j + 1 ≤ 9223372036854775807; omega
      conv => cbv
      refine Upd.mk fun O3 hO3 => ?_
      have hO3 : O3 = O ++ [.int .i64 (.sym a)] := hO3
      have hO3 : O3 = ipv (l ++ [a]) := by rw [hO3, hO, ← ipv_app]; rfl
      conv => cbv
      refine Sum.mk fun j2 hj2 => ?_
      have hj2 : j2 = j + 1 := hj2
      have hj3 : j2 = gl (l ++ [a]) := by rw [hj2, hj, hg, hg, List.length_append]; rfl
      conv => cbv
      refine Fit.mk (by show (-9223372036854775808 : Int) ≤ a + 1; omega) (by show a + 1 ≤ 9223372036854775807; omega) fun a2 ha2 => ?_
      have ha2 : a2 = a + 1 := ha2
      rw [← ha2] at hm2
      conv => cbv
      refine Again.mk k' _ (Nat.lt_succ_self _) (Re.at [(0, 0), (1, 1), (2, 2), (3, 3), (4, 4), (7, 5)] []) ⟨a2, j2, O3, l ++ [a], rfl, hO3, hj3, hasc2, hm2, by omega, by omega, by omega, by omega, by omega⟩
  · have ga : ¬ a < W := ga
    have hl : l = objsTo R R.length := objs_is hA.rows hasc fun x => by
      rw [hmem x]
      exact ⟨fun h => h.1, fun h => ⟨h, by have := obj_in hA.rows h; omega⟩⟩
    have hjm : j = m := by rw [hj, hg, hl, objs_length hA.rows, hm]
    rw [hl] at hO
    conv => cbv
    refine RetF.mk [.sl 5 3 1 (.lit 0) (.sym m)] [(0, .mix [.ptr 1 (.lit 0), .sl 4 3 1 (.lit 0) (.sym W)]), (1, .mix [.sl 2 3 1 (.lit 0) (.sym n), .sl 3 120 8 (.lit 0) (.sym n)]), (2, .pure true C), (3, .pure true B), (4, .pure true V), (5, .pure true O)] 6 (Re.at [(0, 0), (1, 1), (2, 2), (3, 3), (4, 4), (5, 5)] []) rfl ⟨O, rfl, rfl, rfl, hO⟩
end Go.Proofs.YtllafhhnciobhaaGreatDoor
/-
  Layer 7: the reference's arena: what is given back, and a new one.
-/
namespace Go.Proofs.YtllafhhnciobhaaGreatDoor

open Go Go.LX
set_option maxRecDepth 100000
set_option linter.unusedVariables false
set_option linter.unusedSimpArgs false

theorem obj_at {R : List Rw} (hR : RowsOk R) {a : Int} (h : IsObj R a) : ∃ (s : Nat) (e : Rw), R[(a / 32).toNat]? = some e ∧ clsOf e = e.1 ∧ wordsOf e.1 ≠ 0 ∧ e.2[s]? = some true ∧ a = 32 * (a / 32) + s * wordsOf e.1 := by
  obtain ⟨q, s, e, he, hs, hat⟩ := h
  have hne : e.2 ≠ [] := by intro e0; rw [e0] at hs; simp at hs
  obtain ⟨g1, g2, _⟩ := (hR _ (List.mem_of_getElem? he)).2 hne
  have hsl := (List.getElem?_eq_some_iff.1 hs).1
  have k2 := slots_words g1 (s := s) (by omega)
  have k3 : 0 ≤ (s : Int) * wordsOf e.1 := Int.mul_nonneg (by omega) (wordsOf_bd _).1
  have w1 := wordsOf_cases e.1
  have hq : a / 32 = q := by omega
  refine ⟨s, e, by rw [hq]; exact he, ?_, g1, hs, by rw [hq]; exact hat⟩
  unfold clsOf
  first | rw [if_neg hne] | (split <;> simp_all)
set_option maxHeartbeats 2000000 in
theorem rfreeA_lx (R : List Rw) (vs : List Int) (n at_ W : Int) (C B V : List PV) (hC : C = cpv R) (hB : B = bpv R) (hV : V = ipv vs) (hn : n = R.length) (hR : R.length ≤ 1000) (hA : AOk R vs) (hW : W = 32 * n) : CallF (fun _ => Tryz.prog) 98 [.ptr 0 (.lit 0), .p (.int .i64 (.sym at_))] [(0, .mix [.ptr 1 (.lit 0), .sl 4 3 1 (.lit 0) (.sym W)]), (1, .mix [.sl 2 3 1 (.lit 0) (.sym n), .sl 3 120 8 (.lit 0) (.sym n)]), (2, .pure true C), (3, .pure true B), (4, .pure true V)] 5
    (fun r h n' => ∃ (e : Int) (R' : List Rw) (C' B' : List PV), r = .p (.int .i64 (.sym e)) ∧ h = [(0, .mix [.ptr 1 (.lit 0), .sl 4 3 1 (.lit 0) (.sym W)]), (1, .mix [.sl 2 3 1 (.lit 0) (.sym n), .sl 3 120 8 (.lit 0) (.sym n)]), (2, .pure true C'), (3, .pure true B'), (4, .pure true V)] ∧ n' = 5 ∧ C' = cpv R' ∧ B' = bpv R' ∧ Freet R at_ e R') := by
  have hlen := hA.len
  refine callF_of_body tok Tryz.func98 (by kernel_rfl) rfl rfl rfl ?_; conv => cbv
  refine callF_frame (ris_lx R vs n at_ W C B V hC hB hV hn hR hA hW) [(0, 0), (1, 1), (2, 2), (3, 3), (4, 4)] rfl (by simp [hmapOk, nget, hget, renB, okB, renV, renVs, rn, okVs, okV]) rfl rfl (fun r h' n' hrr => ?_)
  obtain ⟨b, e1, e2, e3, hb⟩ := hrr
  subst e1 e2 e3
  cases b with
  | false =>
    have hno : ¬ IsObj R at_ := fun h => by cases hb.2 h
    conv => cbv
    refine RetF.mk [.p (.int .i64 (.sym 8))] [(0, .mix [.ptr 1 (.lit 0), .sl 4 3 1 (.lit 0) (.sym W)]), (1, .mix [.sl 2 3 1 (.lit 0) (.sym n), .sl 3 120 8 (.lit 0) (.sym n)]), (2, .pure true C), (3, .pure true B), (4, .pure true V)] 5 (Re.at [(0, 0), (1, 1), (2, 2), (3, 3), (4, 4)] []) rfl ⟨8, R, C, B, rfl, rfl, rfl, hC, hB, .none hno⟩
  | true =>
    have hobj := hb.1 rfl
    conv => cbv
    have hin := obj_in hA.rows hobj
    have ht : Int.tdiv at_ 32 = at_ / 32 := Int.tdiv_eq_ediv_of_nonneg (by omega)
    refine Fit.mk (by show (-9223372036854775808 : Int) ≤ Int.tdiv at_ 32; omega) (by show Int.tdiv at_ 32 ≤ 9223372036854775807; omega) fun q hq => ?_
    have hq : q = at_ / 32 := (show q = Int.tdiv at_ 32 from hq).trans ht
    clear ht
    conv => cbv
    obtain ⟨sn, e, he, hce, hw0, hs1, hat⟩ := obj_at hA.rows hobj
    rw [← hq] at he hat
    obtain ⟨cv, hcv⟩ : ∃ cv, cv = clsOf e := ⟨_, rfl⟩
    obtain ⟨w, hw⟩ : ∃ w, w = wordsOf cv := ⟨_, rfl⟩
    have hcc := cpv_get he
    rw [← hC, ← hcv] at hcc
    have hwe : wordsOf e.1 = w := by rw [hw, hcv, hce]
    rw [hwe] at hw0 hat
    have hw5 := wordsOf_cases cv
    rw [← hw] at hw5
    have hmul0 : 0 ≤ (sn : Int) * w := Int.mul_nonneg (by omega) (by omega)
    have hdiv : (sn : Int) * w / w = sn := Int.mul_ediv_cancel _ hw0
    obtain ⟨sw, hsw⟩ : ∃ sw, sw = (sn : Int) * w := ⟨_, rfl⟩
    rw [← hsw] at hmul0 hdiv hat
    obtain ⟨si, hsi⟩ : ∃ si : Int, si = sn := ⟨_, rfl⟩
    rw [← hsi] at hdiv
    have hsi0 : 0 ≤ si := by omega
    have ht : Int.tdiv sw w = sw / w := Int.tdiv_eq_ediv_of_nonneg (by omega)
    have hle : sw / w ≤ sw := Int.ediv_le_self _ (by omega)
    rw [hdiv] at ht hle
    refine drawn_sound tok (by kernel_rfl) [(17, [6, 5, 4, 3, 2, 1, 0]), (19, [])] [0, 1, 2, 3, 4, 5, 6, 7, 8, 9, 10, 11, 12, 13, 14, 15, 16, 17, 18, 19] (by kernel_rfl) ?_; conv => cbv
    refine Sum.mk fun z hz => ?_
    have hz : z = at_ % 32 := (show z = Int.tmod at_ 32 from hz).trans (Int.tmod_eq_emod_of_nonneg (by omega))
    have hz : z = sw := by omega
    conv => cbv
    refine Need.mk ⟨by show 0 ≤ q; omega, by show q < n; omega⟩ ?_
    conv => cbv
    refine Cell.at q _ hcc (by simp [I.val]) rfl ?_
    conv => cbv
    refine callF_frame (refWordsA_lx cv w hw) [] rfl trivial rfl rfl (fun r h' n' ⟨e1, e2, e3⟩ => ?_)
    subst e1 e2 e3
    conv => cbv
    refine Need.mk (show w ≠ 0 by omega) ?_
    conv => cbv
    have ht3 : Int.tdiv z w = si := by rw [hz]; exact ht
    refine Fit.mk (by show (-9223372036854775808 : Int) ≤ Int.tdiv z w; omega) (by show Int.tdiv z w ≤ 9223372036854775807; omega) fun s0 hs0 => ?_
    have hs0 : s0 = si := (show s0 = Int.tdiv z w from hs0).trans ht3
    conv => cbv
    refine callF_frame (rfree_lx q s0 R n C B hC hB hn hR (rok_of hA.rows)) [(0, 1), (1, 2), (2, 3)] rfl (by simp [hmapOk, nget, hget, renB, okB, renV, renVs, rn, okVs, okV]) rfl rfl (fun r h' n' hrr => ?_)
    obtain ⟨b, R2, C2, B2, e1, e2, e3, hC2, hB2, hF⟩ := hrr
    subst e1 e2 e3
    have hsn : s0.toNat = sn := by omega
    have hFr : Freet R at_ 0 R2 := by
      cases hF with
      | no hno => exact absurd ⟨e, by omega, he, by omega, by rw [hsn]; exact hs1⟩ hno
      | yes e' _ he' _ hs' =>
        rw [he] at he'; cases he'
        exact .ok q.toNat s0.toNat e he hs' (by rw [hwe, hsn, ← hsw, show (q.toNat : Int) = q by omega]; exact hat)
    conv => cbv
    refine RetF.mk [.p (.int .i64 (.sym 0))] [(0, .mix [.ptr 1 (.lit 0), .sl 4 3 1 (.lit 0) (.sym W)]), (1, .mix [.sl 2 3 1 (.lit 0) (.sym n), .sl 3 120 8 (.lit 0) (.sym n)]), (2, .pure true C2), (3, .pure true B2), (4, .pure true V)] 5 (Re.at [(0, 0), (1, 1), (2, 2), (3, 3), (4, 4)] []) rfl ⟨0, R2, C2, B2, rfl, rfl, rfl, hC2, hB2, hFr⟩
theorem rnewA_lx (n W : Int) (h2 : 2 ≤ n) (h8 : n ≤ 128) (hW : W = 32 * n) : CallF (fun _ => Tryz.prog) 43 [.p (.int .i64 (.sym n))] [] 0
    (fun r h m => ∃ C B V : List PV, r = .tup [.ptr 0 (.lit 0), .p (.int .i64 (.lit 0))] ∧ h = [(0, .mix [.ptr 1 (.lit 0), .sl 4 3 1 (.lit 0) (.sym W)]), (1, .mix [.sl 2 3 1 (.lit 0) (.sym n), .sl 3 120 8 (.lit 0) (.sym n)]), (2, .pure true C), (3, .pure true B), (4, .pure true V)] ∧ m = 5 ∧ C = cpv (List.replicate n.toNat (0, [])) ∧ B = bpv (List.replicate n.toNat (0, [])) ∧ V = ipv (List.replicate W.toNat 0)) := by
  refine callF_of_body tok Tryz.func43 (by kernel_rfl) rfl rfl rfl ?_; conv => cbv
  refine callF_frame (rnew_lx n ⟨h2, h8⟩) [] rfl trivial rfl rfl (fun r h' n' hrr => ?_)
  obtain ⟨C, B, e1, e2, e3, hC, hB⟩ := hrr
  subst e1 e2 e3
  obtain ⟨V, hV⟩ : ∃ V, V = ipv (List.replicate W.toNat 0) := ⟨_, rfl⟩
  conv => cbv
  refine Fit.mk (by show (-9223372036854775808 : Int) ≤ n * 32; omega) (by show n * 32 ≤ 9223372036854775807; omega) fun v hv => ?_
  have hv : v = n * 32 := hv
  have hvW : v = W := by omega
  conv => cbv
  refine Need.mk ⟨by show 0 ≤ v; omega, Int.le_refl _, by show v * 8 ≤ 140737488355328; omega, by show v ≤ 9223372036854775807; omega⟩ ?_
  conv => cbv
  refine Upd.mk fun D0 hD0 => ?_
  have hle : pvles D0 V := by
    have hD0 : D0 = repsP [.int .i64 (.lit 0)] v.toNat := hD0
    rw [hD0, hV, hvW]; exact zero_ipv _
  clear hD0
  unfold pvles at hle
  conv => cbv
  refine RetF.mk [.ptr 0 (.lit 0), .p (.int .i64 (.lit 0))] [(0, .mix [.ptr 1 (.lit 0), .sl 4 3 1 (.lit 0) (.sym W)]), (1, .mix [.sl 2 3 1 (.lit 0) (.sym n), .sl 3 120 8 (.lit 0) (.sym n)]), (2, .pure true C), (3, .pure true B), (4, .pure true V)] 5 (Re.at [(4, 0), (0, 1), (1, 2), (2, 3), (3, 4)] []) rfl ⟨C, B, V, rfl, rfl, rfl, hC, hB, hV⟩
end Go.Proofs.YtllafhhnciobhaaGreatDoor
/-
  Layer 7: the reference's arena: what is allotted.
-/
namespace Go.Proofs.YtllafhhnciobhaaGreatDoor

open Go Go.LX
set_option maxRecDepth 100000
set_option linter.unusedVariables false
set_option linter.unusedSimpArgs false

theorem zer_snoc : ∀ (n : Nat) (ws : List Int) (j : Nat), zer ws j (n + 1) = (zer ws j n).set (j + n) 0
  | 0, ws, j => rfl
  | n + 1, ws, j => by
    rw [zer, zer_snoc n, zer, show j + 1 + n = j + (n + 1) by omega]
set_option maxHeartbeats 4000000 in
theorem rallocA_lx (kind m : Int) (R : List Rw) (vs : List Int) (n W : Int) (C B V : List PV) (hC : C = cpv R) (hB : B = bpv R) (hV : V = ipv vs) (hn : n = R.length) (hR : R.length ≤ 1000) (hA : AOk R vs) (hW : W = 32 * n) : CallF (fun _ => Tryz.prog) 78 [.ptr 0 (.lit 0), .p (.int .i64 (.sym kind)), .p (.int .i64 (.sym m))] [(0, .mix [.ptr 1 (.lit 0), .sl 4 3 1 (.lit 0) (.sym W)]), (1, .mix [.sl 2 3 1 (.lit 0) (.sym n), .sl 3 120 8 (.lit 0) (.sym n)]), (2, .pure true C), (3, .pure true B), (4, .pure true V)] 5
    (fun r h n' => ∃ (at_ e : Int) (R' : List Rw) (vs' : List Int) (C' B' V' : List PV), r = .tup [.p (.int .i64 (.sym at_)), .p (.int .i64 (.sym e))] ∧ h = [(0, .mix [.ptr 1 (.lit 0), .sl 4 3 1 (.lit 0) (.sym W)]), (1, .mix [.sl 2 3 1 (.lit 0) (.sym n), .sl 3 120 8 (.lit 0) (.sym n)]), (2, .pure true C'), (3, .pure true B'), (4, .pure true V')] ∧ n' = 5 ∧ C' = cpv R' ∧ B' = bpv R' ∧ V' = ipv vs' ∧ AlloctV R vs kind m at_ e R' vs') := by
  have hlen := hA.len
  have hVl : V.length = vs.length := by rw [hV, ipv_length]
  refine callF_of_body tok Tryz.func78 (by kernel_rfl) rfl rfl rfl ?_; conv => cbv
  refine callF_frame (rclassOf_lx m) [] rfl trivial rfl rfl (fun r h' n' hrr => ?_)
  obtain ⟨c, b, e1, e2, e3, hO⟩ := hrr
  subst e1 e2 e3
  conv => cbv
  refine Br.mk (fun g => ?_) (fun g => ?_)
  · have g : kind < 1 := g
    have hno : ¬ (0 ≤ m ∧ m ≤ 31 ∧ 1 ≤ kind ∧ kind ≤ 6) := fun h => by omega
    conv => cbv
    refine RetF.mk [.p (.int .i64 (.sym 0)), .p (.int .i64 (.sym 1))] [(0, .mix [.ptr 1 (.lit 0), .sl 4 3 1 (.lit 0) (.sym W)]), (1, .mix [.sl 2 3 1 (.lit 0) (.sym n), .sl 3 120 8 (.lit 0) (.sym n)]), (2, .pure true C), (3, .pure true B), (4, .pure true V)] 5 (Re.at [(0, 0), (1, 1), (2, 2), (3, 3), (4, 4)] []) rfl ⟨0, 1, R, vs, C, B, V, rfl, rfl, rfl, hC, hB, hV, .arg hno⟩
  have g : ¬ kind < 1 := g
  conv => cbv
  refine Br.mk (fun g2 => ?_) (fun g2 => ?_)
  · have g2 : 6 < kind := g2
    have hno : ¬ (0 ≤ m ∧ m ≤ 31 ∧ 1 ≤ kind ∧ kind ≤ 6) := fun h => by omega
    conv => cbv
    refine RetF.mk [.p (.int .i64 (.sym 0)), .p (.int .i64 (.sym 1))] [(0, .mix [.ptr 1 (.lit 0), .sl 4 3 1 (.lit 0) (.sym W)]), (1, .mix [.sl 2 3 1 (.lit 0) (.sym n), .sl 3 120 8 (.lit 0) (.sym n)]), (2, .pure true C), (3, .pure true B), (4, .pure true V)] 5 (Re.at [(0, 0), (1, 1), (2, 2), (3, 3), (4, 4)] []) rfl ⟨0, 1, R, vs, C, B, V, rfl, rfl, rfl, hC, hB, hV, .arg hno⟩
  have g2 : ¬ 6 < kind := g2
  cases hO with
  | no hno =>
    conv => cbv
    refine RetF.mk [.p (.int .i64 (.sym 0)), .p (.int .i64 (.sym 1))] [(0, .mix [.ptr 1 (.lit 0), .sl 4 3 1 (.lit 0) (.sym W)]), (1, .mix [.sl 2 3 1 (.lit 0) (.sym n), .sl 3 120 8 (.lit 0) (.sym n)]), (2, .pure true C), (3, .pure true B), (4, .pure true V)] 5 (Re.at [(0, 0), (1, 1), (2, 2), (3, 3), (4, 4)] []) rfl ⟨0, 1, R, vs, C, B, V, rfl, rfl, rfl, hC, hB, hV, .arg (fun h => hno ⟨h.1, h.2.1⟩)⟩
  | yes _ hc hyes =>
    have hyk : 0 ≤ m ∧ m ≤ 31 ∧ 1 ≤ kind ∧ kind ≤ 6 := by omega
    conv => cbv
    refine callF_frame (ralloc_lx c R n C B hC hB hn hR (rok_of hA.rows)) [(0, 1), (1, 2), (2, 3)] rfl (by simp [hmapOk, nget, hget, renB, okB, renV, renVs, rn, okVs, okV]) rfl rfl (fun r h' n' hrr => ?_)
    obtain ⟨i, s, b, R2, C2, B2, e1, e2, e3, hC2, hB2, hAl⟩ := hrr
    subst e1 e2 e3
    cases b with
    | false =>
      conv => cbv
      rw [hc] at hAl
      refine RetF.mk [.p (.int .i64 (.sym 0)), .p (.int .i64 (.sym 9))] [(0, .mix [.ptr 1 (.lit 0), .sl 4 3 1 (.lit 0) (.sym W)]), (1, .mix [.sl 2 3 1 (.lit 0) (.sym n), .sl 3 120 8 (.lit 0) (.sym n)]), (2, .pure true C2), (3, .pure true B2), (4, .pure true V)] 5 (Re.at [(0, 0), (1, 1), (2, 2), (3, 3), (4, 4)] []) rfl ⟨0, 9, R2, vs, C2, B2, V, rfl, rfl, rfl, hC2, hB2, hV, .room i s R2 hyk hAl⟩
    | true =>
      conv => cbv
      obtain ⟨hi0, hi1, hs0, hs1⟩ := alloced_in hA.rows hAl
      obtain ⟨w, hw⟩ : ∃ w, w = wordsOf c := ⟨_, rfl⟩
      have hmw : m < w ∧ w ≠ 0 := by rw [hw, hc]; exact ofN_words hyes
      have hwb := wordsOf_bd c
      rw [← hw] at hwb
      have hsw : (s.toNat : Int) * w + w ≤ 32 := by rw [hw]; exact slots_words (by rw [← hw]; exact hmw.2) (by omega)
      rw [show (s.toNat : Int) = s by omega] at hsw
      obtain ⟨sw, hsw2⟩ : ∃ sw, sw = s * w := ⟨_, rfl⟩
      have hsw0 : 0 ≤ sw := by rw [hsw2]; exact Int.mul_nonneg hs0 (by rw [hw]; exact (wordsOf_bd _).1)
      rw [← hsw2] at hsw
      refine Fit.mk (by show (-9223372036854775808 : Int) ≤ i * 32; omega) (by show i * 32 ≤ 9223372036854775807; omega) fun i32 hi32 => ?_
      have hi32 : i32 = i * 32 := hi32
      conv => cbv
      refine callF_frame (refWordsA_lx c w hw) [] rfl trivial rfl rfl (fun r h' n' ⟨e1, e2, e3⟩ => ?_)
      subst e1 e2 e3
      conv => cbv
      refine Fit.mk (by show (-9223372036854775808 : Int) ≤ s * w; rw [← hsw2]; omega) (by show s * w ≤ 9223372036854775807; rw [← hsw2]; omega) fun sw' hsw' => ?_
      have hsw' : sw' = sw := by rw [hsw2]; exact hsw'
      conv => cbv
      refine Fit.mk (by show (-9223372036854775808 : Int) ≤ i32 + sw'; omega) (by show i32 + sw' ≤ 9223372036854775807; omega) fun at_ hat => ?_
      have hat : at_ = i32 + sw' := hat
      have hat2 : at_ = 32 * i + sw := by omega
      conv => cbv
      have hloc : at_ + w ≤ W := by omega
      refine LoopF.mk (fun k st => ∃ (j : Int) (V2 : List PV), st = ⟨.ptr 0 (.lit 0) :: .p (.int .i64 (.sym kind)) :: .p (.int .i64 (.sym m)) :: (undefs 5 ++ .p (.int .i64 (.sym c)) :: (undefs 3 ++ .p (.int .i64 (.sym at_)) :: .p (.int .i64 (.sym j)) :: undefs 59)), [(0, .mix [.ptr 1 (.lit 0), .sl 4 3 1 (.lit 0) (.sym W)]), (1, .mix [.sl 2 3 1 (.lit 0) (.sym n), .sl 3 120 8 (.lit 0) (.sym n)]), (2, .pure true C2), (3, .pure true B2), (4, .pure true V2)], 5⟩ ∧ V2 = ipv (zer vs at_.toNat j.toNat) ∧ 0 ≤ j ∧ j ≤ w ∧ k = (w - j).toNat) w.toNat _
        (Re.at [(0, 0), (1, 1), (2, 2), (3, 3), (4, 4)] []) ⟨0, V, rfl, hV, by omega, by omega, by omega⟩ ?_
      rintro k st ⟨j, V2, rfl, hV2, hj0, hj1, hk⟩
      have hV2l : V2.length = vs.length := by rw [hV2, ipv_length, zer_length]
      conv => cbv
      refine callF_frame (refWordsA_lx c w hw) [] rfl trivial rfl rfl (fun r h' n' ⟨e1, e2, e3⟩ => ?_)
      subst e1 e2 e3
      conv => cbv
      refine Br.mk (fun g3 => ?_) (fun g3 => ?_)
      · have g3 : j < w := g3
        obtain ⟨k', rfl⟩ : ∃ k', k = k' + 1 := ⟨k - 1, by omega⟩
        obtain ⟨j2, hj2⟩ : ∃ j2, j2 = j + 1 := ⟨_, rfl⟩
        obtain ⟨V3, hV3⟩ : ∃ V3, V3 = ipv (zer vs at_.toNat j2.toNat) := ⟨_, rfl⟩
        conv => cbv
        refine Fit.mk (by show (-9223372036854775808 : Int) ≤ at_ + j; omega) (by show at_ + j ≤ 9223372036854775807; omega) fun x hx => ?_
        have hx : x = at_ + j := hx
        conv => cbv
        refine Need.mk ⟨by show 0 ≤ x; omega, by show x < W; omega⟩ ?_
        conv => cbv
        refine Need.mk (by show x + ((1 : Nat) : Int) ≤ (V2.length : Int); omega) ?_
        conv => cbv
        refine Upd.mk fun D2 hD2 => ?_
        have hle : pvles D2 V3 := by
          have hD2 : D2 = updL V2 x.toNat (repsP [.int .i64 (.lit 0)] 1) := hD2
          rw [hD2, hV3, hV2, show j2.toNat = j.toNat + 1 by omega, zer_snoc, show at_.toNat + j.toNat = x.toNat by omega]
          exact upd_zer 1 _ _ _ (pvles_self _)
        clear hD2
        unfold pvles at hle
        conv => cbv
        refine Fit.mk (by show (-9223372036854775808 : Int) ≤ j + 1; omega) (by show j + 1 ≤ 9223372036854775807; omega) fun j3 hj3 => ?_
        have hj3 : j3 = j + 1 := hj3
        obtain rfl : j3 = j2 := by omega
        conv => cbv
        refine Again.mk k' _ (Nat.lt_succ_self _) (Re.at [(0, 0), (1, 1), (2, 2), (3, 3), (4, 4)] []) ⟨j3, V3, rfl, hV3, by omega, by omega, by omega⟩
      · have g3 : ¬ j < w := g3
        have hjw : j = w := by omega
        subst hjw
        obtain ⟨V3, hV3⟩ : ∃ V3, V3 = ipv ((zer vs at_.toNat j.toNat).set at_.toNat (kind + 16 * m)) := ⟨_, rfl⟩
        have hres : AlloctV R vs kind m at_ 0 R2 ((zer vs at_.toNat j.toNat).set at_.toNat (kind + 16 * m)) := by
          rw [hw, hc]
          exact .ok i s at_ R2 hyk (hc ▸ hAl) (by rw [hat2, hsw2, hw, hc])
        conv => cbv
        refine Fit.mk (by show (-9223372036854775808 : Int) ≤ 16 * m; omega) (by show 16 * m ≤ 9223372036854775807; omega) fun x hx => ?_
        have hx : x = 16 * m := hx
        conv => cbv
        refine Fit.mk (by show (-9223372036854775808 : Int) ≤ kind + x; omega) (by show kind + x ≤ 9223372036854775807; omega) fun y hy => ?_
        have hy : y = kind + x := hy
        conv => cbv
        refine Need.mk ⟨by show 0 ≤ at_; omega, by show at_ < W; omega⟩ ?_
        conv => cbv
        refine Need.mk (by show at_ + ((1 : Nat) : Int) ≤ (V2.length : Int); omega) ?_
        conv => cbv
        refine Upd.mk fun D2 hD2 => ?_
        have hD2 : D2 = updL V2 at_.toNat [.int .i64 (.sym y)] := hD2
        have hD2 : D2 = V3 := by rw [hD2, hV2, hV3, updL_ipv, hy, hx]
        subst hD2
        conv => cbv
        refine RetF.mk [.p (.int .i64 (.sym at_)), .p (.int .i64 (.sym 0))] [(0, .mix [.ptr 1 (.lit 0), .sl 4 3 1 (.lit 0) (.sym W)]), (1, .mix [.sl 2 3 1 (.lit 0) (.sym n), .sl 3 120 8 (.lit 0) (.sym n)]), (2, .pure true C2), (3, .pure true B2), (4, .pure true D2)] 5 (Re.at [(0, 0), (1, 1), (2, 2), (3, 3), (4, 4)] []) rfl ⟨at_, 0, R2, _, C2, B2, D2, rfl, rfl, rfl, hC2, hB2, hV3, hres⟩
end Go.Proofs.YtllafhhnciobhaaGreatDoor
