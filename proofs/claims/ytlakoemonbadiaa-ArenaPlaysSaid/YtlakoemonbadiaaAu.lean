/-
  Layer 7: the reference's arena: what is given back, and a new one.
-/
import Derived.Test.YtlakoemonbadiaaAr
import Derived.Test.YtlakoemonbadiaaAs
namespace Go.Proofs.Ytlakoemonbadiaa
open Go Go.LX
set_option maxRecDepth 100000
set_option linter.unusedVariables false
set_option linter.unusedSimpArgs false

theorem obj_at {R : List Rw} (hR : RowsOk R) {a : Int} (h : IsObj R a) : ∃ (s : Nat) (e : Rw), R[(a / 32).toNat]? = some e ∧ clsOf e = e.1 ∧ wordsOf e.1 ≠ 0 ∧ e.2[s]? = some true ∧ a = 32 * (a / 32) + s * wordsOf e.1 := by
  obtain ⟨q, s, e, he, hs, hat⟩ := h
  have hne : e.2 ≠ [] := by intro e0; rw [e0] at hs; simp at hs
  obtain ⟨g1, g2, _⟩ := (hR _ (List.mem_of_getElem? he)).2 hne
  have hsl := (List.getElem?_eq_some_iff.1 hs).1
  have k2 := slots_words g1 (s := s) (by omega)
  have k3 : 0 ≤ (s : Int) * wordsOf e.1 := Int.mul_nonneg (by omega) (wordsOf_bd _).1
  have w1 := wordsOf_cases e.1
  have hq : a / 32 = q := by omega
  refine ⟨s, e, by rw [hq]; exact he, ?_, g1, hs, by rw [hq]; exact hat⟩
  unfold clsOf
  first | rw [if_neg hne] | (split <;> simp_all)
set_option maxHeartbeats 2000000 in
theorem rfreeA_lx (R : List Rw) (vs : List Int) (n at_ W : Int) (C B V : List PV) (hC : C = cpv R) (hB : B = bpv R) (hV : V = ipv vs) (hn : n = R.length) (hR : R.length ≤ 1000) (hA : AOk R vs) (hW : W = 32 * n) : CallF (fun _ => Try.prog) 12 [.ptr 0 (.lit 0), .p (.int .i64 (.sym at_))] [(0, .mix [.ptr 1 (.lit 0), .sl 4 3 1 (.lit 0) (.sym W)]), (1, .mix [.sl 2 3 1 (.lit 0) (.sym n), .sl 3 70 8 (.lit 0) (.sym n)]), (2, .pure true C), (3, .pure true B), (4, .pure true V)] 5
    (fun r h n' => ∃ (e : Int) (R' : List Rw) (C' B' : List PV), r = .p (.int .i64 (.sym e)) ∧ h = [(0, .mix [.ptr 1 (.lit 0), .sl 4 3 1 (.lit 0) (.sym W)]), (1, .mix [.sl 2 3 1 (.lit 0) (.sym n), .sl 3 70 8 (.lit 0) (.sym n)]), (2, .pure true C'), (3, .pure true B'), (4, .pure true V)] ∧ n' = 5 ∧ C' = cpv R' ∧ B' = bpv R' ∧ Freet R at_ e R') := by
  have hlen := hA.len
  refine callF_of_body tok Try.func12 (by kernel_rfl) rfl rfl rfl ?_; conv => cbv
  refine callF_frame (ris_lx R vs n at_ W C B V hC hB hV hn hR hA hW) [(0, 0), (1, 1), (2, 2), (3, 3), (4, 4)] rfl (by simp [hmapOk, nget, hget, renB, okB, renV, renVs, rn, okVs, okV]) rfl rfl (fun r h' n' hrr => ?_)
  obtain ⟨b, e1, e2, e3, hb⟩ := hrr
  subst e1 e2 e3
  cases b with
  | false =>
    have hno : ¬ IsObj R at_ := fun h => by cases hb.2 h
    conv => cbv
    refine RetF.mk [.p (.int .i64 (.sym 8))] [(0, .mix [.ptr 1 (.lit 0), .sl 4 3 1 (.lit 0) (.sym W)]), (1, .mix [.sl 2 3 1 (.lit 0) (.sym n), .sl 3 70 8 (.lit 0) (.sym n)]), (2, .pure true C), (3, .pure true B), (4, .pure true V)] 5 (Re.of [(0, 0), (1, 1), (2, 2), (3, 3), (4, 4)] [] (by first | exact Nat.zero_le _ | exact Nat.le_refl _ | decide | (dsimp only; decide)) rfl rfl (by (try (conv => cbv)); (repeat' (first | exact trivial | rfl | exact SEq.mk rfl | (exact SEq.mk (by first | assumption | (symm; assumption))) | (simp only [I.val]; done) | (simp only [I.val]; omega) | omega | assumption | (refine And.intro ?_ ?_) | exact Or.inl rfl | exact Or.inr (by assumption) | exact List.Mem.head _ | exact List.Mem.tail _ (List.Mem.head _) | exact ⟨_, rfl⟩ | exact ⟨_, rfl, Or.inl rfl⟩ | (refine ⟨_, rfl, Or.inr ?_⟩; (try (conv => cbv))) | (simp only [I.val] at *; first | omega | (subst_vars; rfl) | simp_all) | (refine Or.inr ?_; (try (conv => cbv)))))) (by (try (conv => cbv)); (repeat' (first | exact trivial | rfl | exact SEq.mk rfl | (exact SEq.mk (by first | assumption | (symm; assumption))) | (simp only [I.val]; done) | (simp only [I.val]; omega) | omega | assumption | (refine And.intro ?_ ?_) | exact Or.inl rfl | exact Or.inr (by assumption) | exact List.Mem.head _ | exact List.Mem.tail _ (List.Mem.head _) | exact ⟨_, rfl⟩ | exact ⟨_, rfl, Or.inl rfl⟩ | (refine ⟨_, rfl, Or.inr ?_⟩; (try (conv => cbv))) | (simp only [I.val] at *; first | omega | (subst_vars; rfl) | simp_all) | (refine Or.inr ?_; (try (conv => cbv))))))) rfl ⟨8, R, C, B, rfl, rfl, rfl, hC, hB, .none hno⟩
  | true =>
    have hobj := hb.1 rfl
    conv => cbv
    have hin := obj_in hA.rows hobj
    have ht : Int.tdiv at_ 32 = at_ / 32 := Int.tdiv_eq_ediv_of_nonneg (by omega)
    refine Fit.mk (by show (-9223372036854775808 : Int) ≤ Int.tdiv at_ 32; omega) (by show Int.tdiv at_ 32 ≤ 9223372036854775807; omega) fun q hq => ?_
    have hq : q = at_ / 32 := (show q = Int.tdiv at_ 32 from hq).trans ht
    clear ht
    conv => cbv
    obtain ⟨sn, e, he, hce, hw0, hs1, hat⟩ := obj_at hA.rows hobj
    rw [← hq] at he hat
    obtain ⟨cv, hcv⟩ : ∃ cv, cv = clsOf e := ⟨_, rfl⟩
    obtain ⟨w, hw⟩ : ∃ w, w = wordsOf cv := ⟨_, rfl⟩
    have hcc := cpv_get he
    rw [← hC, ← hcv] at hcc
    have hwe : wordsOf e.1 = w := by rw [hw, hcv, hce]
    rw [hwe] at hw0 hat
    have hw5 := wordsOf_cases cv
    rw [← hw] at hw5
    have hmul0 : 0 ≤ (sn : Int) * w := Int.mul_nonneg (by omega) (by omega)
    have hdiv : (sn : Int) * w / w = sn := Int.mul_ediv_cancel _ hw0
    obtain ⟨sw, hsw⟩ : ∃ sw, sw = (sn : Int) * w := ⟨_, rfl⟩
    rw [← hsw] at hmul0 hdiv hat
    obtain ⟨si, hsi⟩ : ∃ si : Int, si = sn := ⟨_, rfl⟩
    rw [← hsi] at hdiv
    have hsi0 : 0 ≤ si := by omega
    have ht : Int.tdiv sw w = sw / w := Int.tdiv_eq_ediv_of_nonneg (by omega)
    have hle : sw / w ≤ sw := Int.ediv_le_self _ (by omega)
    rw [hdiv] at ht hle
    refine drawn_sound tok (by kernel_rfl) [(17, [6, 5, 4, 3, 2, 1, 0]), (19, [])] [0, 1, 2, 3, 4, 5, 6, 7, 8, 9, 10, 11, 12, 13, 14, 15, 16, 17, 18, 19] (by kernel_rfl) ?_; conv => cbv
    refine Sum.mk fun z hz => ?_
    have hz : z = at_ % 32 := (show z = Int.tmod at_ 32 from hz).trans (Int.tmod_eq_emod_of_nonneg (by omega))
    have hz : z = sw := by omega
    conv => cbv
    refine Need.mk ⟨by show 0 ≤ q; omega, by show q < n; omega⟩ ?_
    conv => cbv
    refine Cell.at q _ hcc (by simp [I.val]) rfl ?_
    conv => cbv
    refine callF_frame (refWordsA_lx cv w hw) [] rfl trivial rfl rfl (fun r h' n' ⟨e1, e2, e3⟩ => ?_)
    subst e1 e2 e3
    conv => cbv
    refine Need.mk (show w ≠ 0 by omega) ?_
    conv => cbv
    have ht3 : Int.tdiv z w = si := by rw [hz]; exact ht
    refine Fit.mk (by show (-9223372036854775808 : Int) ≤ Int.tdiv z w; omega) (by show Int.tdiv z w ≤ 9223372036854775807; omega) fun s0 hs0 => ?_
    have hs0 : s0 = si := (show s0 = Int.tdiv z w from hs0).trans ht3
    conv => cbv
    refine callF_frame (rfree_lx q s0 R n C B hC hB hn hR (rok_of hA.rows)) [(0, 1), (1, 2), (2, 3)] rfl (by simp [hmapOk, nget, hget, renB, okB, renV, renVs, rn, okVs, okV]) rfl rfl (fun r h' n' hrr => ?_)
    obtain ⟨b, R2, C2, B2, e1, e2, e3, hC2, hB2, hF⟩ := hrr
    subst e1 e2 e3
    have hsn : s0.toNat = sn := by omega
    have hFr : Freet R at_ 0 R2 := by
      cases hF with
      | no hno => exact absurd ⟨e, by omega, he, by omega, by rw [hsn]; exact hs1⟩ hno
      | yes e' _ he' _ hs' =>
        rw [he] at he'; cases he'
        exact .ok q.toNat s0.toNat e he hs' (by rw [hwe, hsn, ← hsw, show (q.toNat : Int) = q by omega]; exact hat)
    conv => cbv
    refine RetF.mk [.p (.int .i64 (.sym 0))] [(0, .mix [.ptr 1 (.lit 0), .sl 4 3 1 (.lit 0) (.sym W)]), (1, .mix [.sl 2 3 1 (.lit 0) (.sym n), .sl 3 70 8 (.lit 0) (.sym n)]), (2, .pure true C2), (3, .pure true B2), (4, .pure true V)] 5 (Re.of [(0, 0), (1, 1), (2, 2), (3, 3), (4, 4)] [] (by first | exact Nat.zero_le _ | exact Nat.le_refl _ | decide | (dsimp only; decide)) rfl rfl (by (try (conv => cbv)); (repeat' (first | exact trivial | rfl | exact SEq.mk rfl | (exact SEq.mk (by first | assumption | (symm; assumption))) | (simp only [I.val]; done) | (simp only [I.val]; omega) | omega | assumption | (refine And.intro ?_ ?_) | exact Or.inl rfl | exact Or.inr (by assumption) | exact List.Mem.head _ | exact List.Mem.tail _ (List.Mem.head _) | exact ⟨_, rfl⟩ | exact ⟨_, rfl, Or.inl rfl⟩ | (refine ⟨_, rfl, Or.inr ?_⟩; (try (conv => cbv))) | (simp only [I.val] at *; first | omega | (subst_vars; rfl) | simp_all) | (refine Or.inr ?_; (try (conv => cbv)))))) (by (try (conv => cbv)); (repeat' (first | exact trivial | rfl | exact SEq.mk rfl | (exact SEq.mk (by first | assumption | (symm; assumption))) | (simp only [I.val]; done) | (simp only [I.val]; omega) | omega | assumption | (refine And.intro ?_ ?_) | exact Or.inl rfl | exact Or.inr (by assumption) | exact List.Mem.head _ | exact List.Mem.tail _ (List.Mem.head _) | exact ⟨_, rfl⟩ | exact ⟨_, rfl, Or.inl rfl⟩ | (refine ⟨_, rfl, Or.inr ?_⟩; (try (conv => cbv))) | (simp only [I.val] at *; first | omega | (subst_vars; rfl) | simp_all) | (refine Or.inr ?_; (try (conv => cbv))))))) rfl ⟨0, R2, C2, B2, rfl, rfl, rfl, hC2, hB2, hFr⟩
theorem rnewA_lx (n W : Int) (h2 : 2 ≤ n) (h8 : n ≤ 128) (hW : W = 32 * n) : CallF (fun _ => Try.prog) 8 [.p (.int .i64 (.sym n))] [] 0
    (fun r h m => ∃ C B V : List PV, r = .tup [.ptr 0 (.lit 0), .p (.int .i64 (.lit 0))] ∧ h = [(0, .mix [.ptr 1 (.lit 0), .sl 4 3 1 (.lit 0) (.sym W)]), (1, .mix [.sl 2 3 1 (.lit 0) (.sym n), .sl 3 70 8 (.lit 0) (.sym n)]), (2, .pure true C), (3, .pure true B), (4, .pure true V)] ∧ m = 5 ∧ C = cpv (List.replicate n.toNat (0, [])) ∧ B = bpv (List.replicate n.toNat (0, [])) ∧ V = ipv (List.replicate W.toNat 0)) := by
  refine callF_of_body tok Try.func8 (by kernel_rfl) rfl rfl rfl ?_; conv => cbv
  refine callF_frame (rnew_lx n ⟨h2, h8⟩) [] rfl trivial rfl rfl (fun r h' n' hrr => ?_)
  obtain ⟨C, B, e1, e2, e3, hC, hB⟩ := hrr
  subst e1 e2 e3
  obtain ⟨V, hV⟩ : ∃ V, V = ipv (List.replicate W.toNat 0) := ⟨_, rfl⟩
  conv => cbv
  refine Fit.mk (by show (-9223372036854775808 : Int) ≤ n * 32; omega) (by show n * 32 ≤ 9223372036854775807; omega) fun v hv => ?_
  have hv : v = n * 32 := hv
  have hvW : v = W := by omega
  conv => cbv
  refine Need.mk ⟨by show 0 ≤ v; omega, Int.le_refl _, by show v * 8 ≤ 140737488355328; omega, by show v ≤ 9223372036854775807; omega⟩ ?_
  conv => cbv
  refine Upd.mk fun D0 hD0 => ?_
  have hle : pvles D0 V := by
    have hD0 : D0 = repsP [.int .i64 (.lit 0)] v.toNat := hD0
    rw [hD0, hV, hvW]; exact zero_ipv _
  clear hD0
  unfold pvles at hle
  conv => cbv
  refine RetF.mk [.ptr 0 (.lit 0), .p (.int .i64 (.lit 0))] [(0, .mix [.ptr 1 (.lit 0), .sl 4 3 1 (.lit 0) (.sym W)]), (1, .mix [.sl 2 3 1 (.lit 0) (.sym n), .sl 3 70 8 (.lit 0) (.sym n)]), (2, .pure true C), (3, .pure true B), (4, .pure true V)] 5 (Re.of [(4, 0), (0, 1), (1, 2), (2, 3), (3, 4)] [] (by first | exact Nat.zero_le _ | exact Nat.le_refl _ | decide | (dsimp only; decide)) rfl rfl (by (try (conv => cbv)); (repeat' (first | exact trivial | rfl | exact SEq.mk rfl | (exact SEq.mk (by first | assumption | (symm; assumption))) | (simp only [I.val]; done) | (simp only [I.val]; omega) | omega | assumption | (refine And.intro ?_ ?_) | exact Or.inl rfl | exact Or.inr (by assumption) | exact List.Mem.head _ | exact List.Mem.tail _ (List.Mem.head _) | exact ⟨_, rfl⟩ | exact ⟨_, rfl, Or.inl rfl⟩ | (refine ⟨_, rfl, Or.inr ?_⟩; (try (conv => cbv))) | (simp only [I.val] at *; first | omega | (subst_vars; rfl) | simp_all) | (refine Or.inr ?_; (try (conv => cbv)))))) (by (try (conv => cbv)); (repeat' (first | exact trivial | rfl | exact SEq.mk rfl | (exact SEq.mk (by first | assumption | (symm; assumption))) | (simp only [I.val]; done) | (simp only [I.val]; omega) | omega | assumption | (refine And.intro ?_ ?_) | exact Or.inl rfl | exact Or.inr (by assumption) | exact List.Mem.head _ | exact List.Mem.tail _ (List.Mem.head _) | exact ⟨_, rfl⟩ | exact ⟨_, rfl, Or.inl rfl⟩ | (refine ⟨_, rfl, Or.inr ?_⟩; (try (conv => cbv))) | (simp only [I.val] at *; first | omega | (subst_vars; rfl) | simp_all) | (refine Or.inr ?_; (try (conv => cbv))))))) rfl ⟨C, B, V, rfl, rfl, rfl, hC, hB, hV⟩
end Go.Proofs.Ytlakoemonbadiaa
