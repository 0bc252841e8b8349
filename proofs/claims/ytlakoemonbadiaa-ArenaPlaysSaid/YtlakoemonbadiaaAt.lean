/-
  Layer 7: the reference's arena: what is allotted, given back, and there.
-/
import Derived.Test.YtlakoemonbadiaaAr
import Derived.Test.YtlakoemonbadiaaAs
namespace Go.Proofs.Ytlakoemonbadiaa
open Go Go.LX
set_option maxRecDepth 100000
set_option linter.unusedVariables false
set_option linter.unusedSimpArgs false

theorem rclassOf_lx (n : Int) : CallF (fun _ => Try.prog) 41 [.p (.int .i64 (.sym n))] [] 0 (fun r h m => ∃ (c : Int) (b : Bool), r = .tup [.p (.int .i64 (.sym c)), .p (.bool b)] ∧ h = [] ∧ m = 0 ∧ OfR n c b) := by
  refine callF_of_body tok Try.func41 (by kernel_rfl) rfl rfl rfl ?_; conv => cbv
  refine LoopF.mk (fun k s => ∃ c : Int, s = ⟨.p (.int .i64 (.sym n)) :: (undefs 3 ++ .p (.int .i64 (.sym c)) :: undefs 13), [], 0⟩ ∧ 0 ≤ c ∧ c ≤ 4 ∧ (1 ≤ c → 4 ≤ n) ∧ (2 ≤ c → 8 ≤ n) ∧ (3 ≤ c → 16 ≤ n) ∧ (4 ≤ c → 32 ≤ n) ∧ k = (4 - c).toNat) 4 _
    (Re.of [] [] (by first | exact Nat.zero_le _ | exact Nat.le_refl _ | decide | (dsimp only; decide)) rfl rfl (by (try (conv => cbv)); (repeat' (first | exact trivial | rfl | exact SEq.mk rfl | (exact SEq.mk (by first | assumption | (symm; assumption))) | (simp only [I.val]; done) | (simp only [I.val]; omega) | omega | assumption | (refine And.intro ?_ ?_) | exact Or.inl rfl | exact Or.inr (by assumption) | exact List.Mem.head _ | exact List.Mem.tail _ (List.Mem.head _) | exact ⟨_, rfl⟩ | exact ⟨_, rfl, Or.inl rfl⟩ | (refine ⟨_, rfl, Or.inr ?_⟩; (try (conv => cbv))) | (simp only [I.val] at *; first | omega | (subst_vars; rfl) | simp_all) | (refine Or.inr ?_; (try (conv => cbv)))))) (by (try (conv => cbv)); (repeat' (first | exact trivial | rfl | exact SEq.mk rfl | (exact SEq.mk (by first | assumption | (symm; assumption))) | (simp only [I.val]; done) | (simp only [I.val]; omega) | omega | assumption | (refine And.intro ?_ ?_) | exact Or.inl rfl | exact Or.inr (by assumption) | exact List.Mem.head _ | exact List.Mem.tail _ (List.Mem.head _) | exact ⟨_, rfl⟩ | exact ⟨_, rfl, Or.inl rfl⟩ | (refine ⟨_, rfl, Or.inr ?_⟩; (try (conv => cbv))) | (simp only [I.val] at *; first | omega | (subst_vars; rfl) | simp_all) | (refine Or.inr ?_; (try (conv => cbv))))))) ⟨0, rfl, by omega, by omega, by omega, by omega, by omega, by omega, by omega⟩ ?_
  rintro k s ⟨c, rfl, h0, h4, q1, q2, q3, q4, hk⟩
  conv => cbv
  refine Br.mk (fun g => ?_) (fun g => ?_)
  case refine_2 =>
    have g : ¬ c < 4 := g
    have q : OfR n 0 false := .no (by omega)
    conv => cbv
    refine RetF.mk [.p (.int .i64 (.sym 0)), .p (.bool false)] [] 0 (Re.of [] [] (by first | exact Nat.zero_le _ | exact Nat.le_refl _ | decide | (dsimp only; decide)) rfl rfl (by (try (conv => cbv)); (repeat' (first | exact trivial | rfl | exact SEq.mk rfl | (exact SEq.mk (by first | assumption | (symm; assumption))) | (simp only [I.val]; done) | (simp only [I.val]; omega) | omega | assumption | (refine And.intro ?_ ?_) | exact Or.inl rfl | exact Or.inr (by assumption) | exact List.Mem.head _ | exact List.Mem.tail _ (List.Mem.head _) | exact ⟨_, rfl⟩ | exact ⟨_, rfl, Or.inl rfl⟩ | (refine ⟨_, rfl, Or.inr ?_⟩; (try (conv => cbv))) | (simp only [I.val] at *; first | omega | (subst_vars; rfl) | simp_all) | (refine Or.inr ?_; (try (conv => cbv)))))) (by (try (conv => cbv)); (repeat' (first | exact trivial | rfl | exact SEq.mk rfl | (exact SEq.mk (by first | assumption | (symm; assumption))) | (simp only [I.val]; done) | (simp only [I.val]; omega) | omega | assumption | (refine And.intro ?_ ?_) | exact Or.inl rfl | exact Or.inr (by assumption) | exact List.Mem.head _ | exact List.Mem.tail _ (List.Mem.head _) | exact ⟨_, rfl⟩ | exact ⟨_, rfl, Or.inl rfl⟩ | (refine ⟨_, rfl, Or.inr ?_⟩; (try (conv => cbv))) | (simp only [I.val] at *; first | omega | (subst_vars; rfl) | simp_all) | (refine Or.inr ?_; (try (conv => cbv))))))) rfl ⟨0, false, rfl, rfl, rfl, q⟩
  have g : c < 4 := g
  conv => cbv
  refine Br.mk (fun g2 => ?_) (fun g2 => ?_)
  case refine_2 =>
    have g2 : ¬ 0 ≤ n := g2
    have q : OfR n 0 false := .no (by omega)
    conv => cbv
    refine RetF.mk [.p (.int .i64 (.sym 0)), .p (.bool false)] [] 0 (Re.of [] [] (by first | exact Nat.zero_le _ | exact Nat.le_refl _ | decide | (dsimp only; decide)) rfl rfl (by (try (conv => cbv)); (repeat' (first | exact trivial | rfl | exact SEq.mk rfl | (exact SEq.mk (by first | assumption | (symm; assumption))) | (simp only [I.val]; done) | (simp only [I.val]; omega) | omega | assumption | (refine And.intro ?_ ?_) | exact Or.inl rfl | exact Or.inr (by assumption) | exact List.Mem.head _ | exact List.Mem.tail _ (List.Mem.head _) | exact ⟨_, rfl⟩ | exact ⟨_, rfl, Or.inl rfl⟩ | (refine ⟨_, rfl, Or.inr ?_⟩; (try (conv => cbv))) | (simp only [I.val] at *; first | omega | (subst_vars; rfl) | simp_all) | (refine Or.inr ?_; (try (conv => cbv)))))) (by (try (conv => cbv)); (repeat' (first | exact trivial | rfl | exact SEq.mk rfl | (exact SEq.mk (by first | assumption | (symm; assumption))) | (simp only [I.val]; done) | (simp only [I.val]; omega) | omega | assumption | (refine And.intro ?_ ?_) | exact Or.inl rfl | exact Or.inr (by assumption) | exact List.Mem.head _ | exact List.Mem.tail _ (List.Mem.head _) | exact ⟨_, rfl⟩ | exact ⟨_, rfl, Or.inl rfl⟩ | (refine ⟨_, rfl, Or.inr ?_⟩; (try (conv => cbv))) | (simp only [I.val] at *; first | omega | (subst_vars; rfl) | simp_all) | (refine Or.inr ?_; (try (conv => cbv))))))) rfl ⟨0, false, rfl, rfl, rfl, q⟩
  have g2 : 0 ≤ n := g2
  obtain ⟨k', rfl⟩ : ∃ k', k = k' + 1 := ⟨k - 1, by omega⟩
  obtain ⟨w, hw⟩ : ∃ w, w = wordsOf c := ⟨_, rfl⟩
  have hw4 : c = 0 ∧ w = 4 ∨ c = 1 ∧ w = 8 ∨ c = 2 ∧ w = 16 ∨ c = 3 ∧ w = 32 := by
    have : c = 0 ∨ c = 1 ∨ c = 2 ∨ c = 3 := by omega
    rcases this with e | e | e | e <;> (rw [e] at hw; rw [hw, e]; decide)
  conv => cbv
  refine callF_frame (refWordsA_lx c w hw) [] rfl trivial rfl rfl (fun r h' n' ⟨e1, e2, e3⟩ => ?_)
  subst e1 e2 e3
  conv => cbv
  refine Br.mk (fun g3 => ?_) (fun g3 => ?_)
  · have g3 : n < w := g3
    have hc : c = ofN n := by
      unfold ofN
      rcases hw4 with ⟨e1, e2⟩ | ⟨e1, e2⟩ | ⟨e1, e2⟩ | ⟨e1, e2⟩
      · rw [if_pos (by omega)]; exact e1
      · rw [if_neg (by omega), if_pos (by omega)]; exact e1
      · rw [if_neg (by omega), if_neg (by omega), if_pos (by omega)]; exact e1
      · rw [if_neg (by omega), if_neg (by omega), if_neg (by omega)]; exact e1
    have qq : OfR n c true := .yes c hc (by omega)
    conv => cbv
    refine RetF.mk [.p (.int .i64 (.sym c)), .p (.bool true)] [] 0 (Re.of [] [] (by first | exact Nat.zero_le _ | exact Nat.le_refl _ | decide | (dsimp only; decide)) rfl rfl (by (try (conv => cbv)); (repeat' (first | exact trivial | rfl | exact SEq.mk rfl | (exact SEq.mk (by first | assumption | (symm; assumption))) | (simp only [I.val]; done) | (simp only [I.val]; omega) | omega | assumption | (refine And.intro ?_ ?_) | exact Or.inl rfl | exact Or.inr (by assumption) | exact List.Mem.head _ | exact List.Mem.tail _ (List.Mem.head _) | exact ⟨_, rfl⟩ | exact ⟨_, rfl, Or.inl rfl⟩ | (refine ⟨_, rfl, Or.inr ?_⟩; (try (conv => cbv))) | (simp only [I.val] at *; first | omega | (subst_vars; rfl) | simp_all) | (refine Or.inr ?_; (try (conv => cbv)))))) (by (try (conv => cbv)); (repeat' (first | exact trivial | rfl | exact SEq.mk rfl | (exact SEq.mk (by first | assumption | (symm; assumption))) | (simp only [I.val]; done) | (simp only [I.val]; omega) | omega | assumption | (refine And.intro ?_ ?_) | exact Or.inl rfl | exact Or.inr (by assumption) | exact List.Mem.head _ | exact List.Mem.tail _ (List.Mem.head _) | exact ⟨_, rfl⟩ | exact ⟨_, rfl, Or.inl rfl⟩ | (refine ⟨_, rfl, Or.inr ?_⟩; (try (conv => cbv))) | (simp only [I.val] at *; first | omega | (subst_vars; rfl) | simp_all) | (refine Or.inr ?_; (try (conv => cbv))))))) rfl ⟨c, true, rfl, rfl, rfl, qq⟩
  · have g3 : ¬ n < w := g3
    conv => cbv
    refine Fit.mk (by show (-9223372036854775808 : Int) ≤ c + 1; omega) (by show c + 1 ≤ 9223372036854775807; omega) fun c2 hc2 => ?_
    have hc2 : c2 = c + 1 := hc2
    conv => cbv
    refine Again.mk k' _ (Nat.lt_succ_self _) (Re.of [] [] (by first | exact Nat.zero_le _ | exact Nat.le_refl _ | decide | (dsimp only; decide)) rfl rfl (by (try (conv => cbv)); (repeat' (first | exact trivial | rfl | exact SEq.mk rfl | (exact SEq.mk (by first | assumption | (symm; assumption))) | (simp only [I.val]; done) | (simp only [I.val]; omega) | omega | assumption | (refine And.intro ?_ ?_) | exact Or.inl rfl | exact Or.inr (by assumption) | exact List.Mem.head _ | exact List.Mem.tail _ (List.Mem.head _) | exact ⟨_, rfl⟩ | exact ⟨_, rfl, Or.inl rfl⟩ | (refine ⟨_, rfl, Or.inr ?_⟩; (try (conv => cbv))) | (simp only [I.val] at *; first | omega | (subst_vars; rfl) | simp_all) | (refine Or.inr ?_; (try (conv => cbv)))))) (by (try (conv => cbv)); (repeat' (first | exact trivial | rfl | exact SEq.mk rfl | (exact SEq.mk (by first | assumption | (symm; assumption))) | (simp only [I.val]; done) | (simp only [I.val]; omega) | omega | assumption | (refine And.intro ?_ ?_) | exact Or.inl rfl | exact Or.inr (by assumption) | exact List.Mem.head _ | exact List.Mem.tail _ (List.Mem.head _) | exact ⟨_, rfl⟩ | exact ⟨_, rfl, Or.inl rfl⟩ | (refine ⟨_, rfl, Or.inr ?_⟩; (try (conv => cbv))) | (simp only [I.val] at *; first | omega | (subst_vars; rfl) | simp_all) | (refine Or.inr ?_; (try (conv => cbv))))))) ⟨c2, rfl, by omega, by omega, by omega, by omega, by omega, by omega, by omega⟩
set_option maxHeartbeats 2000000 in
theorem robjects_lx (m : Int) (R : List Rw) (vs : List Int) (n W : Int) (C B V : List PV) (hC : C = cpv R) (hB : B = bpv R) (hV : V = ipv vs) (hn : n = R.length) (hR : R.length ≤ 1000) (hA : AOk R vs) (hW : W = 32 * n) (hm : m = objCount R) : CallF (fun _ => Try.prog) 10 [.ptr 0 (.lit 0)] [(0, .mix [.ptr 1 (.lit 0), .sl 4 3 1 (.lit 0) (.sym W)]), (1, .mix [.sl 2 3 1 (.lit 0) (.sym n), .sl 3 70 8 (.lit 0) (.sym n)]), (2, .pure true C), (3, .pure true B), (4, .pure true V)] 5
    (fun r h n' => ∃ O : List PV, r = .sl 5 3 1 (.lit 0) (.sym m) ∧ h = [(0, .mix [.ptr 1 (.lit 0), .sl 4 3 1 (.lit 0) (.sym W)]), (1, .mix [.sl 2 3 1 (.lit 0) (.sym n), .sl 3 70 8 (.lit 0) (.sym n)]), (2, .pure true C), (3, .pure true B), (4, .pure true V), (5, .pure true O)] ∧ n' = 6 ∧ O = ipv (objsTo R R.length)) := by
  have hlen := hA.len
  obtain ⟨gl, hg⟩ : ∃ gl : List Int → Int, ∀ l, gl l = l.length := ⟨_, fun _ => rfl⟩
  have g0 : gl [] = 0 := by rw [hg]; rfl
  have P0 : (∀ x, x ∈ ([] : List Int) ↔ IsObj R x ∧ x < 0) := fun x => ⟨fun h => (by cases h), fun ⟨h, h2⟩ => by have := obj_in hA.rows h; omega⟩
  refine callF_of_body tok Try.func10 (by kernel_rfl) rfl rfl rfl ?_; conv => cbv
  refine LoopF.mk (fun k s => ∃ (a j : Int) (O : List PV) (l : List Int), s = ⟨.ptr 0 (.lit 0) :: (undefs 2 ++ .sl 5 3 1 (.lit 0) (.sym j) :: .p (.int .i64 (.sym a)) :: undefs 17), [(0, .mix [.ptr 1 (.lit 0), .sl 4 3 1 (.lit 0) (.sym W)]), (1, .mix [.sl 2 3 1 (.lit 0) (.sym n), .sl 3 70 8 (.lit 0) (.sym n)]), (2, .pure true C), (3, .pure true B), (4, .pure true V), (5, .pure true O)], 6⟩ ∧ O = ipv l ∧ j = gl l ∧ l.Pairwise (· < ·) ∧ (∀ x, x ∈ l ↔ IsObj R x ∧ x < a) ∧ 0 ≤ a ∧ a ≤ W ∧ 0 ≤ j ∧ j ≤ a ∧ k = (W - a).toNat) W.toNat _
    (Re.of [(0, 0), (1, 1), (2, 2), (3, 3), (4, 4)] [5] (by first | exact Nat.zero_le _ | exact Nat.le_refl _ | decide | (dsimp only; decide)) rfl rfl (by (try (conv => cbv)); (repeat' (first | exact trivial | rfl | exact SEq.mk rfl | (exact SEq.mk (by first | assumption | (symm; assumption))) | (simp only [I.val]; done) | (simp only [I.val]; omega) | omega | assumption | (refine And.intro ?_ ?_) | exact Or.inl rfl | exact Or.inr (by assumption) | exact List.Mem.head _ | exact List.Mem.tail _ (List.Mem.head _) | exact ⟨_, rfl⟩ | exact ⟨_, rfl, Or.inl rfl⟩ | (refine ⟨_, rfl, Or.inr ?_⟩; (try (conv => cbv))) | (simp only [I.val] at *; first | omega | (subst_vars; rfl) | simp_all) | (refine Or.inr ?_; (try (conv => cbv)))))) (by (try (conv => cbv)); (repeat' (first | exact trivial | rfl | exact SEq.mk rfl | (exact SEq.mk (by first | assumption | (symm; assumption))) | (simp only [I.val]; done) | (simp only [I.val]; omega) | omega | assumption | (refine And.intro ?_ ?_) | exact Or.inl rfl | exact Or.inr (by assumption) | exact List.Mem.head _ | exact List.Mem.tail _ (List.Mem.head _) | exact ⟨_, rfl⟩ | exact ⟨_, rfl, Or.inl rfl⟩ | (refine ⟨_, rfl, Or.inr ?_⟩; (try (conv => cbv))) | (simp only [I.val] at *; first | omega | (subst_vars; rfl) | simp_all) | (refine Or.inr ?_; (try (conv => cbv))))))) ⟨0, 0, [], [], rfl, rfl, g0.symm, .nil, P0, by omega, by omega, by omega, by omega, by omega⟩ ?_
  clear P0 g0
  rintro k s ⟨a, j, O, l, rfl, hO, hj, hasc, hmem, ha0, ha1, hj0, hj1, hk⟩
  conv => cbv
  refine Br.mk (fun ga => ?_) (fun ga => ?_)
  · have ga : a < W := ga
    obtain ⟨k', rfl⟩ : ∃ k', k = k' + 1 := ⟨k - 1, by omega⟩
    conv => cbv
    refine callF_frame (ris_lx R vs n a W C B V hC hB hV hn hR hA hW) [(0, 0), (1, 1), (2, 2), (3, 3), (4, 4)] rfl (by simp [hmapOk, nget, hget, renB, okB, renV, renVs, rn, okVs, okV]) rfl rfl (fun r h' n' hrr => ?_)
    obtain ⟨b, e1, e2, e3, hb⟩ := hrr
    subst e1 e2 e3
    cases b with
    | false =>
      have hno : ¬ IsObj R a := fun h => by cases hb.2 h
      have hm2 : ∀ x, x ∈ l ↔ IsObj R x ∧ x < a + 1 := fun x => by
        rw [hmem x]
        constructor
        · rintro ⟨h1, h2⟩; exact ⟨h1, by omega⟩
        · rintro ⟨h1, h2⟩
          refine ⟨h1, ?_⟩
          have : x ≠ a := fun e => hno (e ▸ h1)
          omega
      conv => cbv
      refine Fit.mk (by show (-9223372036854775808 : Int) ≤ a + 1; omega) (by show a + 1 ≤ 9223372036854775807; omega) fun a2 ha2 => ?_
      have ha2 : a2 = a + 1 := ha2
      rw [← ha2] at hm2
      conv => cbv
      refine Again.mk k' _ (Nat.lt_succ_self _) (Re.of [(0, 0), (1, 1), (2, 2), (3, 3), (4, 4), (5, 5)] [] (by first | exact Nat.zero_le _ | exact Nat.le_refl _ | decide | (dsimp only; decide)) rfl rfl (by (try (conv => cbv)); (repeat' (first | exact trivial | rfl | exact SEq.mk rfl | (exact SEq.mk (by first | assumption | (symm; assumption))) | (simp only [I.val]; done) | (simp only [I.val]; omega) | omega | assumption | (refine And.intro ?_ ?_) | exact Or.inl rfl | exact Or.inr (by assumption) | exact List.Mem.head _ | exact List.Mem.tail _ (List.Mem.head _) | exact ⟨_, rfl⟩ | exact ⟨_, rfl, Or.inl rfl⟩ | (refine ⟨_, rfl, Or.inr ?_⟩; (try (conv => cbv))) | (simp only [I.val] at *; first | omega | (subst_vars; rfl) | simp_all) | (refine Or.inr ?_; (try (conv => cbv)))))) (by (try (conv => cbv)); (repeat' (first | exact trivial | rfl | exact SEq.mk rfl | (exact SEq.mk (by first | assumption | (symm; assumption))) | (simp only [I.val]; done) | (simp only [I.val]; omega) | omega | assumption | (refine And.intro ?_ ?_) | exact Or.inl rfl | exact Or.inr (by assumption) | exact List.Mem.head _ | exact List.Mem.tail _ (List.Mem.head _) | exact ⟨_, rfl⟩ | exact ⟨_, rfl, Or.inl rfl⟩ | (refine ⟨_, rfl, Or.inr ?_⟩; (try (conv => cbv))) | (simp only [I.val] at *; first | omega | (subst_vars; rfl) | simp_all) | (refine Or.inr ?_; (try (conv => cbv))))))) ⟨a2, j, O, l, rfl, hO, hj, hasc, hm2, by omega, by omega, by omega, by omega, by omega⟩
    | true =>
      have hobj := hb.1 rfl
      have hm2 : ∀ x, x ∈ l ++ [a] ↔ IsObj R x ∧ x < a + 1 := fun x => by
        rw [List.mem_append, hmem x, List.mem_singleton]
        constructor
        · rintro (⟨h1, h2⟩ | rfl)
          · exact ⟨h1, by omega⟩
          · exact ⟨hobj, by omega⟩
        · rintro ⟨h1, h2⟩
          by_cases e : x = a
          · exact .inr e
          · exact .inl ⟨h1, by omega⟩
      have hasc2 : (l ++ [a]).Pairwise (· < ·) := List.pairwise_append.2 ⟨hasc, List.pairwise_singleton _ _, fun x hx y hy => by
        have := (hmem x).1 hx
        rw [List.mem_singleton.1 hy]; exact this.2⟩
      have hol : (O.length : Int) = j := by rw [hO, ipv_length, hj, hg]
      conv => cbv
      refine Room.new rfl ?_
      conv => cbv
      refine Room.new ⟨?_, ?_, ?_⟩ ?_
      · show (O.length : Int) = j * 1; omega
      · show (j + 1) * 8 ≤ 140737488355328; omega
      · show j + 1 ≤ 9223372036854775807; omega
      conv => cbv
      refine Upd.mk fun O3 hO3 => ?_
      have hO3 : O3 = O ++ [.int .i64 (.sym a)] := hO3
      have hO3 : O3 = ipv (l ++ [a]) := by rw [hO3, hO, ← ipv_app]; rfl
      conv => cbv
      refine Sum.mk fun j2 hj2 => ?_
      have hj2 : j2 = j + 1 := hj2
      have hj3 : j2 = gl (l ++ [a]) := by rw [hj2, hj, hg, hg, List.length_append]; rfl
      conv => cbv
      refine Fit.mk (by show (-9223372036854775808 : Int) ≤ a + 1; omega) (by show a + 1 ≤ 9223372036854775807; omega) fun a2 ha2 => ?_
      have ha2 : a2 = a + 1 := ha2
      rw [← ha2] at hm2
      conv => cbv
      refine Again.mk k' _ (Nat.lt_succ_self _) (Re.of [(0, 0), (1, 1), (2, 2), (3, 3), (4, 4), (7, 5)] [] (by first | exact Nat.zero_le _ | exact Nat.le_refl _ | decide | (dsimp only; decide)) rfl rfl (by (try (conv => cbv)); (repeat' (first | exact trivial | rfl | exact SEq.mk rfl | (exact SEq.mk (by first | assumption | (symm; assumption))) | (simp only [I.val]; done) | (simp only [I.val]; omega) | omega | assumption | (refine And.intro ?_ ?_) | exact Or.inl rfl | exact Or.inr (by assumption) | exact List.Mem.head _ | exact List.Mem.tail _ (List.Mem.head _) | exact ⟨_, rfl⟩ | exact ⟨_, rfl, Or.inl rfl⟩ | (refine ⟨_, rfl, Or.inr ?_⟩; (try (conv => cbv))) | (simp only [I.val] at *; first | omega | (subst_vars; rfl) | simp_all) | (refine Or.inr ?_; (try (conv => cbv)))))) (by (try (conv => cbv)); (repeat' (first | exact trivial | rfl | exact SEq.mk rfl | (exact SEq.mk (by first | assumption | (symm; assumption))) | (simp only [I.val]; done) | (simp only [I.val]; omega) | omega | assumption | (refine And.intro ?_ ?_) | exact Or.inl rfl | exact Or.inr (by assumption) | exact List.Mem.head _ | exact List.Mem.tail _ (List.Mem.head _) | exact ⟨_, rfl⟩ | exact ⟨_, rfl, Or.inl rfl⟩ | (refine ⟨_, rfl, Or.inr ?_⟩; (try (conv => cbv))) | (simp only [I.val] at *; first | omega | (subst_vars; rfl) | simp_all) | (refine Or.inr ?_; (try (conv => cbv))))))) ⟨a2, j2, O3, l ++ [a], rfl, hO3, hj3, hasc2, hm2, by omega, by omega, by omega, by omega, by omega⟩
  · have ga : ¬ a < W := ga
    have hl : l = objsTo R R.length := objs_is hA.rows hasc fun x => by
      rw [hmem x]
      exact ⟨fun h => h.1, fun h => ⟨h, by have := obj_in hA.rows h; omega⟩⟩
    have hjm : j = m := by rw [hj, hg, hl, objs_length hA.rows, hm]
    rw [hl] at hO
    conv => cbv
    refine RetF.mk [.sl 5 3 1 (.lit 0) (.sym m)] [(0, .mix [.ptr 1 (.lit 0), .sl 4 3 1 (.lit 0) (.sym W)]), (1, .mix [.sl 2 3 1 (.lit 0) (.sym n), .sl 3 70 8 (.lit 0) (.sym n)]), (2, .pure true C), (3, .pure true B), (4, .pure true V), (5, .pure true O)] 6 (Re.of [(0, 0), (1, 1), (2, 2), (3, 3), (4, 4), (5, 5)] [] (by first | exact Nat.zero_le _ | exact Nat.le_refl _ | decide | (dsimp only; decide)) rfl rfl (by (try (conv => cbv)); (repeat' (first | exact trivial | rfl | exact SEq.mk rfl | (exact SEq.mk (by first | assumption | (symm; assumption))) | (simp only [I.val]; done) | (simp only [I.val]; omega) | omega | assumption | (refine And.intro ?_ ?_) | exact Or.inl rfl | exact Or.inr (by assumption) | exact List.Mem.head _ | exact List.Mem.tail _ (List.Mem.head _) | exact ⟨_, rfl⟩ | exact ⟨_, rfl, Or.inl rfl⟩ | (refine ⟨_, rfl, Or.inr ?_⟩; (try (conv => cbv))) | (simp only [I.val] at *; first | omega | (subst_vars; rfl) | simp_all) | (refine Or.inr ?_; (try (conv => cbv)))))) (by (try (conv => cbv)); (repeat' (first | exact trivial | rfl | exact SEq.mk rfl | (exact SEq.mk (by first | assumption | (symm; assumption))) | (simp only [I.val]; done) | (simp only [I.val]; omega) | omega | assumption | (refine And.intro ?_ ?_) | exact Or.inl rfl | exact Or.inr (by assumption) | exact List.Mem.head _ | exact List.Mem.tail _ (List.Mem.head _) | exact ⟨_, rfl⟩ | exact ⟨_, rfl, Or.inl rfl⟩ | (refine ⟨_, rfl, Or.inr ?_⟩; (try (conv => cbv))) | (simp only [I.val] at *; first | omega | (subst_vars; rfl) | simp_all) | (refine Or.inr ?_; (try (conv => cbv))))))) rfl ⟨O, rfl, rfl, rfl, hO⟩
end Go.Proofs.Ytlakoemonbadiaa
