/-
  Law 8, GreyOver.
-/
import Derived.Test.YtocliihimbggjaaDoorGd
namespace Go.Proofs.YtocliihimbggjaaDoor
open Go Go.LX
set_option maxRecDepth 100000
set_option linter.unusedVariables false

set_option maxHeartbeats 2000000 in
theorem greyOver_law (n m : Int) (B : List Int) (lb : List PV) (hm : m = B.length) (hb : ∀ (i : Nat) (x : Int), B[i]? = some x → lb[i]? = some (.int .i64 (.sym x))) (hB : ∀ x ∈ B, i64 x) (hml : m ≤ 9223372036854775807) (o : Unit → Obj) (ho : IsPow o) :
    CallF (fun _ => Tryd.prog) 5 [.p (.int .i64 (.sym n)), .p (.vsl (.sym m) true lb)] [(0, .fix 2 o)] 1 (fun r _ _ => r = .p (.bool true)) := by
  refine callF_of_body tok Tryd.func5 (by kernel_rfl) rfl rfl rfl ?_; conv => cbv
  refine Fit.wrap fun x hx => ?_
  have hx : x = IntKind.u64.wrap n := hx
  have hx0 : 0 ≤ x := by rw [hx]; simp [IntKind.wrap, IntKind.bits, IntKind.signed]; omega
  clear hx
  conv => cbv
  refine Sum.mk fun k hk => ?_
  have hk : k = x % 5 := (show k = x.tmod 5 from hk).trans (Int.tmod_eq_emod_of_nonneg hx0)
  conv => cbv
  refine Fit.mk (by show (-9223372036854775808 : Int) ≤ k; omega) (by show k ≤ 9223372036854775807; omega) ?_
  intro k1 hk1
  have hk1 : k1 = k := hk1
  conv => cbv
  refine Fit.mk (by show (-9223372036854775808 : Int) ≤ 9 + k1; omega) (by show 9 + k1 ≤ 9223372036854775807; omega) ?_
  intro N hN
  have hN : N = 9 + k1 := hN
  have hN0 : 9 ≤ N := by omega
  have hN1 : N < 20 := by omega
  clear hN hk1 hk hx0
  conv => cbv
  refine callF_frame greyNew_lx [] rfl trivial rfl rfl (fun r h' n' ⟨z, e1, e2, e3, hz⟩ => ?_)
  subst e1 e2 e3
  conv => cbv
  refine callF_frame (awake08_lx o ho) [(0, 0)] rfl (by simp [hmapOk, nget, hget, renB, okB]) rfl rfl (fun r h' n' ⟨e1, e2, e3⟩ => ?_)
  subst e1 e2 e3
  conv => cbv
  refine LoopF.mk (fun k s => ∃ (i : Int) (c : Nat) (z : ByteArray) (ov : Bool), s = ⟨.p (.int .i64 (.sym N)) :: .p (.vsl (.sym m) true lb) :: .undef :: .undef :: .undef :: .ptr 1 (.lit 0) :: .p (.int .i64 (.sym i)) :: undefs 58, [(0, .fix 2 o), (1, .pure false [.str fun _ => z, .bool ov])], 2⟩ ∧ 0 ≤ i ∧ i ≤ N ∧ c = min i.toNat 8 ∧ z = ⟨(enc (row 0 c)).toArray⟩ ∧ (ov = true ↔ 8 < i) ∧ k = (N - i).toNat) N.toNat _
    (Re.of [(0, 0), (1, 1)] [] (by first | exact Nat.zero_le _ | exact Nat.le_refl _ | decide | (dsimp only; decide)) rfl rfl (by (try (conv => cbv)); (repeat' (first | exact trivial | rfl | exact SEq.mk rfl | (exact SEq.mk (by first | assumption | (symm; assumption))) | (simp only [I.val]; done) | (simp only [I.val]; omega) | omega | assumption | (refine And.intro ?_ ?_) | exact Or.inl rfl | exact Or.inr (by assumption) | exact List.Mem.head _ | exact List.Mem.tail _ (List.Mem.head _) | exact ⟨_, rfl⟩ | exact ⟨_, rfl, Or.inl rfl⟩ | (refine ⟨_, rfl, Or.inr ?_⟩; (try (conv => cbv))) | (simp only [I.val] at *; first | omega | (subst_vars; rfl) | simp_all) | (refine Or.inr ?_; (try (conv => cbv)))))) (by (try (conv => cbv)); (repeat' (first | exact trivial | rfl | exact SEq.mk rfl | (exact SEq.mk (by first | assumption | (symm; assumption))) | (simp only [I.val]; done) | (simp only [I.val]; omega) | omega | assumption | (refine And.intro ?_ ?_) | exact Or.inl rfl | exact Or.inr (by assumption) | exact List.Mem.head _ | exact List.Mem.tail _ (List.Mem.head _) | exact ⟨_, rfl⟩ | exact ⟨_, rfl, Or.inl rfl⟩ | (refine ⟨_, rfl, Or.inr ?_⟩; (try (conv => cbv))) | (simp only [I.val] at *; first | omega | (subst_vars; rfl) | simp_all) | (refine Or.inr ?_; (try (conv => cbv))))))) ⟨0, 0, z, false, rfl, by omega, by omega, rfl, hz, by simp, by omega⟩ ?_
  rintro k s ⟨i, c, z, ov, rfl, hi0, hiN, hc, hz, hov, hk⟩
  have hrl := row_length 0 c
  have hri := row_i64 0 (by omega) (by omega) c (by omega)
  conv => cbv
  refine Br.mk (fun g => ?_) (fun g => ?_)
  · have g : i < N := g
    obtain ⟨k', rfl⟩ : ∃ k', k = k' + 1 := ⟨k - 1, by omega⟩
    conv => cbv
    refine callF_frame (greyPush_lx (row 0 c) i z ov o ho hz hri (by omega) ⟨by omega, by omega⟩) [(0, 0), (1, 1)] rfl (by simp [hmapOk, nget, hget, renB, okB]) rfl rfl (fun r h' n' ⟨b, ov2, z2, A2, e1, e2, e3, hz2, h1, h2⟩ => ?_)
    subst e1 e2 e3
    conv => cbv
    refine Fit.mk (by show (-9223372036854775808 : Int) ≤ i + 1; omega) (by show i + 1 ≤ 9223372036854775807; omega) ?_
    intro i2 hi2
    have hi2 : i2 = i + 1 := hi2
    by_cases h8 : i < 8
    · obtain ⟨_, hA2, rfl⟩ := h1 (by omega)
      have hA3 : A2 = row 0 (c + 1) := by rw [hA2, row]; congr 2; omega
      conv => cbv
      refine Again.mk k' _ (Nat.lt_succ_self _) (Re.of [(0, 0), (1, 1)] [] (by first | exact Nat.zero_le _ | exact Nat.le_refl _ | decide | (dsimp only; decide)) rfl rfl (by (try (conv => cbv)); (repeat' (first | exact trivial | rfl | exact SEq.mk rfl | (exact SEq.mk (by first | assumption | (symm; assumption))) | (simp only [I.val]; done) | (simp only [I.val]; omega) | omega | assumption | (refine And.intro ?_ ?_) | exact Or.inl rfl | exact Or.inr (by assumption) | exact List.Mem.head _ | exact List.Mem.tail _ (List.Mem.head _) | exact ⟨_, rfl⟩ | exact ⟨_, rfl, Or.inl rfl⟩ | (refine ⟨_, rfl, Or.inr ?_⟩; (try (conv => cbv))) | (simp only [I.val] at *; first | omega | (subst_vars; rfl) | simp_all) | (refine Or.inr ?_; (try (conv => cbv)))))) (by (try (conv => cbv)); (repeat' (first | exact trivial | rfl | exact SEq.mk rfl | (exact SEq.mk (by first | assumption | (symm; assumption))) | (simp only [I.val]; done) | (simp only [I.val]; omega) | omega | assumption | (refine And.intro ?_ ?_) | exact Or.inl rfl | exact Or.inr (by assumption) | exact List.Mem.head _ | exact List.Mem.tail _ (List.Mem.head _) | exact ⟨_, rfl⟩ | exact ⟨_, rfl, Or.inl rfl⟩ | (refine ⟨_, rfl, Or.inr ?_⟩; (try (conv => cbv))) | (simp only [I.val] at *; first | omega | (subst_vars; rfl) | simp_all) | (refine Or.inr ?_; (try (conv => cbv))))))) ⟨i2, c + 1, z2, ov2, rfl, by omega, by omega, by omega, by rw [hz2, hA3], ?_, by omega⟩
      rw [hov]; omega
    · obtain ⟨_, hA2, rfl⟩ := h2 (by omega)
      subst hA2
      conv => cbv
      refine Again.mk k' _ (Nat.lt_succ_self _) (Re.of [(0, 0), (1, 1)] [] (by first | exact Nat.zero_le _ | exact Nat.le_refl _ | decide | (dsimp only; decide)) rfl rfl (by (try (conv => cbv)); (repeat' (first | exact trivial | rfl | exact SEq.mk rfl | (exact SEq.mk (by first | assumption | (symm; assumption))) | (simp only [I.val]; done) | (simp only [I.val]; omega) | omega | assumption | (refine And.intro ?_ ?_) | exact Or.inl rfl | exact Or.inr (by assumption) | exact List.Mem.head _ | exact List.Mem.tail _ (List.Mem.head _) | exact ⟨_, rfl⟩ | exact ⟨_, rfl, Or.inl rfl⟩ | (refine ⟨_, rfl, Or.inr ?_⟩; (try (conv => cbv))) | (simp only [I.val] at *; first | omega | (subst_vars; rfl) | simp_all) | (refine Or.inr ?_; (try (conv => cbv)))))) (by (try (conv => cbv)); (repeat' (first | exact trivial | rfl | exact SEq.mk rfl | (exact SEq.mk (by first | assumption | (symm; assumption))) | (simp only [I.val]; done) | (simp only [I.val]; omega) | omega | assumption | (refine And.intro ?_ ?_) | exact Or.inl rfl | exact Or.inr (by assumption) | exact List.Mem.head _ | exact List.Mem.tail _ (List.Mem.head _) | exact ⟨_, rfl⟩ | exact ⟨_, rfl, Or.inl rfl⟩ | (refine ⟨_, rfl, Or.inr ?_⟩; (try (conv => cbv))) | (simp only [I.val] at *; first | omega | (subst_vars; rfl) | simp_all) | (refine Or.inr ?_; (try (conv => cbv))))))) ⟨i2, c, z2, true, rfl, by omega, by omega, by omega, hz2, ?_, by omega⟩
      simp; omega
  · have g : ¬ i < N := g
    have hov1 : ov = true := hov.2 (by omega)
    subst hov1
    conv => cbv
    clear hov hk hi0 hiN
    refine LoopF.mk (fun k s => ∃ (j : Int) (A : List Int) (z : ByteArray), s = ⟨.undef :: .p (.vsl (.sym m) true lb) :: .undef :: .undef :: .undef :: .ptr 1 (.lit 0) :: .undef :: .p (.int .i64 (.sym j)) :: undefs 57, [(0, .fix 2 o), (1, .pure false [.str fun _ => z, .bool true])], 2⟩ ∧ 0 ≤ j ∧ j ≤ 30 ∧ (∀ x ∈ A, i64 x) ∧ A.length ≤ 8 ∧ z = ⟨(enc A).toArray⟩ ∧ k = (30 - j).toNat) 30 _
      (Re.of [(0, 0), (1, 1)] [] (by first | exact Nat.zero_le _ | exact Nat.le_refl _ | decide | (dsimp only; decide)) rfl rfl (by (try (conv => cbv)); (repeat' (first | exact trivial | rfl | exact SEq.mk rfl | (exact SEq.mk (by first | assumption | (symm; assumption))) | (simp only [I.val]; done) | (simp only [I.val]; omega) | omega | assumption | (refine And.intro ?_ ?_) | exact Or.inl rfl | exact Or.inr (by assumption) | exact List.Mem.head _ | exact List.Mem.tail _ (List.Mem.head _) | exact ⟨_, rfl⟩ | exact ⟨_, rfl, Or.inl rfl⟩ | (refine ⟨_, rfl, Or.inr ?_⟩; (try (conv => cbv))) | (simp only [I.val] at *; first | omega | (subst_vars; rfl) | simp_all) | (refine Or.inr ?_; (try (conv => cbv)))))) (by (try (conv => cbv)); (repeat' (first | exact trivial | rfl | exact SEq.mk rfl | (exact SEq.mk (by first | assumption | (symm; assumption))) | (simp only [I.val]; done) | (simp only [I.val]; omega) | omega | assumption | (refine And.intro ?_ ?_) | exact Or.inl rfl | exact Or.inr (by assumption) | exact List.Mem.head _ | exact List.Mem.tail _ (List.Mem.head _) | exact ⟨_, rfl⟩ | exact ⟨_, rfl, Or.inl rfl⟩ | (refine ⟨_, rfl, Or.inr ?_⟩; (try (conv => cbv))) | (simp only [I.val] at *; first | omega | (subst_vars; rfl) | simp_all) | (refine Or.inr ?_; (try (conv => cbv))))))) ⟨0, row 0 c, z, rfl, by omega, by omega, hri, by omega, hz, by omega⟩ ?_
    rintro k2 s2 ⟨j, A, z3, rfl, hj0, hj1, hA, hA8, hz3, hk2⟩
    conv => cbv
    refine Br.mk (fun g1 => ?_) (fun g1 => ?_)
    · have g1 : j < m := g1
      conv => cbv
      refine Br.mk (fun g2 => ?_) (fun g2 => ?_)
      · have g2 : j < 30 := g2
        obtain ⟨k3, rfl⟩ : ∃ k3, k2 = k3 + 1 := ⟨k2 - 1, by omega⟩
        obtain ⟨x1, hx1⟩ : ∃ e, B[j.toNat]? = some e := ⟨_, List.getElem?_eq_getElem (by omega)⟩
        have hc1 := hb _ _ hx1
        have hi1 := hB x1 (List.mem_of_getElem? hx1)
        conv => cbv
        refine Need.mk ⟨hj0, by simp only [I.val]; omega⟩ ?_
        conv => cbv
        refine Cell.at j _ hc1 (by simp [I.val]) (by omega) ?_
        conv => cbv
        refine Sum.mk fun y hy => ?_
        clear hy
        conv => cbv
        refine Br.mk (fun g3 => ?_) (fun g3 => ?_)
        · clear g3
          conv => cbv
          refine callF_frame (greyPop_lx A z3 true hz3 hA hA8) [(0, 1)] rfl (by simp [hmapOk, nget, hget, renB, okB]) rfl rfl (fun r h' n' ⟨v, b, z4, A4, e1, e2, e3, hz4, h4⟩ => ?_)
          subst e1 e2 e3
          have hA4 : ∀ x ∈ A4, i64 x := by
            rcases h4 with ⟨_, _, _, h⟩ | ⟨h, _⟩
            · rw [h]; simp
            · intro x hx; exact hA x (by rw [h]; simp [hx])
          have hA84 : A4.length ≤ 8 := by
            rcases h4 with ⟨_, _, _, h⟩ | ⟨h, _⟩
            · rw [h]; simp
            · rw [h] at hA8; simp at hA8; omega
          clear h4
          conv => cbv
          refine callF_frame (greyOver_lx z4 true) [(0, 1)] rfl (by simp [hmapOk, nget, hget, renB, okB]) rfl rfl (fun r h' n' ⟨e1, e2, e3⟩ => ?_)
          subst e1 e2 e3
          conv => cbv
          refine Fit.mk (by show (-9223372036854775808 : Int) ≤ j + 1; omega) (by show j + 1 ≤ 9223372036854775807; omega) ?_
          intro j2 hj2
          have hj2 : j2 = j + 1 := hj2
          conv => cbv
          refine Again.mk k3 _ (Nat.lt_succ_self _) (Re.of [(0, 0), (1, 1)] [] (by first | exact Nat.zero_le _ | exact Nat.le_refl _ | decide | (dsimp only; decide)) rfl rfl (by (try (conv => cbv)); (repeat' (first | exact trivial | rfl | exact SEq.mk rfl | (exact SEq.mk (by first | assumption | (symm; assumption))) | (simp only [I.val]; done) | (simp only [I.val]; omega) | omega | assumption | (refine And.intro ?_ ?_) | exact Or.inl rfl | exact Or.inr (by assumption) | exact List.Mem.head _ | exact List.Mem.tail _ (List.Mem.head _) | exact ⟨_, rfl⟩ | exact ⟨_, rfl, Or.inl rfl⟩ | (refine ⟨_, rfl, Or.inr ?_⟩; (try (conv => cbv))) | (simp only [I.val] at *; first | omega | (subst_vars; rfl) | simp_all) | (refine Or.inr ?_; (try (conv => cbv)))))) (by (try (conv => cbv)); (repeat' (first | exact trivial | rfl | exact SEq.mk rfl | (exact SEq.mk (by first | assumption | (symm; assumption))) | (simp only [I.val]; done) | (simp only [I.val]; omega) | omega | assumption | (refine And.intro ?_ ?_) | exact Or.inl rfl | exact Or.inr (by assumption) | exact List.Mem.head _ | exact List.Mem.tail _ (List.Mem.head _) | exact ⟨_, rfl⟩ | exact ⟨_, rfl, Or.inl rfl⟩ | (refine ⟨_, rfl, Or.inr ?_⟩; (try (conv => cbv))) | (simp only [I.val] at *; first | omega | (subst_vars; rfl) | simp_all) | (refine Or.inr ?_; (try (conv => cbv))))))) ⟨j2, A4, z4, rfl, by omega, by omega, hA4, hA84, hz4, by omega⟩
        · clear g3
          conv => cbv
          refine Need.mk ⟨hj0, by simp only [I.val]; omega⟩ ?_
          conv => cbv
          refine Cell.at j _ hc1 (by simp [I.val]) (by omega) ?_
          conv => cbv
          refine callF_frame (greyPush_lx A x1 z3 true o ho hz3 hA hA8 hi1) [(0, 0), (1, 1)] rfl (by simp [hmapOk, nget, hget, renB, okB]) rfl rfl (fun r h' n' ⟨b, ov4, z4, A4, e1, e2, e3, hz4, h4, h5⟩ => ?_)
          subst e1 e2 e3
          obtain ⟨rfl, hA4, hA84⟩ : ov4 = true ∧ (∀ x ∈ A4, i64 x) ∧ A4.length ≤ 8 := by
            by_cases h : A.length < 8
            · obtain ⟨_, h6, h7⟩ := h4 h
              refine ⟨h7, fun x hx => ?_, by rw [h6]; simp; omega⟩
              rw [h6] at hx
              rcases List.mem_append.1 hx with hx | hx
              · exact hA x hx
              · rw [List.mem_singleton.1 hx]; exact hi1
            · obtain ⟨_, h6, h7⟩ := h5 (by omega)
              exact ⟨h7, by rw [h6]; exact hA, by rw [h6]; exact hA8⟩
          clear h4 h5
          conv => cbv
          refine callF_frame (greyOver_lx z4 true) [(0, 1)] rfl (by simp [hmapOk, nget, hget, renB, okB]) rfl rfl (fun r h' n' ⟨e1, e2, e3⟩ => ?_)
          subst e1 e2 e3
          conv => cbv
          refine Fit.mk (by show (-9223372036854775808 : Int) ≤ j + 1; omega) (by show j + 1 ≤ 9223372036854775807; omega) ?_
          intro j2 hj2
          have hj2 : j2 = j + 1 := hj2
          conv => cbv
          refine Again.mk k3 _ (Nat.lt_succ_self _) (Re.of [(0, 0), (1, 1)] [] (by first | exact Nat.zero_le _ | exact Nat.le_refl _ | decide | (dsimp only; decide)) rfl rfl (by (try (conv => cbv)); (repeat' (first | exact trivial | rfl | exact SEq.mk rfl | (exact SEq.mk (by first | assumption | (symm; assumption))) | (simp only [I.val]; done) | (simp only [I.val]; omega) | omega | assumption | (refine And.intro ?_ ?_) | exact Or.inl rfl | exact Or.inr (by assumption) | exact List.Mem.head _ | exact List.Mem.tail _ (List.Mem.head _) | exact ⟨_, rfl⟩ | exact ⟨_, rfl, Or.inl rfl⟩ | (refine ⟨_, rfl, Or.inr ?_⟩; (try (conv => cbv))) | (simp only [I.val] at *; first | omega | (subst_vars; rfl) | simp_all) | (refine Or.inr ?_; (try (conv => cbv)))))) (by (try (conv => cbv)); (repeat' (first | exact trivial | rfl | exact SEq.mk rfl | (exact SEq.mk (by first | assumption | (symm; assumption))) | (simp only [I.val]; done) | (simp only [I.val]; omega) | omega | assumption | (refine And.intro ?_ ?_) | exact Or.inl rfl | exact Or.inr (by assumption) | exact List.Mem.head _ | exact List.Mem.tail _ (List.Mem.head _) | exact ⟨_, rfl⟩ | exact ⟨_, rfl, Or.inl rfl⟩ | (refine ⟨_, rfl, Or.inr ?_⟩; (try (conv => cbv))) | (simp only [I.val] at *; first | omega | (subst_vars; rfl) | simp_all) | (refine Or.inr ?_; (try (conv => cbv))))))) ⟨j2, A4, z4, rfl, by omega, by omega, hA4, hA84, hz4, by omega⟩
      · clear g2
        conv => cbv
        refine callF_frame (greySettle_lx z3 true) [(0, 1)] rfl (by simp [hmapOk, nget, hget, renB, okB]) rfl rfl (fun r h' n' ⟨e1, e2, e3⟩ => ?_)
        subst e1 e2 e3
        conv => cbv
        refine callF_frame (greyOver_lx z3 false) [(0, 1)] rfl (by simp [hmapOk, nget, hget, renB, okB]) rfl rfl (fun r h' n' ⟨e1, e2, e3⟩ => ?_)
        subst e1 e2 e3
        conv => cbv
        refine callF_frame (greyLen_lx A z3 false hz3 (enc_small A hA hA8)) [(0, 1)] rfl (by simp [hmapOk, nget, hget, renB, okB]) rfl rfl (fun r h' n' ⟨q, e1, hq, e2, e3⟩ => ?_)
        subst e1 e2 e3
        conv => cbv
        refine Br.mk (fun g5 => ?_) (fun g5 => ?_)
        case refine_2 =>
          have g5 : ¬ q ≤ 8 := g5
          exfalso
          omega
        conv => cbv
        refine RetF.mk [.p (.bool true)] [] 1 (Re.of [] [] (by first | exact Nat.zero_le _ | exact Nat.le_refl _ | decide | (dsimp only; decide)) rfl rfl (by (try (conv => cbv)); (repeat' (first | exact trivial | rfl | exact SEq.mk rfl | (exact SEq.mk (by first | assumption | (symm; assumption))) | (simp only [I.val]; done) | (simp only [I.val]; omega) | omega | assumption | (refine And.intro ?_ ?_) | exact Or.inl rfl | exact Or.inr (by assumption) | exact List.Mem.head _ | exact List.Mem.tail _ (List.Mem.head _) | exact ⟨_, rfl⟩ | exact ⟨_, rfl, Or.inl rfl⟩ | (refine ⟨_, rfl, Or.inr ?_⟩; (try (conv => cbv))) | (simp only [I.val] at *; first | omega | (subst_vars; rfl) | simp_all) | (refine Or.inr ?_; (try (conv => cbv)))))) (by (try (conv => cbv)); (repeat' (first | exact trivial | rfl | exact SEq.mk rfl | (exact SEq.mk (by first | assumption | (symm; assumption))) | (simp only [I.val]; done) | (simp only [I.val]; omega) | omega | assumption | (refine And.intro ?_ ?_) | exact Or.inl rfl | exact Or.inr (by assumption) | exact List.Mem.head _ | exact List.Mem.tail _ (List.Mem.head _) | exact ⟨_, rfl⟩ | exact ⟨_, rfl, Or.inl rfl⟩ | (refine ⟨_, rfl, Or.inr ?_⟩; (try (conv => cbv))) | (simp only [I.val] at *; first | omega | (subst_vars; rfl) | simp_all) | (refine Or.inr ?_; (try (conv => cbv))))))) rfl rfl
    · clear g1
      conv => cbv
      refine callF_frame (greySettle_lx z3 true) [(0, 1)] rfl (by simp [hmapOk, nget, hget, renB, okB]) rfl rfl (fun r h' n' ⟨e1, e2, e3⟩ => ?_)
      subst e1 e2 e3
      conv => cbv
      refine callF_frame (greyOver_lx z3 false) [(0, 1)] rfl (by simp [hmapOk, nget, hget, renB, okB]) rfl rfl (fun r h' n' ⟨e1, e2, e3⟩ => ?_)
      subst e1 e2 e3
      conv => cbv
      refine callF_frame (greyLen_lx A z3 false hz3 (enc_small A hA hA8)) [(0, 1)] rfl (by simp [hmapOk, nget, hget, renB, okB]) rfl rfl (fun r h' n' ⟨q, e1, hq, e2, e3⟩ => ?_)
      subst e1 e2 e3
      conv => cbv
      refine Br.mk (fun g5 => ?_) (fun g5 => ?_)
      case refine_2 =>
        have g5 : ¬ q ≤ 8 := g5
        exfalso
        omega
      conv => cbv
      refine RetF.mk [.p (.bool true)] [] 1 (Re.of [] [] (by first | exact Nat.zero_le _ | exact Nat.le_refl _ | decide | (dsimp only; decide)) rfl rfl (by (try (conv => cbv)); (repeat' (first | exact trivial | rfl | exact SEq.mk rfl | (exact SEq.mk (by first | assumption | (symm; assumption))) | (simp only [I.val]; done) | (simp only [I.val]; omega) | omega | assumption | (refine And.intro ?_ ?_) | exact Or.inl rfl | exact Or.inr (by assumption) | exact List.Mem.head _ | exact List.Mem.tail _ (List.Mem.head _) | exact ⟨_, rfl⟩ | exact ⟨_, rfl, Or.inl rfl⟩ | (refine ⟨_, rfl, Or.inr ?_⟩; (try (conv => cbv))) | (simp only [I.val] at *; first | omega | (subst_vars; rfl) | simp_all) | (refine Or.inr ?_; (try (conv => cbv)))))) (by (try (conv => cbv)); (repeat' (first | exact trivial | rfl | exact SEq.mk rfl | (exact SEq.mk (by first | assumption | (symm; assumption))) | (simp only [I.val]; done) | (simp only [I.val]; omega) | omega | assumption | (refine And.intro ?_ ?_) | exact Or.inl rfl | exact Or.inr (by assumption) | exact List.Mem.head _ | exact List.Mem.tail _ (List.Mem.head _) | exact ⟨_, rfl⟩ | exact ⟨_, rfl, Or.inl rfl⟩ | (refine ⟨_, rfl, Or.inr ?_⟩; (try (conv => cbv))) | (simp only [I.val] at *; first | omega | (subst_vars; rfl) | simp_all) | (refine Or.inr ?_; (try (conv => cbv))))))) rfl rfl
end Go.Proofs.YtocliihimbggjaaDoor
