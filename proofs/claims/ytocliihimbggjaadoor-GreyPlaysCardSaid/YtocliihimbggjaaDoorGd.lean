/-
  Laws of layer 8.
-/
import Derived.Test.YtocliihimbggjaaDoorGc
namespace Go.Proofs.YtocliihimbggjaaDoor
open Go Go.LX
set_option maxRecDepth 100000
set_option linter.unusedVariables false

theorem enc_small (A : List Int) (hA : ∀ a ∈ A, i64 a) (h8 : A.length ≤ 8) : (enc A).length < 1000000 := by
  have := enc_len A hA; omega
theorem five : ∀ x ∈ ([5] : List Int), i64 x := by
  intro x hx; rw [List.mem_singleton.1 hx]; exact ⟨by decide, by decide⟩
set_option maxHeartbeats 2000000 in
theorem awake08_lx (o : Unit → Obj) (ho : IsPow o) : CallF (fun _ => Tryd.prog) 10 [] [(0, .fix 2 o)] 1 (fun r h n => r = .p (.bool true) ∧ h = [(0, .fix 2 o)] ∧ n = 1) := by
  refine callF_of_body tok Tryd.func10 (by kernel_rfl) rfl rfl rfl ?_; conv => cbv
  refine callF_frame greyNew_lx [] rfl trivial rfl rfl (fun r h' n' ⟨z, e1, e2, e3, hz⟩ => ?_)
  subst e1 e2 e3
  conv => cbv
  refine CallF.le (args0 := [.ptr 1 (.lit 0), .p (.int .i64 (.sym 5))]) (callF_frame (greyPush_lx [] 5 z false o ho hz (by simp) (by simp) ⟨by decide, by decide⟩) [(0, 0), (1, 1)] rfl (by simp [hmapOk, nget, hget, renB, okB]) rfl rfl (fun r h' n' ⟨b, ov, z', A', e1, e2, e3, hz', h1, _⟩ => ?_)) (by simp [ales, ale, pvle, I.val])
  subst e1 e2 e3
  obtain ⟨rfl, hA, rfl⟩ := h1 (by simp)
  subst hA
  conv => cbv
  refine callF_frame (greyLen_lx [5] z' false hz' (enc_small [5] five (by simp))) [(0, 1)] rfl (by simp [hmapOk, nget, hget, renB, okB]) rfl rfl (fun r h' n' ⟨m, e1, hm, e2, e3⟩ => ?_)
  subst e1 e2 e3
  have hm : m = 1 := hm
  conv => cbv
  refine Br.mk (fun g => ?_) (fun g => ?_)
  · have g : m ≠ 1 := g
    exfalso
    exact g hm
  conv => cbv
  refine callF_frame (greyPop_lx [5] z' false hz' five (by simp)) [(0, 1)] rfl (by simp [hmapOk, nget, hget, renB, okB]) rfl rfl (fun r h' n' ⟨v, b, z2, A2, e1, e2, e3, hz2, h2⟩ => ?_)
  subst e1 e2 e3
  obtain ⟨hA2, rfl⟩ : [5] = A2 ++ [v] ∧ b = true := by
    rcases h2 with ⟨h, _⟩ | h
    · cases h
    · exact h
  have hv : v = 5 := by
    have := congrArg List.getLast? hA2
    simpa using this.symm
  conv => cbv
  refine Br.mk (fun g => ?_) (fun g => ?_)
  case refine_2 =>
    have g : ¬ v = 5 := g
    exfalso
    exact g hv
  conv => cbv
  refine callF_frame (greyOver_lx z2 false) [(0, 1)] rfl (by simp [hmapOk, nget, hget, renB, okB]) rfl rfl (fun r h' n' ⟨e1, e2, e3⟩ => ?_)
  subst e1 e2 e3
  conv => cbv
  refine RetF.mk [.p (.bool true)] [(0, .fix 2 o)] 1 (Re.of [(0, 0)] [] (by first | exact Nat.zero_le _ | exact Nat.le_refl _ | decide | (dsimp only; decide)) rfl rfl (by (try (conv => cbv)); (repeat' (first | exact trivial | rfl | exact SEq.mk rfl | (exact SEq.mk (by first | assumption | (symm; assumption))) | (simp only [I.val]; done) | (simp only [I.val]; omega) | omega | assumption | (refine And.intro ?_ ?_) | exact Or.inl rfl | exact Or.inr (by assumption) | exact List.Mem.head _ | exact List.Mem.tail _ (List.Mem.head _) | exact ⟨_, rfl⟩ | exact ⟨_, rfl, Or.inl rfl⟩ | (refine ⟨_, rfl, Or.inr ?_⟩; (try (conv => cbv))) | (simp only [I.val] at *; first | omega | (subst_vars; rfl) | simp_all) | (refine Or.inr ?_; (try (conv => cbv)))))) (by (try (conv => cbv)); (repeat' (first | exact trivial | rfl | exact SEq.mk rfl | (exact SEq.mk (by first | assumption | (symm; assumption))) | (simp only [I.val]; done) | (simp only [I.val]; omega) | omega | assumption | (refine And.intro ?_ ?_) | exact Or.inl rfl | exact Or.inr (by assumption) | exact List.Mem.head _ | exact List.Mem.tail _ (List.Mem.head _) | exact ⟨_, rfl⟩ | exact ⟨_, rfl, Or.inl rfl⟩ | (refine ⟨_, rfl, Or.inr ?_⟩; (try (conv => cbv))) | (simp only [I.val] at *; first | omega | (subst_vars; rfl) | simp_all) | (refine Or.inr ?_; (try (conv => cbv))))))) rfl ⟨rfl, rfl, rfl⟩
/-- Places in a row. -/
def row (t : Int) : Nat → List Int
  | 0 => []
  | k + 1 => row t k ++ [t + k]
theorem row_length (t : Int) : ∀ k, (row t k).length = k
  | 0 => rfl
  | k + 1 => by rw [row, List.length_append, row_length t k]; rfl
theorem row_i64 (t : Int) (h0 : -1099511627776 ≤ t) (h1 : t ≤ 1099511627776) : ∀ k, k ≤ 1000 → ∀ x ∈ row t k, i64 x
  | 0, _, x, h => by cases h
  | k + 1, hk, x, h => by
    rw [row] at h
    rcases List.mem_append.1 h with h | h
    · exact row_i64 t h0 h1 k (by omega) x h
    · rw [List.mem_singleton.1 h]; constructor <;> omega
set_option maxHeartbeats 2000000 in
theorem greyTurns_lx (n a : Int) (hn : i64 n) (ha : i64 a) (o : Unit → Obj) (ho : IsPow o) :
    CallF (fun _ => Tryd.prog) 4 [.p (.int .i64 (.sym n)), .p (.int .i64 (.sym a))] [(0, .fix 2 o)] 1 (fun r _ _ => r = .p (.bool true)) := by
  refine callF_of_body tok Tryd.func4 (by kernel_rfl) rfl rfl rfl ?_; conv => cbv
  refine Fit.wrap fun x hx => ?_
  have hx : x = IntKind.u64.wrap n := hx
  have hx0 : 0 ≤ x := by rw [hx]; simp [IntKind.wrap, IntKind.bits, IntKind.signed]; omega
  clear hx
  conv => cbv
  refine Sum.mk fun k hk => ?_
  have hk : k = x % 20 := (show k = x.tmod 20 from hk).trans (Int.tmod_eq_emod_of_nonneg hx0)
  conv => cbv
  refine Fit.mk (by show (-9223372036854775808 : Int) ≤ k; omega) (by show k ≤ 9223372036854775807; omega) ?_
  intro N hN
  have hN : N = k := hN
  have hN0 : 0 ≤ N := by omega
  have hN1 : N < 20 := by omega
  clear hN hk hx0
  conv => cbv
  refine Sum.mk fun t ht => ?_
  have ht : t = a.tmod 1099511627776 := ht
  have ht1 : -1099511627776 < t := by
    rw [ht]
    have := Int.lt_tmod_of_pos a (show (0 : Int) < 1099511627776 by decide)
    omega
  have ht2 : t < 1099511627776 := by rw [ht]; exact Int.tmod_lt_of_pos _ (by decide)
  clear ht
  conv => cbv
  refine callF_frame greyNew_lx [] rfl trivial rfl rfl (fun r h' n' ⟨z, e1, e2, e3, hz⟩ => ?_)
  subst e1 e2 e3
  conv => cbv
  refine callF_frame (awake08_lx o ho) [(0, 0)] rfl (by simp [hmapOk, nget, hget, renB, okB]) rfl rfl (fun r h' n' ⟨e1, e2, e3⟩ => ?_)
  subst e1 e2 e3
  conv => cbv
  refine LoopF.mk (fun k s => ∃ (i : Int) (c : Nat) (z : ByteArray) (ov : Bool), s = ⟨.p (.int .i64 (.sym N)) :: .p (.int .i64 (.sym t)) :: .undef :: .undef :: .undef :: .ptr 1 (.lit 0) :: .p (.int .i64 (.sym i)) :: undefs 112, [(0, .fix 2 o), (1, .pure false [.str fun _ => z, .bool ov])], 2⟩ ∧ 0 ≤ i ∧ i ≤ N ∧ c = min i.toNat 8 ∧ z = ⟨(enc (row t c)).toArray⟩ ∧ (ov = true ↔ 8 < i) ∧ k = (N - i).toNat) N.toNat _
    (Re.of [(0, 0), (1, 1)] [] (by first | exact Nat.zero_le _ | exact Nat.le_refl _ | decide | (dsimp only; decide)) rfl rfl (by (try (conv => cbv)); (repeat' (first | exact trivial | rfl | exact SEq.mk rfl | (exact SEq.mk (by first | assumption | (symm; assumption))) | (simp only [I.val]; done) | (simp only [I.val]; omega) | omega | assumption | (refine And.intro ?_ ?_) | exact Or.inl rfl | exact Or.inr (by assumption) | exact List.Mem.head _ | exact List.Mem.tail _ (List.Mem.head _) | exact ⟨_, rfl⟩ | exact ⟨_, rfl, Or.inl rfl⟩ | (refine ⟨_, rfl, Or.inr ?_⟩; (try (conv => cbv))) | (simp only [I.val] at *; first | omega | (subst_vars; rfl) | simp_all) | (refine Or.inr ?_; (try (conv => cbv)))))) (by (try (conv => cbv)); (repeat' (first | exact trivial | rfl | exact SEq.mk rfl | (exact SEq.mk (by first | assumption | (symm; assumption))) | (simp only [I.val]; done) | (simp only [I.val]; omega) | omega | assumption | (refine And.intro ?_ ?_) | exact Or.inl rfl | exact Or.inr (by assumption) | exact List.Mem.head _ | exact List.Mem.tail _ (List.Mem.head _) | exact ⟨_, rfl⟩ | exact ⟨_, rfl, Or.inl rfl⟩ | (refine ⟨_, rfl, Or.inr ?_⟩; (try (conv => cbv))) | (simp only [I.val] at *; first | omega | (subst_vars; rfl) | simp_all) | (refine Or.inr ?_; (try (conv => cbv))))))) ⟨0, 0, z, false, rfl, by omega, by omega, rfl, hz, by simp, by omega⟩ ?_
  rintro k s ⟨i, c, z, ov, rfl, hi0, hiN, hc, hz, hov, hk⟩
  have hrl := row_length t c
  have hri := row_i64 t (by omega) (by omega) c (by omega)
  conv => cbv
  refine Br.mk (fun g => ?_) (fun g => ?_)
  · have g : i < N := g
    obtain ⟨k', rfl⟩ : ∃ k', k = k' + 1 := ⟨k - 1, by omega⟩
    conv => cbv
    refine Fit.mk (by show (-9223372036854775808 : Int) ≤ t + i; omega) (by show t + i ≤ 9223372036854775807; omega) ?_
    intro p hp
    have hp : p = t + i := hp
    conv => cbv
    refine callF_frame (greyPush_lx (row t c) p z ov o ho hz hri (by omega) ⟨by omega, by omega⟩) [(0, 0), (1, 1)] rfl (by simp [hmapOk, nget, hget, renB, okB]) rfl rfl (fun r h' n' ⟨b, ov2, z2, A2, e1, e2, e3, hz2, h1, h2⟩ => ?_)
    subst e1 e2 e3
    by_cases h8 : i < 8
    · obtain ⟨rfl, hA2, rfl⟩ := h1 (by omega)
      have hA3 : A2 = row t (c + 1) := by rw [hA2, row]; congr 2; omega
      conv => cbv
      refine Br.mk (fun g2 => ?_) (fun g2 => ?_)
      case refine_2 =>
        have g2 : ¬ i < 8 := g2
        exfalso
        exact g2 h8
      conv => cbv
      refine Fit.mk (by show (-9223372036854775808 : Int) ≤ i + 1; omega) (by show i + 1 ≤ 9223372036854775807; omega) ?_
      intro i2 hi2
      have hi2 : i2 = i + 1 := hi2
      conv => cbv
      refine Again.mk k' _ (Nat.lt_succ_self _) (Re.of [(0, 0), (1, 1)] [] (by first | exact Nat.zero_le _ | exact Nat.le_refl _ | decide | (dsimp only; decide)) rfl rfl (by (try (conv => cbv)); (repeat' (first | exact trivial | rfl | exact SEq.mk rfl | (exact SEq.mk (by first | assumption | (symm; assumption))) | (simp only [I.val]; done) | (simp only [I.val]; omega) | omega | assumption | (refine And.intro ?_ ?_) | exact Or.inl rfl | exact Or.inr (by assumption) | exact List.Mem.head _ | exact List.Mem.tail _ (List.Mem.head _) | exact ⟨_, rfl⟩ | exact ⟨_, rfl, Or.inl rfl⟩ | (refine ⟨_, rfl, Or.inr ?_⟩; (try (conv => cbv))) | (simp only [I.val] at *; first | omega | (subst_vars; rfl) | simp_all) | (refine Or.inr ?_; (try (conv => cbv)))))) (by (try (conv => cbv)); (repeat' (first | exact trivial | rfl | exact SEq.mk rfl | (exact SEq.mk (by first | assumption | (symm; assumption))) | (simp only [I.val]; done) | (simp only [I.val]; omega) | omega | assumption | (refine And.intro ?_ ?_) | exact Or.inl rfl | exact Or.inr (by assumption) | exact List.Mem.head _ | exact List.Mem.tail _ (List.Mem.head _) | exact ⟨_, rfl⟩ | exact ⟨_, rfl, Or.inl rfl⟩ | (refine ⟨_, rfl, Or.inr ?_⟩; (try (conv => cbv))) | (simp only [I.val] at *; first | omega | (subst_vars; rfl) | simp_all) | (refine Or.inr ?_; (try (conv => cbv))))))) ⟨i2, c + 1, z2, ov2, rfl, by omega, by omega, by omega, by rw [hz2, hA3], ?_, by omega⟩
      rw [hov]; omega
    · obtain ⟨rfl, hA2, rfl⟩ := h2 (by omega)
      subst hA2
      conv => cbv
      refine Br.mk (fun g2 => ?_) (fun g2 => ?_)
      case refine_1 =>
        have g2 : i < 8 := g2
        exfalso
        exact h8 g2
      conv => cbv
      refine Fit.mk (by show (-9223372036854775808 : Int) ≤ i + 1; omega) (by show i + 1 ≤ 9223372036854775807; omega) ?_
      intro i2 hi2
      have hi2 : i2 = i + 1 := hi2
      conv => cbv
      refine Again.mk k' _ (Nat.lt_succ_self _) (Re.of [(0, 0), (1, 1)] [] (by first | exact Nat.zero_le _ | exact Nat.le_refl _ | decide | (dsimp only; decide)) rfl rfl (by (try (conv => cbv)); (repeat' (first | exact trivial | rfl | exact SEq.mk rfl | (exact SEq.mk (by first | assumption | (symm; assumption))) | (simp only [I.val]; done) | (simp only [I.val]; omega) | omega | assumption | (refine And.intro ?_ ?_) | exact Or.inl rfl | exact Or.inr (by assumption) | exact List.Mem.head _ | exact List.Mem.tail _ (List.Mem.head _) | exact ⟨_, rfl⟩ | exact ⟨_, rfl, Or.inl rfl⟩ | (refine ⟨_, rfl, Or.inr ?_⟩; (try (conv => cbv))) | (simp only [I.val] at *; first | omega | (subst_vars; rfl) | simp_all) | (refine Or.inr ?_; (try (conv => cbv)))))) (by (try (conv => cbv)); (repeat' (first | exact trivial | rfl | exact SEq.mk rfl | (exact SEq.mk (by first | assumption | (symm; assumption))) | (simp only [I.val]; done) | (simp only [I.val]; omega) | omega | assumption | (refine And.intro ?_ ?_) | exact Or.inl rfl | exact Or.inr (by assumption) | exact List.Mem.head _ | exact List.Mem.tail _ (List.Mem.head _) | exact ⟨_, rfl⟩ | exact ⟨_, rfl, Or.inl rfl⟩ | (refine ⟨_, rfl, Or.inr ?_⟩; (try (conv => cbv))) | (simp only [I.val] at *; first | omega | (subst_vars; rfl) | simp_all) | (refine Or.inr ?_; (try (conv => cbv))))))) ⟨i2, c, z2, true, rfl, by omega, by omega, by omega, hz2, ?_, by omega⟩
      simp; omega
  · have g : ¬ i < N := g
    have hiN : i = N := by omega
    subst hiN
    conv => cbv
    refine callF_frame (greyOver_lx z ov) [(0, 1)] rfl (by simp [hmapOk, nget, hget, renB, okB]) rfl rfl (fun r h' n' ⟨e1, e2, e3⟩ => ?_)
    subst e1 e2 e3
    conv => cbv
    refine Br.mk (fun g2 => ?_) (fun g2 => ?_)
    · have g2 : 8 < i := g2
      have hov1 : ov = true := hov.2 g2
      conv => cbv
      refine LoopF.mk (fun k s => ∃ (j : Int) (d : Nat) (z : ByteArray), s = ⟨.p (.int .i64 (.sym i)) :: .p (.int .i64 (.sym t)) :: .undef :: .undef :: .undef :: .ptr 1 (.lit 0) :: .undef :: .p (.bool ov) :: .p (.int .i64 (.sym j)) :: undefs 110, [(0, .fix 2 o), (1, .pure false [.str fun _ => z, .bool ov])], 2⟩ ∧ -1 ≤ j ∧ j ≤ 7 ∧ d = (j + 1).toNat ∧ z = ⟨(enc (row t d)).toArray⟩ ∧ k = (j + 1).toNat) 8 _
        (Re.of [(0, 0), (1, 1)] [] (by first | exact Nat.zero_le _ | exact Nat.le_refl _ | decide | (dsimp only; decide)) rfl rfl (by (try (conv => cbv)); (repeat' (first | exact trivial | rfl | exact SEq.mk rfl | (exact SEq.mk (by first | assumption | (symm; assumption))) | (simp only [I.val]; done) | (simp only [I.val]; omega) | omega | assumption | (refine And.intro ?_ ?_) | exact Or.inl rfl | exact Or.inr (by assumption) | exact List.Mem.head _ | exact List.Mem.tail _ (List.Mem.head _) | exact ⟨_, rfl⟩ | exact ⟨_, rfl, Or.inl rfl⟩ | (refine ⟨_, rfl, Or.inr ?_⟩; (try (conv => cbv))) | (simp only [I.val] at *; first | omega | (subst_vars; rfl) | simp_all) | (refine Or.inr ?_; (try (conv => cbv)))))) (by (try (conv => cbv)); (repeat' (first | exact trivial | rfl | exact SEq.mk rfl | (exact SEq.mk (by first | assumption | (symm; assumption))) | (simp only [I.val]; done) | (simp only [I.val]; omega) | omega | assumption | (refine And.intro ?_ ?_) | exact Or.inl rfl | exact Or.inr (by assumption) | exact List.Mem.head _ | exact List.Mem.tail _ (List.Mem.head _) | exact ⟨_, rfl⟩ | exact ⟨_, rfl, Or.inl rfl⟩ | (refine ⟨_, rfl, Or.inr ?_⟩; (try (conv => cbv))) | (simp only [I.val] at *; first | omega | (subst_vars; rfl) | simp_all) | (refine Or.inr ?_; (try (conv => cbv))))))) ⟨7, c, z, rfl, by omega, by omega, by omega, hz, by omega⟩ ?_
      rintro k2 s2 ⟨j, d, z3, rfl, hj0, hj1, hd, hz3, hk2⟩
      have hrl3 := row_length t d
      have hri3 := row_i64 t (by omega) (by omega) d (by omega)
      conv => cbv
      refine Br.mk (fun g3 => ?_) (fun g3 => ?_)
      · have g3 : 0 ≤ j := g3
        obtain ⟨k3, rfl⟩ : ∃ k3, k2 = k3 + 1 := ⟨k2 - 1, by omega⟩
        obtain ⟨d2, rfl⟩ : ∃ d2, d = d2 + 1 := ⟨d - 1, by omega⟩
        conv => cbv
        refine callF_frame (greyPop_lx (row t (d2 + 1)) z3 ov hz3 hri3 (by omega)) [(0, 1)] rfl (by simp [hmapOk, nget, hget, renB, okB]) rfl rfl (fun r h' n' ⟨v, b, z4, A4, e1, e2, e3, hz4, h4⟩ => ?_)
        subst e1 e2 e3
        obtain ⟨hA4, rfl⟩ : row t (d2 + 1) = A4 ++ [v] ∧ b = true := by
          rcases h4 with ⟨h, _⟩ | h
          · rw [h] at hrl3; simp at hrl3
          · exact h
        rw [row] at hA4
        obtain ⟨hA5, hv⟩ := List.append_inj' hA4 rfl
        have hv : v = t + j := by have : t + (d2 : Int) = v := by simpa using hv
                                  omega
        conv => cbv
        refine Fit.mk (by show (-9223372036854775808 : Int) ≤ t + j; omega) (by show t + j ≤ 9223372036854775807; omega) ?_
        intro q hq
        have hq : q = t + j := hq
        conv => cbv
        refine Br.mk (fun g4 => ?_) (fun g4 => ?_)
        case refine_1 =>
          have g4 : v ≠ q := g4
          exfalso
          exact g4 (by omega)
        conv => cbv
        refine Fit.mk (by show (-9223372036854775808 : Int) ≤ j - 1; omega) (by show j - 1 ≤ 9223372036854775807; omega) ?_
        intro j2 hj2
        have hj2 : j2 = j - 1 := hj2
        conv => cbv
        refine Again.mk k3 _ (Nat.lt_succ_self _) (Re.of [(0, 0), (1, 1)] [] (by first | exact Nat.zero_le _ | exact Nat.le_refl _ | decide | (dsimp only; decide)) rfl rfl (by (try (conv => cbv)); (repeat' (first | exact trivial | rfl | exact SEq.mk rfl | (exact SEq.mk (by first | assumption | (symm; assumption))) | (simp only [I.val]; done) | (simp only [I.val]; omega) | omega | assumption | (refine And.intro ?_ ?_) | exact Or.inl rfl | exact Or.inr (by assumption) | exact List.Mem.head _ | exact List.Mem.tail _ (List.Mem.head _) | exact ⟨_, rfl⟩ | exact ⟨_, rfl, Or.inl rfl⟩ | (refine ⟨_, rfl, Or.inr ?_⟩; (try (conv => cbv))) | (simp only [I.val] at *; first | omega | (subst_vars; rfl) | simp_all) | (refine Or.inr ?_; (try (conv => cbv)))))) (by (try (conv => cbv)); (repeat' (first | exact trivial | rfl | exact SEq.mk rfl | (exact SEq.mk (by first | assumption | (symm; assumption))) | (simp only [I.val]; done) | (simp only [I.val]; omega) | omega | assumption | (refine And.intro ?_ ?_) | exact Or.inl rfl | exact Or.inr (by assumption) | exact List.Mem.head _ | exact List.Mem.tail _ (List.Mem.head _) | exact ⟨_, rfl⟩ | exact ⟨_, rfl, Or.inl rfl⟩ | (refine ⟨_, rfl, Or.inr ?_⟩; (try (conv => cbv))) | (simp only [I.val] at *; first | omega | (subst_vars; rfl) | simp_all) | (refine Or.inr ?_; (try (conv => cbv))))))) ⟨j2, d2, z4, rfl, by omega, by omega, by omega, by rw [hz4, ← hA5], by omega⟩
      · have g3 : ¬ 0 ≤ j := g3
        have hd0 : d = 0 := by omega
        subst hd0
        conv => cbv
        refine callF_frame (greyPop_lx [] z3 ov hz3 (by simp) (by simp)) [(0, 1)] rfl (by simp [hmapOk, nget, hget, renB, okB]) rfl rfl (fun r h' n' ⟨v, b, z4, A4, e1, e2, e3, hz4, h4⟩ => ?_)
        subst e1 e2 e3
        obtain ⟨_, rfl, rfl, rfl⟩ : ([] : List Int) = [] ∧ v = 0 ∧ b = false ∧ A4 = [] := by
          rcases h4 with h | ⟨h, _⟩
          · exact h
          · exact absurd h (by simp)
        conv => cbv
        refine callF_frame (greyOver_lx z4 ov) [(0, 1)] rfl (by simp [hmapOk, nget, hget, renB, okB]) rfl rfl (fun r h' n' ⟨e1, e2, e3⟩ => ?_)
        subst e1 e2 e3
        conv => cbv
        refine callF_frame (greySettle_lx z4 ov) [(0, 1)] rfl (by simp [hmapOk, nget, hget, renB, okB]) rfl rfl (fun r h' n' ⟨e1, e2, e3⟩ => ?_)
        subst e1 e2 e3
        conv => cbv
        refine callF_frame greyPop_nil [] rfl trivial rfl rfl (fun r h' n' ⟨e1, e2, e3⟩ => ?_)
        subst e1 e2 e3
        conv => cbv
        refine callF_frame greySettle_nil [] rfl trivial rfl rfl (fun r h' n' ⟨e1, e2, e3⟩ => ?_)
        subst e1 e2 e3
        conv => cbv
        subst hov1
        conv => cbv
        refine Br.mk (fun g5 => ?_) (fun g5 => ?_)
        case refine_2 =>
          have g5 : ¬ 8 < i := g5
          exfalso
          exact g5 g2
        conv => cbv
        refine callF_frame (greyOver_lx z4 false) [(0, 1)] rfl (by simp [hmapOk, nget, hget, renB, okB]) rfl rfl (fun r h' n' ⟨e1, e2, e3⟩ => ?_)
        subst e1 e2 e3
        conv => cbv
        refine callF_frame (greyPush_nil (.lit 1)) [] rfl trivial rfl rfl (fun r h' n' ⟨e1, e2, e3⟩ => ?_)
        subst e1 e2 e3
        conv => cbv
        refine callF_frame greyOver_nil [] rfl trivial rfl rfl (fun r h' n' ⟨e1, e2, e3⟩ => ?_)
        subst e1 e2 e3
        conv => cbv
        refine callF_frame greyLen_nil [] rfl trivial rfl rfl (fun r h' n' ⟨e1, e2, e3⟩ => ?_)
        subst e1 e2 e3
        conv => cbv
        refine Br.mk (fun g6 => ?_) (fun g6 => ?_)
        case refine_2 =>
          have g6 : ¬ ((0 : Int) = 0) := g6
          exfalso
          exact g6 rfl
        conv => cbv
        refine RetF.mk [.p (.bool true)] [] 1 (Re.of [] [] (by first | exact Nat.zero_le _ | exact Nat.le_refl _ | decide | (dsimp only; decide)) rfl rfl (by (try (conv => cbv)); (repeat' (first | exact trivial | rfl | exact SEq.mk rfl | (exact SEq.mk (by first | assumption | (symm; assumption))) | (simp only [I.val]; done) | (simp only [I.val]; omega) | omega | assumption | (refine And.intro ?_ ?_) | exact Or.inl rfl | exact Or.inr (by assumption) | exact List.Mem.head _ | exact List.Mem.tail _ (List.Mem.head _) | exact ⟨_, rfl⟩ | exact ⟨_, rfl, Or.inl rfl⟩ | (refine ⟨_, rfl, Or.inr ?_⟩; (try (conv => cbv))) | (simp only [I.val] at *; first | omega | (subst_vars; rfl) | simp_all) | (refine Or.inr ?_; (try (conv => cbv)))))) (by (try (conv => cbv)); (repeat' (first | exact trivial | rfl | exact SEq.mk rfl | (exact SEq.mk (by first | assumption | (symm; assumption))) | (simp only [I.val]; done) | (simp only [I.val]; omega) | omega | assumption | (refine And.intro ?_ ?_) | exact Or.inl rfl | exact Or.inr (by assumption) | exact List.Mem.head _ | exact List.Mem.tail _ (List.Mem.head _) | exact ⟨_, rfl⟩ | exact ⟨_, rfl, Or.inl rfl⟩ | (refine ⟨_, rfl, Or.inr ?_⟩; (try (conv => cbv))) | (simp only [I.val] at *; first | omega | (subst_vars; rfl) | simp_all) | (refine Or.inr ?_; (try (conv => cbv))))))) rfl rfl
    · have g2 : ¬ 8 < i := g2
      have hov1 : ov = false := by
        cases ov with
        | false => rfl
        | true => exact absurd (hov.1 rfl) g2
      conv => cbv
      refine Fit.mk (by show (-9223372036854775808 : Int) ≤ i - 1; omega) (by show i - 1 ≤ 9223372036854775807; omega) ?_
      intro j0 hj0
      have hj0 : j0 = i - 1 := hj0
      conv => cbv
      refine LoopF.mk (fun k s => ∃ (j : Int) (d : Nat) (z : ByteArray), s = ⟨.p (.int .i64 (.sym i)) :: .p (.int .i64 (.sym t)) :: .undef :: .undef :: .undef :: .ptr 1 (.lit 0) :: .undef :: .p (.bool ov) :: .p (.int .i64 (.sym j)) :: undefs 110, [(0, .fix 2 o), (1, .pure false [.str fun _ => z, .bool ov])], 2⟩ ∧ -1 ≤ j ∧ j ≤ 7 ∧ d = (j + 1).toNat ∧ z = ⟨(enc (row t d)).toArray⟩ ∧ k = (j + 1).toNat) (j0 + 1).toNat _
        (Re.of [(0, 0), (1, 1)] [] (by first | exact Nat.zero_le _ | exact Nat.le_refl _ | decide | (dsimp only; decide)) rfl rfl (by (try (conv => cbv)); (repeat' (first | exact trivial | rfl | exact SEq.mk rfl | (exact SEq.mk (by first | assumption | (symm; assumption))) | (simp only [I.val]; done) | (simp only [I.val]; omega) | omega | assumption | (refine And.intro ?_ ?_) | exact Or.inl rfl | exact Or.inr (by assumption) | exact List.Mem.head _ | exact List.Mem.tail _ (List.Mem.head _) | exact ⟨_, rfl⟩ | exact ⟨_, rfl, Or.inl rfl⟩ | (refine ⟨_, rfl, Or.inr ?_⟩; (try (conv => cbv))) | (simp only [I.val] at *; first | omega | (subst_vars; rfl) | simp_all) | (refine Or.inr ?_; (try (conv => cbv)))))) (by (try (conv => cbv)); (repeat' (first | exact trivial | rfl | exact SEq.mk rfl | (exact SEq.mk (by first | assumption | (symm; assumption))) | (simp only [I.val]; done) | (simp only [I.val]; omega) | omega | assumption | (refine And.intro ?_ ?_) | exact Or.inl rfl | exact Or.inr (by assumption) | exact List.Mem.head _ | exact List.Mem.tail _ (List.Mem.head _) | exact ⟨_, rfl⟩ | exact ⟨_, rfl, Or.inl rfl⟩ | (refine ⟨_, rfl, Or.inr ?_⟩; (try (conv => cbv))) | (simp only [I.val] at *; first | omega | (subst_vars; rfl) | simp_all) | (refine Or.inr ?_; (try (conv => cbv))))))) ⟨j0, c, z, rfl, by omega, by omega, by omega, hz, by omega⟩ ?_
      rintro k2 s2 ⟨j, d, z3, rfl, hj0, hj1, hd, hz3, hk2⟩
      have hrl3 := row_length t d
      have hri3 := row_i64 t (by omega) (by omega) d (by omega)
      conv => cbv
      refine Br.mk (fun g3 => ?_) (fun g3 => ?_)
      · have g3 : 0 ≤ j := g3
        obtain ⟨k3, rfl⟩ : ∃ k3, k2 = k3 + 1 := ⟨k2 - 1, by omega⟩
        obtain ⟨d2, rfl⟩ : ∃ d2, d = d2 + 1 := ⟨d - 1, by omega⟩
        conv => cbv
        refine callF_frame (greyPop_lx (row t (d2 + 1)) z3 ov hz3 hri3 (by omega)) [(0, 1)] rfl (by simp [hmapOk, nget, hget, renB, okB]) rfl rfl (fun r h' n' ⟨v, b, z4, A4, e1, e2, e3, hz4, h4⟩ => ?_)
        subst e1 e2 e3
        obtain ⟨hA4, rfl⟩ : row t (d2 + 1) = A4 ++ [v] ∧ b = true := by
          rcases h4 with ⟨h, _⟩ | h
          · rw [h] at hrl3; simp at hrl3
          · exact h
        rw [row] at hA4
        obtain ⟨hA5, hv⟩ := List.append_inj' hA4 rfl
        have hv : v = t + j := by have : t + (d2 : Int) = v := by simpa using hv
                                  omega
        conv => cbv
        refine Fit.mk (by show (-9223372036854775808 : Int) ≤ t + j; omega) (by show t + j ≤ 9223372036854775807; omega) ?_
        intro q hq
        have hq : q = t + j := hq
        conv => cbv
        refine Br.mk (fun g4 => ?_) (fun g4 => ?_)
        case refine_1 =>
          have g4 : v ≠ q := g4
          exfalso
          exact g4 (by omega)
        conv => cbv
        refine Fit.mk (by show (-9223372036854775808 : Int) ≤ j - 1; omega) (by show j - 1 ≤ 9223372036854775807; omega) ?_
        intro j2 hj2
        have hj2 : j2 = j - 1 := hj2
        conv => cbv
        refine Again.mk k3 _ (Nat.lt_succ_self _) (Re.of [(0, 0), (1, 1)] [] (by first | exact Nat.zero_le _ | exact Nat.le_refl _ | decide | (dsimp only; decide)) rfl rfl (by (try (conv => cbv)); (repeat' (first | exact trivial | rfl | exact SEq.mk rfl | (exact SEq.mk (by first | assumption | (symm; assumption))) | (simp only [I.val]; done) | (simp only [I.val]; omega) | omega | assumption | (refine And.intro ?_ ?_) | exact Or.inl rfl | exact Or.inr (by assumption) | exact List.Mem.head _ | exact List.Mem.tail _ (List.Mem.head _) | exact ⟨_, rfl⟩ | exact ⟨_, rfl, Or.inl rfl⟩ | (refine ⟨_, rfl, Or.inr ?_⟩; (try (conv => cbv))) | (simp only [I.val] at *; first | omega | (subst_vars; rfl) | simp_all) | (refine Or.inr ?_; (try (conv => cbv)))))) (by (try (conv => cbv)); (repeat' (first | exact trivial | rfl | exact SEq.mk rfl | (exact SEq.mk (by first | assumption | (symm; assumption))) | (simp only [I.val]; done) | (simp only [I.val]; omega) | omega | assumption | (refine And.intro ?_ ?_) | exact Or.inl rfl | exact Or.inr (by assumption) | exact List.Mem.head _ | exact List.Mem.tail _ (List.Mem.head _) | exact ⟨_, rfl⟩ | exact ⟨_, rfl, Or.inl rfl⟩ | (refine ⟨_, rfl, Or.inr ?_⟩; (try (conv => cbv))) | (simp only [I.val] at *; first | omega | (subst_vars; rfl) | simp_all) | (refine Or.inr ?_; (try (conv => cbv))))))) ⟨j2, d2, z4, rfl, by omega, by omega, by omega, by rw [hz4, ← hA5], by omega⟩
      · have g3 : ¬ 0 ≤ j := g3
        have hd0 : d = 0 := by omega
        subst hd0
        conv => cbv
        refine callF_frame (greyPop_lx [] z3 ov hz3 (by simp) (by simp)) [(0, 1)] rfl (by simp [hmapOk, nget, hget, renB, okB]) rfl rfl (fun r h' n' ⟨v, b, z4, A4, e1, e2, e3, hz4, h4⟩ => ?_)
        subst e1 e2 e3
        obtain ⟨_, rfl, rfl, rfl⟩ : ([] : List Int) = [] ∧ v = 0 ∧ b = false ∧ A4 = [] := by
          rcases h4 with h | ⟨h, _⟩
          · exact h
          · exact absurd h (by simp)
        conv => cbv
        refine callF_frame (greyOver_lx z4 ov) [(0, 1)] rfl (by simp [hmapOk, nget, hget, renB, okB]) rfl rfl (fun r h' n' ⟨e1, e2, e3⟩ => ?_)
        subst e1 e2 e3
        conv => cbv
        refine callF_frame (greySettle_lx z4 ov) [(0, 1)] rfl (by simp [hmapOk, nget, hget, renB, okB]) rfl rfl (fun r h' n' ⟨e1, e2, e3⟩ => ?_)
        subst e1 e2 e3
        conv => cbv
        refine callF_frame greyPop_nil [] rfl trivial rfl rfl (fun r h' n' ⟨e1, e2, e3⟩ => ?_)
        subst e1 e2 e3
        conv => cbv
        refine callF_frame greySettle_nil [] rfl trivial rfl rfl (fun r h' n' ⟨e1, e2, e3⟩ => ?_)
        subst e1 e2 e3
        conv => cbv
        subst hov1
        conv => cbv
        refine Br.mk (fun g5 => ?_) (fun g5 => ?_)
        case refine_1 =>
          have g5 : 8 < i := g5
          exfalso
          exact g2 g5
        conv => cbv
        refine callF_frame (greyOver_lx z4 false) [(0, 1)] rfl (by simp [hmapOk, nget, hget, renB, okB]) rfl rfl (fun r h' n' ⟨e1, e2, e3⟩ => ?_)
        subst e1 e2 e3
        conv => cbv
        refine callF_frame (greyPush_nil (.lit 1)) [] rfl trivial rfl rfl (fun r h' n' ⟨e1, e2, e3⟩ => ?_)
        subst e1 e2 e3
        conv => cbv
        refine callF_frame greyOver_nil [] rfl trivial rfl rfl (fun r h' n' ⟨e1, e2, e3⟩ => ?_)
        subst e1 e2 e3
        conv => cbv
        refine callF_frame greyLen_nil [] rfl trivial rfl rfl (fun r h' n' ⟨e1, e2, e3⟩ => ?_)
        subst e1 e2 e3
        conv => cbv
        refine Br.mk (fun g6 => ?_) (fun g6 => ?_)
        case refine_2 =>
          have g6 : ¬ ((0 : Int) = 0) := g6
          exfalso
          exact g6 rfl
        conv => cbv
        refine RetF.mk [.p (.bool true)] [] 1 (Re.of [] [] (by first | exact Nat.zero_le _ | exact Nat.le_refl _ | decide | (dsimp only; decide)) rfl rfl (by (try (conv => cbv)); (repeat' (first | exact trivial | rfl | exact SEq.mk rfl | (exact SEq.mk (by first | assumption | (symm; assumption))) | (simp only [I.val]; done) | (simp only [I.val]; omega) | omega | assumption | (refine And.intro ?_ ?_) | exact Or.inl rfl | exact Or.inr (by assumption) | exact List.Mem.head _ | exact List.Mem.tail _ (List.Mem.head _) | exact ⟨_, rfl⟩ | exact ⟨_, rfl, Or.inl rfl⟩ | (refine ⟨_, rfl, Or.inr ?_⟩; (try (conv => cbv))) | (simp only [I.val] at *; first | omega | (subst_vars; rfl) | simp_all) | (refine Or.inr ?_; (try (conv => cbv)))))) (by (try (conv => cbv)); (repeat' (first | exact trivial | rfl | exact SEq.mk rfl | (exact SEq.mk (by first | assumption | (symm; assumption))) | (simp only [I.val]; done) | (simp only [I.val]; omega) | omega | assumption | (refine And.intro ?_ ?_) | exact Or.inl rfl | exact Or.inr (by assumption) | exact List.Mem.head _ | exact List.Mem.tail _ (List.Mem.head _) | exact ⟨_, rfl⟩ | exact ⟨_, rfl, Or.inl rfl⟩ | (refine ⟨_, rfl, Or.inr ?_⟩; (try (conv => cbv))) | (simp only [I.val] at *; first | omega | (subst_vars; rfl) | simp_all) | (refine Or.inr ?_; (try (conv => cbv))))))) rfl rfl
end Go.Proofs.YtocliihimbggjaaDoor
