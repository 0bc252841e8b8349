/-
  Laws of layer 20.
-/
import Derived.Test.YtocliihimbggjaaDoorQd
namespace Go.Proofs.YtocliihimbggjaaDoor
open Go Go.LX
set_option maxRecDepth 100000
set_option linter.unusedVariables false

def row (t : Int) : Nat → List Int
  | 0 => []
  | k + 1 => row t k ++ [t + k]
theorem row_length (t : Int) : ∀ k, (row t k).length = k
  | 0 => rfl
  | k + 1 => by rw [row, List.length_append, row_length t k]; rfl
theorem row_get (t : Int) : ∀ k j, j < k → (row t k)[j]? = some (t + j)
  | k + 1, j, h => by
    rw [row]
    by_cases e : j < k
    · rw [List.getElem?_append_left (by rw [row_length]; exact e), row_get t k j e]
    · have : j = k := by omega
      rw [List.getElem?_append_right (by rw [row_length]; omega), row_length, this, Nat.sub_self]; rfl
theorem row_mem (t : Int) (k : Nat) (x : Int) (h : x ∈ row t k) : t ≤ x ∧ x < t + k := by
  obtain ⟨j, hj⟩ := List.getElem?_of_mem h
  have hl := (List.getElem?_eq_some_iff.1 hj).1
  rw [row_length] at hl
  rw [row_get t k j hl] at hj
  have := Option.some.inj hj
  omega
theorem queueEach (A : List Int) : (∀ x ∈ A, 0 ≤ x ∧ x < 100000) → ∀ x ∈ A, i64 x := fun h x hx => by
  have := h x hx
  constructor <;> omega
set_option maxHeartbeats 2000000 in
theorem awake20_lx (o : Unit → Obj) (ho : IsPow o) : CallF (fun _ => Tryd.prog) 19 [] [(0, .fix 2 o)] 1 (fun r h n => r = .p (.bool true) ∧ h = [(0, .fix 2 o)] ∧ n = 1) := by
  refine callF_of_body tok Tryd.func19 (by kernel_rfl) rfl rfl rfl ?_; conv => cbv
  refine callF_frame queueNew_lx [] rfl trivial rfl rfl (fun r h' n' ⟨z, e1, e2, e3, hz⟩ => ?_)
  subst e1 e2 e3
  conv => cbv
  refine CallF.le (args0 := [.ptr 1 (.lit 0), .p (.int .i64 (.sym 5))]) (callF_frame (queueAdd_lx [] 5 z hz (by simp) ⟨by decide, by decide⟩ (by simp) o ho) [(0, 0), (1, 1)] rfl (by simp [hmapOk, nget, hget, renB, okB]) rfl rfl (fun r h' n' ⟨b, z2, A2, e1, e2, e3, hz2, hq⟩ => ?_)) (by simp [ales, ale, pvle, I.val])
  subst e1 e2 e3
  obtain ⟨rfl, hA2⟩ : b = true ∧ A2 = [5] := by
    rcases hq with ⟨h, _⟩ | ⟨_, h1, h2⟩
    · simp at h
    · exact ⟨h1, h2⟩
  subst hA2
  have h5 : ∀ x ∈ ([5] : List Int), i64 x := queueEach _ (by intro x hx; simp at hx; omega)
  have h56 : ∀ x ∈ ([5, 6] : List Int), i64 x := queueEach _ (by intro x hx; simp at hx; omega)
  have h6 : ∀ x ∈ ([6] : List Int), i64 x := queueEach _ (by intro x hx; simp at hx; omega)
  conv => cbv
  refine CallF.le (args0 := [.ptr 1 (.lit 0), .p (.int .i64 (.sym 5))]) (callF_frame (queueAdd_lx [5] 5 z2 hz2 h5 ⟨by decide, by decide⟩ (by simp) o ho) [(0, 0), (1, 1)] rfl (by simp [hmapOk, nget, hget, renB, okB]) rfl rfl (fun r h' n' ⟨b, z3, A3, e1, e2, e3, hz3, hq⟩ => ?_)) (by simp [ales, ale, pvle, I.val])
  subst e1 e2 e3
  obtain ⟨rfl, hA3⟩ : b = false ∧ A3 = [5] := by
    rcases hq with ⟨_, h1, h2⟩ | ⟨h, _⟩
    · exact ⟨h1, h2⟩
    · simp at h
  subst hA3
  conv => cbv
  refine CallF.le (args0 := [.ptr 1 (.lit 0), .p (.int .i64 (.sym 6))]) (callF_frame (queueAdd_lx [5] 6 z3 hz3 h5 ⟨by decide, by decide⟩ (by simp) o ho) [(0, 0), (1, 1)] rfl (by simp [hmapOk, nget, hget, renB, okB]) rfl rfl (fun r h' n' ⟨b, z4, A4, e1, e2, e3, hz4, hq⟩ => ?_)) (by simp [ales, ale, pvle, I.val])
  subst e1 e2 e3
  obtain ⟨rfl, hA4⟩ : b = true ∧ A4 = [5, 6] := by
    rcases hq with ⟨h, _⟩ | ⟨_, h1, h2⟩
    · simp at h
    · exact ⟨h1, h2⟩
  subst hA4
  conv => cbv
  refine CallF.le (args0 := [.ptr 1 (.lit 0), .p (.int .i64 (.sym 3))]) (callF_frame (queueAt_lx [5, 6] 3 ⟨by decide, by decide⟩ z4 hz4 h56 (by simp)) [(0, 1)] rfl (by simp [hmapOk, nget, hget, renB, okB]) rfl rfl (fun r h' n' ⟨x, b, e1, e2, e3, hq⟩ => ?_)) (by simp [ales, ale, pvle, I.val])
  subst e1 e2 e3
  obtain ⟨rfl, hx⟩ : b = true ∧ x = 6 := by
    rcases hq with ⟨h, _⟩ | ⟨_, h1, h2⟩
    · cases h
    · exact ⟨h1, (Option.some.inj (show some (6 : Int) = some x from h2)).symm⟩
  conv => cbv
  refine Br.mk (fun g => ?_) (fun g => ?_)
  case refine_2 =>
    have g : ¬ x = 6 := g
    exfalso
    exact g hx
  conv => cbv
  refine callF_frame (queueLen_lx [5, 6] z4 hz4 h56 (by simp)) [(0, 1)] rfl (by simp [hmapOk, nget, hget, renB, okB]) rfl rfl (fun r h' n' ⟨m, e1, e2, e3, hm⟩ => ?_)
  subst e1 e2 e3
  have hm : m = 2 := hm
  conv => cbv
  refine Br.mk (fun g => ?_) (fun g => ?_)
  case refine_2 =>
    have g : ¬ m = 2 := g
    exfalso
    exact g hm
  conv => cbv
  refine CallF.le (args0 := [.ptr 1 (.lit 0), .p (.int .i64 (.sym 5))]) (callF_frame (queueRemove_lx [5, 6] 5 z4 hz4 h56 ⟨by decide, by decide⟩ (by simp) o ho) [(0, 0), (1, 1)] rfl (by simp [hmapOk, nget, hget, renB, okB]) rfl rfl (fun r h' n' ⟨b, z5, A5, e1, e2, e3, hz5, hA5, hq⟩ => ?_)) (by simp [ales, ale, pvle, I.val])
  subst e1 e2 e3
  obtain rfl : b = true := hq.2 (by simp)
  have hA5 : A5 = [6] := by rw [hA5]; rfl
  subst hA5
  conv => cbv
  refine CallF.le (args0 := [.ptr 1 (.lit 0), .p (.int .i64 (.sym 5))]) (callF_frame (queueRemove_lx [6] 5 z5 hz5 h6 ⟨by decide, by decide⟩ (by simp) o ho) [(0, 0), (1, 1)] rfl (by simp [hmapOk, nget, hget, renB, okB]) rfl rfl (fun r h' n' ⟨b, z6, A6, e1, e2, e3, hz6, hA6, hq⟩ => ?_)) (by simp [ales, ale, pvle, I.val])
  subst e1 e2 e3
  obtain rfl : b = false := by
    cases b with
    | false => rfl
    | true => have := hq.1 rfl; simp at this
  conv => cbv
  refine RetF.mk [.p (.bool true)] [(0, .fix 2 o)] 1 (Re.of [(0, 0)] [] (by first | exact Nat.zero_le _ | exact Nat.le_refl _ | decide | (dsimp only; decide)) rfl rfl (by (try (conv => cbv)); (repeat' (first | exact trivial | rfl | exact SEq.mk rfl | (exact SEq.mk (by first | assumption | (symm; assumption))) | (simp only [I.val]; done) | (simp only [I.val]; omega) | omega | assumption | (refine And.intro ?_ ?_) | exact Or.inl rfl | exact Or.inr (by assumption) | exact List.Mem.head _ | exact List.Mem.tail _ (List.Mem.head _) | exact ⟨_, rfl⟩ | exact ⟨_, rfl, Or.inl rfl⟩ | (refine ⟨_, rfl, Or.inr ?_⟩; (try (conv => cbv))) | (simp only [I.val] at *; first | omega | (subst_vars; rfl) | simp_all) | (refine Or.inr ?_; (try (conv => cbv)))))) (by (try (conv => cbv)); (repeat' (first | exact trivial | rfl | exact SEq.mk rfl | (exact SEq.mk (by first | assumption | (symm; assumption))) | (simp only [I.val]; done) | (simp only [I.val]; omega) | omega | assumption | (refine And.intro ?_ ?_) | exact Or.inl rfl | exact Or.inr (by assumption) | exact List.Mem.head _ | exact List.Mem.tail _ (List.Mem.head _) | exact ⟨_, rfl⟩ | exact ⟨_, rfl, Or.inl rfl⟩ | (refine ⟨_, rfl, Or.inr ?_⟩; (try (conv => cbv))) | (simp only [I.val] at *; first | omega | (subst_vars; rfl) | simp_all) | (refine Or.inr ?_; (try (conv => cbv))))))) rfl ⟨rfl, rfl, rfl⟩
set_option maxHeartbeats 2000000 in
theorem queueRound_lx (n i : Int) (hn : i64 n) (hi : i64 i) (o : Unit → Obj) (ho : IsPow o) :
    CallF (fun _ => Tryd.prog) 8 [.p (.int .i64 (.sym n)), .p (.int .i64 (.sym i))] [(0, .fix 2 o)] 1 (fun r _ _ => r = .p (.bool true)) := by
  refine callF_of_body tok Tryd.func8 (by kernel_rfl) rfl rfl rfl ?_; conv => cbv
  refine Fit.wrap fun x hx => ?_
  have hx : x = IntKind.u64.wrap n := hx
  have hx0 : 0 ≤ x := by rw [hx]; simp [IntKind.wrap, IntKind.bits, IntKind.signed]; omega
  clear hx
  conv => cbv
  refine Sum.mk fun k hk => ?_
  have hk : k = x % 10 := (show k = x.tmod 10 from hk).trans (Int.tmod_eq_emod_of_nonneg hx0)
  conv => cbv
  refine Fit.mk (by show (-9223372036854775808 : Int) ≤ k; omega) (by show k ≤ 9223372036854775807; omega) fun k2 hk2 => ?_
  have hk2 : k2 = k := hk2
  conv => cbv
  refine Fit.mk (by show (-9223372036854775808 : Int) ≤ 1 + k2; omega) (by show 1 + k2 ≤ 9223372036854775807; omega) fun N hN => ?_
  have hN : N = 1 + k2 := hN
  have hN0 : 1 ≤ N := by omega
  have hN1 : N ≤ 10 := by omega
  clear hN hk2 hk hx0
  conv => cbv
  refine callF_frame queueNew_lx [] rfl trivial rfl rfl (fun r h' n' ⟨z, e1, e2, e3, hz⟩ => ?_)
  subst e1 e2 e3
  conv => cbv
  refine callF_frame (awake20_lx o ho) [(0, 0)] rfl (by simp [hmapOk, nget, hget, renB, okB]) rfl rfl (fun r h' n' ⟨e1, e2, e3⟩ => ?_)
  subst e1 e2 e3
  conv => cbv
  refine LoopF.mk (fun m s => ∃ (j : Int) (z : ByteArray), s = ⟨.p (.int .i64 (.sym N)) :: .p (.int .i64 (.sym i)) :: .undef :: .undef :: .undef :: .ptr 1 (.lit 0) :: .p (.int .i64 (.sym j)) :: undefs 82, [(0, .fix 2 o), (1, .pure false [.str fun _ => z])], 2⟩ ∧ 0 ≤ j ∧ j ≤ N ∧ z = ⟨(enc (row 100 j.toNat)).toArray⟩ ∧ m = (N - j).toNat) N.toNat _
    (Re.of [(0, 0), (1, 1)] [] (by first | exact Nat.zero_le _ | exact Nat.le_refl _ | decide | (dsimp only; decide)) rfl rfl (by (try (conv => cbv)); (repeat' (first | exact trivial | rfl | exact SEq.mk rfl | (exact SEq.mk (by first | assumption | (symm; assumption))) | (simp only [I.val]; done) | (simp only [I.val]; omega) | omega | assumption | (refine And.intro ?_ ?_) | exact Or.inl rfl | exact Or.inr (by assumption) | exact List.Mem.head _ | exact List.Mem.tail _ (List.Mem.head _) | exact ⟨_, rfl⟩ | exact ⟨_, rfl, Or.inl rfl⟩ | (refine ⟨_, rfl, Or.inr ?_⟩; (try (conv => cbv))) | (simp only [I.val] at *; first | omega | (subst_vars; rfl) | simp_all) | (refine Or.inr ?_; (try (conv => cbv)))))) (by (try (conv => cbv)); (repeat' (first | exact trivial | rfl | exact SEq.mk rfl | (exact SEq.mk (by first | assumption | (symm; assumption))) | (simp only [I.val]; done) | (simp only [I.val]; omega) | omega | assumption | (refine And.intro ?_ ?_) | exact Or.inl rfl | exact Or.inr (by assumption) | exact List.Mem.head _ | exact List.Mem.tail _ (List.Mem.head _) | exact ⟨_, rfl⟩ | exact ⟨_, rfl, Or.inl rfl⟩ | (refine ⟨_, rfl, Or.inr ?_⟩; (try (conv => cbv))) | (simp only [I.val] at *; first | omega | (subst_vars; rfl) | simp_all) | (refine Or.inr ?_; (try (conv => cbv))))))) ⟨0, z, rfl, by omega, by omega, hz, by omega⟩ ?_
  rintro m s ⟨j, z, rfl, h0, h1, hz, hm⟩
  have hrl := row_length 100 j.toNat
  have hri := queueEach (row 100 j.toNat) (fun x hx => by have := row_mem 100 j.toNat x hx; omega)
  conv => cbv
  refine Br.mk (fun g => ?_) (fun g => ?_)
  · have g : j < N := g
    obtain ⟨m', rfl⟩ : ∃ m', m = m' + 1 := ⟨m - 1, by omega⟩
    conv => cbv
    refine Fit.mk (by show (-9223372036854775808 : Int) ≤ 100 + j; omega) (by show 100 + j ≤ 9223372036854775807; omega) fun p hp => ?_
    have hp : p = 100 + j := hp
    conv => cbv
    refine callF_frame (queueAdd_lx (row 100 j.toNat) p z hz hri ⟨by omega, by omega⟩ (by omega) o ho) [(0, 0), (1, 1)] rfl (by simp [hmapOk, nget, hget, renB, okB]) rfl rfl (fun r h' n' ⟨b, z2, A2, e1, e2, e3, hz2, hq⟩ => ?_)
    subst e1 e2 e3
    have hA2 : A2 = row 100 (j.toNat + 1) := by
      rcases hq with ⟨h, _⟩ | ⟨_, _, h⟩
      · have := row_mem 100 j.toNat p h; omega
      · rw [h, row]; congr 2; omega
    conv => cbv
    refine Fit.mk (by show (-9223372036854775808 : Int) ≤ j + 1; omega) (by show j + 1 ≤ 9223372036854775807; omega) fun j2 hj2 => ?_
    have hj2 : j2 = j + 1 := hj2
    have q1 : z2 = ⟨(enc (row 100 j2.toNat)).toArray⟩ := by rw [hz2, hA2, show j2.toNat = j.toNat + 1 by omega]
    conv => cbv
    refine Again.mk m' _ (Nat.lt_succ_self _) (Re.of [(0, 0), (1, 1)] [] (by first | exact Nat.zero_le _ | exact Nat.le_refl _ | decide | (dsimp only; decide)) rfl rfl (by (try (conv => cbv)); (repeat' (first | exact trivial | rfl | exact SEq.mk rfl | (exact SEq.mk (by first | assumption | (symm; assumption))) | (simp only [I.val]; done) | (simp only [I.val]; omega) | omega | assumption | (refine And.intro ?_ ?_) | exact Or.inl rfl | exact Or.inr (by assumption) | exact List.Mem.head _ | exact List.Mem.tail _ (List.Mem.head _) | exact ⟨_, rfl⟩ | exact ⟨_, rfl, Or.inl rfl⟩ | (refine ⟨_, rfl, Or.inr ?_⟩; (try (conv => cbv))) | (simp only [I.val] at *; first | omega | (subst_vars; rfl) | simp_all) | (refine Or.inr ?_; (try (conv => cbv)))))) (by (try (conv => cbv)); (repeat' (first | exact trivial | rfl | exact SEq.mk rfl | (exact SEq.mk (by first | assumption | (symm; assumption))) | (simp only [I.val]; done) | (simp only [I.val]; omega) | omega | assumption | (refine And.intro ?_ ?_) | exact Or.inl rfl | exact Or.inr (by assumption) | exact List.Mem.head _ | exact List.Mem.tail _ (List.Mem.head _) | exact ⟨_, rfl⟩ | exact ⟨_, rfl, Or.inl rfl⟩ | (refine ⟨_, rfl, Or.inr ?_⟩; (try (conv => cbv))) | (simp only [I.val] at *; first | omega | (subst_vars; rfl) | simp_all) | (refine Or.inr ?_; (try (conv => cbv))))))) ⟨j2, z2, rfl, by omega, by omega, q1, by omega⟩
  · have g : ¬ j < N := g
    have hjN : j = N := by omega
    subst hjN
    conv => cbv
    refine Fit.wrap fun x hx => ?_
    have hx : x = IntKind.u64.wrap i := hx
    have hx0 : 0 ≤ x := by rw [hx]; simp [IntKind.wrap, IntKind.bits, IntKind.signed]; omega
    clear hx
    conv => cbv
    refine Sum.mk fun k hk => ?_
    have hk : k = x % 1000 := (show k = x.tmod 1000 from hk).trans (Int.tmod_eq_emod_of_nonneg hx0)
    conv => cbv
    refine Fit.mk (by show (-9223372036854775808 : Int) ≤ k; omega) (by show k ≤ 9223372036854775807; omega) fun k2 hk2 => ?_
    have hk2 : k2 = k := hk2
    have hk0 : 0 ≤ k2 := by omega
    have hk1 : k2 < 1000 := by omega
    clear hk2 hk hx0
    conv => cbv
    have hne : row 100 j.toNat ≠ [] := fun e => by rw [e] at hrl; simp at hrl; omega
    have hj : ((j.toNat : Nat) : Int) = j := by omega
    have hmodc : ((k2.toNat % j.toNat : Nat) : Int) = k2 % j := by rw [Int.natCast_emod, hj, Int.toNat_of_nonneg hk0]
    refine callF_frame (queueAt_lx (row 100 j.toNat) k2 ⟨by omega, by omega⟩ z hz hri (by omega)) [(0, 1)] rfl (by simp [hmapOk, nget, hget, renB, okB]) rfl rfl (fun r h' n' ⟨u, b1, e1, e2, e3, q1⟩ => ?_)
    subst e1 e2 e3
    obtain ⟨rfl, hu⟩ : b1 = true ∧ u = 100 + k2 % j := by
      rcases q1 with ⟨h, _⟩ | ⟨_, h1, h2⟩
      · exact absurd h hne
      · refine ⟨h1, ?_⟩
        rw [hrl, show (max k2 0).toNat = k2.toNat by omega, row_get 100 j.toNat _ (Nat.mod_lt _ (by omega))] at h2
        have := Option.some.inj h2
        rw [hmodc] at this; omega
    conv => cbv
    refine Fit.mk (by show (-9223372036854775808 : Int) ≤ k2 + j; omega) (by show k2 + j ≤ 9223372036854775807; omega) fun k3 hk3 => ?_
    have hk3 : k3 = k2 + j := hk3
    conv => cbv
    refine callF_frame (queueAt_lx (row 100 j.toNat) k3 ⟨by omega, by omega⟩ z hz hri (by omega)) [(0, 1)] rfl (by simp [hmapOk, nget, hget, renB, okB]) rfl rfl (fun r h' n' ⟨v, b2, e1, e2, e3, q2⟩ => ?_)
    subst e1 e2 e3
    obtain ⟨rfl, hv⟩ : b2 = true ∧ v = 100 + k2 % j := by
      rcases q2 with ⟨h, _⟩ | ⟨_, h1, h2⟩
      · exact absurd h hne
      · refine ⟨h1, ?_⟩
        rw [hrl, show (max k3 0).toNat = k2.toNat + j.toNat by omega, Nat.add_mod_right, row_get 100 j.toNat _ (Nat.mod_lt _ (by omega))] at h2
        have := Option.some.inj h2
        rw [hmodc] at this; omega
    conv => cbv
    refine Fit.mk (by show (-9223372036854775808 : Int) ≤ -1 - k2; omega) (by show -1 - k2 ≤ 9223372036854775807; omega) fun k4 hk4 => ?_
    have hk4 : k4 = -1 - k2 := hk4
    conv => cbv
    refine callF_frame (queueAt_lx (row 100 j.toNat) k4 ⟨by omega, by omega⟩ z hz hri (by omega)) [(0, 1)] rfl (by simp [hmapOk, nget, hget, renB, okB]) rfl rfl (fun r h' n' ⟨y, b3, e1, e2, e3, q3⟩ => ?_)
    subst e1 e2 e3
    obtain ⟨rfl, hy⟩ : b3 = true ∧ y = 100 + 0 := by
      rcases q3 with ⟨h, _⟩ | ⟨_, h1, h2⟩
      · exact absurd h hne
      · refine ⟨h1, ?_⟩
        rw [hrl, show (max k4 0).toNat = 0 by omega, Nat.zero_mod, row_get 100 j.toNat 0 (by omega)] at h2
        have := Option.some.inj h2
        omega
    conv => cbv
    refine Need.mk (show j ≠ 0 by omega) ?_
    conv => cbv
    refine Sum.mk fun t ht => ?_
    have ht : t = k2 % j := (show t = k2.tmod j from ht).trans (Int.tmod_eq_emod_of_nonneg hk0)
    have ht0 : 0 ≤ t := by rw [ht]; exact Int.emod_nonneg _ (by omega)
    have ht1 : t < j := by rw [ht]; exact Int.emod_lt_of_pos _ (by omega)
    conv => cbv
    refine Fit.mk (by show (-9223372036854775808 : Int) ≤ 100 + t; omega) (by show 100 + t ≤ 9223372036854775807; omega) fun t2 ht2 => ?_
    have ht2 : t2 = 100 + t := ht2
    conv => cbv
    refine Br.mk (fun g => ?_) (fun g => ?_)
    case refine_2 =>
      have g : ¬ u = t2 := g
      exfalso
      exact g (by omega)
    conv => cbv
    refine Br.mk (fun g => ?_) (fun g => ?_)
    case refine_2 =>
      have g : ¬ v = u := g
      exfalso
      exact g (by omega)
    conv => cbv
    refine Br.mk (fun g => ?_) (fun g => ?_)
    case refine_2 =>
      have g : ¬ y = 100 := g
      exfalso
      exact g (by omega)
    conv => cbv
    refine callF_frame (queueLen_lx (row 100 j.toNat) z hz hri (by omega)) [(0, 1)] rfl (by simp [hmapOk, nget, hget, renB, okB]) rfl rfl (fun r h' n' ⟨m, e1, e2, e3, hm⟩ => ?_)
    subst e1 e2 e3
    have hm : m = j := by omega
    conv => cbv
    refine Br.mk (fun g => ?_) (fun g => ?_)
    case refine_2 =>
      have g : ¬ m = j := g
      exfalso
      exact g hm
    conv => cbv
    refine RetF.mk [.p (.bool true)] [] 1 (Re.of [] [] (by first | exact Nat.zero_le _ | exact Nat.le_refl _ | decide | (dsimp only; decide)) rfl rfl (by (try (conv => cbv)); (repeat' (first | exact trivial | rfl | exact SEq.mk rfl | (exact SEq.mk (by first | assumption | (symm; assumption))) | (simp only [I.val]; done) | (simp only [I.val]; omega) | omega | assumption | (refine And.intro ?_ ?_) | exact Or.inl rfl | exact Or.inr (by assumption) | exact List.Mem.head _ | exact List.Mem.tail _ (List.Mem.head _) | exact ⟨_, rfl⟩ | exact ⟨_, rfl, Or.inl rfl⟩ | (refine ⟨_, rfl, Or.inr ?_⟩; (try (conv => cbv))) | (simp only [I.val] at *; first | omega | (subst_vars; rfl) | simp_all) | (refine Or.inr ?_; (try (conv => cbv)))))) (by (try (conv => cbv)); (repeat' (first | exact trivial | rfl | exact SEq.mk rfl | (exact SEq.mk (by first | assumption | (symm; assumption))) | (simp only [I.val]; done) | (simp only [I.val]; omega) | omega | assumption | (refine And.intro ?_ ?_) | exact Or.inl rfl | exact Or.inr (by assumption) | exact List.Mem.head _ | exact List.Mem.tail _ (List.Mem.head _) | exact ⟨_, rfl⟩ | exact ⟨_, rfl, Or.inl rfl⟩ | (refine ⟨_, rfl, Or.inr ?_⟩; (try (conv => cbv))) | (simp only [I.val] at *; first | omega | (subst_vars; rfl) | simp_all) | (refine Or.inr ?_; (try (conv => cbv))))))) rfl rfl
end Go.Proofs.YtocliihimbggjaaDoor
