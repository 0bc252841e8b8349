/-
  Law 27, ScriptBack.
-/
import Derived.Test.YtongaoioaafjnaaScU
import Derived.Test.YtongaoioaafjnaaScV
namespace Go.Proofs.Ytongaoioaafjnaa
open Go Go.LX
set_option maxRecDepth 100000
set_option linter.unusedVariables false

theorem valE_ent (p q : Int) (hp : 0 ≤ p ∧ p < 256) (hq : 0 ≤ q ∧ q < 256) : ValE (ent p q) := by
  unfold ValE ent entK entN entD
  dsimp only
  by_cases h1 : p < 160
  · rw [if_pos h1, if_pos h1, if_pos h1]; omega
  · rw [if_neg h1, if_neg h1, if_neg h1]
    by_cases h2 : p < 192
    · rw [if_pos h2, if_pos h2]; omega
    · rw [if_neg h2, if_neg h2]
      by_cases h3 : p < 240
      · rw [if_pos h3, if_pos h3]; omega
      · rw [if_neg h3, if_neg h3]; omega
theorem valE_Es : ∀ (n : Nat) (l : List Int), (∀ x ∈ l, 0 ≤ x ∧ x < 256) → ∀ e ∈ Es n l, ValE e
  | 0, l, _, e, h => by simp [Es] at h
  | n + 1, [], _, e, h => by simp [Es] at h
  | n + 1, [p], hl, e, h => by simp [Es] at h; subst h; exact valE_ent p 0 (hl p (by simp)) (by omega)
  | n + 1, p :: q :: l, hl, e, h => by
    rw [Es, List.mem_cons] at h
    rcases h with rfl | h
    · exact valE_ent p q (hl p (by simp)) (hl q (by simp))
    · exact valE_Es n l (fun x hx => hl x (by simp [hx])) e h
theorem u8id {x : Int} (h0 : 0 ≤ x) (h1 : x < 256) : IntKind.u8.wrap x = x := by
  simp [IntKind.wrap, IntKind.bits, IntKind.signed]; omega
theorem ent_val (e : E3) (h : ValE e) : ent (bF e) (bS e) = e := by
  obtain ⟨k, x, d⟩ := e
  unfold ValE at h
  dsimp only at h
  rcases h with ⟨rfl, h1, h2, h3, h4⟩ | ⟨rfl, h1, h2, rfl⟩ | ⟨rfl, h1, h2, rfl⟩ | ⟨rfl, rfl, rfl⟩
  · have f : bF (1, x, d) = x := u8id (x := x) h1 (by omega)
    have g : bS (1, x, d) = d := u8id (x := d) h3 (by omega)
    rw [f, g]; unfold ent entK entN entD
    rw [if_pos (by omega), if_pos (by omega), if_pos (by omega), Int.emod_eq_of_lt h1 h2, Int.emod_eq_of_lt h3 h4]
  · have f : bF (2, x, 0) = 160 := rfl
    have g : bS (2, x, 0) = x := u8id (x := x) h1 (by omega)
    rw [f, g]; unfold ent entK entN entD
    simp; omega
  · have f : bF (3, x, 0) = 192 := rfl
    have g : bS (3, x, 0) = x := u8id (x := x) h1 (by omega)
    rw [f, g]; unfold ent entK entN entD
    simp; omega
  · rfl
theorem Es_back : ∀ (n : Nat) (M : List E3), M.length ≤ n → (∀ e ∈ M, ValE e) → Es n (bytesE M) = M
  | n, [], _, _ => by cases n <;> rfl
  | 0, e :: M, h, _ => by simp at h
  | n + 1, e :: M, h, hv => by
    rw [bytesE, Es, ent_val e (hv e List.mem_cons_self), Es_back n M (by simpa using h) fun x hx => hv x (List.mem_cons_of_mem _ hx)]
theorem Es_length : ∀ (n : Nat) (l : List Int), (Es n l).length = min n ((l.length + 1) / 2)
  | 0, l => by simp [Es]
  | n + 1, [] => by simp [Es]
  | n + 1, [p] => by simp [Es]
  | n + 1, p :: q :: l => by simp [Es, Es_length n l]; omega
set_option maxHeartbeats 600000 in
theorem scriptBack_lx (A : List E3) (bs : List Int) (n m : Int) (la lb : List PV) (hn : n = A.length) (hm : m = bs.length) (ha : la = ents A) (hb : lb = u8s bs) (h8 : ∀ x ∈ bs, 0 ≤ x ∧ x < 256) :
    CallF (fun _ => Try.prog) 5 [.p (.vsl (.sym n) true la), .p (.vsl (.sym m) true lb)] [] 0 (fun r _ _ => r = .p (.bool true)) := by
  refine callF_of_body tok Try.func5 (by kernel_rfl) rfl rfl rfl ?_; conv => cbv
  refine Br.mk (fun e1 => ?_) (fun e1 => ?_)
  · conv => cbv
    refine callF_val awake27_lx (by simp [ales, renVs]) rfl (fun r hr => by subst hr; rfl) (fun r hr => ?_)
    subst hr
    conv => cbv
    refine RetF.mk [.p (.bool true)] [] 0 (Re.of [] [] (by first | exact Nat.zero_le _ | exact Nat.le_refl _ | decide) rfl rfl (by (try (conv => cbv)); (repeat' (first | exact trivial | rfl | exact SEq.mk rfl | (exact SEq.mk (by first | assumption | (symm; assumption))) | (simp only [I.val]; done) | (simp only [I.val]; omega) | omega | assumption | (refine And.intro ?_ ?_) | exact Or.inl rfl | exact Or.inr (by assumption) | exact List.Mem.head _ | exact List.Mem.tail _ (List.Mem.head _) | exact ⟨_, rfl⟩ | exact ⟨_, rfl, Or.inl rfl⟩ | (refine ⟨_, rfl, Or.inr ?_⟩; (try (conv => cbv))) | (simp only [I.val] at *; first | omega | (subst_vars; rfl) | simp_all)))) (by (try (conv => cbv)); (repeat' (first | exact trivial | rfl | exact SEq.mk rfl | (exact SEq.mk (by first | assumption | (symm; assumption))) | (simp only [I.val]; done) | (simp only [I.val]; omega) | omega | assumption | (refine And.intro ?_ ?_) | exact Or.inl rfl | exact Or.inr (by assumption) | exact List.Mem.head _ | exact List.Mem.tail _ (List.Mem.head _) | exact ⟨_, rfl⟩ | exact ⟨_, rfl, Or.inl rfl⟩ | (refine ⟨_, rfl, Or.inr ?_⟩; (try (conv => cbv))) | (simp only [I.val] at *; first | omega | (subst_vars; rfl) | simp_all))))) rfl rfl
  have e1 : ¬ 700 < m := e1
  conv => cbv
  refine Br.mk (fun e2 => ?_) (fun e2 => ?_)
  · conv => cbv
    refine callF_val awake27_lx (by simp [ales, renVs]) rfl (fun r hr => by subst hr; rfl) (fun r hr => ?_)
    subst hr
    conv => cbv
    refine RetF.mk [.p (.bool true)] [] 0 (Re.of [] [] (by first | exact Nat.zero_le _ | exact Nat.le_refl _ | decide) rfl rfl (by (try (conv => cbv)); (repeat' (first | exact trivial | rfl | exact SEq.mk rfl | (exact SEq.mk (by first | assumption | (symm; assumption))) | (simp only [I.val]; done) | (simp only [I.val]; omega) | omega | assumption | (refine And.intro ?_ ?_) | exact Or.inl rfl | exact Or.inr (by assumption) | exact List.Mem.head _ | exact List.Mem.tail _ (List.Mem.head _) | exact ⟨_, rfl⟩ | exact ⟨_, rfl, Or.inl rfl⟩ | (refine ⟨_, rfl, Or.inr ?_⟩; (try (conv => cbv))) | (simp only [I.val] at *; first | omega | (subst_vars; rfl) | simp_all)))) (by (try (conv => cbv)); (repeat' (first | exact trivial | rfl | exact SEq.mk rfl | (exact SEq.mk (by first | assumption | (symm; assumption))) | (simp only [I.val]; done) | (simp only [I.val]; omega) | omega | assumption | (refine And.intro ?_ ?_) | exact Or.inl rfl | exact Or.inr (by assumption) | exact List.Mem.head _ | exact List.Mem.tail _ (List.Mem.head _) | exact ⟨_, rfl⟩ | exact ⟨_, rfl, Or.inl rfl⟩ | (refine ⟨_, rfl, Or.inr ?_⟩; (try (conv => cbv))) | (simp only [I.val] at *; first | omega | (subst_vars; rfl) | simp_all))))) rfl rfl
  have e2 : ¬ 300 < n := e2
  conv => cbv
  refine callF_lend (playScript_own A n 300 la hn ha (by omega) rfl) (by simp [lends, lendV, pvle, I.val]) (fun r h' n' ⟨k, l, M, e1, e2, e3, _, hl, _⟩ => by subst e1 e2 e3; exact ⟨trivial, by simp only [flatB, hl]; exact ents_flat _, trivial⟩) (fun r h' n' ⟨k, L, M, e1, e2, e3, hk, hL, hM, hv⟩ => ?_)
  subst e1 e2 e3
  conv => cbv
  have hbM := Es_back 400 M (by omega) hv
  have hflY : ∀ (A : List E3) (m : Int) (r : LV) (h' : LH) (n' : Nat), ((Es 400 (bytesE A) = A ∧ ∃ (j : Int) (L : List PV), r = .tup [.sl 0 5 1 (.lit 0) (.sym j), .p (.int .i64 (.sym 0))] ∧ h' = [(0, .pure true L)] ∧ n' = 1 ∧ j = 2 * m ∧ L = u8s (bytesE A)) ∨ (Es 400 (bytesE A) ≠ A ∧ r = .tup [.p .nils, .p (.int .i64 (.sym 1))] ∧ h' = [] ∧ n' = 0)) → flatV r ∧ flatH h' := by
    intro A m r h' n' h
    rcases h with ⟨_, j, L, rfl, rfl, _, _, hL⟩ | ⟨_, rfl, rfl, _⟩
    · exact ⟨by simp [flatV, flatVs, flatP], by simp only [flatH, flatB, hL, and_true]; exact u8s_flat _⟩
    · exact ⟨by simp [flatV, flatVs, flatP], trivial⟩
  refine callF_lend (bytes_own M k L hk (pre_of hL) (by omega)) (by simp [lends, lendV, hget, I.val]) (hflY M k) (fun r h' n' h => ?_)
  rcases h with ⟨_, j1, L1, e1, e2, e3, hj1, hL1⟩ | ⟨h1, _⟩
  case inr => exact absurd hbM h1
  subst e1 e2 e3
  conv => cbv
  refine callF_lend (entries_own bs m lb hm hb h8 (by omega)) (by simp [lends, lendV, pvle, I.val]) (fun r h' n' ⟨k3, l3, e1, e2, e3, _, hl3⟩ => by subst e1 e2 e3; exact ⟨trivial, by simp only [flatB, hl3]; exact ents_flat _, trivial⟩) (fun r h' n' ⟨k3, l3, e1, e2, e3, hk3, hl3⟩ => ?_)
  subst e1 e2 e3
  conv => cbv
  have h400 := Es_le 400 bs
  have hbB := Es_back 400 (Es 400 bs) h400 (valE_Es 400 bs h8)
  refine callF_lend (bytes_own (Es 400 bs) k3 l3 hk3 (pre_of hl3) (by omega)) (by simp [lends, lendV, hget, I.val]) (hflY (Es 400 bs) k3) (fun r h' n' h => ?_)
  rcases h with ⟨_, j2, L2, e1, e2, e3, hj2, hL2⟩ | ⟨h1, _⟩
  case inr => exact absurd hbB h1
  subst e1 e2 e3
  conv => cbv
  refine callF_val awake27_lx (by simp [ales, renVs]) rfl (fun r hr => by subst hr; rfl) (fun r hr => ?_)
  subst hr
  conv => cbv
  have lM := bytesE_length M
  have lB := bytesE_length (Es 400 bs)
  have lE := Es_length 400 bs
  refine Br.mk (fun g => ?_) (fun g => ?_)
  case refine_2 =>
    have g : ¬ ((0 : Int) = 0) := g
    exfalso
    exact g rfl
  conv => cbv
  refine callF_lend (entries_own (bytesE M) j1 L1 (by omega) hL1 (bytesE_8 M) (by omega)) (by simp [lends, lendV, hget, I.val]) (fun r h' n' ⟨k4, l4, e1, e2, e3, _, hl4⟩ => by subst e1 e2 e3; exact ⟨trivial, by simp only [flatB, hl4]; exact ents_flat _, trivial⟩) (fun r h' n' ⟨k4, l4, e1, e2, e3, hk4, hl4⟩ => ?_)
  subst e1 e2 e3
  rw [hbM] at hk4 hl4
  conv => cbv
  refine callF_lend (plainEnt_lx M M k4 k l4 L hk4 hk hl4 (pre_of hL) (by omega)) (by simp [lends, lendV, hget, I.val]) (fun r h' n' ⟨⟨b, e1, _⟩, e2, e3⟩ => by subst e1 e2; exact ⟨trivial, trivial⟩) (fun r h' n' ⟨⟨b, e1, hb1⟩, e2, e3⟩ => ?_)
  subst e1 e2 e3
  have hb1 := hb1.2 rfl
  subst hb1
  conv => cbv
  refine Fit.mk (by show (-9223372036854775808 : Int) ≤ 2 * k; omega) (by show 2 * k ≤ 9223372036854775807; omega) ?_
  intro q1 hq1
  have hq1 : q1 = 2 * k := hq1
  conv => cbv
  refine Br.mk (fun g => ?_) (fun g => ?_)
  case refine_2 =>
    have g : ¬ j1 = q1 := g
    exfalso
    exact g (by omega)
  conv => cbv
  refine Br.mk (fun g => ?_) (fun g => ?_)
  case refine_2 =>
    have g : ¬ ((0 : Int) = 0) := g
    exfalso
    exact g rfl
  conv => cbv
  refine callF_lend (entries_own (bytesE (Es 400 bs)) j2 L2 (by omega) hL2 (bytesE_8 _) (by omega)) (by simp [lends, lendV, hget, I.val]) (fun r h' n' ⟨k4, l4, e1, e2, e3, _, hl4⟩ => by subst e1 e2 e3; exact ⟨trivial, by simp only [flatB, hl4]; exact ents_flat _, trivial⟩) (fun r h' n' ⟨k5, l5, e1, e2, e3, hk5, hl5⟩ => ?_)
  subst e1 e2 e3
  rw [hbB] at hk5 hl5
  conv => cbv
  refine callF_lend (plainEnt_lx (Es 400 bs) (Es 400 bs) k5 k3 l5 l3 hk5 hk3 hl5 (pre_of hl3) (by omega)) (by simp [lends, lendV, hget, I.val]) (fun r h' n' ⟨⟨b, e1, _⟩, e2, e3⟩ => by subst e1 e2; exact ⟨trivial, trivial⟩) (fun r h' n' ⟨⟨b, e1, hb1⟩, e2, e3⟩ => ?_)
  subst e1 e2 e3
  have hb1 := hb1.2 rfl
  subst hb1
  conv => cbv
  refine Fit.mk (by show (-9223372036854775808 : Int) ≤ m + 1; omega) (by show m + 1 ≤ 9223372036854775807; omega) ?_
  intro q2 hq2
  have hq2 : q2 = m + 1 := hq2
  conv => cbv
  have hq : q2.tdiv 2 = q2 / 2 := Int.tdiv_eq_ediv_of_nonneg (by omega)
  refine Fit.mk (by show (-9223372036854775808 : Int) ≤ q2.tdiv 2; omega) (by show q2.tdiv 2 ≤ 9223372036854775807; omega) ?_
  intro q3 hq3
  have hq3 : q3 = q2 / 2 := hq3.trans hq
  conv => cbv
  refine Br.mk (fun g => ?_) (fun g => ?_)
  · have g : q3 < 400 := g
    conv => cbv
    refine Br.mk (fun g2 => ?_) (fun g2 => ?_)
    case refine_2 =>
      have g2 : ¬ k3 = q3 := g2
      exfalso
      exact g2 (by omega)
    conv => cbv
    refine RetF.mk [.p (.bool true)] [] 0 (Re.of [] [] (by first | exact Nat.zero_le _ | exact Nat.le_refl _ | decide) rfl rfl (by (try (conv => cbv)); (repeat' (first | exact trivial | rfl | exact SEq.mk rfl | (exact SEq.mk (by first | assumption | (symm; assumption))) | (simp only [I.val]; done) | (simp only [I.val]; omega) | omega | assumption | (refine And.intro ?_ ?_) | exact Or.inl rfl | exact Or.inr (by assumption) | exact List.Mem.head _ | exact List.Mem.tail _ (List.Mem.head _) | exact ⟨_, rfl⟩ | exact ⟨_, rfl, Or.inl rfl⟩ | (refine ⟨_, rfl, Or.inr ?_⟩; (try (conv => cbv))) | (simp only [I.val] at *; first | omega | (subst_vars; rfl) | simp_all)))) (by (try (conv => cbv)); (repeat' (first | exact trivial | rfl | exact SEq.mk rfl | (exact SEq.mk (by first | assumption | (symm; assumption))) | (simp only [I.val]; done) | (simp only [I.val]; omega) | omega | assumption | (refine And.intro ?_ ?_) | exact Or.inl rfl | exact Or.inr (by assumption) | exact List.Mem.head _ | exact List.Mem.tail _ (List.Mem.head _) | exact ⟨_, rfl⟩ | exact ⟨_, rfl, Or.inl rfl⟩ | (refine ⟨_, rfl, Or.inr ?_⟩; (try (conv => cbv))) | (simp only [I.val] at *; first | omega | (subst_vars; rfl) | simp_all))))) rfl rfl
  · have g : ¬ q3 < 400 := g
    conv => cbv
    refine Br.mk (fun g2 => ?_) (fun g2 => ?_)
    case refine_2 =>
      have g2 : ¬ k3 = 400 := g2
      exfalso
      exact g2 (by omega)
    conv => cbv
    refine RetF.mk [.p (.bool true)] [] 0 (Re.of [] [] (by first | exact Nat.zero_le _ | exact Nat.le_refl _ | decide) rfl rfl (by (try (conv => cbv)); (repeat' (first | exact trivial | rfl | exact SEq.mk rfl | (exact SEq.mk (by first | assumption | (symm; assumption))) | (simp only [I.val]; done) | (simp only [I.val]; omega) | omega | assumption | (refine And.intro ?_ ?_) | exact Or.inl rfl | exact Or.inr (by assumption) | exact List.Mem.head _ | exact List.Mem.tail _ (List.Mem.head _) | exact ⟨_, rfl⟩ | exact ⟨_, rfl, Or.inl rfl⟩ | (refine ⟨_, rfl, Or.inr ?_⟩; (try (conv => cbv))) | (simp only [I.val] at *; first | omega | (subst_vars; rfl) | simp_all)))) (by (try (conv => cbv)); (repeat' (first | exact trivial | rfl | exact SEq.mk rfl | (exact SEq.mk (by first | assumption | (symm; assumption))) | (simp only [I.val]; done) | (simp only [I.val]; omega) | omega | assumption | (refine And.intro ?_ ?_) | exact Or.inl rfl | exact Or.inr (by assumption) | exact List.Mem.head _ | exact List.Mem.tail _ (List.Mem.head _) | exact ⟨_, rfl⟩ | exact ⟨_, rfl, Or.inl rfl⟩ | (refine ⟨_, rfl, Or.inr ?_⟩; (try (conv => cbv))) | (simp only [I.val] at *; first | omega | (subst_vars; rfl) | simp_all))))) rfl rfl
end Go.Proofs.Ytongaoioaafjnaa
