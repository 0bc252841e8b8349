/-
  Layer 6: awake, SpanBounds.
-/
import Derived.Test.YtocliihimbggjaaSc
namespace Go.Proofs.Ytocliihimbggjaa
open Go Go.LX
set_option maxRecDepth 100000
set_option linter.unusedVariables false
set_option linter.unusedSimpArgs false

set_option maxHeartbeats 2000000 in
theorem awake06_lx : CallF (fun _ => Try.prog) 9 [] [] 0 (fun r h n => r = .p (.bool true) ∧ h = [] ∧ n = 0) := by
  obtain ⟨L0, hL0⟩ : ∃ L0, L0 = rpv R0 := ⟨_, rfl⟩
  refine callF_of_body tok Try.func9 (by kernel_rfl) rfl rfl rfl ?_; conv => cbv
  refine CallF.le (args0 := [.p (.int .i64 (.sym 2))]) (callF_frame (spanNew_lx 2 (by decide) (by decide) L0 hL0) [] rfl trivial rfl rfl (fun r h' n' ⟨e1, e2, e3⟩ => ?_)) (by simp [ales, ale, pvle, I.val])
  subst e1 e2 e3
  conv => cbv
  refine CallF.le (args0 := [.ptr 0 (.lit 0), .p (.int .i64 (.sym 3))]) (callF_frame (alloc_lx R0 2 3 L0 hL0 rfl (by decide) R0_ok) [(0, 0), (1, 1)] rfl (by simp [hmapOk, nget, hget, renB, okB, renV, renVs, rn, okVs, okV]) rfl rfl (fun r h' n' hrr => ?_)) (by simp [ales, ale, pvle, I.val])
  obtain ⟨i, s, b, L1, R1, e1, e2, e3, hL1, hA⟩ := hrr
  subst e1 e2 e3
  obtain ⟨hi, hs, rfl, hR1⟩ : i = 0 ∧ s = 0 ∧ b = true ∧ R1 = [(3, [true]), (0, [])] := by
    rcases alloced_new hA with ⟨h, _⟩ | ⟨_, h1, h2, h3, h4⟩
    · exact absurd h (by decide)
    · exact ⟨h1, h2, h3, h4⟩
  clear hA
  have hL1 : L1 = rpv [(3, [true]), (0, [])] := by rw [hL1, hR1]
  conv => cbv
  refine Br.mk (fun g => ?_) (fun g => ?_)
  case refine_2 =>
    have gf : False := g hi
    cases gf
  conv => cbv
  refine Br.mk (fun g => ?_) (fun g => ?_)
  case refine_2 =>
    have gf : False := g hs
    cases gf
  conv => cbv
  refine CallF.le (args0 := [.ptr 0 (.lit 0), .p (.int .i64 (.sym 0))]) (callF_frame (class_lx [(3, [true]), (0, [])] 2 0 3 [true] L1 hL1 rfl (by decide) rfl (by decide)) [(0, 0), (1, 1)] rfl (by simp [hmapOk, nget, hget, renB, okB, renV, renVs, rn, okVs, okV]) rfl rfl (fun r h' n' ⟨e1, e2, e3⟩ => ?_)) (by simp [ales, ale, pvle, I.val])
  subst e1 e2 e3
  conv => cbv
  refine Br.mk (fun g => ?_) (fun g => ?_)
  case refine_2 =>
    have gf : False := g rfl
    cases gf
  conv => cbv
  refine CallF.le (args0 := [.ptr 0 (.lit 0), .p (.int .i64 (.sym 0)), .p (.int .i64 (.sym 0))]) (callF_frame (used_lx [(3, [true]), (0, [])] 2 0 0 3 [true] L1 hL1 rfl (by decide) rfl true (by decide) rfl) [(0, 0), (1, 1)] rfl (by simp [hmapOk, nget, hget, renB, okB, renV, renVs, rn, okVs, okV]) rfl rfl (fun r h' n' ⟨e1, e2, e3⟩ => ?_)) (by simp [ales, ale, pvle, I.val])
  subst e1 e2 e3
  conv => cbv
  refine callF_frame (wordsS_lx [(3, [true]), (0, [])] 2 L1 hL1 rfl (by decide) (by decide) 32 (by decide)) [(0, 0), (1, 1)] rfl (by simp [hmapOk, nget, hget, renB, okB, renV, renVs, rn, okVs, okV]) rfl rfl (fun r h' n' ⟨e1, e2, e3⟩ => ?_)
  subst e1 e2 e3
  conv => cbv
  refine Br.mk (fun g => ?_) (fun g => ?_)
  case refine_2 =>
    have gf : False := g rfl
    cases gf
  conv => cbv
  refine callF_frame (lenS_lx 2 L1) [(0, 0), (1, 1)] rfl (by simp [hmapOk, nget, hget, renB, okB, renV, renVs, rn, okVs, okV]) rfl rfl (fun r h' n' ⟨e1, e2, e3⟩ => ?_)
  subst e1 e2 e3
  conv => cbv
  refine Br.mk (fun g => ?_) (fun g => ?_)
  case refine_2 =>
    have gf : False := g rfl
    cases gf
  conv => cbv
  refine RetF.mk [.p (.bool true)] [] 0 (Re.of [] [] (by first | exact Nat.zero_le _ | exact Nat.le_refl _ | decide | (dsimp only; decide)) rfl rfl (by (try (conv => cbv)); (repeat' (first | exact trivial | rfl | exact SEq.mk rfl | (exact SEq.mk (by first | assumption | (symm; assumption))) | (simp only [I.val]; done) | (simp only [I.val]; omega) | omega | assumption | (refine And.intro ?_ ?_) | exact Or.inl rfl | exact Or.inr (by assumption) | exact List.Mem.head _ | exact List.Mem.tail _ (List.Mem.head _) | exact ⟨_, rfl⟩ | exact ⟨_, rfl, Or.inl rfl⟩ | (refine ⟨_, rfl, Or.inr ?_⟩; (try (conv => cbv))) | (simp only [I.val] at *; first | omega | (subst_vars; rfl) | simp_all) | (refine Or.inr ?_; (try (conv => cbv)))))) (by (try (conv => cbv)); (repeat' (first | exact trivial | rfl | exact SEq.mk rfl | (exact SEq.mk (by first | assumption | (symm; assumption))) | (simp only [I.val]; done) | (simp only [I.val]; omega) | omega | assumption | (refine And.intro ?_ ?_) | exact Or.inl rfl | exact Or.inr (by assumption) | exact List.Mem.head _ | exact List.Mem.tail _ (List.Mem.head _) | exact ⟨_, rfl⟩ | exact ⟨_, rfl, Or.inl rfl⟩ | (refine ⟨_, rfl, Or.inr ?_⟩; (try (conv => cbv))) | (simp only [I.val] at *; first | omega | (subst_vars; rfl) | simp_all) | (refine Or.inr ?_; (try (conv => cbv))))))) rfl ⟨rfl, rfl, rfl⟩
set_option maxHeartbeats 2000000 in
theorem spanBounds_law (n c : Int) (hn : -9223372036854775808 ≤ n ∧ n ≤ 9223372036854775807) (hc : -9223372036854775808 ≤ c ∧ c ≤ 9223372036854775807) :
    CallF (fun _ => Try.prog) 5 [.p (.int .i64 (.sym n)), .p (.int .i64 (.sym c))] [] 0 (fun r _ _ => r = .p (.bool true)) := by
  obtain ⟨L0, hL0⟩ : ∃ L0, L0 = rpv R0 := ⟨_, rfl⟩
  refine callF_of_body tok Try.func5 (by kernel_rfl) rfl rfl rfl ?_; conv => cbv
  by_cases hok : 2 ≤ n ∧ n ≤ 128
  · obtain ⟨L9, hL9⟩ : ∃ L, L = rpv (List.replicate n.toNat (0, [])) := ⟨_, rfl⟩
    refine callF_frame (spanNew_lx n hok.1 hok.2 L9 hL9) [] rfl trivial rfl rfl (fun r h' n' ⟨e1, e2, e3⟩ => ?_)
    subst e1 e2 e3
    conv => cbv
    refine Br.mk (fun g1 => ?_) (fun g1 => ?_)
    case refine_2 =>
      have gf : False := g1 hok.1
      cases gf
    conv => cbv
    refine Br.mk (fun g1 => ?_) (fun g1 => ?_)
    case refine_2 =>
      have gf : False := g1 hok.2
      cases gf
    conv => cbv
    refine CallF.le (args0 := [.p (.int .i64 (.sym 2))]) (callF_frame (spanNew_lx 2 (by decide) (by decide) L0 hL0) [] rfl trivial rfl rfl (fun r h' n' ⟨e1, e2, e3⟩ => ?_)) (by simp [ales, ale, pvle, I.val])
    subst e1 e2 e3
    conv => cbv
    refine callF_frame (alloc_lx R0 2 c L0 hL0 rfl (by decide) R0_ok) [(0, 2), (1, 3)] rfl (by simp [hmapOk, nget, hget, renB, okB, renV, renVs, rn, okVs, okV]) rfl rfl (fun r h' n' hrr => ?_)
    obtain ⟨i, s, b, L1, R1, e1, e2, e3, hL1, hA⟩ := hrr
    subst e1 e2 e3
    have hb : b = true ↔ 0 ≤ c ∧ c ≤ 3 := by
      rcases alloced_new hA with ⟨h, h1⟩ | ⟨h, _, _, h1, _⟩
      · rw [h1, ← slots_iff]; simp [h]
      · rw [h1, ← slots_iff]; simp [h]
    clear hA
    conv => cbv
    refine CallF.le (args0 := [.p .nilp, .p (.int .i64 (.sym 0))]) (callF_frame (alloc_nil 0) [] rfl trivial rfl rfl (fun r h' n' ⟨e1, e2, e3⟩ => ?_)) (by simp [ales, ale, pvle, I.val])
    subst e1 e2 e3
    conv => cbv
    refine callF_frame awake06_lx [] rfl trivial rfl rfl (fun r h' n' ⟨e1, e2, e3⟩ => ?_)
    subst e1 e2 e3
    conv => cbv
    refine Br.mk (fun g3 => ?_) (fun g3 => ?_)
    · have g3 : 0 ≤ c := g3
      conv => cbv
      refine Br.mk (fun g4 => ?_) (fun g4 => ?_)
      · have g4 : c ≤ 3 := g4
        obtain rfl : b = true := hb.2 ⟨g3, g4⟩
        conv => cbv
        refine callF_frame (free_nil (.lit 0) (.lit 0)) [] rfl trivial rfl rfl (fun r h' n' ⟨e1, e2, e3⟩ => ?_)
        subst e1 e2 e3
        conv => cbv
        refine callF_frame (class_nil (.lit 0)) [] rfl trivial rfl rfl (fun r h' n' hrr => ?_)
        obtain ⟨⟨v, e1, hv⟩, e2, e3⟩ := hrr
        subst e1 e2 e3
        conv => cbv
        refine Br.mk (fun g => ?_) (fun g => ?_)
        case refine_2 =>
          have gf : False := g hv
          cases gf
        conv => cbv
        refine callF_frame (used_nil (.lit 0) (.lit 0)) [] rfl trivial rfl rfl (fun r h' n' ⟨e1, e2, e3⟩ => ?_)
        subst e1 e2 e3
        conv => cbv
        refine callF_frame words_nil [] rfl trivial rfl rfl (fun r h' n' ⟨e1, e2, e3⟩ => ?_)
        subst e1 e2 e3
        conv => cbv
        refine Br.mk (fun g => ?_) (fun g => ?_)
        case refine_2 =>
          have gf : False := g rfl
          cases gf
        conv => cbv
        refine callF_frame len_nil [] rfl trivial rfl rfl (fun r h' n' ⟨e1, e2, e3⟩ => ?_)
        subst e1 e2 e3
        conv => cbv
        refine Br.mk (fun g => ?_) (fun g => ?_)
        case refine_2 =>
          have gf : False := g rfl
          cases gf
        conv => cbv
        refine RetF.mk [.p (.bool true)] [] 0 (Re.of [] [] (by first | exact Nat.zero_le _ | exact Nat.le_refl _ | decide | (dsimp only; decide)) rfl rfl (by (try (conv => cbv)); (repeat' (first | exact trivial | rfl | exact SEq.mk rfl | (exact SEq.mk (by first | assumption | (symm; assumption))) | (simp only [I.val]; done) | (simp only [I.val]; omega) | omega | assumption | (refine And.intro ?_ ?_) | exact Or.inl rfl | exact Or.inr (by assumption) | exact List.Mem.head _ | exact List.Mem.tail _ (List.Mem.head _) | exact ⟨_, rfl⟩ | exact ⟨_, rfl, Or.inl rfl⟩ | (refine ⟨_, rfl, Or.inr ?_⟩; (try (conv => cbv))) | (simp only [I.val] at *; first | omega | (subst_vars; rfl) | simp_all) | (refine Or.inr ?_; (try (conv => cbv)))))) (by (try (conv => cbv)); (repeat' (first | exact trivial | rfl | exact SEq.mk rfl | (exact SEq.mk (by first | assumption | (symm; assumption))) | (simp only [I.val]; done) | (simp only [I.val]; omega) | omega | assumption | (refine And.intro ?_ ?_) | exact Or.inl rfl | exact Or.inr (by assumption) | exact List.Mem.head _ | exact List.Mem.tail _ (List.Mem.head _) | exact ⟨_, rfl⟩ | exact ⟨_, rfl, Or.inl rfl⟩ | (refine ⟨_, rfl, Or.inr ?_⟩; (try (conv => cbv))) | (simp only [I.val] at *; first | omega | (subst_vars; rfl) | simp_all) | (refine Or.inr ?_; (try (conv => cbv))))))) rfl rfl
      · have g4 : ¬ c ≤ 3 := g4
        obtain rfl : b = false := by
          cases b with
          | false => rfl
          | true => exact absurd (hb.1 rfl).2 g4
        conv => cbv
        refine callF_frame (free_nil (.lit 0) (.lit 0)) [] rfl trivial rfl rfl (fun r h' n' ⟨e1, e2, e3⟩ => ?_)
        subst e1 e2 e3
        conv => cbv
        refine callF_frame (class_nil (.lit 0)) [] rfl trivial rfl rfl (fun r h' n' hrr => ?_)
        obtain ⟨⟨v, e1, hv⟩, e2, e3⟩ := hrr
        subst e1 e2 e3
        conv => cbv
        refine Br.mk (fun g => ?_) (fun g => ?_)
        case refine_2 =>
          have gf : False := g hv
          cases gf
        conv => cbv
        refine callF_frame (used_nil (.lit 0) (.lit 0)) [] rfl trivial rfl rfl (fun r h' n' ⟨e1, e2, e3⟩ => ?_)
        subst e1 e2 e3
        conv => cbv
        refine callF_frame words_nil [] rfl trivial rfl rfl (fun r h' n' ⟨e1, e2, e3⟩ => ?_)
        subst e1 e2 e3
        conv => cbv
        refine Br.mk (fun g => ?_) (fun g => ?_)
        case refine_2 =>
          have gf : False := g rfl
          cases gf
        conv => cbv
        refine callF_frame len_nil [] rfl trivial rfl rfl (fun r h' n' ⟨e1, e2, e3⟩ => ?_)
        subst e1 e2 e3
        conv => cbv
        refine Br.mk (fun g => ?_) (fun g => ?_)
        case refine_2 =>
          have gf : False := g rfl
          cases gf
        conv => cbv
        refine RetF.mk [.p (.bool true)] [] 0 (Re.of [] [] (by first | exact Nat.zero_le _ | exact Nat.le_refl _ | decide | (dsimp only; decide)) rfl rfl (by (try (conv => cbv)); (repeat' (first | exact trivial | rfl | exact SEq.mk rfl | (exact SEq.mk (by first | assumption | (symm; assumption))) | (simp only [I.val]; done) | (simp only [I.val]; omega) | omega | assumption | (refine And.intro ?_ ?_) | exact Or.inl rfl | exact Or.inr (by assumption) | exact List.Mem.head _ | exact List.Mem.tail _ (List.Mem.head _) | exact ⟨_, rfl⟩ | exact ⟨_, rfl, Or.inl rfl⟩ | (refine ⟨_, rfl, Or.inr ?_⟩; (try (conv => cbv))) | (simp only [I.val] at *; first | omega | (subst_vars; rfl) | simp_all) | (refine Or.inr ?_; (try (conv => cbv)))))) (by (try (conv => cbv)); (repeat' (first | exact trivial | rfl | exact SEq.mk rfl | (exact SEq.mk (by first | assumption | (symm; assumption))) | (simp only [I.val]; done) | (simp only [I.val]; omega) | omega | assumption | (refine And.intro ?_ ?_) | exact Or.inl rfl | exact Or.inr (by assumption) | exact List.Mem.head _ | exact List.Mem.tail _ (List.Mem.head _) | exact ⟨_, rfl⟩ | exact ⟨_, rfl, Or.inl rfl⟩ | (refine ⟨_, rfl, Or.inr ?_⟩; (try (conv => cbv))) | (simp only [I.val] at *; first | omega | (subst_vars; rfl) | simp_all) | (refine Or.inr ?_; (try (conv => cbv))))))) rfl rfl
    · have g3 : ¬ 0 ≤ c := g3
      obtain rfl : b = false := by
        cases b with
        | false => rfl
        | true => exact absurd (hb.1 rfl).1 g3
      conv => cbv
      refine callF_frame (free_nil (.lit 0) (.lit 0)) [] rfl trivial rfl rfl (fun r h' n' ⟨e1, e2, e3⟩ => ?_)
      subst e1 e2 e3
      conv => cbv
      refine callF_frame (class_nil (.lit 0)) [] rfl trivial rfl rfl (fun r h' n' hrr => ?_)
      obtain ⟨⟨v, e1, hv⟩, e2, e3⟩ := hrr
      subst e1 e2 e3
      conv => cbv
      refine Br.mk (fun g => ?_) (fun g => ?_)
      case refine_2 =>
        have gf : False := g hv
        cases gf
      conv => cbv
      refine callF_frame (used_nil (.lit 0) (.lit 0)) [] rfl trivial rfl rfl (fun r h' n' ⟨e1, e2, e3⟩ => ?_)
      subst e1 e2 e3
      conv => cbv
      refine callF_frame words_nil [] rfl trivial rfl rfl (fun r h' n' ⟨e1, e2, e3⟩ => ?_)
      subst e1 e2 e3
      conv => cbv
      refine Br.mk (fun g => ?_) (fun g => ?_)
      case refine_2 =>
        have gf : False := g rfl
        cases gf
      conv => cbv
      refine callF_frame len_nil [] rfl trivial rfl rfl (fun r h' n' ⟨e1, e2, e3⟩ => ?_)
      subst e1 e2 e3
      conv => cbv
      refine Br.mk (fun g => ?_) (fun g => ?_)
      case refine_2 =>
        have gf : False := g rfl
        cases gf
      conv => cbv
      refine RetF.mk [.p (.bool true)] [] 0 (Re.of [] [] (by first | exact Nat.zero_le _ | exact Nat.le_refl _ | decide | (dsimp only; decide)) rfl rfl (by (try (conv => cbv)); (repeat' (first | exact trivial | rfl | exact SEq.mk rfl | (exact SEq.mk (by first | assumption | (symm; assumption))) | (simp only [I.val]; done) | (simp only [I.val]; omega) | omega | assumption | (refine And.intro ?_ ?_) | exact Or.inl rfl | exact Or.inr (by assumption) | exact List.Mem.head _ | exact List.Mem.tail _ (List.Mem.head _) | exact ⟨_, rfl⟩ | exact ⟨_, rfl, Or.inl rfl⟩ | (refine ⟨_, rfl, Or.inr ?_⟩; (try (conv => cbv))) | (simp only [I.val] at *; first | omega | (subst_vars; rfl) | simp_all) | (refine Or.inr ?_; (try (conv => cbv)))))) (by (try (conv => cbv)); (repeat' (first | exact trivial | rfl | exact SEq.mk rfl | (exact SEq.mk (by first | assumption | (symm; assumption))) | (simp only [I.val]; done) | (simp only [I.val]; omega) | omega | assumption | (refine And.intro ?_ ?_) | exact Or.inl rfl | exact Or.inr (by assumption) | exact List.Mem.head _ | exact List.Mem.tail _ (List.Mem.head _) | exact ⟨_, rfl⟩ | exact ⟨_, rfl, Or.inl rfl⟩ | (refine ⟨_, rfl, Or.inr ?_⟩; (try (conv => cbv))) | (simp only [I.val] at *; first | omega | (subst_vars; rfl) | simp_all) | (refine Or.inr ?_; (try (conv => cbv))))))) rfl rfl
  · refine callF_frame (spanNew_bad n (by omega)) [] rfl trivial rfl rfl (fun r h' n' hrr => ?_)
    obtain ⟨⟨e, e1, he⟩, e2, e3⟩ := hrr
    subst e1 e2 e3
    conv => cbv
    refine Br.mk (fun g1 => ?_) (fun g1 => ?_)
    · have g1 : 2 ≤ n := g1
      conv => cbv
      refine Br.mk (fun g2 => ?_) (fun g2 => ?_)
      case refine_1 =>
        have g2 : n ≤ 128 := g2
        have gf : False := hok ⟨g1, g2⟩
        cases gf
      conv => cbv
      refine CallF.le (args0 := [.p (.int .i64 (.sym 2))]) (callF_frame (spanNew_lx 2 (by decide) (by decide) L0 hL0) [] rfl trivial rfl rfl (fun r h' n' ⟨e1, e2, e3⟩ => ?_)) (by simp [ales, ale, pvle, I.val])
      subst e1 e2 e3
      conv => cbv
      refine callF_frame (alloc_lx R0 2 c L0 hL0 rfl (by decide) R0_ok) [(0, 0), (1, 1)] rfl (by simp [hmapOk, nget, hget, renB, okB, renV, renVs, rn, okVs, okV]) rfl rfl (fun r h' n' hrr => ?_)
      obtain ⟨i, s, b, L1, R1, e1, e2, e3, hL1, hA⟩ := hrr
      subst e1 e2 e3
      have hb : b = true ↔ 0 ≤ c ∧ c ≤ 3 := by
        rcases alloced_new hA with ⟨h, h1⟩ | ⟨h, _, _, h1, _⟩
        · rw [h1, ← slots_iff]; simp [h]
        · rw [h1, ← slots_iff]; simp [h]
      clear hA
      conv => cbv
      refine CallF.le (args0 := [.p .nilp, .p (.int .i64 (.sym 0))]) (callF_frame (alloc_nil 0) [] rfl trivial rfl rfl (fun r h' n' ⟨e1, e2, e3⟩ => ?_)) (by simp [ales, ale, pvle, I.val])
      subst e1 e2 e3
      conv => cbv
      refine callF_frame awake06_lx [] rfl trivial rfl rfl (fun r h' n' ⟨e1, e2, e3⟩ => ?_)
      subst e1 e2 e3
      conv => cbv
      refine Br.mk (fun ge => ?_) (fun ge => ?_)
      case refine_1 =>
        have gf : False := he ge
        cases gf
      conv => cbv
      refine Br.mk (fun g3 => ?_) (fun g3 => ?_)
      · have g3 : 0 ≤ c := g3
        conv => cbv
        refine Br.mk (fun g4 => ?_) (fun g4 => ?_)
        · have g4 : c ≤ 3 := g4
          obtain rfl : b = true := hb.2 ⟨g3, g4⟩
          conv => cbv
          refine callF_frame (free_nil (.lit 0) (.lit 0)) [] rfl trivial rfl rfl (fun r h' n' ⟨e1, e2, e3⟩ => ?_)
          subst e1 e2 e3
          conv => cbv
          refine callF_frame (class_nil (.lit 0)) [] rfl trivial rfl rfl (fun r h' n' hrr => ?_)
          obtain ⟨⟨v, e1, hv⟩, e2, e3⟩ := hrr
          subst e1 e2 e3
          conv => cbv
          refine Br.mk (fun g => ?_) (fun g => ?_)
          case refine_2 =>
            have gf : False := g hv
            cases gf
          conv => cbv
          refine callF_frame (used_nil (.lit 0) (.lit 0)) [] rfl trivial rfl rfl (fun r h' n' ⟨e1, e2, e3⟩ => ?_)
          subst e1 e2 e3
          conv => cbv
          refine callF_frame words_nil [] rfl trivial rfl rfl (fun r h' n' ⟨e1, e2, e3⟩ => ?_)
          subst e1 e2 e3
          conv => cbv
          refine Br.mk (fun g => ?_) (fun g => ?_)
          case refine_2 =>
            have gf : False := g rfl
            cases gf
          conv => cbv
          refine callF_frame len_nil [] rfl trivial rfl rfl (fun r h' n' ⟨e1, e2, e3⟩ => ?_)
          subst e1 e2 e3
          conv => cbv
          refine Br.mk (fun g => ?_) (fun g => ?_)
          case refine_2 =>
            have gf : False := g rfl
            cases gf
          conv => cbv
          refine RetF.mk [.p (.bool true)] [] 0 (Re.of [] [] (by first | exact Nat.zero_le _ | exact Nat.le_refl _ | decide | (dsimp only; decide)) rfl rfl (by (try (conv => cbv)); (repeat' (first | exact trivial | rfl | exact SEq.mk rfl | (exact SEq.mk (by first | assumption | (symm; assumption))) | (simp only [I.val]; done) | (simp only [I.val]; omega) | omega | assumption | (refine And.intro ?_ ?_) | exact Or.inl rfl | exact Or.inr (by assumption) | exact List.Mem.head _ | exact List.Mem.tail _ (List.Mem.head _) | exact ⟨_, rfl⟩ | exact ⟨_, rfl, Or.inl rfl⟩ | (refine ⟨_, rfl, Or.inr ?_⟩; (try (conv => cbv))) | (simp only [I.val] at *; first | omega | (subst_vars; rfl) | simp_all) | (refine Or.inr ?_; (try (conv => cbv)))))) (by (try (conv => cbv)); (repeat' (first | exact trivial | rfl | exact SEq.mk rfl | (exact SEq.mk (by first | assumption | (symm; assumption))) | (simp only [I.val]; done) | (simp only [I.val]; omega) | omega | assumption | (refine And.intro ?_ ?_) | exact Or.inl rfl | exact Or.inr (by assumption) | exact List.Mem.head _ | exact List.Mem.tail _ (List.Mem.head _) | exact ⟨_, rfl⟩ | exact ⟨_, rfl, Or.inl rfl⟩ | (refine ⟨_, rfl, Or.inr ?_⟩; (try (conv => cbv))) | (simp only [I.val] at *; first | omega | (subst_vars; rfl) | simp_all) | (refine Or.inr ?_; (try (conv => cbv))))))) rfl rfl
        · have g4 : ¬ c ≤ 3 := g4
          obtain rfl : b = false := by
            cases b with
            | false => rfl
            | true => exact absurd (hb.1 rfl).2 g4
          conv => cbv
          refine callF_frame (free_nil (.lit 0) (.lit 0)) [] rfl trivial rfl rfl (fun r h' n' ⟨e1, e2, e3⟩ => ?_)
          subst e1 e2 e3
          conv => cbv
          refine callF_frame (class_nil (.lit 0)) [] rfl trivial rfl rfl (fun r h' n' hrr => ?_)
          obtain ⟨⟨v, e1, hv⟩, e2, e3⟩ := hrr
          subst e1 e2 e3
          conv => cbv
          refine Br.mk (fun g => ?_) (fun g => ?_)
          case refine_2 =>
            have gf : False := g hv
            cases gf
          conv => cbv
          refine callF_frame (used_nil (.lit 0) (.lit 0)) [] rfl trivial rfl rfl (fun r h' n' ⟨e1, e2, e3⟩ => ?_)
          subst e1 e2 e3
          conv => cbv
          refine callF_frame words_nil [] rfl trivial rfl rfl (fun r h' n' ⟨e1, e2, e3⟩ => ?_)
          subst e1 e2 e3
          conv => cbv
          refine Br.mk (fun g => ?_) (fun g => ?_)
          case refine_2 =>
            have gf : False := g rfl
            cases gf
          conv => cbv
          refine callF_frame len_nil [] rfl trivial rfl rfl (fun r h' n' ⟨e1, e2, e3⟩ => ?_)
          subst e1 e2 e3
          conv => cbv
          refine Br.mk (fun g => ?_) (fun g => ?_)
          case refine_2 =>
            have gf : False := g rfl
            cases gf
          conv => cbv
          refine RetF.mk [.p (.bool true)] [] 0 (Re.of [] [] (by first | exact Nat.zero_le _ | exact Nat.le_refl _ | decide | (dsimp only; decide)) rfl rfl (by (try (conv => cbv)); (repeat' (first | exact trivial | rfl | exact SEq.mk rfl | (exact SEq.mk (by first | assumption | (symm; assumption))) | (simp only [I.val]; done) | (simp only [I.val]; omega) | omega | assumption | (refine And.intro ?_ ?_) | exact Or.inl rfl | exact Or.inr (by assumption) | exact List.Mem.head _ | exact List.Mem.tail _ (List.Mem.head _) | exact ⟨_, rfl⟩ | exact ⟨_, rfl, Or.inl rfl⟩ | (refine ⟨_, rfl, Or.inr ?_⟩; (try (conv => cbv))) | (simp only [I.val] at *; first | omega | (subst_vars; rfl) | simp_all) | (refine Or.inr ?_; (try (conv => cbv)))))) (by (try (conv => cbv)); (repeat' (first | exact trivial | rfl | exact SEq.mk rfl | (exact SEq.mk (by first | assumption | (symm; assumption))) | (simp only [I.val]; done) | (simp only [I.val]; omega) | omega | assumption | (refine And.intro ?_ ?_) | exact Or.inl rfl | exact Or.inr (by assumption) | exact List.Mem.head _ | exact List.Mem.tail _ (List.Mem.head _) | exact ⟨_, rfl⟩ | exact ⟨_, rfl, Or.inl rfl⟩ | (refine ⟨_, rfl, Or.inr ?_⟩; (try (conv => cbv))) | (simp only [I.val] at *; first | omega | (subst_vars; rfl) | simp_all) | (refine Or.inr ?_; (try (conv => cbv))))))) rfl rfl
      · have g3 : ¬ 0 ≤ c := g3
        obtain rfl : b = false := by
          cases b with
          | false => rfl
          | true => exact absurd (hb.1 rfl).1 g3
        conv => cbv
        refine callF_frame (free_nil (.lit 0) (.lit 0)) [] rfl trivial rfl rfl (fun r h' n' ⟨e1, e2, e3⟩ => ?_)
        subst e1 e2 e3
        conv => cbv
        refine callF_frame (class_nil (.lit 0)) [] rfl trivial rfl rfl (fun r h' n' hrr => ?_)
        obtain ⟨⟨v, e1, hv⟩, e2, e3⟩ := hrr
        subst e1 e2 e3
        conv => cbv
        refine Br.mk (fun g => ?_) (fun g => ?_)
        case refine_2 =>
          have gf : False := g hv
          cases gf
        conv => cbv
        refine callF_frame (used_nil (.lit 0) (.lit 0)) [] rfl trivial rfl rfl (fun r h' n' ⟨e1, e2, e3⟩ => ?_)
        subst e1 e2 e3
        conv => cbv
        refine callF_frame words_nil [] rfl trivial rfl rfl (fun r h' n' ⟨e1, e2, e3⟩ => ?_)
        subst e1 e2 e3
        conv => cbv
        refine Br.mk (fun g => ?_) (fun g => ?_)
        case refine_2 =>
          have gf : False := g rfl
          cases gf
        conv => cbv
        refine callF_frame len_nil [] rfl trivial rfl rfl (fun r h' n' ⟨e1, e2, e3⟩ => ?_)
        subst e1 e2 e3
        conv => cbv
        refine Br.mk (fun g => ?_) (fun g => ?_)
        case refine_2 =>
          have gf : False := g rfl
          cases gf
        conv => cbv
        refine RetF.mk [.p (.bool true)] [] 0 (Re.of [] [] (by first | exact Nat.zero_le _ | exact Nat.le_refl _ | decide | (dsimp only; decide)) rfl rfl (by (try (conv => cbv)); (repeat' (first | exact trivial | rfl | exact SEq.mk rfl | (exact SEq.mk (by first | assumption | (symm; assumption))) | (simp only [I.val]; done) | (simp only [I.val]; omega) | omega | assumption | (refine And.intro ?_ ?_) | exact Or.inl rfl | exact Or.inr (by assumption) | exact List.Mem.head _ | exact List.Mem.tail _ (List.Mem.head _) | exact ⟨_, rfl⟩ | exact ⟨_, rfl, Or.inl rfl⟩ | (refine ⟨_, rfl, Or.inr ?_⟩; (try (conv => cbv))) | (simp only [I.val] at *; first | omega | (subst_vars; rfl) | simp_all) | (refine Or.inr ?_; (try (conv => cbv)))))) (by (try (conv => cbv)); (repeat' (first | exact trivial | rfl | exact SEq.mk rfl | (exact SEq.mk (by first | assumption | (symm; assumption))) | (simp only [I.val]; done) | (simp only [I.val]; omega) | omega | assumption | (refine And.intro ?_ ?_) | exact Or.inl rfl | exact Or.inr (by assumption) | exact List.Mem.head _ | exact List.Mem.tail _ (List.Mem.head _) | exact ⟨_, rfl⟩ | exact ⟨_, rfl, Or.inl rfl⟩ | (refine ⟨_, rfl, Or.inr ?_⟩; (try (conv => cbv))) | (simp only [I.val] at *; first | omega | (subst_vars; rfl) | simp_all) | (refine Or.inr ?_; (try (conv => cbv))))))) rfl rfl
    · conv => cbv
      refine CallF.le (args0 := [.p (.int .i64 (.sym 2))]) (callF_frame (spanNew_lx 2 (by decide) (by decide) L0 hL0) [] rfl trivial rfl rfl (fun r h' n' ⟨e1, e2, e3⟩ => ?_)) (by simp [ales, ale, pvle, I.val])
      subst e1 e2 e3
      conv => cbv
      refine callF_frame (alloc_lx R0 2 c L0 hL0 rfl (by decide) R0_ok) [(0, 0), (1, 1)] rfl (by simp [hmapOk, nget, hget, renB, okB, renV, renVs, rn, okVs, okV]) rfl rfl (fun r h' n' hrr => ?_)
      obtain ⟨i, s, b, L1, R1, e1, e2, e3, hL1, hA⟩ := hrr
      subst e1 e2 e3
      have hb : b = true ↔ 0 ≤ c ∧ c ≤ 3 := by
        rcases alloced_new hA with ⟨h, h1⟩ | ⟨h, _, _, h1, _⟩
        · rw [h1, ← slots_iff]; simp [h]
        · rw [h1, ← slots_iff]; simp [h]
      clear hA
      conv => cbv
      refine CallF.le (args0 := [.p .nilp, .p (.int .i64 (.sym 0))]) (callF_frame (alloc_nil 0) [] rfl trivial rfl rfl (fun r h' n' ⟨e1, e2, e3⟩ => ?_)) (by simp [ales, ale, pvle, I.val])
      subst e1 e2 e3
      conv => cbv
      refine callF_frame awake06_lx [] rfl trivial rfl rfl (fun r h' n' ⟨e1, e2, e3⟩ => ?_)
      subst e1 e2 e3
      conv => cbv
      refine Br.mk (fun ge => ?_) (fun ge => ?_)
      case refine_1 =>
        have gf : False := he ge
        cases gf
      conv => cbv
      refine Br.mk (fun g3 => ?_) (fun g3 => ?_)
      · have g3 : 0 ≤ c := g3
        conv => cbv
        refine Br.mk (fun g4 => ?_) (fun g4 => ?_)
        · have g4 : c ≤ 3 := g4
          obtain rfl : b = true := hb.2 ⟨g3, g4⟩
          conv => cbv
          refine callF_frame (free_nil (.lit 0) (.lit 0)) [] rfl trivial rfl rfl (fun r h' n' ⟨e1, e2, e3⟩ => ?_)
          subst e1 e2 e3
          conv => cbv
          refine callF_frame (class_nil (.lit 0)) [] rfl trivial rfl rfl (fun r h' n' hrr => ?_)
          obtain ⟨⟨v, e1, hv⟩, e2, e3⟩ := hrr
          subst e1 e2 e3
          conv => cbv
          refine Br.mk (fun g => ?_) (fun g => ?_)
          case refine_2 =>
            have gf : False := g hv
            cases gf
          conv => cbv
          refine callF_frame (used_nil (.lit 0) (.lit 0)) [] rfl trivial rfl rfl (fun r h' n' ⟨e1, e2, e3⟩ => ?_)
          subst e1 e2 e3
          conv => cbv
          refine callF_frame words_nil [] rfl trivial rfl rfl (fun r h' n' ⟨e1, e2, e3⟩ => ?_)
          subst e1 e2 e3
          conv => cbv
          refine Br.mk (fun g => ?_) (fun g => ?_)
          case refine_2 =>
            have gf : False := g rfl
            cases gf
          conv => cbv
          refine callF_frame len_nil [] rfl trivial rfl rfl (fun r h' n' ⟨e1, e2, e3⟩ => ?_)
          subst e1 e2 e3
          conv => cbv
          refine Br.mk (fun g => ?_) (fun g => ?_)
          case refine_2 =>
            have gf : False := g rfl
            cases gf
          conv => cbv
          refine RetF.mk [.p (.bool true)] [] 0 (Re.of [] [] (by first | exact Nat.zero_le _ | exact Nat.le_refl _ | decide | (dsimp only; decide)) rfl rfl (by (try (conv => cbv)); (repeat' (first | exact trivial | rfl | exact SEq.mk rfl | (exact SEq.mk (by first | assumption | (symm; assumption))) | (simp only [I.val]; done) | (simp only [I.val]; omega) | omega | assumption | (refine And.intro ?_ ?_) | exact Or.inl rfl | exact Or.inr (by assumption) | exact List.Mem.head _ | exact List.Mem.tail _ (List.Mem.head _) | exact ⟨_, rfl⟩ | exact ⟨_, rfl, Or.inl rfl⟩ | (refine ⟨_, rfl, Or.inr ?_⟩; (try (conv => cbv))) | (simp only [I.val] at *; first | omega | (subst_vars; rfl) | simp_all) | (refine Or.inr ?_; (try (conv => cbv)))))) (by (try (conv => cbv)); (repeat' (first | exact trivial | rfl | exact SEq.mk rfl | (exact SEq.mk (by first | assumption | (symm; assumption))) | (simp only [I.val]; done) | (simp only [I.val]; omega) | omega | assumption | (refine And.intro ?_ ?_) | exact Or.inl rfl | exact Or.inr (by assumption) | exact List.Mem.head _ | exact List.Mem.tail _ (List.Mem.head _) | exact ⟨_, rfl⟩ | exact ⟨_, rfl, Or.inl rfl⟩ | (refine ⟨_, rfl, Or.inr ?_⟩; (try (conv => cbv))) | (simp only [I.val] at *; first | omega | (subst_vars; rfl) | simp_all) | (refine Or.inr ?_; (try (conv => cbv))))))) rfl rfl
        · have g4 : ¬ c ≤ 3 := g4
          obtain rfl : b = false := by
            cases b with
            | false => rfl
            | true => exact absurd (hb.1 rfl).2 g4
          conv => cbv
          refine callF_frame (free_nil (.lit 0) (.lit 0)) [] rfl trivial rfl rfl (fun r h' n' ⟨e1, e2, e3⟩ => ?_)
          subst e1 e2 e3
          conv => cbv
          refine callF_frame (class_nil (.lit 0)) [] rfl trivial rfl rfl (fun r h' n' hrr => ?_)
          obtain ⟨⟨v, e1, hv⟩, e2, e3⟩ := hrr
          subst e1 e2 e3
          conv => cbv
          refine Br.mk (fun g => ?_) (fun g => ?_)
          case refine_2 =>
            have gf : False := g hv
            cases gf
          conv => cbv
          refine callF_frame (used_nil (.lit 0) (.lit 0)) [] rfl trivial rfl rfl (fun r h' n' ⟨e1, e2, e3⟩ => ?_)
          subst e1 e2 e3
          conv => cbv
          refine callF_frame words_nil [] rfl trivial rfl rfl (fun r h' n' ⟨e1, e2, e3⟩ => ?_)
          subst e1 e2 e3
          conv => cbv
          refine Br.mk (fun g => ?_) (fun g => ?_)
          case refine_2 =>
            have gf : False := g rfl
            cases gf
          conv => cbv
          refine callF_frame len_nil [] rfl trivial rfl rfl (fun r h' n' ⟨e1, e2, e3⟩ => ?_)
          subst e1 e2 e3
          conv => cbv
          refine Br.mk (fun g => ?_) (fun g => ?_)
          case refine_2 =>
            have gf : False := g rfl
            cases gf
          conv => cbv
          refine RetF.mk [.p (.bool true)] [] 0 (Re.of [] [] (by first | exact Nat.zero_le _ | exact Nat.le_refl _ | decide | (dsimp only; decide)) rfl rfl (by (try (conv => cbv)); (repeat' (first | exact trivial | rfl | exact SEq.mk rfl | (exact SEq.mk (by first | assumption | (symm; assumption))) | (simp only [I.val]; done) | (simp only [I.val]; omega) | omega | assumption | (refine And.intro ?_ ?_) | exact Or.inl rfl | exact Or.inr (by assumption) | exact List.Mem.head _ | exact List.Mem.tail _ (List.Mem.head _) | exact ⟨_, rfl⟩ | exact ⟨_, rfl, Or.inl rfl⟩ | (refine ⟨_, rfl, Or.inr ?_⟩; (try (conv => cbv))) | (simp only [I.val] at *; first | omega | (subst_vars; rfl) | simp_all) | (refine Or.inr ?_; (try (conv => cbv)))))) (by (try (conv => cbv)); (repeat' (first | exact trivial | rfl | exact SEq.mk rfl | (exact SEq.mk (by first | assumption | (symm; assumption))) | (simp only [I.val]; done) | (simp only [I.val]; omega) | omega | assumption | (refine And.intro ?_ ?_) | exact Or.inl rfl | exact Or.inr (by assumption) | exact List.Mem.head _ | exact List.Mem.tail _ (List.Mem.head _) | exact ⟨_, rfl⟩ | exact ⟨_, rfl, Or.inl rfl⟩ | (refine ⟨_, rfl, Or.inr ?_⟩; (try (conv => cbv))) | (simp only [I.val] at *; first | omega | (subst_vars; rfl) | simp_all) | (refine Or.inr ?_; (try (conv => cbv))))))) rfl rfl
      · have g3 : ¬ 0 ≤ c := g3
        obtain rfl : b = false := by
          cases b with
          | false => rfl
          | true => exact absurd (hb.1 rfl).1 g3
        conv => cbv
        refine callF_frame (free_nil (.lit 0) (.lit 0)) [] rfl trivial rfl rfl (fun r h' n' ⟨e1, e2, e3⟩ => ?_)
        subst e1 e2 e3
        conv => cbv
        refine callF_frame (class_nil (.lit 0)) [] rfl trivial rfl rfl (fun r h' n' hrr => ?_)
        obtain ⟨⟨v, e1, hv⟩, e2, e3⟩ := hrr
        subst e1 e2 e3
        conv => cbv
        refine Br.mk (fun g => ?_) (fun g => ?_)
        case refine_2 =>
          have gf : False := g hv
          cases gf
        conv => cbv
        refine callF_frame (used_nil (.lit 0) (.lit 0)) [] rfl trivial rfl rfl (fun r h' n' ⟨e1, e2, e3⟩ => ?_)
        subst e1 e2 e3
        conv => cbv
        refine callF_frame words_nil [] rfl trivial rfl rfl (fun r h' n' ⟨e1, e2, e3⟩ => ?_)
        subst e1 e2 e3
        conv => cbv
        refine Br.mk (fun g => ?_) (fun g => ?_)
        case refine_2 =>
          have gf : False := g rfl
          cases gf
        conv => cbv
        refine callF_frame len_nil [] rfl trivial rfl rfl (fun r h' n' ⟨e1, e2, e3⟩ => ?_)
        subst e1 e2 e3
        conv => cbv
        refine Br.mk (fun g => ?_) (fun g => ?_)
        case refine_2 =>
          have gf : False := g rfl
          cases gf
        conv => cbv
        refine RetF.mk [.p (.bool true)] [] 0 (Re.of [] [] (by first | exact Nat.zero_le _ | exact Nat.le_refl _ | decide | (dsimp only; decide)) rfl rfl (by (try (conv => cbv)); (repeat' (first | exact trivial | rfl | exact SEq.mk rfl | (exact SEq.mk (by first | assumption | (symm; assumption))) | (simp only [I.val]; done) | (simp only [I.val]; omega) | omega | assumption | (refine And.intro ?_ ?_) | exact Or.inl rfl | exact Or.inr (by assumption) | exact List.Mem.head _ | exact List.Mem.tail _ (List.Mem.head _) | exact ⟨_, rfl⟩ | exact ⟨_, rfl, Or.inl rfl⟩ | (refine ⟨_, rfl, Or.inr ?_⟩; (try (conv => cbv))) | (simp only [I.val] at *; first | omega | (subst_vars; rfl) | simp_all) | (refine Or.inr ?_; (try (conv => cbv)))))) (by (try (conv => cbv)); (repeat' (first | exact trivial | rfl | exact SEq.mk rfl | (exact SEq.mk (by first | assumption | (symm; assumption))) | (simp only [I.val]; done) | (simp only [I.val]; omega) | omega | assumption | (refine And.intro ?_ ?_) | exact Or.inl rfl | exact Or.inr (by assumption) | exact List.Mem.head _ | exact List.Mem.tail _ (List.Mem.head _) | exact ⟨_, rfl⟩ | exact ⟨_, rfl, Or.inl rfl⟩ | (refine ⟨_, rfl, Or.inr ?_⟩; (try (conv => cbv))) | (simp only [I.val] at *; first | omega | (subst_vars; rfl) | simp_all) | (refine Or.inr ?_; (try (conv => cbv))))))) rfl rfl
end Go.Proofs.Ytocliihimbggjaa
