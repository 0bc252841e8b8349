/-
  slices.Equal of entries.
-/
import Derived.Test.YtongaoioaafjnaaScB
namespace Go.Proofs.Ytongaoioaafjnaa
open Go Go.LX
set_option maxRecDepth 100000
set_option linter.unusedVariables false

theorem equalEnt_lx (A B : List E3) (m n : Int) (la lb : List PV) (hm : m = A.length) (hn : n = B.length) (ha : Pre la A) (hb : Pre lb B) (hA : (A.length : Int) < 1000000) :
    CallF (fun _ => Try.prog) 28 [.p (.vsl (.sym m) true la), .p (.vsl (.sym n) true lb)] [] 0 (fun r h n => (∃ b : Bool, r = .p (.bool b) ∧ (b = true ↔ A = B)) ∧ h = [] ∧ n = 0) := by
  refine callF_of_body tok Try.func28 (by kernel_rfl) rfl rfl rfl ?_; conv => cbv
  refine Br.mk (fun e1 => ?_) (fun e1 => ?_)
  · simp only [I.val] at e1
    conv => cbv
    refine RetF.mk [.p (.bool false)] [] 0 (Re.of [] [] (by first | exact Nat.zero_le _ | exact Nat.le_refl _ | decide) rfl rfl (by (try (conv => cbv)); (repeat' (first | exact trivial | rfl | exact SEq.mk rfl | (exact SEq.mk (by first | assumption | (symm; assumption))) | (simp only [I.val]; done) | (simp only [I.val]; omega) | omega | assumption | (refine And.intro ?_ ?_) | exact Or.inl rfl | exact Or.inr (by assumption) | exact List.Mem.head _ | exact List.Mem.tail _ (List.Mem.head _) | exact ⟨_, rfl⟩ | exact ⟨_, rfl, Or.inl rfl⟩ | (refine ⟨_, rfl, Or.inr ?_⟩; (try (conv => cbv))) | (simp only [I.val] at *; first | omega | (subst_vars; rfl) | simp_all)))) (by (try (conv => cbv)); (repeat' (first | exact trivial | rfl | exact SEq.mk rfl | (exact SEq.mk (by first | assumption | (symm; assumption))) | (simp only [I.val]; done) | (simp only [I.val]; omega) | omega | assumption | (refine And.intro ?_ ?_) | exact Or.inl rfl | exact Or.inr (by assumption) | exact List.Mem.head _ | exact List.Mem.tail _ (List.Mem.head _) | exact ⟨_, rfl⟩ | exact ⟨_, rfl, Or.inl rfl⟩ | (refine ⟨_, rfl, Or.inr ?_⟩; (try (conv => cbv))) | (simp only [I.val] at *; first | omega | (subst_vars; rfl) | simp_all))))) rfl ⟨⟨false, rfl, by simp; intro h; subst h; omega⟩, rfl, rfl⟩
  · simp only [I.val] at e1
    conv => cbv
    have hmn : m = n := by omega
    refine LoopF.mk (fun k s => ∃ i : Int, s = ⟨.p (.vsl (.sym m) true la) :: .p (.vsl (.sym n) true lb) :: .undef :: .undef :: .undef :: .undef :: .undef :: .undef :: .undef :: .undef :: .undef :: .p (.vsl (.sym m) true la) :: .p (.int .i64 (.sym m)) :: .p (.int .i64 (.sym i)) :: undefs 12, [], 0⟩ ∧ 0 ≤ i ∧ i ≤ m ∧ A.take i.toNat = B.take i.toNat ∧ k = (m - i).toNat) m.toNat _
      (Re.of [] [] (by first | exact Nat.zero_le _ | exact Nat.le_refl _ | decide) rfl rfl (by (try (conv => cbv)); (repeat' (first | exact trivial | rfl | exact SEq.mk rfl | (exact SEq.mk (by first | assumption | (symm; assumption))) | (simp only [I.val]; done) | (simp only [I.val]; omega) | omega | assumption | (refine And.intro ?_ ?_) | exact Or.inl rfl | exact Or.inr (by assumption) | exact List.Mem.head _ | exact List.Mem.tail _ (List.Mem.head _) | exact ⟨_, rfl⟩ | exact ⟨_, rfl, Or.inl rfl⟩ | (refine ⟨_, rfl, Or.inr ?_⟩; (try (conv => cbv))) | (simp only [I.val] at *; first | omega | (subst_vars; rfl) | simp_all)))) (by (try (conv => cbv)); (repeat' (first | exact trivial | rfl | exact SEq.mk rfl | (exact SEq.mk (by first | assumption | (symm; assumption))) | (simp only [I.val]; done) | (simp only [I.val]; omega) | omega | assumption | (refine And.intro ?_ ?_) | exact Or.inl rfl | exact Or.inr (by assumption) | exact List.Mem.head _ | exact List.Mem.tail _ (List.Mem.head _) | exact ⟨_, rfl⟩ | exact ⟨_, rfl, Or.inl rfl⟩ | (refine ⟨_, rfl, Or.inr ?_⟩; (try (conv => cbv))) | (simp only [I.val] at *; first | omega | (subst_vars; rfl) | simp_all))))) ⟨0, rfl, by omega, by omega, rfl, by omega⟩ ?_
    rintro k s ⟨i, rfl, hi0, him, ht, hk⟩
    conv => cbv
    refine Br.mk (fun e2 => ?_) (fun e2 => ?_)
    · simp only [I.val] at e2
      conv => cbv
      obtain ⟨⟨k1, x1, d1⟩, hea⟩ : ∃ e, A[i.toNat]? = some e := ⟨_, List.getElem?_eq_getElem (by omega)⟩
      obtain ⟨⟨k2, x2, d2⟩, heb⟩ : ∃ e, B[i.toNat]? = some e := ⟨_, List.getElem?_eq_getElem (by omega)⟩
      obtain ⟨a1, a2, a3⟩ := ents_get A i.toNat _ hea
      obtain ⟨b1, b2, b3⟩ := ents_get B i.toNat _ heb
      dsimp only at a1 a2 a3 b1 b2 b3
      have a1 := ha _ _ a1
      have a2 := ha _ _ a2
      have a3 := ha _ _ a3
      have b1 := hb _ _ b1
      have b2 := hb _ _ b2
      have b3 := hb _ _ b3
      refine draw_sound tok (by kernel_rfl) rfl (by kernel_rfl) ?_
      conv => cbv
      refine Need.mk ⟨hi0, by simp only [I.val]; omega⟩ ?_
      conv => cbv
      refine Sum.mk fun z hz => ?_
      have hz2 : z = 3 * i := by have : z = i * 3 := hz; omega
      clear hz
      conv => cbv
      refine Cell.at (z + 0) _ a1 rfl (by omega) ?_
      conv => cbv
      refine Cell.at (z + 1) _ a2 rfl (by omega) ?_
      conv => cbv
      refine Cell.at (z + 2) _ a3 rfl (by omega) ?_
      conv => cbv
      refine Need.mk ⟨hi0, by simp only [I.val]; omega⟩ ?_
      conv => cbv
      refine Sum.mk fun y hy => ?_
      have hy2 : y = 3 * i := by have : y = i * 3 := hy; omega
      clear hy
      conv => cbv
      refine Cell.at (y + 0) _ b1 rfl (by omega) ?_
      conv => cbv
      refine Cell.at (y + 1) _ b2 rfl (by omega) ?_
      conv => cbv
      refine Cell.at (y + 2) _ b3 rfl (by omega) ?_
      conv => cbv
      refine AggEq.mk (by kernel_rfl) (fun e => ?_) (fun e => ?_)
      · simp only [eqLs, I.val] at e
        have iff1 : A[i.toNat]? = B[i.toNat]? := by rw [hea, heb]; simp [e]
        obtain ⟨k', rfl⟩ : ∃ k', k = k' + 1 := ⟨k - 1, by omega⟩
        conv => cbv
        refine Fit.mk (by show (-9223372036854775808 : Int) ≤ i + 1; omega) (by show i + 1 ≤ 9223372036854775807; omega) ?_
        intro i2 hi2
        have hi3 : i2 = i + 1 := hi2
        clear hi2
        conv => cbv
        refine Again.mk k' _ (Nat.lt_succ_self _) (Re.of [] [] (by first | exact Nat.zero_le _ | exact Nat.le_refl _ | decide) rfl rfl (by (try (conv => cbv)); (repeat' (first | exact trivial | rfl | exact SEq.mk rfl | (exact SEq.mk (by first | assumption | (symm; assumption))) | (simp only [I.val]; done) | (simp only [I.val]; omega) | omega | assumption | (refine And.intro ?_ ?_) | exact Or.inl rfl | exact Or.inr (by assumption) | exact List.Mem.head _ | exact List.Mem.tail _ (List.Mem.head _) | exact ⟨_, rfl⟩ | exact ⟨_, rfl, Or.inl rfl⟩ | (refine ⟨_, rfl, Or.inr ?_⟩; (try (conv => cbv))) | (simp only [I.val] at *; first | omega | (subst_vars; rfl) | simp_all)))) (by (try (conv => cbv)); (repeat' (first | exact trivial | rfl | exact SEq.mk rfl | (exact SEq.mk (by first | assumption | (symm; assumption))) | (simp only [I.val]; done) | (simp only [I.val]; omega) | omega | assumption | (refine And.intro ?_ ?_) | exact Or.inl rfl | exact Or.inr (by assumption) | exact List.Mem.head _ | exact List.Mem.tail _ (List.Mem.head _) | exact ⟨_, rfl⟩ | exact ⟨_, rfl, Or.inl rfl⟩ | (refine ⟨_, rfl, Or.inr ?_⟩; (try (conv => cbv))) | (simp only [I.val] at *; first | omega | (subst_vars; rfl) | simp_all))))) ⟨i2, rfl, by omega, by omega, ?_, by omega⟩
        rw [show i2.toNat = i.toNat + 1 by omega, List.take_add_one, List.take_add_one, ht, iff1]
      · simp only [eqLs, I.val] at e
        have iff1 : A[i.toNat]? ≠ B[i.toNat]? := by rw [hea, heb]; simpa using e
        conv => cbv
        refine RetF.mk [.p (.bool false)] [] 0 (Re.of [] [] (by first | exact Nat.zero_le _ | exact Nat.le_refl _ | decide) rfl rfl (by (try (conv => cbv)); (repeat' (first | exact trivial | rfl | exact SEq.mk rfl | (exact SEq.mk (by first | assumption | (symm; assumption))) | (simp only [I.val]; done) | (simp only [I.val]; omega) | omega | assumption | (refine And.intro ?_ ?_) | exact Or.inl rfl | exact Or.inr (by assumption) | exact List.Mem.head _ | exact List.Mem.tail _ (List.Mem.head _) | exact ⟨_, rfl⟩ | exact ⟨_, rfl, Or.inl rfl⟩ | (refine ⟨_, rfl, Or.inr ?_⟩; (try (conv => cbv))) | (simp only [I.val] at *; first | omega | (subst_vars; rfl) | simp_all)))) (by (try (conv => cbv)); (repeat' (first | exact trivial | rfl | exact SEq.mk rfl | (exact SEq.mk (by first | assumption | (symm; assumption))) | (simp only [I.val]; done) | (simp only [I.val]; omega) | omega | assumption | (refine And.intro ?_ ?_) | exact Or.inl rfl | exact Or.inr (by assumption) | exact List.Mem.head _ | exact List.Mem.tail _ (List.Mem.head _) | exact ⟨_, rfl⟩ | exact ⟨_, rfl, Or.inl rfl⟩ | (refine ⟨_, rfl, Or.inr ?_⟩; (try (conv => cbv))) | (simp only [I.val] at *; first | omega | (subst_vars; rfl) | simp_all))))) rfl ⟨⟨false, rfl, by simp only [Bool.false_eq_true, false_iff]; intro h; exact iff1 (by rw [h])⟩, rfl, rfl⟩
    · simp only [I.val] at e2
      conv => cbv
      refine RetF.mk [.p (.bool true)] [] 0 (Re.of [] [] (by first | exact Nat.zero_le _ | exact Nat.le_refl _ | decide) rfl rfl (by (try (conv => cbv)); (repeat' (first | exact trivial | rfl | exact SEq.mk rfl | (exact SEq.mk (by first | assumption | (symm; assumption))) | (simp only [I.val]; done) | (simp only [I.val]; omega) | omega | assumption | (refine And.intro ?_ ?_) | exact Or.inl rfl | exact Or.inr (by assumption) | exact List.Mem.head _ | exact List.Mem.tail _ (List.Mem.head _) | exact ⟨_, rfl⟩ | exact ⟨_, rfl, Or.inl rfl⟩ | (refine ⟨_, rfl, Or.inr ?_⟩; (try (conv => cbv))) | (simp only [I.val] at *; first | omega | (subst_vars; rfl) | simp_all)))) (by (try (conv => cbv)); (repeat' (first | exact trivial | rfl | exact SEq.mk rfl | (exact SEq.mk (by first | assumption | (symm; assumption))) | (simp only [I.val]; done) | (simp only [I.val]; omega) | omega | assumption | (refine And.intro ?_ ?_) | exact Or.inl rfl | exact Or.inr (by assumption) | exact List.Mem.head _ | exact List.Mem.tail _ (List.Mem.head _) | exact ⟨_, rfl⟩ | exact ⟨_, rfl, Or.inl rfl⟩ | (refine ⟨_, rfl, Or.inr ?_⟩; (try (conv => cbv))) | (simp only [I.val] at *; first | omega | (subst_vars; rfl) | simp_all))))) rfl ⟨⟨true, rfl, ?_⟩, rfl, rfl⟩
      have : i.toNat = A.length := by omega
      rw [this, List.take_length] at ht
      rw [List.take_of_length_le (by omega)] at ht
      simp [ht]
end Go.Proofs.Ytongaoioaafjnaa
