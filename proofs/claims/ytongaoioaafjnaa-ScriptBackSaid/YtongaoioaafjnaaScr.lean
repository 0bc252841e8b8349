/-
  Package script: which entry two bytes are.
-/
import Derived.Test.YtongaoioaafjnaaTab
import Derived.Laws.RangeAny
namespace Go.Proofs.Ytongaoioaafjnaa
open Go Go.LX
set_option maxRecDepth 100000
set_option linter.unusedVariables false

def kindsB : ByteArray := ⟨#[112, 112, 112, 112, 112, 112, 112, 112, 112, 112, 116, 116, 99, 99, 99, 102]⟩
def signV (q : Nat) : Int := ((kindsB.get! q).toNat : Int)
theorem kinds_dec (i : Nat) (h : i < 16) : ((Utf8.decode kindsB i).1 : Int) = signV i ∧ (Utf8.decode kindsB i).2 = 1 := by
  have : ∀ i : Fin 16, ((Utf8.decode kindsB i.val).1 : Int) = signV i.val ∧ (Utf8.decode kindsB i.val).2 = 1 := by decide +kernel
  exact this ⟨i, h⟩

theorem signOf_lx (p : Int) (h0 : 0 ≤ p) (h1 : p < 256) : CallF (fun _ => Try.prog) 39 [.p (.int .i64 (.sym p))] [] 0 (fun r h n => r = .p (.int .i32 (.sym (signV (p / 16).toNat))) ∧ h = [] ∧ n = 0) := by
  refine callF_of_body tok Try.func39 (by kernel_rfl) rfl rfl rfl ?_; conv => cbv
  refine LoopF.mk (fun k s => ∃ pos : Int, s = ⟨.p (.int .i64 (.sym p)) :: .undef :: .p (.int .i32 (.lit 0)) :: .undef :: .undef :: .ptr 0 (.lit 0) :: undefs 9, [(0, .iter (fun _ => kindsB) (.sym pos))], 1⟩ ∧ 0 ≤ pos ∧ pos ≤ p / 16 ∧ k = (16 - pos).toNat) 16 _
    (Re.of [(0, 0)] [] (by first | exact Nat.zero_le _ | exact Nat.le_refl _ | decide) rfl rfl (by (try (conv => cbv)); (repeat' (first | exact trivial | rfl | exact SEq.mk rfl | (exact SEq.mk (by first | assumption | (symm; assumption))) | (simp only [I.val]; done) | (simp only [I.val]; omega) | omega | assumption | (refine And.intro ?_ ?_) | exact Or.inl rfl | exact Or.inr (by assumption) | exact List.Mem.head _ | exact List.Mem.tail _ (List.Mem.head _) | exact ⟨_, rfl⟩ | exact ⟨_, rfl, Or.inl rfl⟩ | (refine ⟨_, rfl, Or.inr ?_⟩; (try (conv => cbv))) | (simp only [I.val] at *; first | omega | (subst_vars; rfl) | simp_all)))) (by (try (conv => cbv)); (repeat' (first | exact trivial | rfl | exact SEq.mk rfl | (exact SEq.mk (by first | assumption | (symm; assumption))) | (simp only [I.val]; done) | (simp only [I.val]; omega) | omega | assumption | (refine And.intro ?_ ?_) | exact Or.inl rfl | exact Or.inr (by assumption) | exact List.Mem.head _ | exact List.Mem.tail _ (List.Mem.head _) | exact ⟨_, rfl⟩ | exact ⟨_, rfl, Or.inl rfl⟩ | (refine ⟨_, rfl, Or.inr ?_⟩; (try (conv => cbv))) | (simp only [I.val] at *; first | omega | (subst_vars; rfl) | simp_all))))) ⟨0, rfl, by omega, by omega, by omega⟩ ?_
  rintro k s ⟨pos, rfl, hp0, hp1, hk⟩
  conv => cbv
  refine NextS.more (show pos < 16 by omega) ?_
  intro r p' hr hp
  have hr2 : r = signV pos.toNat := hr.trans (kinds_dec pos.toNat (by omega)).1
  have hp2 : p' = pos + 1 := by
    have h2 := (kinds_dec pos.toNat (by omega)).2
    have : p' = pos + ((Utf8.decode kindsB pos.toNat).2 : Int) := hp
    rw [this, h2]; rfl
  clear hr hp
  conv => cbv
  have hq : p.tdiv 16 = p / 16 := Int.tdiv_eq_ediv_of_nonneg h0
  refine Fit.mk (by show (-9223372036854775808 : Int) ≤ p.tdiv 16; omega) (by show p.tdiv 16 ≤ 9223372036854775807; omega) ?_
  intro z hz
  have hz2 : z = p / 16 := hz.trans hq
  clear hz
  conv => cbv
  refine Br.mk (fun he => ?_) (fun hne => ?_)
  · simp only [I.val] at he
    have hv : r = signV (p / 16).toNat := by rw [hr2, he, hz2]
    conv => cbv
    refine RetF.mk [.p (.int .i32 (.sym r))] [] 0 (Re.of [] [] (by first | exact Nat.zero_le _ | exact Nat.le_refl _ | decide) rfl rfl (by (try (conv => cbv)); (repeat' (first | exact trivial | rfl | exact SEq.mk rfl | (exact SEq.mk (by first | assumption | (symm; assumption))) | (simp only [I.val]; done) | (simp only [I.val]; omega) | omega | assumption | (refine And.intro ?_ ?_) | exact Or.inl rfl | exact Or.inr (by assumption) | exact List.Mem.head _ | exact List.Mem.tail _ (List.Mem.head _) | exact ⟨_, rfl⟩ | exact ⟨_, rfl, Or.inl rfl⟩ | (refine ⟨_, rfl, Or.inr ?_⟩; (try (conv => cbv))) | (simp only [I.val] at *; first | omega | (subst_vars; rfl) | simp_all)))) (by (try (conv => cbv)); (repeat' (first | exact trivial | rfl | exact SEq.mk rfl | (exact SEq.mk (by first | assumption | (symm; assumption))) | (simp only [I.val]; done) | (simp only [I.val]; omega) | omega | assumption | (refine And.intro ?_ ?_) | exact Or.inl rfl | exact Or.inr (by assumption) | exact List.Mem.head _ | exact List.Mem.tail _ (List.Mem.head _) | exact ⟨_, rfl⟩ | exact ⟨_, rfl, Or.inl rfl⟩ | (refine ⟨_, rfl, Or.inr ?_⟩; (try (conv => cbv))) | (simp only [I.val] at *; first | omega | (subst_vars; rfl) | simp_all))))) rfl ⟨by rw [hv]; rfl, rfl, rfl⟩
  · simp only [I.val] at hne
    obtain ⟨k', rfl⟩ : ∃ k', k = k' + 1 := ⟨k - 1, by omega⟩
    conv => cbv
    refine Again.mk k' _ (Nat.lt_succ_self _) (Re.of [(0, 0)] [] (by first | exact Nat.zero_le _ | exact Nat.le_refl _ | decide) rfl rfl (by (try (conv => cbv)); (repeat' (first | exact trivial | rfl | exact SEq.mk rfl | (exact SEq.mk (by first | assumption | (symm; assumption))) | (simp only [I.val]; done) | (simp only [I.val]; omega) | omega | assumption | (refine And.intro ?_ ?_) | exact Or.inl rfl | exact Or.inr (by assumption) | exact List.Mem.head _ | exact List.Mem.tail _ (List.Mem.head _) | exact ⟨_, rfl⟩ | exact ⟨_, rfl, Or.inl rfl⟩ | (refine ⟨_, rfl, Or.inr ?_⟩; (try (conv => cbv))) | (simp only [I.val] at *; first | omega | (subst_vars; rfl) | simp_all)))) (by (try (conv => cbv)); (repeat' (first | exact trivial | rfl | exact SEq.mk rfl | (exact SEq.mk (by first | assumption | (symm; assumption))) | (simp only [I.val]; done) | (simp only [I.val]; omega) | omega | assumption | (refine And.intro ?_ ?_) | exact Or.inl rfl | exact Or.inr (by assumption) | exact List.Mem.head _ | exact List.Mem.tail _ (List.Mem.head _) | exact ⟨_, rfl⟩ | exact ⟨_, rfl, Or.inl rfl⟩ | (refine ⟨_, rfl, Or.inr ?_⟩; (try (conv => cbv))) | (simp only [I.val] at *; first | omega | (subst_vars; rfl) | simp_all))))) ⟨p', rfl, by omega, by omega, by omega⟩
end Go.Proofs.Ytongaoioaafjnaa
