/-
  Package script: the two bytes of an entry.
-/
import Derived.Test.YtongaoioaafjnaaScS
namespace Go.Proofs.Ytongaoioaafjnaa
open Go Go.LX
set_option maxRecDepth 100000
set_option linter.unusedVariables false

theorem bytesOf_lx (k x d : Int) : CallF (fun _ => Try.prog) 27 [.agg [.p (.int .i64 (.sym k)), .p (.int .i64 (.sym x)), .p (.int .i64 (.sym d))]] [] 0 (fun r h n => (∃ f s : Int, r = .tup [.p (.int .u8 (.sym f)), .p (.int .u8 (.sym s))] ∧ f = (if k = 1 then IntKind.u8.wrap x else if k = 2 then 160 else if k = 3 then 192 else 240) ∧ s = (if k = 1 then IntKind.u8.wrap d else if k = 2 then IntKind.u8.wrap x else if k = 3 then IntKind.u8.wrap x else 0)) ∧ h = [] ∧ n = 0) := by
  refine callF_of_body tok Try.func27 (by kernel_rfl) rfl rfl rfl ?_; conv => cbv
  refine Br.mk (fun e1 => ?_) (fun e1 => ?_)
  · simp only [I.val] at e1
    conv => cbv
    refine draw_sound tok (by kernel_rfl) rfl (by kernel_rfl) ?_
    conv => cbv
    refine Fit.wrap fun f hf => ?_
    have hf : f = IntKind.u8.wrap x := hf
    conv => cbv
    refine Fit.wrap fun g hg => ?_
    have hg : g = IntKind.u8.wrap d := hg
    conv => cbv
    refine RetF.mk [.p (.int .u8 (.sym f)), .p (.int .u8 (.sym g))] [] 0 (Re.of [] [] (by first | exact Nat.zero_le _ | exact Nat.le_refl _ | decide) rfl rfl (by (try (conv => cbv)); (repeat' (first | exact trivial | rfl | exact SEq.mk rfl | (exact SEq.mk (by first | assumption | (symm; assumption))) | (simp only [I.val]; done) | (simp only [I.val]; omega) | omega | assumption | (refine And.intro ?_ ?_) | exact Or.inl rfl | exact Or.inr (by assumption) | exact List.Mem.head _ | exact List.Mem.tail _ (List.Mem.head _) | exact ⟨_, rfl⟩ | exact ⟨_, rfl, Or.inl rfl⟩ | (refine ⟨_, rfl, Or.inr ?_⟩; (try (conv => cbv))) | (simp only [I.val] at *; first | omega | (subst_vars; rfl) | simp_all)))) (by (try (conv => cbv)); (repeat' (first | exact trivial | rfl | exact SEq.mk rfl | (exact SEq.mk (by first | assumption | (symm; assumption))) | (simp only [I.val]; done) | (simp only [I.val]; omega) | omega | assumption | (refine And.intro ?_ ?_) | exact Or.inl rfl | exact Or.inr (by assumption) | exact List.Mem.head _ | exact List.Mem.tail _ (List.Mem.head _) | exact ⟨_, rfl⟩ | exact ⟨_, rfl, Or.inl rfl⟩ | (refine ⟨_, rfl, Or.inr ?_⟩; (try (conv => cbv))) | (simp only [I.val] at *; first | omega | (subst_vars; rfl) | simp_all))))) rfl ⟨⟨f, g, rfl, by rw [if_pos e1]; exact hf, by rw [if_pos e1]; exact hg⟩, rfl, rfl⟩
  · simp only [I.val] at e1
    conv => cbv
    refine Br.mk (fun e2 => ?_) (fun e2 => ?_)
    · simp only [I.val] at e2
      conv => cbv
      refine draw_sound tok (by kernel_rfl) rfl (by kernel_rfl) ?_
      conv => cbv
      refine Fit.wrap fun g hg => ?_
      have hg : g = IntKind.u8.wrap x := hg
      obtain ⟨f, hf⟩ : ∃ f : Int, f = 160 := ⟨_, rfl⟩
      conv => cbv
      refine RetF.mk [.p (.int .u8 (.sym f)), .p (.int .u8 (.sym g))] [] 0 (Re.of [] [] (by first | exact Nat.zero_le _ | exact Nat.le_refl _ | decide) rfl rfl (by (try (conv => cbv)); (repeat' (first | exact trivial | rfl | exact SEq.mk rfl | (exact SEq.mk (by first | assumption | (symm; assumption))) | (simp only [I.val]; done) | (simp only [I.val]; omega) | omega | assumption | (refine And.intro ?_ ?_) | exact Or.inl rfl | exact Or.inr (by assumption) | exact List.Mem.head _ | exact List.Mem.tail _ (List.Mem.head _) | exact ⟨_, rfl⟩ | exact ⟨_, rfl, Or.inl rfl⟩ | (refine ⟨_, rfl, Or.inr ?_⟩; (try (conv => cbv))) | (simp only [I.val] at *; first | omega | (subst_vars; rfl) | simp_all)))) (by (try (conv => cbv)); (repeat' (first | exact trivial | rfl | exact SEq.mk rfl | (exact SEq.mk (by first | assumption | (symm; assumption))) | (simp only [I.val]; done) | (simp only [I.val]; omega) | omega | assumption | (refine And.intro ?_ ?_) | exact Or.inl rfl | exact Or.inr (by assumption) | exact List.Mem.head _ | exact List.Mem.tail _ (List.Mem.head _) | exact ⟨_, rfl⟩ | exact ⟨_, rfl, Or.inl rfl⟩ | (refine ⟨_, rfl, Or.inr ?_⟩; (try (conv => cbv))) | (simp only [I.val] at *; first | omega | (subst_vars; rfl) | simp_all))))) rfl ⟨⟨f, g, rfl, by rw [if_neg e1, if_pos e2]; exact hf, by rw [if_neg e1, if_pos e2]; exact hg⟩, rfl, rfl⟩
    · simp only [I.val] at e2
      conv => cbv
      refine Br.mk (fun e3 => ?_) (fun e3 => ?_)
      · simp only [I.val] at e3
        conv => cbv
        refine draw_sound tok (by kernel_rfl) rfl (by kernel_rfl) ?_
        conv => cbv
        refine Fit.wrap fun g hg => ?_
        have hg : g = IntKind.u8.wrap x := hg
        obtain ⟨f, hf⟩ : ∃ f : Int, f = 192 := ⟨_, rfl⟩
        conv => cbv
        refine RetF.mk [.p (.int .u8 (.sym f)), .p (.int .u8 (.sym g))] [] 0 (Re.of [] [] (by first | exact Nat.zero_le _ | exact Nat.le_refl _ | decide) rfl rfl (by (try (conv => cbv)); (repeat' (first | exact trivial | rfl | exact SEq.mk rfl | (exact SEq.mk (by first | assumption | (symm; assumption))) | (simp only [I.val]; done) | (simp only [I.val]; omega) | omega | assumption | (refine And.intro ?_ ?_) | exact Or.inl rfl | exact Or.inr (by assumption) | exact List.Mem.head _ | exact List.Mem.tail _ (List.Mem.head _) | exact ⟨_, rfl⟩ | exact ⟨_, rfl, Or.inl rfl⟩ | (refine ⟨_, rfl, Or.inr ?_⟩; (try (conv => cbv))) | (simp only [I.val] at *; first | omega | (subst_vars; rfl) | simp_all)))) (by (try (conv => cbv)); (repeat' (first | exact trivial | rfl | exact SEq.mk rfl | (exact SEq.mk (by first | assumption | (symm; assumption))) | (simp only [I.val]; done) | (simp only [I.val]; omega) | omega | assumption | (refine And.intro ?_ ?_) | exact Or.inl rfl | exact Or.inr (by assumption) | exact List.Mem.head _ | exact List.Mem.tail _ (List.Mem.head _) | exact ⟨_, rfl⟩ | exact ⟨_, rfl, Or.inl rfl⟩ | (refine ⟨_, rfl, Or.inr ?_⟩; (try (conv => cbv))) | (simp only [I.val] at *; first | omega | (subst_vars; rfl) | simp_all))))) rfl ⟨⟨f, g, rfl, by rw [if_neg e1, if_neg e2, if_pos e3]; exact hf, by rw [if_neg e1, if_neg e2, if_pos e3]; exact hg⟩, rfl, rfl⟩
      · simp only [I.val] at e3
        obtain ⟨f, hf⟩ : ∃ f : Int, f = 240 := ⟨_, rfl⟩
        obtain ⟨g, hg⟩ : ∃ g : Int, g = 0 := ⟨_, rfl⟩
        conv => cbv
        refine RetF.mk [.p (.int .u8 (.sym f)), .p (.int .u8 (.sym g))] [] 0 (Re.of [] [] (by first | exact Nat.zero_le _ | exact Nat.le_refl _ | decide) rfl rfl (by (try (conv => cbv)); (repeat' (first | exact trivial | rfl | exact SEq.mk rfl | (exact SEq.mk (by first | assumption | (symm; assumption))) | (simp only [I.val]; done) | (simp only [I.val]; omega) | omega | assumption | (refine And.intro ?_ ?_) | exact Or.inl rfl | exact Or.inr (by assumption) | exact List.Mem.head _ | exact List.Mem.tail _ (List.Mem.head _) | exact ⟨_, rfl⟩ | exact ⟨_, rfl, Or.inl rfl⟩ | (refine ⟨_, rfl, Or.inr ?_⟩; (try (conv => cbv))) | (simp only [I.val] at *; first | omega | (subst_vars; rfl) | simp_all)))) (by (try (conv => cbv)); (repeat' (first | exact trivial | rfl | exact SEq.mk rfl | (exact SEq.mk (by first | assumption | (symm; assumption))) | (simp only [I.val]; done) | (simp only [I.val]; omega) | omega | assumption | (refine And.intro ?_ ?_) | exact Or.inl rfl | exact Or.inr (by assumption) | exact List.Mem.head _ | exact List.Mem.tail _ (List.Mem.head _) | exact ⟨_, rfl⟩ | exact ⟨_, rfl, Or.inl rfl⟩ | (refine ⟨_, rfl, Or.inr ?_⟩; (try (conv => cbv))) | (simp only [I.val] at *; first | omega | (subst_vars; rfl) | simp_all))))) rfl ⟨⟨f, g, rfl, by rw [if_neg e1, if_neg e2, if_neg e3]; exact hf, by rw [if_neg e1, if_neg e2, if_neg e3]; exact hg⟩, rfl, rfl⟩
end Go.Proofs.Ytongaoioaafjnaa
