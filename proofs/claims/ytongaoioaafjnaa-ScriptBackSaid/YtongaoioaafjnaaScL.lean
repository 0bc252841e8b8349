/-
  Laws of layer 27.
-/
import Derived.Test.YtongaoioaafjnaaScS
namespace Go.Proofs.Ytongaoioaafjnaa
open Go Go.LX
set_option maxRecDepth 100000
set_option linter.unusedVariables false

theorem awake27_lx : CallF (fun _ => Try.prog) 12 [] [] 0 (fun r h n => r = .p (.bool true) ∧ h = [] ∧ n = 0) := by
  refine callF_of_body tok Try.func12 (by kernel_rfl) rfl rfl rfl ?_; conv => cbv
  refine callF_go (entries_lx [18, 3, 200, 5] 4 (u8s [18, 3, 200, 5]) rfl rfl (by decide) (by decide)) [] (Re.of [] [] (by first | exact Nat.zero_le _ | exact Nat.le_refl _ | decide) rfl rfl (by (try (conv => cbv)); (repeat' (first | exact trivial | rfl | exact SEq.mk rfl | (exact SEq.mk (by first | assumption | (symm; assumption))) | (simp only [I.val]; done) | (simp only [I.val]; omega) | omega | assumption | (refine And.intro ?_ ?_) | exact Or.inl rfl | exact Or.inr (by assumption) | exact List.Mem.head _ | exact List.Mem.tail _ (List.Mem.head _) | exact ⟨_, rfl⟩ | exact ⟨_, rfl, Or.inl rfl⟩ | (refine ⟨_, rfl, Or.inr ?_⟩; (try (conv => cbv))) | (simp only [I.val] at *; first | omega | (subst_vars; rfl) | simp_all)))) (by (try (conv => cbv)); (repeat' (first | exact trivial | rfl | exact SEq.mk rfl | (exact SEq.mk (by first | assumption | (symm; assumption))) | (simp only [I.val]; done) | (simp only [I.val]; omega) | omega | assumption | (refine And.intro ?_ ?_) | exact Or.inl rfl | exact Or.inr (by assumption) | exact List.Mem.head _ | exact List.Mem.tail _ (List.Mem.head _) | exact ⟨_, rfl⟩ | exact ⟨_, rfl, Or.inl rfl⟩ | (refine ⟨_, rfl, Or.inr ?_⟩; (try (conv => cbv))) | (simp only [I.val] at *; first | omega | (subst_vars; rfl) | simp_all))))) rfl rfl (fun r ⟨k, l, hr, _⟩ => by subst hr; rfl) (fun r ⟨k, l, hr, hk, hl⟩ => ?_)
  subst hr
  conv => cbv
  refine callF_go (plainEnt_lx (Es 400 [18, 3, 200, 5]) [(1, 2, 3), (3, 5, 0)] k 2 l (ents [(1, 2, 3), (3, 5, 0)]) hk rfl hl (pre_of rfl) (by decide)) [] (Re.of [] [] (by first | exact Nat.zero_le _ | exact Nat.le_refl _ | decide) rfl rfl (by (try (conv => cbv)); (repeat' (first | exact trivial | rfl | exact SEq.mk rfl | (exact SEq.mk (by first | assumption | (symm; assumption))) | (simp only [I.val]; done) | (simp only [I.val]; omega) | omega | assumption | (refine And.intro ?_ ?_) | exact Or.inl rfl | exact Or.inr (by assumption) | exact List.Mem.head _ | exact List.Mem.tail _ (List.Mem.head _) | exact ⟨_, rfl⟩ | exact ⟨_, rfl, Or.inl rfl⟩ | (refine ⟨_, rfl, Or.inr ?_⟩; (try (conv => cbv))) | (simp only [I.val] at *; first | omega | (subst_vars; rfl) | simp_all)))) (by (try (conv => cbv)); (repeat' (first | exact trivial | rfl | exact SEq.mk rfl | (exact SEq.mk (by first | assumption | (symm; assumption))) | (simp only [I.val]; done) | (simp only [I.val]; omega) | omega | assumption | (refine And.intro ?_ ?_) | exact Or.inl rfl | exact Or.inr (by assumption) | exact List.Mem.head _ | exact List.Mem.tail _ (List.Mem.head _) | exact ⟨_, rfl⟩ | exact ⟨_, rfl, Or.inl rfl⟩ | (refine ⟨_, rfl, Or.inr ?_⟩; (try (conv => cbv))) | (simp only [I.val] at *; first | omega | (subst_vars; rfl) | simp_all))))) rfl rfl (fun r ⟨b, hr, _⟩ => by subst hr; rfl) (fun r ⟨b, hr, hb⟩ => ?_)
  have hb : b = true := hb.2 (by decide)
  subst hb hr
  conv => cbv
  refine RetF.mk [.p (.bool true)] [] 0 (Re.of [] [] (by first | exact Nat.zero_le _ | exact Nat.le_refl _ | decide) rfl rfl (by (try (conv => cbv)); (repeat' (first | exact trivial | rfl | exact SEq.mk rfl | (exact SEq.mk (by first | assumption | (symm; assumption))) | (simp only [I.val]; done) | (simp only [I.val]; omega) | omega | assumption | (refine And.intro ?_ ?_) | exact Or.inl rfl | exact Or.inr (by assumption) | exact List.Mem.head _ | exact List.Mem.tail _ (List.Mem.head _) | exact ⟨_, rfl⟩ | exact ⟨_, rfl, Or.inl rfl⟩ | (refine ⟨_, rfl, Or.inr ?_⟩; (try (conv => cbv))) | (simp only [I.val] at *; first | omega | (subst_vars; rfl) | simp_all)))) (by (try (conv => cbv)); (repeat' (first | exact trivial | rfl | exact SEq.mk rfl | (exact SEq.mk (by first | assumption | (symm; assumption))) | (simp only [I.val]; done) | (simp only [I.val]; omega) | omega | assumption | (refine And.intro ?_ ?_) | exact Or.inl rfl | exact Or.inr (by assumption) | exact List.Mem.head _ | exact List.Mem.tail _ (List.Mem.head _) | exact ⟨_, rfl⟩ | exact ⟨_, rfl, Or.inl rfl⟩ | (refine ⟨_, rfl, Or.inr ?_⟩; (try (conv => cbv))) | (simp only [I.val] at *; first | omega | (subst_vars; rfl) | simp_all))))) rfl ⟨rfl, rfl, rfl⟩

theorem scriptEach_lx (p q : Int) (h0 : 0 ≤ p) (h1 : p < 256) (h2 : 0 ≤ q) (h3 : q < 256) : CallF (fun _ => Try.prog) 7 [.p (.int .u8 (.sym p)), .p (.int .u8 (.sym q))] [] 0 (fun r _ _ => r = .p (.bool true)) := by
  refine callF_of_body tok Try.func7 (by kernel_rfl) rfl rfl rfl ?_; conv => cbv
  refine callF_go (entries_lx [p, q] 2 (u8s [p, q]) rfl rfl (by simp; omega) (by simp)) [] (Re.of [] [] (by first | exact Nat.zero_le _ | exact Nat.le_refl _ | decide) rfl rfl (by (try (conv => cbv)); (repeat' (first | exact trivial | rfl | exact SEq.mk rfl | (exact SEq.mk (by first | assumption | (symm; assumption))) | (simp only [I.val]; done) | (simp only [I.val]; omega) | omega | assumption | (refine And.intro ?_ ?_) | exact Or.inl rfl | exact Or.inr (by assumption) | exact List.Mem.head _ | exact List.Mem.tail _ (List.Mem.head _) | exact ⟨_, rfl⟩ | exact ⟨_, rfl, Or.inl rfl⟩ | (refine ⟨_, rfl, Or.inr ?_⟩; (try (conv => cbv))) | (simp only [I.val] at *; first | omega | (subst_vars; rfl) | simp_all)))) (by (try (conv => cbv)); (repeat' (first | exact trivial | rfl | exact SEq.mk rfl | (exact SEq.mk (by first | assumption | (symm; assumption))) | (simp only [I.val]; done) | (simp only [I.val]; omega) | omega | assumption | (refine And.intro ?_ ?_) | exact Or.inl rfl | exact Or.inr (by assumption) | exact List.Mem.head _ | exact List.Mem.tail _ (List.Mem.head _) | exact ⟨_, rfl⟩ | exact ⟨_, rfl, Or.inl rfl⟩ | (refine ⟨_, rfl, Or.inr ?_⟩; (try (conv => cbv))) | (simp only [I.val] at *; first | omega | (subst_vars; rfl) | simp_all))))) rfl rfl (fun r ⟨k, l, hr, _⟩ => by subst hr; rfl) (fun r ⟨k1, l1, hr, hk1, hl1⟩ => ?_)
  subst hr
  conv => cbv
  refine callF_go (entries_lx [p] 1 (u8s [p]) rfl rfl (by simp; omega) (by simp)) [] (Re.of [] [] (by first | exact Nat.zero_le _ | exact Nat.le_refl _ | decide) rfl rfl (by (try (conv => cbv)); (repeat' (first | exact trivial | rfl | exact SEq.mk rfl | (exact SEq.mk (by first | assumption | (symm; assumption))) | (simp only [I.val]; done) | (simp only [I.val]; omega) | omega | assumption | (refine And.intro ?_ ?_) | exact Or.inl rfl | exact Or.inr (by assumption) | exact List.Mem.head _ | exact List.Mem.tail _ (List.Mem.head _) | exact ⟨_, rfl⟩ | exact ⟨_, rfl, Or.inl rfl⟩ | (refine ⟨_, rfl, Or.inr ?_⟩; (try (conv => cbv))) | (simp only [I.val] at *; first | omega | (subst_vars; rfl) | simp_all)))) (by (try (conv => cbv)); (repeat' (first | exact trivial | rfl | exact SEq.mk rfl | (exact SEq.mk (by first | assumption | (symm; assumption))) | (simp only [I.val]; done) | (simp only [I.val]; omega) | omega | assumption | (refine And.intro ?_ ?_) | exact Or.inl rfl | exact Or.inr (by assumption) | exact List.Mem.head _ | exact List.Mem.tail _ (List.Mem.head _) | exact ⟨_, rfl⟩ | exact ⟨_, rfl, Or.inl rfl⟩ | (refine ⟨_, rfl, Or.inr ?_⟩; (try (conv => cbv))) | (simp only [I.val] at *; first | omega | (subst_vars; rfl) | simp_all))))) rfl rfl (fun r ⟨k, l, hr, _⟩ => by subst hr; rfl) (fun r ⟨k2, l2, hr, hk2, hl2⟩ => ?_)
  subst hr
  conv => cbv
  refine callF_go (entries_lx [p, 0] 2 (u8s [p, 0]) rfl rfl (by simp; omega) (by simp)) [] (Re.of [] [] (by first | exact Nat.zero_le _ | exact Nat.le_refl _ | decide) rfl rfl (by (try (conv => cbv)); (repeat' (first | exact trivial | rfl | exact SEq.mk rfl | (exact SEq.mk (by first | assumption | (symm; assumption))) | (simp only [I.val]; done) | (simp only [I.val]; omega) | omega | assumption | (refine And.intro ?_ ?_) | exact Or.inl rfl | exact Or.inr (by assumption) | exact List.Mem.head _ | exact List.Mem.tail _ (List.Mem.head _) | exact ⟨_, rfl⟩ | exact ⟨_, rfl, Or.inl rfl⟩ | (refine ⟨_, rfl, Or.inr ?_⟩; (try (conv => cbv))) | (simp only [I.val] at *; first | omega | (subst_vars; rfl) | simp_all)))) (by (try (conv => cbv)); (repeat' (first | exact trivial | rfl | exact SEq.mk rfl | (exact SEq.mk (by first | assumption | (symm; assumption))) | (simp only [I.val]; done) | (simp only [I.val]; omega) | omega | assumption | (refine And.intro ?_ ?_) | exact Or.inl rfl | exact Or.inr (by assumption) | exact List.Mem.head _ | exact List.Mem.tail _ (List.Mem.head _) | exact ⟨_, rfl⟩ | exact ⟨_, rfl, Or.inl rfl⟩ | (refine ⟨_, rfl, Or.inr ?_⟩; (try (conv => cbv))) | (simp only [I.val] at *; first | omega | (subst_vars; rfl) | simp_all))))) rfl rfl (fun r ⟨k, l, hr, _⟩ => by subst hr; rfl) (fun r ⟨k3, l3, hr, hk3, hl3⟩ => ?_)
  subst hr
  conv => cbv
  have hE : Es 400 [p, q] = [ent p q] := rfl
  refine Br.mk (fun e1 => ?_) (fun e1 => ?_)
  · simp only [I.val] at e1
    conv => cbv
    refine Sum.mk fun x hx => ?_
    have hx : x = p % 16 := hx.trans (Int.tmod_eq_emod_of_nonneg (by first | exact h0 | exact h2))
    conv => cbv
    refine Fit.mk (by show (-9223372036854775808 : Int) ≤ x; omega) (by show x ≤ 9223372036854775807; omega) ?_
    intro x2 hx2
    have hx2 : x2 = x := hx2
    conv => cbv
    refine Sum.mk fun y hy => ?_
    have hy : y = q % 16 := hy.trans (Int.tmod_eq_emod_of_nonneg (by first | exact h0 | exact h2))
    conv => cbv
    refine Fit.mk (by show (-9223372036854775808 : Int) ≤ y; omega) (by show y ≤ 9223372036854775807; omega) ?_
    intro y2 hy2
    have hy2 : y2 = y := hy2
    conv => cbv
    refine callF_val awake27_lx (by simp [ales, renVs]) rfl (fun r hr => by subst hr; rfl) (fun r hr => ?_)
    subst hr
    conv => cbv
    have hX : ent p q = (1, x2, y2) := by
      have a1 : entK p = 1 := by simp only [entK]; omega
      have a2 : entN p q = x2 := by simp only [entN]; omega
      have a3 : entD p q = y2 := by simp only [entD]; omega
      simp only [ent, a1, a2, a3]
    refine callF_go (plainEnt_lx (Es 400 [p, q]) [(1, x2, y2)] k1 1 l1 (ents [(1, x2, y2)]) hk1 rfl hl1 (pre_of rfl) (by rw [hE]; simp)) [] (Re.of [] [] (by first | exact Nat.zero_le _ | exact Nat.le_refl _ | decide) rfl rfl (by (try (conv => cbv)); (repeat' (first | exact trivial | rfl | exact SEq.mk rfl | (exact SEq.mk (by first | assumption | (symm; assumption))) | (simp only [I.val]; done) | (simp only [I.val]; omega) | omega | assumption | (refine And.intro ?_ ?_) | exact Or.inl rfl | exact Or.inr (by assumption) | exact List.Mem.head _ | exact List.Mem.tail _ (List.Mem.head _) | exact ⟨_, rfl⟩ | exact ⟨_, rfl, Or.inl rfl⟩ | (refine ⟨_, rfl, Or.inr ?_⟩; (try (conv => cbv))) | (simp only [I.val] at *; first | omega | (subst_vars; rfl) | simp_all)))) (by (try (conv => cbv)); (repeat' (first | exact trivial | rfl | exact SEq.mk rfl | (exact SEq.mk (by first | assumption | (symm; assumption))) | (simp only [I.val]; done) | (simp only [I.val]; omega) | omega | assumption | (refine And.intro ?_ ?_) | exact Or.inl rfl | exact Or.inr (by assumption) | exact List.Mem.head _ | exact List.Mem.tail _ (List.Mem.head _) | exact ⟨_, rfl⟩ | exact ⟨_, rfl, Or.inl rfl⟩ | (refine ⟨_, rfl, Or.inr ?_⟩; (try (conv => cbv))) | (simp only [I.val] at *; first | omega | (subst_vars; rfl) | simp_all))))) rfl rfl (fun r ⟨b, hr, _⟩ => by subst hr; rfl) (fun r ⟨b, hr, hb⟩ => ?_)
    have hb : b = true := hb.2 (by rw [hE, hX])
    subst hb hr
    conv => cbv
    refine callF_val (plainEnt_lx (Es 400 [p]) (Es 400 [p, 0]) k2 k3 l2 l3 hk2 hk3 hl2 (pre_of hl3) (by simp [Es])) (by simp [ales, ale, renVs, renV, pvle, I.val]) rfl (fun r ⟨b, hr, _⟩ => by subst hr; rfl) (fun r ⟨b, hr, hb⟩ => ?_)
    have hb : b = true := hb.2 rfl
    subst hb hr
    conv => cbv
    refine callF_val (entries_lx [] 0 [] rfl rfl (by simp) (by simp)) (by simp [ales, ale, renVs, renV, pvle, I.val]) rfl (fun r ⟨k, l, hr, _⟩ => by subst hr; rfl) (fun r ⟨k4, l4, hr, hk4, hl4⟩ => ?_)
    subst hr
    have hk4 : k4 = 0 := hk4
    conv => cbv
    refine Br.mk (fun e9 => ?_) (fun e9 => absurd hk4 e9)
    conv => cbv
    refine RetF.mk [.p (.bool true)] [] 0 (Re.of [] [] (by first | exact Nat.zero_le _ | exact Nat.le_refl _ | decide) rfl rfl (by (try (conv => cbv)); (repeat' (first | exact trivial | rfl | exact SEq.mk rfl | (exact SEq.mk (by first | assumption | (symm; assumption))) | (simp only [I.val]; done) | (simp only [I.val]; omega) | omega | assumption | (refine And.intro ?_ ?_) | exact Or.inl rfl | exact Or.inr (by assumption) | exact List.Mem.head _ | exact List.Mem.tail _ (List.Mem.head _) | exact ⟨_, rfl⟩ | exact ⟨_, rfl, Or.inl rfl⟩ | (refine ⟨_, rfl, Or.inr ?_⟩; (try (conv => cbv))) | (simp only [I.val] at *; first | omega | (subst_vars; rfl) | simp_all)))) (by (try (conv => cbv)); (repeat' (first | exact trivial | rfl | exact SEq.mk rfl | (exact SEq.mk (by first | assumption | (symm; assumption))) | (simp only [I.val]; done) | (simp only [I.val]; omega) | omega | assumption | (refine And.intro ?_ ?_) | exact Or.inl rfl | exact Or.inr (by assumption) | exact List.Mem.head _ | exact List.Mem.tail _ (List.Mem.head _) | exact ⟨_, rfl⟩ | exact ⟨_, rfl, Or.inl rfl⟩ | (refine ⟨_, rfl, Or.inr ?_⟩; (try (conv => cbv))) | (simp only [I.val] at *; first | omega | (subst_vars; rfl) | simp_all))))) rfl rfl
  · simp only [I.val] at e1
    conv => cbv
    refine Br.mk (fun e2 => ?_) (fun e2 => ?_)
    · simp only [I.val] at e2
      conv => cbv
      refine Sum.mk fun x hx => ?_
      have hx : x = q % 32 := hx.trans (Int.tmod_eq_emod_of_nonneg (by first | exact h0 | exact h2))
      conv => cbv
      refine Fit.mk (by show (-9223372036854775808 : Int) ≤ x; omega) (by show x ≤ 9223372036854775807; omega) ?_
      intro x2 hx2
      have hx2 : x2 = x := hx2
      conv => cbv
      refine callF_val awake27_lx (by simp [ales, renVs]) rfl (fun r hr => by subst hr; rfl) (fun r hr => ?_)
      subst hr
      conv => cbv
      have hX : ent p q = (2, x2, 0) := by
        have a1 : entK p = 2 := by simp only [entK]; omega
        have a2 : entN p q = x2 := by simp only [entN]; omega
        have a3 : entD p q = 0 := by simp only [entD]; omega
        simp only [ent, a1, a2, a3]
      refine callF_go (plainEnt_lx (Es 400 [p, q]) [(2, x2, 0)] k1 1 l1 (ents [(2, x2, 0)]) hk1 rfl hl1 (pre_of rfl) (by rw [hE]; simp)) [] (Re.of [] [] (by first | exact Nat.zero_le _ | exact Nat.le_refl _ | decide) rfl rfl (by (try (conv => cbv)); (repeat' (first | exact trivial | rfl | exact SEq.mk rfl | (exact SEq.mk (by first | assumption | (symm; assumption))) | (simp only [I.val]; done) | (simp only [I.val]; omega) | omega | assumption | (refine And.intro ?_ ?_) | exact Or.inl rfl | exact Or.inr (by assumption) | exact List.Mem.head _ | exact List.Mem.tail _ (List.Mem.head _) | exact ⟨_, rfl⟩ | exact ⟨_, rfl, Or.inl rfl⟩ | (refine ⟨_, rfl, Or.inr ?_⟩; (try (conv => cbv))) | (simp only [I.val] at *; first | omega | (subst_vars; rfl) | simp_all)))) (by (try (conv => cbv)); (repeat' (first | exact trivial | rfl | exact SEq.mk rfl | (exact SEq.mk (by first | assumption | (symm; assumption))) | (simp only [I.val]; done) | (simp only [I.val]; omega) | omega | assumption | (refine And.intro ?_ ?_) | exact Or.inl rfl | exact Or.inr (by assumption) | exact List.Mem.head _ | exact List.Mem.tail _ (List.Mem.head _) | exact ⟨_, rfl⟩ | exact ⟨_, rfl, Or.inl rfl⟩ | (refine ⟨_, rfl, Or.inr ?_⟩; (try (conv => cbv))) | (simp only [I.val] at *; first | omega | (subst_vars; rfl) | simp_all))))) rfl rfl (fun r ⟨b, hr, _⟩ => by subst hr; rfl) (fun r ⟨b, hr, hb⟩ => ?_)
      have hb : b = true := hb.2 (by rw [hE, hX])
      subst hb hr
      conv => cbv
      refine callF_val (plainEnt_lx (Es 400 [p]) (Es 400 [p, 0]) k2 k3 l2 l3 hk2 hk3 hl2 (pre_of hl3) (by simp [Es])) (by simp [ales, ale, renVs, renV, pvle, I.val]) rfl (fun r ⟨b, hr, _⟩ => by subst hr; rfl) (fun r ⟨b, hr, hb⟩ => ?_)
      have hb : b = true := hb.2 rfl
      subst hb hr
      conv => cbv
      refine callF_val (entries_lx [] 0 [] rfl rfl (by simp) (by simp)) (by simp [ales, ale, renVs, renV, pvle, I.val]) rfl (fun r ⟨k, l, hr, _⟩ => by subst hr; rfl) (fun r ⟨k4, l4, hr, hk4, hl4⟩ => ?_)
      subst hr
      have hk4 : k4 = 0 := hk4
      conv => cbv
      refine Br.mk (fun e9 => ?_) (fun e9 => absurd hk4 e9)
      conv => cbv
      refine RetF.mk [.p (.bool true)] [] 0 (Re.of [] [] (by first | exact Nat.zero_le _ | exact Nat.le_refl _ | decide) rfl rfl (by (try (conv => cbv)); (repeat' (first | exact trivial | rfl | exact SEq.mk rfl | (exact SEq.mk (by first | assumption | (symm; assumption))) | (simp only [I.val]; done) | (simp only [I.val]; omega) | omega | assumption | (refine And.intro ?_ ?_) | exact Or.inl rfl | exact Or.inr (by assumption) | exact List.Mem.head _ | exact List.Mem.tail _ (List.Mem.head _) | exact ⟨_, rfl⟩ | exact ⟨_, rfl, Or.inl rfl⟩ | (refine ⟨_, rfl, Or.inr ?_⟩; (try (conv => cbv))) | (simp only [I.val] at *; first | omega | (subst_vars; rfl) | simp_all)))) (by (try (conv => cbv)); (repeat' (first | exact trivial | rfl | exact SEq.mk rfl | (exact SEq.mk (by first | assumption | (symm; assumption))) | (simp only [I.val]; done) | (simp only [I.val]; omega) | omega | assumption | (refine And.intro ?_ ?_) | exact Or.inl rfl | exact Or.inr (by assumption) | exact List.Mem.head _ | exact List.Mem.tail _ (List.Mem.head _) | exact ⟨_, rfl⟩ | exact ⟨_, rfl, Or.inl rfl⟩ | (refine ⟨_, rfl, Or.inr ?_⟩; (try (conv => cbv))) | (simp only [I.val] at *; first | omega | (subst_vars; rfl) | simp_all))))) rfl rfl
    · simp only [I.val] at e2
      conv => cbv
      refine Br.mk (fun e3 => ?_) (fun e3 => ?_)
      · simp only [I.val] at e3
        conv => cbv
        refine Sum.mk fun x hx => ?_
        have hx : x = q % 64 := hx.trans (Int.tmod_eq_emod_of_nonneg (by first | exact h0 | exact h2))
        conv => cbv
        refine Fit.mk (by show (-9223372036854775808 : Int) ≤ x; omega) (by show x ≤ 9223372036854775807; omega) ?_
        intro x2 hx2
        have hx2 : x2 = x := hx2
        conv => cbv
        refine callF_val awake27_lx (by simp [ales, renVs]) rfl (fun r hr => by subst hr; rfl) (fun r hr => ?_)
        subst hr
        conv => cbv
        have hX : ent p q = (3, x2, 0) := by
          have a1 : entK p = 3 := by simp only [entK]; omega
          have a2 : entN p q = x2 := by simp only [entN]; omega
          have a3 : entD p q = 0 := by simp only [entD]; omega
          simp only [ent, a1, a2, a3]
        refine callF_go (plainEnt_lx (Es 400 [p, q]) [(3, x2, 0)] k1 1 l1 (ents [(3, x2, 0)]) hk1 rfl hl1 (pre_of rfl) (by rw [hE]; simp)) [] (Re.of [] [] (by first | exact Nat.zero_le _ | exact Nat.le_refl _ | decide) rfl rfl (by (try (conv => cbv)); (repeat' (first | exact trivial | rfl | exact SEq.mk rfl | (exact SEq.mk (by first | assumption | (symm; assumption))) | (simp only [I.val]; done) | (simp only [I.val]; omega) | omega | assumption | (refine And.intro ?_ ?_) | exact Or.inl rfl | exact Or.inr (by assumption) | exact List.Mem.head _ | exact List.Mem.tail _ (List.Mem.head _) | exact ⟨_, rfl⟩ | exact ⟨_, rfl, Or.inl rfl⟩ | (refine ⟨_, rfl, Or.inr ?_⟩; (try (conv => cbv))) | (simp only [I.val] at *; first | omega | (subst_vars; rfl) | simp_all)))) (by (try (conv => cbv)); (repeat' (first | exact trivial | rfl | exact SEq.mk rfl | (exact SEq.mk (by first | assumption | (symm; assumption))) | (simp only [I.val]; done) | (simp only [I.val]; omega) | omega | assumption | (refine And.intro ?_ ?_) | exact Or.inl rfl | exact Or.inr (by assumption) | exact List.Mem.head _ | exact List.Mem.tail _ (List.Mem.head _) | exact ⟨_, rfl⟩ | exact ⟨_, rfl, Or.inl rfl⟩ | (refine ⟨_, rfl, Or.inr ?_⟩; (try (conv => cbv))) | (simp only [I.val] at *; first | omega | (subst_vars; rfl) | simp_all))))) rfl rfl (fun r ⟨b, hr, _⟩ => by subst hr; rfl) (fun r ⟨b, hr, hb⟩ => ?_)
        have hb : b = true := hb.2 (by rw [hE, hX])
        subst hb hr
        conv => cbv
        refine callF_val (plainEnt_lx (Es 400 [p]) (Es 400 [p, 0]) k2 k3 l2 l3 hk2 hk3 hl2 (pre_of hl3) (by simp [Es])) (by simp [ales, ale, renVs, renV, pvle, I.val]) rfl (fun r ⟨b, hr, _⟩ => by subst hr; rfl) (fun r ⟨b, hr, hb⟩ => ?_)
        have hb : b = true := hb.2 rfl
        subst hb hr
        conv => cbv
        refine callF_val (entries_lx [] 0 [] rfl rfl (by simp) (by simp)) (by simp [ales, ale, renVs, renV, pvle, I.val]) rfl (fun r ⟨k, l, hr, _⟩ => by subst hr; rfl) (fun r ⟨k4, l4, hr, hk4, hl4⟩ => ?_)
        subst hr
        have hk4 : k4 = 0 := hk4
        conv => cbv
        refine Br.mk (fun e9 => ?_) (fun e9 => absurd hk4 e9)
        conv => cbv
        refine RetF.mk [.p (.bool true)] [] 0 (Re.of [] [] (by first | exact Nat.zero_le _ | exact Nat.le_refl _ | decide) rfl rfl (by (try (conv => cbv)); (repeat' (first | exact trivial | rfl | exact SEq.mk rfl | (exact SEq.mk (by first | assumption | (symm; assumption))) | (simp only [I.val]; done) | (simp only [I.val]; omega) | omega | assumption | (refine And.intro ?_ ?_) | exact Or.inl rfl | exact Or.inr (by assumption) | exact List.Mem.head _ | exact List.Mem.tail _ (List.Mem.head _) | exact ⟨_, rfl⟩ | exact ⟨_, rfl, Or.inl rfl⟩ | (refine ⟨_, rfl, Or.inr ?_⟩; (try (conv => cbv))) | (simp only [I.val] at *; first | omega | (subst_vars; rfl) | simp_all)))) (by (try (conv => cbv)); (repeat' (first | exact trivial | rfl | exact SEq.mk rfl | (exact SEq.mk (by first | assumption | (symm; assumption))) | (simp only [I.val]; done) | (simp only [I.val]; omega) | omega | assumption | (refine And.intro ?_ ?_) | exact Or.inl rfl | exact Or.inr (by assumption) | exact List.Mem.head _ | exact List.Mem.tail _ (List.Mem.head _) | exact ⟨_, rfl⟩ | exact ⟨_, rfl, Or.inl rfl⟩ | (refine ⟨_, rfl, Or.inr ?_⟩; (try (conv => cbv))) | (simp only [I.val] at *; first | omega | (subst_vars; rfl) | simp_all))))) rfl rfl
      · simp only [I.val] at e3
        conv => cbv
        refine callF_val awake27_lx (by simp [ales, renVs]) rfl (fun r hr => by subst hr; rfl) (fun r hr => ?_)
        subst hr
        conv => cbv
        have hX : ent p q = (4, 0, 0) := by
          have a1 : entK p = 4 := by simp only [entK]; omega
          have a2 : entN p q = 0 := by simp only [entN]; omega
          have a3 : entD p q = 0 := by simp only [entD]; omega
          simp only [ent, a1, a2, a3]
        refine callF_go (plainEnt_lx (Es 400 [p, q]) [(4, 0, 0)] k1 1 l1 (ents [(4, 0, 0)]) hk1 rfl hl1 (pre_of rfl) (by rw [hE]; simp)) [] (Re.of [] [] (by first | exact Nat.zero_le _ | exact Nat.le_refl _ | decide) rfl rfl (by (try (conv => cbv)); (repeat' (first | exact trivial | rfl | exact SEq.mk rfl | (exact SEq.mk (by first | assumption | (symm; assumption))) | (simp only [I.val]; done) | (simp only [I.val]; omega) | omega | assumption | (refine And.intro ?_ ?_) | exact Or.inl rfl | exact Or.inr (by assumption) | exact List.Mem.head _ | exact List.Mem.tail _ (List.Mem.head _) | exact ⟨_, rfl⟩ | exact ⟨_, rfl, Or.inl rfl⟩ | (refine ⟨_, rfl, Or.inr ?_⟩; (try (conv => cbv))) | (simp only [I.val] at *; first | omega | (subst_vars; rfl) | simp_all)))) (by (try (conv => cbv)); (repeat' (first | exact trivial | rfl | exact SEq.mk rfl | (exact SEq.mk (by first | assumption | (symm; assumption))) | (simp only [I.val]; done) | (simp only [I.val]; omega) | omega | assumption | (refine And.intro ?_ ?_) | exact Or.inl rfl | exact Or.inr (by assumption) | exact List.Mem.head _ | exact List.Mem.tail _ (List.Mem.head _) | exact ⟨_, rfl⟩ | exact ⟨_, rfl, Or.inl rfl⟩ | (refine ⟨_, rfl, Or.inr ?_⟩; (try (conv => cbv))) | (simp only [I.val] at *; first | omega | (subst_vars; rfl) | simp_all))))) rfl rfl (fun r ⟨b, hr, _⟩ => by subst hr; rfl) (fun r ⟨b, hr, hb⟩ => ?_)
        have hb : b = true := hb.2 (by rw [hE, hX])
        subst hb hr
        conv => cbv
        refine callF_val (plainEnt_lx (Es 400 [p]) (Es 400 [p, 0]) k2 k3 l2 l3 hk2 hk3 hl2 (pre_of hl3) (by simp [Es])) (by simp [ales, ale, renVs, renV, pvle, I.val]) rfl (fun r ⟨b, hr, _⟩ => by subst hr; rfl) (fun r ⟨b, hr, hb⟩ => ?_)
        have hb : b = true := hb.2 rfl
        subst hb hr
        conv => cbv
        refine callF_val (entries_lx [] 0 [] rfl rfl (by simp) (by simp)) (by simp [ales, ale, renVs, renV, pvle, I.val]) rfl (fun r ⟨k, l, hr, _⟩ => by subst hr; rfl) (fun r ⟨k4, l4, hr, hk4, hl4⟩ => ?_)
        subst hr
        have hk4 : k4 = 0 := hk4
        conv => cbv
        refine Br.mk (fun e9 => ?_) (fun e9 => absurd hk4 e9)
        conv => cbv
        refine RetF.mk [.p (.bool true)] [] 0 (Re.of [] [] (by first | exact Nat.zero_le _ | exact Nat.le_refl _ | decide) rfl rfl (by (try (conv => cbv)); (repeat' (first | exact trivial | rfl | exact SEq.mk rfl | (exact SEq.mk (by first | assumption | (symm; assumption))) | (simp only [I.val]; done) | (simp only [I.val]; omega) | omega | assumption | (refine And.intro ?_ ?_) | exact Or.inl rfl | exact Or.inr (by assumption) | exact List.Mem.head _ | exact List.Mem.tail _ (List.Mem.head _) | exact ⟨_, rfl⟩ | exact ⟨_, rfl, Or.inl rfl⟩ | (refine ⟨_, rfl, Or.inr ?_⟩; (try (conv => cbv))) | (simp only [I.val] at *; first | omega | (subst_vars; rfl) | simp_all)))) (by (try (conv => cbv)); (repeat' (first | exact trivial | rfl | exact SEq.mk rfl | (exact SEq.mk (by first | assumption | (symm; assumption))) | (simp only [I.val]; done) | (simp only [I.val]; omega) | omega | assumption | (refine And.intro ?_ ?_) | exact Or.inl rfl | exact Or.inr (by assumption) | exact List.Mem.head _ | exact List.Mem.tail _ (List.Mem.head _) | exact ⟨_, rfl⟩ | exact ⟨_, rfl, Or.inl rfl⟩ | (refine ⟨_, rfl, Or.inr ?_⟩; (try (conv => cbv))) | (simp only [I.val] at *; first | omega | (subst_vars; rfl) | simp_all))))) rfl rfl
end Go.Proofs.Ytongaoioaafjnaa
