/-
  Package script: the entry of two numbers; and two entries held against each other.
-/
import Derived.Test.YtongaoioaafjnaaScr
import Derived.Test.YtongaoioaafjnaaLxDrawn
namespace Go.Proofs.Ytongaoioaafjnaa
open Go Go.LX
set_option maxRecDepth 100000
set_option linter.unusedVariables false

theorem signV_of (q : Nat) (h : q < 16) : signV q = if q < 10 then 112 else if q < 12 then 116 else if q < 15 then 99 else 102 := by
  have : ∀ i : Fin 16, signV i.val = if i.val < 10 then 112 else if i.val < 12 then 116 else if i.val < 15 then 99 else 102 := by decide +kernel
  exact this ⟨q, h⟩

/-- The entry that two numbers tell. -/
def entK (p : Int) : Int := if p < 160 then 1 else if p < 192 then 2 else if p < 240 then 3 else 4
def entN (p q : Int) : Int := if p < 160 then p % 16 else if p < 192 then q % 32 else if p < 240 then q % 64 else 0
def entD (p q : Int) : Int := if p < 160 then q % 16 else 0
def Ent (k x d : Int) (r : LV) : Prop := r = .agg [.p (.int .i64 (.sym k)), .p (.int .i64 (.sym x)), .p (.int .i64 (.sym d))]

theorem entry_lx (p q : Int) (h0 : 0 ≤ p) (h1 : p < 256) (h2 : 0 ≤ q) (h3 : q < 256) : CallF (fun _ => Try.prog) 31 [.p (.int .i64 (.sym p)), .p (.int .i64 (.sym q))] [] 0 (fun r h n => Ent (entK p) (entN p q) (entD p q) r ∧ h = [] ∧ n = 0) := by
  generalize hK : entK p = K1
  generalize hN : entN p q = N1
  generalize hD : entD p q = D1
  simp only [entK] at hK
  simp only [entN] at hN
  simp only [entD] at hD
  refine callF_of_body tok Try.func31 (by kernel_rfl) rfl rfl rfl ?_; conv => cbv
  refine callF_val ((signOf_lx p h0 h1).mono fun r h n ⟨a, b, c⟩ => ⟨a, b, c⟩) (by simp [ales, ale, renVs, renV, pvle]) rfl (fun r hr => by subst hr; rfl) (fun r hr => ?_)
  subst hr
  have hs := signV_of (p / 16).toNat (by omega)
  generalize signV (p / 16).toNat = sg at hs ⊢
  conv => cbv
  refine Br.mk (fun e1 => ?_) (fun e1 => ?_)
  · simp only [I.val] at e1
    conv => cbv
    refine Sum.mk fun x hx => ?_
    have hx2 : x = p % 16 := hx.trans (Int.tmod_eq_emod_of_nonneg h0)
    clear hx
    conv => cbv
    refine Sum.mk fun y hy => ?_
    have hy2 : y = q % 16 := hy.trans (Int.tmod_eq_emod_of_nonneg h2)
    clear hy
    conv => cbv
    have hp : p < 160 := by split at hs <;> omega
    have g1 : K1 = 1 := by omega
    have g2 : N1 = x := by omega
    have g3 : D1 = y := by omega
    refine RetF.mk [.agg [.p (.int .i64 (.sym K1)), .p (.int .i64 (.sym N1)), .p (.int .i64 (.sym D1))]] [] 0 (Re.of [] [] (by first | exact Nat.zero_le _ | exact Nat.le_refl _ | decide) rfl rfl (by (try (conv => cbv)); (repeat' (first | exact trivial | rfl | exact SEq.mk rfl | (exact SEq.mk (by first | assumption | (symm; assumption))) | (simp only [I.val]; done) | (simp only [I.val]; omega) | omega | assumption | (refine And.intro ?_ ?_) | exact Or.inl rfl | exact Or.inr (by assumption) | exact List.Mem.head _ | exact List.Mem.tail _ (List.Mem.head _) | exact ⟨_, rfl⟩ | exact ⟨_, rfl, Or.inl rfl⟩ | (refine ⟨_, rfl, Or.inr ?_⟩; (try (conv => cbv))) | (simp only [I.val] at *; first | omega | (subst_vars; rfl) | simp_all)))) (by (try (conv => cbv)); (repeat' (first | exact trivial | rfl | exact SEq.mk rfl | (exact SEq.mk (by first | assumption | (symm; assumption))) | (simp only [I.val]; done) | (simp only [I.val]; omega) | omega | assumption | (refine And.intro ?_ ?_) | exact Or.inl rfl | exact Or.inr (by assumption) | exact List.Mem.head _ | exact List.Mem.tail _ (List.Mem.head _) | exact ⟨_, rfl⟩ | exact ⟨_, rfl, Or.inl rfl⟩ | (refine ⟨_, rfl, Or.inr ?_⟩; (try (conv => cbv))) | (simp only [I.val] at *; first | omega | (subst_vars; rfl) | simp_all))))) rfl ⟨rfl, rfl, rfl⟩
  · simp only [I.val] at e1
    conv => cbv
    refine Br.mk (fun e2 => ?_) (fun e2 => ?_)
    · simp only [I.val] at e2
      conv => cbv
      refine Sum.mk fun y hy => ?_
      have hy2 : y = q % 32 := hy.trans (Int.tmod_eq_emod_of_nonneg h2)
      clear hy
      conv => cbv
      have hp : 160 ≤ p ∧ p < 192 := by
        split at hs
        · omega
        · split at hs <;> omega
      have g1 : K1 = 2 := by omega
      have g2 : N1 = y := by omega
      have g3 : D1 = 0 := by omega
      refine RetF.mk [.agg [.p (.int .i64 (.sym K1)), .p (.int .i64 (.sym N1)), .p (.int .i64 (.sym D1))]] [] 0 (Re.of [] [] (by first | exact Nat.zero_le _ | exact Nat.le_refl _ | decide) rfl rfl (by (try (conv => cbv)); (repeat' (first | exact trivial | rfl | exact SEq.mk rfl | (exact SEq.mk (by first | assumption | (symm; assumption))) | (simp only [I.val]; done) | (simp only [I.val]; omega) | omega | assumption | (refine And.intro ?_ ?_) | exact Or.inl rfl | exact Or.inr (by assumption) | exact List.Mem.head _ | exact List.Mem.tail _ (List.Mem.head _) | exact ⟨_, rfl⟩ | exact ⟨_, rfl, Or.inl rfl⟩ | (refine ⟨_, rfl, Or.inr ?_⟩; (try (conv => cbv))) | (simp only [I.val] at *; first | omega | (subst_vars; rfl) | simp_all)))) (by (try (conv => cbv)); (repeat' (first | exact trivial | rfl | exact SEq.mk rfl | (exact SEq.mk (by first | assumption | (symm; assumption))) | (simp only [I.val]; done) | (simp only [I.val]; omega) | omega | assumption | (refine And.intro ?_ ?_) | exact Or.inl rfl | exact Or.inr (by assumption) | exact List.Mem.head _ | exact List.Mem.tail _ (List.Mem.head _) | exact ⟨_, rfl⟩ | exact ⟨_, rfl, Or.inl rfl⟩ | (refine ⟨_, rfl, Or.inr ?_⟩; (try (conv => cbv))) | (simp only [I.val] at *; first | omega | (subst_vars; rfl) | simp_all))))) rfl ⟨rfl, rfl, rfl⟩
    · simp only [I.val] at e2
      conv => cbv
      refine Br.mk (fun e3 => ?_) (fun e3 => ?_)
      · simp only [I.val] at e3
        conv => cbv
        refine Sum.mk fun y hy => ?_
        have hy2 : y = q % 64 := hy.trans (Int.tmod_eq_emod_of_nonneg h2)
        clear hy
        conv => cbv
        have hp : 192 ≤ p ∧ p < 240 := by
          split at hs
          · omega
          · split at hs
            · omega
            · split at hs <;> omega
        have g1 : K1 = 3 := by omega
        have g2 : N1 = y := by omega
        have g3 : D1 = 0 := by omega
        refine RetF.mk [.agg [.p (.int .i64 (.sym K1)), .p (.int .i64 (.sym N1)), .p (.int .i64 (.sym D1))]] [] 0 (Re.of [] [] (by first | exact Nat.zero_le _ | exact Nat.le_refl _ | decide) rfl rfl (by (try (conv => cbv)); (repeat' (first | exact trivial | rfl | exact SEq.mk rfl | (exact SEq.mk (by first | assumption | (symm; assumption))) | (simp only [I.val]; done) | (simp only [I.val]; omega) | omega | assumption | (refine And.intro ?_ ?_) | exact Or.inl rfl | exact Or.inr (by assumption) | exact List.Mem.head _ | exact List.Mem.tail _ (List.Mem.head _) | exact ⟨_, rfl⟩ | exact ⟨_, rfl, Or.inl rfl⟩ | (refine ⟨_, rfl, Or.inr ?_⟩; (try (conv => cbv))) | (simp only [I.val] at *; first | omega | (subst_vars; rfl) | simp_all)))) (by (try (conv => cbv)); (repeat' (first | exact trivial | rfl | exact SEq.mk rfl | (exact SEq.mk (by first | assumption | (symm; assumption))) | (simp only [I.val]; done) | (simp only [I.val]; omega) | omega | assumption | (refine And.intro ?_ ?_) | exact Or.inl rfl | exact Or.inr (by assumption) | exact List.Mem.head _ | exact List.Mem.tail _ (List.Mem.head _) | exact ⟨_, rfl⟩ | exact ⟨_, rfl, Or.inl rfl⟩ | (refine ⟨_, rfl, Or.inr ?_⟩; (try (conv => cbv))) | (simp only [I.val] at *; first | omega | (subst_vars; rfl) | simp_all))))) rfl ⟨rfl, rfl, rfl⟩
      · simp only [I.val] at e3
        conv => cbv
        have hp : 240 ≤ p := by
          split at hs
          · omega
          · split at hs
            · omega
            · split at hs <;> omega
        have g1 : K1 = 4 := by omega
        have g2 : N1 = 0 := by omega
        have g3 : D1 = 0 := by omega
        refine RetF.mk [.agg [.p (.int .i64 (.sym K1)), .p (.int .i64 (.sym N1)), .p (.int .i64 (.sym D1))]] [] 0 (Re.of [] [] (by first | exact Nat.zero_le _ | exact Nat.le_refl _ | decide) rfl rfl (by (try (conv => cbv)); (repeat' (first | exact trivial | rfl | exact SEq.mk rfl | (exact SEq.mk (by first | assumption | (symm; assumption))) | (simp only [I.val]; done) | (simp only [I.val]; omega) | omega | assumption | (refine And.intro ?_ ?_) | exact Or.inl rfl | exact Or.inr (by assumption) | exact List.Mem.head _ | exact List.Mem.tail _ (List.Mem.head _) | exact ⟨_, rfl⟩ | exact ⟨_, rfl, Or.inl rfl⟩ | (refine ⟨_, rfl, Or.inr ?_⟩; (try (conv => cbv))) | (simp only [I.val] at *; first | omega | (subst_vars; rfl) | simp_all)))) (by (try (conv => cbv)); (repeat' (first | exact trivial | rfl | exact SEq.mk rfl | (exact SEq.mk (by first | assumption | (symm; assumption))) | (simp only [I.val]; done) | (simp only [I.val]; omega) | omega | assumption | (refine And.intro ?_ ?_) | exact Or.inl rfl | exact Or.inr (by assumption) | exact List.Mem.head _ | exact List.Mem.tail _ (List.Mem.head _) | exact ⟨_, rfl⟩ | exact ⟨_, rfl, Or.inl rfl⟩ | (refine ⟨_, rfl, Or.inr ?_⟩; (try (conv => cbv))) | (simp only [I.val] at *; first | omega | (subst_vars; rfl) | simp_all))))) rfl ⟨rfl, rfl, rfl⟩

/-- Two entries, held against each other. -/
theorem entEq_lx (k x d k2 x2 d2 : I) : CallF (fun _ => Try.prog) 30 [.agg [.p (.int .i64 k), .p (.int .i64 x), .p (.int .i64 d)], .agg [.p (.int .i64 k2), .p (.int .i64 x2), .p (.int .i64 d2)]] [] 0 (fun r h n => (∃ b : Bool, r = .p (.bool b) ∧ (b = true ↔ k.val = k2.val ∧ x.val = x2.val ∧ d.val = d2.val)) ∧ h = [] ∧ n = 0) := by
  refine callF_of_body tok Try.func30 (by kernel_rfl) rfl rfl rfl ?_; conv => cbv
  refine AggEq.mk (by kernel_rfl) (fun e => ?_) (fun e => ?_)
  · simp only [eqLs] at e
    conv => cbv
    refine RetF.mk [.p (.bool true)] [] 0 (Re.of [] [] (by first | exact Nat.zero_le _ | exact Nat.le_refl _ | decide) rfl rfl (by (try (conv => cbv)); (repeat' (first | exact trivial | rfl | exact SEq.mk rfl | (exact SEq.mk (by first | assumption | (symm; assumption))) | (simp only [I.val]; done) | (simp only [I.val]; omega) | omega | assumption | (refine And.intro ?_ ?_) | exact Or.inl rfl | exact Or.inr (by assumption) | exact List.Mem.head _ | exact List.Mem.tail _ (List.Mem.head _) | exact ⟨_, rfl⟩ | exact ⟨_, rfl, Or.inl rfl⟩ | (refine ⟨_, rfl, Or.inr ?_⟩; (try (conv => cbv))) | (simp only [I.val] at *; first | omega | (subst_vars; rfl) | simp_all)))) (by (try (conv => cbv)); (repeat' (first | exact trivial | rfl | exact SEq.mk rfl | (exact SEq.mk (by first | assumption | (symm; assumption))) | (simp only [I.val]; done) | (simp only [I.val]; omega) | omega | assumption | (refine And.intro ?_ ?_) | exact Or.inl rfl | exact Or.inr (by assumption) | exact List.Mem.head _ | exact List.Mem.tail _ (List.Mem.head _) | exact ⟨_, rfl⟩ | exact ⟨_, rfl, Or.inl rfl⟩ | (refine ⟨_, rfl, Or.inr ?_⟩; (try (conv => cbv))) | (simp only [I.val] at *; first | omega | (subst_vars; rfl) | simp_all))))) rfl ⟨⟨true, rfl, by simp [e]⟩, rfl, rfl⟩
  · simp only [eqLs] at e
    conv => cbv
    refine RetF.mk [.p (.bool false)] [] 0 (Re.of [] [] (by first | exact Nat.zero_le _ | exact Nat.le_refl _ | decide) rfl rfl (by (try (conv => cbv)); (repeat' (first | exact trivial | rfl | exact SEq.mk rfl | (exact SEq.mk (by first | assumption | (symm; assumption))) | (simp only [I.val]; done) | (simp only [I.val]; omega) | omega | assumption | (refine And.intro ?_ ?_) | exact Or.inl rfl | exact Or.inr (by assumption) | exact List.Mem.head _ | exact List.Mem.tail _ (List.Mem.head _) | exact ⟨_, rfl⟩ | exact ⟨_, rfl, Or.inl rfl⟩ | (refine ⟨_, rfl, Or.inr ?_⟩; (try (conv => cbv))) | (simp only [I.val] at *; first | omega | (subst_vars; rfl) | simp_all)))) (by (try (conv => cbv)); (repeat' (first | exact trivial | rfl | exact SEq.mk rfl | (exact SEq.mk (by first | assumption | (symm; assumption))) | (simp only [I.val]; done) | (simp only [I.val]; omega) | omega | assumption | (refine And.intro ?_ ?_) | exact Or.inl rfl | exact Or.inr (by assumption) | exact List.Mem.head _ | exact List.Mem.tail _ (List.Mem.head _) | exact ⟨_, rfl⟩ | exact ⟨_, rfl, Or.inl rfl⟩ | (refine ⟨_, rfl, Or.inr ?_⟩; (try (conv => cbv))) | (simp only [I.val] at *; first | omega | (subst_vars; rfl) | simp_all))))) rfl ⟨⟨false, rfl, by simpa using e⟩, rfl, rfl⟩
end Go.Proofs.Ytongaoioaafjnaa
