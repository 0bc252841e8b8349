/-
  Law 27, ScriptBounds.
-/
import Derived.Test.YtongaoioaafjnaaScX
namespace Go.Proofs.Ytongaoioaafjnaa
open Go Go.LX
set_option maxRecDepth 100000
set_option linter.unusedVariables false

def Bs : List E3 := [(0, 0, 0), (5, 0, 0), (1, 16, 0), (1, 0, 16), (1, -1, 0), (2, 32, 0), (2, 0, 1), (3, 64, 0), (3, -1, 0), (4, 1, 0)]
def Bl : List PV := [.int .i64 (.lit 0), .int .i64 (.lit 0), .int .i64 (.lit 0), .int .i64 (.lit 5), .int .i64 (.lit 0), .int .i64 (.lit 0), .int .i64 (.lit 1), .int .i64 (.lit 16), .int .i64 (.lit 0), .int .i64 (.lit 1), .int .i64 (.lit 0), .int .i64 (.lit 16),
  .int .i64 (.lit 1), .int .i64 (.lit (-1)), .int .i64 (.lit 0), .int .i64 (.lit 2), .int .i64 (.lit 32), .int .i64 (.lit 0), .int .i64 (.lit 2), .int .i64 (.lit 0), .int .i64 (.lit 1), .int .i64 (.lit 3), .int .i64 (.lit 64), .int .i64 (.lit 0), .int .i64 (.lit 3), .int .i64 (.lit (-1)), .int .i64 (.lit 0), .int .i64 (.lit 4), .int .i64 (.lit 1), .int .i64 (.lit 0)]
theorem bs_one (k : Nat) (h : k < 10) : ∃ e : E3, (∃ l0, l0 <+: Bl.drop (k * 3) ∧ pvles l0 (ents [e])) ∧ Es 400 (bytesE [e]) ≠ [e] := by
  have h1 : ∃ e, Bs[k]? = some e := ⟨_, List.getElem?_eq_getElem (by simpa [Bs] using h)⟩
  obtain ⟨e, he⟩ := h1
  refine ⟨e, ⟨(Bl.drop (k * 3)).take 3, List.take_prefix _ _, ?_⟩, ?_⟩
  · rcases k with _ | _ | _ | _ | _ | _ | _ | _ | _ | _ | k <;> first | (cases he; simp [Bl, ents, pvles, pvle, I.val]; done) | omega
  · rcases k with _ | _ | _ | _ | _ | _ | _ | _ | _ | _ | k <;> first | (cases he; decide) | omega
theorem repsP_snoc (z : List PV) : ∀ n, repsP z (n + 1) = repsP z n ++ z
  | 0 => by simp [repsP]
  | n + 1 => by
    show z ++ repsP z (n + 1) = (z ++ repsP z n) ++ z
    rw [repsP_snoc z n, List.append_assoc]
def l4 : List PV := [.int .i64 (.lit 4), .int .i64 (.lit 0), .int .i64 (.lit 0)]
def l0 : List PV := [.int .i64 (.lit 0), .int .i64 (.lit 0), .int .i64 (.lit 0)]
theorem fours : ∀ n : Nat, pvles (repsP l4 n) (ents (List.replicate n (4, 0, 0)))
  | 0 => trivial
  | n + 1 => by
    rw [repsP, List.replicate_succ]
    exact pvles_app (b := repsP l4 n) (by simp [l4, pvles, pvle, I.val]) (fours n) (a' := [.int .i64 (.sym 4), .int .i64 (.sym 0), .int .i64 (.sym 0)])
theorem bytes_flat {A : List E3} {m : Int} {r : LV} {h' : LH} {n' : Nat} (h : (Es 400 (bytesE A) = A ∧ ∃ (j : Int) (L : List PV), r = .tup [.sl 0 5 1 (.lit 0) (.sym j), .p (.int .i64 (.sym 0))] ∧ h' = [(0, .pure true L)] ∧ n' = 1 ∧ j = 2 * m ∧ L = u8s (bytesE A)) ∨ (Es 400 (bytesE A) ≠ A ∧ r = .tup [.p .nils, .p (.int .i64 (.sym 1))] ∧ h' = [] ∧ n' = 0)) : flatV r ∧ flatH h' := by
  rcases h with ⟨_, j, L, rfl, rfl, _, _, hL⟩ | ⟨_, rfl, rfl, _⟩
  · exact ⟨by simp [flatV, flatVs, flatP], by simp only [flatH, flatB, hL, and_true]; exact u8s_flat _⟩
  · exact ⟨by simp [flatV, flatVs, flatP], trivial⟩
set_option maxHeartbeats 1000000 in
theorem scriptBounds_lx (x n : Int) :
    CallF (fun _ => Try.prog) 6 [.p (.int .i64 (.sym x)), .p (.int .i64 (.sym n))] [] 0 (fun r _ _ => r = .p (.bool true)) := by
  refine callF_of_body tok Try.func6 (by kernel_rfl) rfl rfl rfl ?_; conv => cbv
  refine Fit.wrap fun a ha => ?_
  have ha : a = IntKind.u64.wrap x := ha
  have ha0 : 0 ≤ a := by rw [ha]; simp [IntKind.wrap, IntKind.bits, IntKind.signed]; omega
  conv => cbv
  refine Sum.mk fun k hk => ?_
  have hk : k = a % 10 := (show k = a.tmod 10 from hk).trans (Int.tmod_eq_emod_of_nonneg ha0)
  conv => cbv
  refine Fit.mk (by show (-9223372036854775808 : Int) ≤ k; omega) (by show k ≤ 9223372036854775807; omega) ?_
  intro k1 hk1
  have hk1 : k1 = k := hk1
  conv => cbv
  refine Fit.wrap fun a2 ha2 => ?_
  have ha2 : a2 = IntKind.u64.wrap x := ha2
  conv => cbv
  refine Sum.mk fun k2 hk2 => ?_
  have hk2 : k2 = a2 % 10 := (show k2 = a2.tmod 10 from hk2).trans (Int.tmod_eq_emod_of_nonneg (by omega))
  have hkk : k2 = k1 := by rw [hk2, ha2, ← ha]; omega
  have ha0 : 0 ≤ a := ha0
  clear ha ha2 hk2
  conv => cbv
  refine Fit.mk (by show (-9223372036854775808 : Int) ≤ k2; omega) (by show k2 ≤ 9223372036854775807; omega) ?_
  intro k3 hk3
  have hk3 : k3 = k1 := hkk ▸ hk3
  conv => cbv
  refine Fit.mk (by show (-9223372036854775808 : Int) ≤ k3 + 1; omega) (by show k3 + 1 ≤ 9223372036854775807; omega) ?_
  intro k4 hk4
  have hk4 : k4 = k3 + 1 := hk4
  conv => cbv
  refine Need.mk ⟨by simp only [I.val]; omega, by simp only [I.val]; omega, by show k4 ≤ 10; omega⟩ ?_
  conv => cbv
  refine Sum.mk fun o1 ho1 => ?_
  have ho1 : o1 = k1 * 3 := ho1
  conv => cbv
  refine Sum.mk fun c1 hc1 => ?_
  have hc1 : c1 = 1 := by have : c1 = k4 - k1 := hc1; omega
  conv => cbv
  obtain ⟨e, he, hbad⟩ := bs_one k1.toNat (by omega)
  have ho2 : o1.toNat = k1.toNat * 3 := by omega
  refine callF_lend (bytes_own [e] 1 (ents [e]) rfl (pre_of rfl) (by simp)) (by simp only [lends, lendV, hget, I.val, and_true]; exact ⟨hc1, _, _, rfl, .inr (by rw [ho2]; exact he)⟩) (fun r h' n' h => bytes_flat h) (fun r h' n' h => ?_)
  rcases h with ⟨h1, _⟩ | ⟨_, e1, e2, e3⟩
  case inl => exact absurd h1 hbad
  subst e1 e2 e3
  conv => cbv
  refine Fit.wrap fun b hb => ?_
  have hb : b = IntKind.u64.wrap n := hb
  have hb0 : 0 ≤ b := by rw [hb]; simp [IntKind.wrap, IntKind.bits, IntKind.signed]; omega
  clear hb
  conv => cbv
  refine Sum.mk fun z hz => ?_
  have hz : z = b % 5 := (show z = b.tmod 5 from hz).trans (Int.tmod_eq_emod_of_nonneg hb0)
  conv => cbv
  refine Fit.mk (by show (-9223372036854775808 : Int) ≤ z; omega) (by show z ≤ 9223372036854775807; omega) ?_
  intro z1 hz1
  have hz1 : z1 = z := hz1
  conv => cbv
  refine Fit.mk (by show (-9223372036854775808 : Int) ≤ 398 + z1; omega) (by show 398 + z1 ≤ 9223372036854775807; omega) ?_
  intro N hN
  have hN : N = 398 + z1 := hN
  have hN1 : 398 ≤ N := by omega
  have hN2 : N ≤ 402 := by omega
  clear hN
  conv => cbv
  refine Need.mk ⟨by decide, by decide, by decide, by decide⟩ ?_
  conv => cbv
  refine callF_lend (bytes_own [] 0 (ents []) rfl (pre_of rfl) (by simp)) (by simp [lends, lendV, hget, I.val, ents]) (fun r h' n' h => bytes_flat h) (fun r h' n' h => ?_)
  rcases h with ⟨_, j1, L1, e1, e2, e3, hj1, hL1⟩ | ⟨h1, _⟩
  case inr => exact absurd rfl h1
  subst e1 e2 e3
  conv => cbv
  refine Need.mk ⟨by simp only [I.val]; omega, by simp only [I.val]; omega, by show N * 24 ≤ 140737488355328; omega, by simp only [I.val]; omega⟩ ?_
  conv => cbv
  refine Upd.mk fun L0 hL0 => ?_
  have hL0 : L0 = repsP l0 N.toNat := hL0
  conv => cbv
  refine LoopF.mk (fun k s => ∃ (i : Int) (L : List PV), s = ⟨.undef :: .p (.int .i64 (.sym N)) :: .undef :: .undef :: .undef :: .undef :: .undef :: .p (.int .i64 (.sym 1)) :: .undef :: .p (.int .i64 (.sym 0)) :: .sl 0 38 3 (.lit 0) (.sym N) :: (undefs 42 ++ .p (.int .i64 (.sym N)) :: .p (.int .i64 (.sym i)) :: undefs 36), [(0, .pure true L)], 1⟩ ∧ 0 ≤ i ∧ i ≤ N ∧ L = repsP l4 i.toNat ++ repsP l0 (N - i).toNat ∧ k = (N - i).toNat) N.toNat _
    (Re.of [(3, 0)] [] (by first | exact Nat.zero_le _ | exact Nat.le_refl _ | decide) rfl rfl (by (try (conv => cbv)); (repeat' (first | exact trivial | rfl | exact SEq.mk rfl | (exact SEq.mk (by first | assumption | (symm; assumption))) | (simp only [I.val]; done) | (simp only [I.val]; omega) | omega | assumption | (refine And.intro ?_ ?_) | exact Or.inl rfl | exact Or.inr (by assumption) | exact List.Mem.head _ | exact List.Mem.tail _ (List.Mem.head _) | exact ⟨_, rfl⟩ | exact ⟨_, rfl, Or.inl rfl⟩ | (refine ⟨_, rfl, Or.inr ?_⟩; (try (conv => cbv))) | (simp only [I.val] at *; first | omega | (subst_vars; rfl) | simp_all)))) (by (try (conv => cbv)); (repeat' (first | exact trivial | rfl | exact SEq.mk rfl | (exact SEq.mk (by first | assumption | (symm; assumption))) | (simp only [I.val]; done) | (simp only [I.val]; omega) | omega | assumption | (refine And.intro ?_ ?_) | exact Or.inl rfl | exact Or.inr (by assumption) | exact List.Mem.head _ | exact List.Mem.tail _ (List.Mem.head _) | exact ⟨_, rfl⟩ | exact ⟨_, rfl, Or.inl rfl⟩ | (refine ⟨_, rfl, Or.inr ?_⟩; (try (conv => cbv))) | (simp only [I.val] at *; first | omega | (subst_vars; rfl) | simp_all))))) ⟨0, L0, rfl, by omega, by omega, by rw [hL0]; simp [repsP], by omega⟩ ?_
  clear hL0
  rintro k s ⟨i, L, rfl, hi0, hiN, hL, hk⟩
  conv => cbv
  refine Br.mk (fun g => ?_) (fun g => ?_)
  · have g : i < N := g
    have hLn : L.length = 3 * N.toNat := by rw [hL, List.length_append, repsP_length, repsP_length]; simp [l4, l0]; omega
    obtain ⟨k', rfl⟩ : ∃ k', k = k' + 1 := ⟨k - 1, by omega⟩
    conv => cbv
    refine Need.mk ⟨hi0, by simp only [I.val]; omega⟩ ?_
    conv => cbv
    refine Sum.mk fun y hy => ?_
    have hy : y = i * 3 := hy
    refine Need.mk (by show y + 1 ≤ (L.length : Int); omega) ?_
    conv => cbv
    refine Upd.mk fun L2 hL2 => ?_
    have hL2 : L2 = L.set y.toNat (.int .i64 (.lit 4)) := hL2
    conv => cbv
    refine Fit.mk (by show (-9223372036854775808 : Int) ≤ i + 1; omega) (by show i + 1 ≤ 9223372036854775807; omega) ?_
    intro i2 hi2
    have hi2 : i2 = i + 1 := hi2
    conv => cbv
    refine Again.mk k' _ (Nat.lt_succ_self _) (Re.of [(0, 0)] [] (by first | exact Nat.zero_le _ | exact Nat.le_refl _ | decide) rfl rfl (by (try (conv => cbv)); (repeat' (first | exact trivial | rfl | exact SEq.mk rfl | (exact SEq.mk (by first | assumption | (symm; assumption))) | (simp only [I.val]; done) | (simp only [I.val]; omega) | omega | assumption | (refine And.intro ?_ ?_) | exact Or.inl rfl | exact Or.inr (by assumption) | exact List.Mem.head _ | exact List.Mem.tail _ (List.Mem.head _) | exact ⟨_, rfl⟩ | exact ⟨_, rfl, Or.inl rfl⟩ | (refine ⟨_, rfl, Or.inr ?_⟩; (try (conv => cbv))) | (simp only [I.val] at *; first | omega | (subst_vars; rfl) | simp_all)))) (by (try (conv => cbv)); (repeat' (first | exact trivial | rfl | exact SEq.mk rfl | (exact SEq.mk (by first | assumption | (symm; assumption))) | (simp only [I.val]; done) | (simp only [I.val]; omega) | omega | assumption | (refine And.intro ?_ ?_) | exact Or.inl rfl | exact Or.inr (by assumption) | exact List.Mem.head _ | exact List.Mem.tail _ (List.Mem.head _) | exact ⟨_, rfl⟩ | exact ⟨_, rfl, Or.inl rfl⟩ | (refine ⟨_, rfl, Or.inr ?_⟩; (try (conv => cbv))) | (simp only [I.val] at *; first | omega | (subst_vars; rfl) | simp_all))))) ⟨i2, L2, rfl, by omega, by omega, ?_, by omega⟩
    obtain ⟨q, hq⟩ : ∃ q, (N - i).toNat = q + 1 := ⟨(N - i).toNat - 1, by omega⟩
    rw [hL2, hL, show i2.toNat = i.toNat + 1 by omega, show (N - i2).toNat = q by omega, hq, repsP_snoc l4 i.toNat, List.set_append_right _ _ (by rw [repsP_length]; simp [l4]; omega), repsP_length, show y.toNat - i.toNat * l4.length = 0 by simp [l4]; omega]
    simp [repsP, l0, l4]
  · have g : ¬ i < N := g
    have hiN : i = N := by omega
    subst hiN
    have hL : L = repsP l4 i.toNat := by rw [hL]; simp [repsP]
    have hrl := List.length_replicate (n := i.toNat) (a := ((4, 0, 0) : E3))
    conv => cbv
    refine callF_lend (bytes_own (List.replicate i.toNat (4, 0, 0)) i (ents (List.replicate i.toNat (4, 0, 0))) (by omega) (pre_of rfl) (by omega)) ⟨⟨rfl, _, _, rfl, .inr ⟨L, List.prefix_refl _, by rw [hL]; exact fours _⟩⟩, trivial⟩ (fun r h' n' h => bytes_flat h) (fun r h' n' h => ?_)
    have key : Es 400 (bytesE (List.replicate i.toNat (4, 0, 0))) = List.replicate i.toNat (4, 0, 0) ↔ i ≤ 400 := by
      constructor
      · intro h
        have := Es_le 400 (bytesE (List.replicate i.toNat (4, 0, 0)))
        rw [h, hrl] at this; omega
      · intro h
        refine Es_back 400 _ (by omega) fun e he => ?_
        rw [List.eq_of_mem_replicate he]
        exact .inr (.inr (.inr ⟨rfl, rfl, rfl⟩))
    rcases h with ⟨h1, j2, L2, e1, e2, e3, hj2, hL2⟩ | ⟨h1, e1, e2, e3⟩
    · have h4 := key.1 h1
      subst e1 e2 e3
      conv => cbv
      refine callF_val awake27_lx (by simp [ales, renVs]) rfl (fun r hr => by subst hr; rfl) (fun r hr => ?_)
      subst hr
      conv => cbv
      refine Br.mk (fun g => ?_) (fun g => ?_)
      case refine_2 =>
        have g : ¬ ((1 : Int) = 1) := g
        exfalso
        exact g rfl
      conv => cbv
      refine Br.mk (fun g => ?_) (fun g => ?_)
      case refine_2 =>
        have g : ¬ ((0 : Int) = 0) := g
        exfalso
        exact g rfl
      conv => cbv
      refine Br.mk (fun g => ?_) (fun g => ?_)
      case refine_2 =>
        have g : ¬ ((0 : Int) = 0) := g
        exfalso
        exact g (by omega)
      conv => cbv
      refine Br.mk (fun g => ?_) (fun g => ?_)
      case refine_2 =>
        have g : ¬ (i ≤ 400) := g
        exfalso
        exact g (by omega)
      conv => cbv
      refine Br.mk (fun g => ?_) (fun g => ?_)
      case refine_2 =>
        have g : ¬ ((0 : Int) = 0) := g
        exfalso
        exact g (by omega)
      conv => cbv
      refine RetF.mk [.p (.bool true)] [] 0 (Re.of [] [] (by first | exact Nat.zero_le _ | exact Nat.le_refl _ | decide) rfl rfl (by (try (conv => cbv)); (repeat' (first | exact trivial | rfl | exact SEq.mk rfl | (exact SEq.mk (by first | assumption | (symm; assumption))) | (simp only [I.val]; done) | (simp only [I.val]; omega) | omega | assumption | (refine And.intro ?_ ?_) | exact Or.inl rfl | exact Or.inr (by assumption) | exact List.Mem.head _ | exact List.Mem.tail _ (List.Mem.head _) | exact ⟨_, rfl⟩ | exact ⟨_, rfl, Or.inl rfl⟩ | (refine ⟨_, rfl, Or.inr ?_⟩; (try (conv => cbv))) | (simp only [I.val] at *; first | omega | (subst_vars; rfl) | simp_all)))) (by (try (conv => cbv)); (repeat' (first | exact trivial | rfl | exact SEq.mk rfl | (exact SEq.mk (by first | assumption | (symm; assumption))) | (simp only [I.val]; done) | (simp only [I.val]; omega) | omega | assumption | (refine And.intro ?_ ?_) | exact Or.inl rfl | exact Or.inr (by assumption) | exact List.Mem.head _ | exact List.Mem.tail _ (List.Mem.head _) | exact ⟨_, rfl⟩ | exact ⟨_, rfl, Or.inl rfl⟩ | (refine ⟨_, rfl, Or.inr ?_⟩; (try (conv => cbv))) | (simp only [I.val] at *; first | omega | (subst_vars; rfl) | simp_all))))) rfl rfl
    · have h4 : ¬ i ≤ 400 := fun h => h1 (key.2 h)
      subst e1 e2 e3
      conv => cbv
      refine callF_val awake27_lx (by simp [ales, renVs]) rfl (fun r hr => by subst hr; rfl) (fun r hr => ?_)
      subst hr
      conv => cbv
      refine Br.mk (fun g => ?_) (fun g => ?_)
      case refine_2 =>
        have g : ¬ ((1 : Int) = 1) := g
        exfalso
        exact g rfl
      conv => cbv
      refine Br.mk (fun g => ?_) (fun g => ?_)
      case refine_2 =>
        have g : ¬ ((0 : Int) = 0) := g
        exfalso
        exact g rfl
      conv => cbv
      refine Br.mk (fun g => ?_) (fun g => ?_)
      case refine_1 =>
        have g : (1 : Int) = 0 := g
        exfalso
        omega
      conv => cbv
      refine Br.mk (fun g => ?_) (fun g => ?_)
      case refine_1 =>
        have g : i ≤ 400 := g
        exfalso
        omega
      conv => cbv
      refine Br.mk (fun g => ?_) (fun g => ?_)
      case refine_1 =>
        have g : (1 : Int) = 0 := g
        exfalso
        omega
      conv => cbv
      refine Br.mk (fun g => ?_) (fun g => ?_)
      case refine_2 =>
        have g : ¬ ((1 : Int) = 1) := g
        exfalso
        exact g (by omega)
      conv => cbv
      refine RetF.mk [.p (.bool true)] [] 0 (Re.of [] [] (by first | exact Nat.zero_le _ | exact Nat.le_refl _ | decide) rfl rfl (by (try (conv => cbv)); (repeat' (first | exact trivial | rfl | exact SEq.mk rfl | (exact SEq.mk (by first | assumption | (symm; assumption))) | (simp only [I.val]; done) | (simp only [I.val]; omega) | omega | assumption | (refine And.intro ?_ ?_) | exact Or.inl rfl | exact Or.inr (by assumption) | exact List.Mem.head _ | exact List.Mem.tail _ (List.Mem.head _) | exact ⟨_, rfl⟩ | exact ⟨_, rfl, Or.inl rfl⟩ | (refine ⟨_, rfl, Or.inr ?_⟩; (try (conv => cbv))) | (simp only [I.val] at *; first | omega | (subst_vars; rfl) | simp_all)))) (by (try (conv => cbv)); (repeat' (first | exact trivial | rfl | exact SEq.mk rfl | (exact SEq.mk (by first | assumption | (symm; assumption))) | (simp only [I.val]; done) | (simp only [I.val]; omega) | omega | assumption | (refine And.intro ?_ ?_) | exact Or.inl rfl | exact Or.inr (by assumption) | exact List.Mem.head _ | exact List.Mem.tail _ (List.Mem.head _) | exact ⟨_, rfl⟩ | exact ⟨_, rfl, Or.inl rfl⟩ | (refine ⟨_, rfl, Or.inr ?_⟩; (try (conv => cbv))) | (simp only [I.val] at *; first | omega | (subst_vars; rfl) | simp_all))))) rfl rfl
end Go.Proofs.Ytongaoioaafjnaa
