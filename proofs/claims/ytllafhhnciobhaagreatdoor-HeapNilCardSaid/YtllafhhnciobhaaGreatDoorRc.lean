/-
  Layer 6: what the reference allots; a new one.
-/
import Derived.Test.YtllafhhnciobhaaGreatDoorRa
namespace Go.Proofs.YtllafhhnciobhaaGreatDoor

open Go Go.LX
set_option maxRecDepth 100000
set_option linter.unusedVariables false
set_option linter.unusedSimpArgs false

set_option maxHeartbeats 4000000 in
theorem ralloc_lx (c : Int) (R : List Rw) (n : Int) (C B : List PV) (hC : C = cpv R) (hB : B = bpv R) (hn : n = R.length) (hR : R.length ≤ 1000) (hok : ROk R) : CallF (fun _ => Tryz.prog) 100 [.ptr 0 (.lit 0), .p (.int .i64 (.sym c))] [(0, .mix [.sl 1 3 1 (.lit 0) (.sym n), .sl 2 120 8 (.lit 0) (.sym n)]), (1, .pure true C), (2, .pure true B)] 3
    (fun r h n' => ∃ (i s : Int) (b : Bool) (R' : List Rw) (C' B' : List PV), r = .tup [.p (.int .i64 (.sym i)), .p (.int .i64 (.sym s)), .p (.bool b)] ∧ h = [(0, .mix [.sl 1 3 1 (.lit 0) (.sym n), .sl 2 120 8 (.lit 0) (.sym n)]), (1, .pure true C'), (2, .pure true B')] ∧ n' = 3 ∧ C' = cpv R' ∧ B' = bpv R' ∧ Alloced R c i s b R') := by
  have hBl : B.length = 8 * R.length := by rw [hB, bpv_length]
  have hCl : C.length = R.length := by rw [hC, cpv_length]
  obtain ⟨kn, hkn⟩ : ∃ kn, kn = slotsOf c := ⟨_, rfl⟩
  obtain ⟨k, hk⟩ : ∃ k : Int, k = kn := ⟨_, rfl⟩
  have hk8 : kn ≤ 8 := by rw [hkn]; exact slots_le6 c
  refine callF_of_body tok Tryz.func100 (by kernel_rfl) rfl rfl rfl ?_; conv => cbv
  refine callF_frame (refSlotsA_lx c k (by rw [hk, hkn])) [] rfl trivial rfl rfl (fun r h' n' ⟨e1, e2, e3⟩ => ?_)
  subst e1 e2 e3
  conv => cbv
  refine Br.mk (fun g => ?_) (fun g => ?_)
  · have g : k = 0 := g
    have hA : Alloced R c 0 0 false R := .no (by omega)
    conv => cbv
    refine RetF.mk [.p (.int .i64 (.sym 0)), .p (.int .i64 (.sym 0)), .p (.bool false)] [(0, .mix [.sl 1 3 1 (.lit 0) (.sym n), .sl 2 120 8 (.lit 0) (.sym n)]), (1, .pure true C), (2, .pure true B)] 3 (Re.of [(0, 0), (1, 1), (2, 2)] [] (by first | exact Nat.zero_le _ | exact Nat.le_refl _ | decide | (dsimp only; decide)) rfl rfl (by (try (conv => cbv)); (repeat' (first | exact trivial | rfl | exact SEq.mk rfl | (exact SEq.mk (by first | assumption | (symm; assumption))) | (simp only [I.val]; done) | (simp only [I.val]; omega) | omega | assumption | (refine And.intro ?_ ?_) | exact Or.inl rfl | exact Or.inr (by assumption) | exact List.Mem.head _ | exact List.Mem.tail _ (List.Mem.head _) | exact ⟨_, rfl⟩ | exact ⟨_, rfl, Or.inl rfl⟩ | (refine ⟨_, rfl, Or.inr ?_⟩; (try (conv => cbv))) | (simp only [I.val] at *; first | omega | (subst_vars; rfl) | simp_all) | (refine Or.inr ?_; (try (conv => cbv)))))) (by (try (conv => cbv)); (repeat' (first | exact trivial | rfl | exact SEq.mk rfl | (exact SEq.mk (by first | assumption | (symm; assumption))) | (simp only [I.val]; done) | (simp only [I.val]; omega) | omega | assumption | (refine And.intro ?_ ?_) | exact Or.inl rfl | exact Or.inr (by assumption) | exact List.Mem.head _ | exact List.Mem.tail _ (List.Mem.head _) | exact ⟨_, rfl⟩ | exact ⟨_, rfl, Or.inl rfl⟩ | (refine ⟨_, rfl, Or.inr ?_⟩; (try (conv => cbv))) | (simp only [I.val] at *; first | omega | (subst_vars; rfl) | simp_all) | (refine Or.inr ?_; (try (conv => cbv))))))) rfl ⟨0, 0, false, R, C, B, rfl, rfl, rfl, hC, hB, hA⟩
  have g : ¬ k = 0 := g
  have hs0 : slotsOf c ≠ 0 := by omega
  conv => cbv
  have hc03 := (slots_iff c).1 hs0
  have hcl : ∀ e : Rw, e ∈ R → clsOf e = c → e.1 = c ∧ e.2 ≠ [] ∧ e.2.length = kn := fun e he h => by
    unfold clsOf at h
    split at h
    · omega
    · rename_i hne
      exact ⟨h, hne, by rw [((hok e he).2 hne).2, h, hkn]⟩
  refine LoopF.mk (fun m s => ∃ (i : Int), s = ⟨.ptr 0 (.lit 0) :: .p (.int .i64 (.sym c)) :: (undefs 5 ++ .p (.int .i64 (.sym k)) :: .p (.int .i64 (.sym i)) :: undefs 83), [(0, .mix [.sl 1 3 1 (.lit 0) (.sym n), .sl 2 120 8 (.lit 0) (.sym n)]), (1, .pure true C), (2, .pure true B)], 3⟩ ∧ 0 ≤ i ∧ i ≤ n ∧ (∀ j : Nat, (j : Int) < i → ∀ m : List Bool, R[j]? = some (c, m) → false ∉ m) ∧ m = (n - i).toNat) n.toNat _
    (Re.of [(0, 0), (1, 1), (2, 2)] [] (by first | exact Nat.zero_le _ | exact Nat.le_refl _ | decide | (dsimp only; decide)) rfl rfl (by (try (conv => cbv)); (repeat' (first | exact trivial | rfl | exact SEq.mk rfl | (exact SEq.mk (by first | assumption | (symm; assumption))) | (simp only [I.val]; done) | (simp only [I.val]; omega) | omega | assumption | (refine And.intro ?_ ?_) | exact Or.inl rfl | exact Or.inr (by assumption) | exact List.Mem.head _ | exact List.Mem.tail _ (List.Mem.head _) | exact ⟨_, rfl⟩ | exact ⟨_, rfl, Or.inl rfl⟩ | (refine ⟨_, rfl, Or.inr ?_⟩; (try (conv => cbv))) | (simp only [I.val] at *; first | omega | (subst_vars; rfl) | simp_all) | (refine Or.inr ?_; (try (conv => cbv)))))) (by (try (conv => cbv)); (repeat' (first | exact trivial | rfl | exact SEq.mk rfl | (exact SEq.mk (by first | assumption | (symm; assumption))) | (simp only [I.val]; done) | (simp only [I.val]; omega) | omega | assumption | (refine And.intro ?_ ?_) | exact Or.inl rfl | exact Or.inr (by assumption) | exact List.Mem.head _ | exact List.Mem.tail _ (List.Mem.head _) | exact ⟨_, rfl⟩ | exact ⟨_, rfl, Or.inl rfl⟩ | (refine ⟨_, rfl, Or.inr ?_⟩; (try (conv => cbv))) | (simp only [I.val] at *; first | omega | (subst_vars; rfl) | simp_all) | (refine Or.inr ?_; (try (conv => cbv))))))) ⟨0, rfl, by omega, by omega, fun j hj => absurd hj (by omega), by omega⟩ ?_
  rintro m s ⟨i, rfl, hi0, hi1, hprev, hm⟩
  conv => cbv
  refine Br.mk (fun gi => ?_) (fun gi => ?_)
  · have gi : i < n := gi
    obtain ⟨m', rfl⟩ : ∃ k', m = k' + 1 := ⟨m - 1, by omega⟩
    obtain ⟨e, he⟩ : ∃ e, R[i.toNat]? = some e := ⟨_, List.getElem?_eq_getElem (by omega)⟩
    have hem := List.mem_of_getElem? he
    have hm8 := (hok e hem).1
    have hcle := hcl e hem
    obtain ⟨cv, hcv⟩ : ∃ cv, cv = clsOf e := ⟨_, rfl⟩
    rw [← hcv] at hcle
    have hcc := cpv_get he
    rw [← hC, ← hcv] at hcc
    have hnext : (cv = c → ∀ j : Nat, j < kn → e.2[j]? = some true) → ∀ j : Nat, (j : Int) < i + 1 → ∀ m : List Bool, R[j]? = some (c, m) → false ∉ m := fun hall j hj m hm => by
      by_cases hji : j = i.toNat
      · subst hji
        rw [he] at hm
        have hm : e = (c, m) := Option.some.inj hm
        intro hf
        have hne : m ≠ [] := by intro e0; rw [e0] at hf; simp at hf
        have hcvc : cv = c := by rw [hcv, hm, clsOf, if_neg hne]
        obtain ⟨q1, q2, q3⟩ := hcle hcvc
        obtain ⟨t, ht⟩ := List.getElem?_of_mem hf
        have htl := (List.getElem?_eq_some_iff.1 ht).1
        have := hall hcvc t (by rw [← q3, hm]; exact htl)
        rw [hm] at this
        rw [ht] at this
        cases this
      · exact hprev j (by omega) m hm
    conv => cbv
    refine LoopF.mk (fun m s => ∃ (t : Int), s = ⟨.ptr 0 (.lit 0) :: .p (.int .i64 (.sym c)) :: (undefs 5 ++ .p (.int .i64 (.sym k)) :: .p (.int .i64 (.sym i)) :: .p (.int .i64 (.sym t)) :: undefs 82), [(0, .mix [.sl 1 3 1 (.lit 0) (.sym n), .sl 2 120 8 (.lit 0) (.sym n)]), (1, .pure true C), (2, .pure true B)], 3⟩ ∧ 0 ≤ t ∧ t ≤ k ∧ (cv = c → ∀ j : Nat, (j : Int) < t → e.2[j]? = some true) ∧ m = (k - t).toNat) k.toNat _
      (Re.of [(0, 0), (1, 1), (2, 2)] [] (by first | exact Nat.zero_le _ | exact Nat.le_refl _ | decide | (dsimp only; decide)) rfl rfl (by (try (conv => cbv)); (repeat' (first | exact trivial | rfl | exact SEq.mk rfl | (exact SEq.mk (by first | assumption | (symm; assumption))) | (simp only [I.val]; done) | (simp only [I.val]; omega) | omega | assumption | (refine And.intro ?_ ?_) | exact Or.inl rfl | exact Or.inr (by assumption) | exact List.Mem.head _ | exact List.Mem.tail _ (List.Mem.head _) | exact ⟨_, rfl⟩ | exact ⟨_, rfl, Or.inl rfl⟩ | (refine ⟨_, rfl, Or.inr ?_⟩; (try (conv => cbv))) | (simp only [I.val] at *; first | omega | (subst_vars; rfl) | simp_all) | (refine Or.inr ?_; (try (conv => cbv)))))) (by (try (conv => cbv)); (repeat' (first | exact trivial | rfl | exact SEq.mk rfl | (exact SEq.mk (by first | assumption | (symm; assumption))) | (simp only [I.val]; done) | (simp only [I.val]; omega) | omega | assumption | (refine And.intro ?_ ?_) | exact Or.inl rfl | exact Or.inr (by assumption) | exact List.Mem.head _ | exact List.Mem.tail _ (List.Mem.head _) | exact ⟨_, rfl⟩ | exact ⟨_, rfl, Or.inl rfl⟩ | (refine ⟨_, rfl, Or.inr ?_⟩; (try (conv => cbv))) | (simp only [I.val] at *; first | omega | (subst_vars; rfl) | simp_all) | (refine Or.inr ?_; (try (conv => cbv))))))) ⟨0, rfl, by omega, by omega, fun _ j hj => absurd hj (by omega), by omega⟩ ?_
    rintro m s ⟨t, rfl, ht0, ht1, htr, hmm⟩
    conv => cbv
    refine Br.mk (fun gt => ?_) (fun gt => ?_)
    · have gt : t < k := gt
      obtain ⟨m'', rfl⟩ : ∃ k', m = k' + 1 := ⟨m - 1, by omega⟩
      conv => cbv
      refine Need.mk ⟨hi0, by show i < n; omega⟩ ?_
      conv => cbv
      refine Cell.at i _ hcc (by simp [I.val]) rfl ?_
      conv => cbv
      refine Br.mk (fun gc => ?_) (fun gc => ?_)
      · have gc : cv = c := gc
        obtain ⟨q1, q2, q3⟩ := hcle gc
        have hcb := bpv_get (k := t.toNat) he (by omega)
        rw [← hB] at hcb
        obtain ⟨b, hb⟩ : ∃ b, b = okAt e.2 t.toNat := ⟨_, rfl⟩
        rw [← hb] at hcb
        conv => cbv
        refine Need.mk ⟨hi0, by show i < n; omega⟩ ?_
        conv => cbv
        refine Sum.mk fun a ha => ?_
        have ha : a = i * 8 := ha
        conv => cbv
        refine Need.mk ⟨ht0, by show t < ((8 : Nat) : Int); omega⟩ ?_
        conv => cbv
        refine Sum.mk fun a2 ha2 => ?_
        have ha2 : a2 = a + t := ha2
        conv => cbv
        refine Cell.at a2 _ hcb (by simp [I.val]) (by omega) ?_
        have htl : t.toNat < e.2.length := by omega
        have hget : e.2[t.toNat]? = some b := by
          obtain ⟨x, hx⟩ : ∃ x, e.2[t.toNat]? = some x := ⟨_, List.getElem?_eq_getElem htl⟩
          rw [hx, hb, okAt, hx]; cases x <;> rfl
        cases b with
        | true =>
          conv => cbv
          refine Fit.mk (by show (-9223372036854775808 : Int) ≤ t + 1; omega) (by show t + 1 ≤ 9223372036854775807; omega) fun t2 ht2 => ?_
          have ht2 : t2 = t + 1 := ht2
          have htr2 : cv = c → ∀ j : Nat, (j : Int) < t2 → e.2[j]? = some true := fun hc j hj => by
            by_cases hjt : j = t.toNat
            · rw [hjt]; exact hget
            · exact htr hc j (by omega)
          conv => cbv
          refine Again.mk m'' _ (Nat.lt_succ_self _) (Re.of [(0, 0), (1, 1), (2, 2)] [] (by first | exact Nat.zero_le _ | exact Nat.le_refl _ | decide | (dsimp only; decide)) rfl rfl (by (try (conv => cbv)); (repeat' (first | exact trivial | rfl | exact SEq.mk rfl | (exact SEq.mk (by first | assumption | (symm; assumption))) | (simp only [I.val]; done) | (simp only [I.val]; omega) | omega | assumption | (refine And.intro ?_ ?_) | exact Or.inl rfl | exact Or.inr (by assumption) | exact List.Mem.head _ | exact List.Mem.tail _ (List.Mem.head _) | exact ⟨_, rfl⟩ | exact ⟨_, rfl, Or.inl rfl⟩ | (refine ⟨_, rfl, Or.inr ?_⟩; (try (conv => cbv))) | (simp only [I.val] at *; first | omega | (subst_vars; rfl) | simp_all) | (refine Or.inr ?_; (try (conv => cbv)))))) (by (try (conv => cbv)); (repeat' (first | exact trivial | rfl | exact SEq.mk rfl | (exact SEq.mk (by first | assumption | (symm; assumption))) | (simp only [I.val]; done) | (simp only [I.val]; omega) | omega | assumption | (refine And.intro ?_ ?_) | exact Or.inl rfl | exact Or.inr (by assumption) | exact List.Mem.head _ | exact List.Mem.tail _ (List.Mem.head _) | exact ⟨_, rfl⟩ | exact ⟨_, rfl, Or.inl rfl⟩ | (refine ⟨_, rfl, Or.inr ?_⟩; (try (conv => cbv))) | (simp only [I.val] at *; first | omega | (subst_vars; rfl) | simp_all) | (refine Or.inr ?_; (try (conv => cbv))))))) ⟨t2, rfl, by omega, by omega, htr2, by omega⟩
        | false =>
          have hRe : e = (c, e.2) := by rw [← q1]
          have hA : Alloced R c i t true (R.set i.toNat (c, e.2.set t.toNat true)) := by
            have := Alloced.old (R := R) (c := c) i.toNat t.toNat e.2 hs0 (by rw [he]; exact congrArg some hRe) hget (fun j hj => htr gc j (by omega)) (fun j hj m hm => hprev j (by omega) m hm)
            rwa [show ((i.toNat : Nat) : Int) = i by omega, show ((t.toNat : Nat) : Int) = t by omega] at this
          obtain ⟨o1, o2⟩ := okAt_set (m := e.2) (v := true) htl
          have hB2 := bpv_set (v := true) (c, e.2.set t.toNat true) he (show t.toNat < 8 by omega) (flags_set (by omega) o1 o2)
          rw [← hB] at hB2
          have hne2 : e.2.set t.toNat true ≠ [] := fun h => by
            have := congrArg List.length h
            rw [List.length_set] at this
            exact q2 (List.length_eq_zero_iff.1 this)
          have hC2 : C = cpv (R.set i.toNat (c, e.2.set t.toNat true)) := by
            rw [hC]
            refine cpv_same _ he ?_
            rw [← hcv, gc, clsOf, if_neg hne2]
          conv => cbv
          refine Need.mk ⟨hi0, by show i < n; omega⟩ ?_
          conv => cbv
          refine Sum.mk fun a3 ha3 => ?_
          have ha3 : a3 = i * 8 := ha3
          conv => cbv
          refine Need.mk ⟨ht0, by show t < ((8 : Nat) : Int); omega⟩ ?_
          conv => cbv
          refine Sum.mk fun a4 ha4 => ?_
          have ha4 : a4 = a3 + t := ha4
          conv => cbv
          refine Need.mk (by show a4 + ((1 : Nat) : Int) ≤ (B.length : Int); omega) ?_
          conv => cbv
          refine Upd.mk fun B1 hB1 => ?_
          have hB1 : B1 = B.set a4.toNat (.bool true) := hB1
          have hB1 : B1 = bpv (R.set i.toNat (c, e.2.set t.toNat true)) := by rw [hB1, show a4.toNat = 8 * i.toNat + t.toNat by omega, hB2]
          conv => cbv
          refine RetF.mk [.p (.int .i64 (.sym i)), .p (.int .i64 (.sym t)), .p (.bool true)] [(0, .mix [.sl 1 3 1 (.lit 0) (.sym n), .sl 2 120 8 (.lit 0) (.sym n)]), (1, .pure true C), (2, .pure true B1)] 3 (Re.of [(0, 0), (1, 1), (2, 2)] [] (by first | exact Nat.zero_le _ | exact Nat.le_refl _ | decide | (dsimp only; decide)) rfl rfl (by (try (conv => cbv)); (repeat' (first | exact trivial | rfl | exact SEq.mk rfl | (exact SEq.mk (by first | assumption | (symm; assumption))) | (simp only [I.val]; done) | (simp only [I.val]; omega) | omega | assumption | (refine And.intro ?_ ?_) | exact Or.inl rfl | exact Or.inr (by assumption) | exact List.Mem.head _ | exact List.Mem.tail _ (List.Mem.head _) | exact ⟨_, rfl⟩ | exact ⟨_, rfl, Or.inl rfl⟩ | (refine ⟨_, rfl, Or.inr ?_⟩; (try (conv => cbv))) | (simp only [I.val] at *; first | omega | (subst_vars; rfl) | simp_all) | (refine Or.inr ?_; (try (conv => cbv)))))) (by (try (conv => cbv)); (repeat' (first | exact trivial | rfl | exact SEq.mk rfl | (exact SEq.mk (by first | assumption | (symm; assumption))) | (simp only [I.val]; done) | (simp only [I.val]; omega) | omega | assumption | (refine And.intro ?_ ?_) | exact Or.inl rfl | exact Or.inr (by assumption) | exact List.Mem.head _ | exact List.Mem.tail _ (List.Mem.head _) | exact ⟨_, rfl⟩ | exact ⟨_, rfl, Or.inl rfl⟩ | (refine ⟨_, rfl, Or.inr ?_⟩; (try (conv => cbv))) | (simp only [I.val] at *; first | omega | (subst_vars; rfl) | simp_all) | (refine Or.inr ?_; (try (conv => cbv))))))) rfl ⟨i, t, true, _, C, B1, rfl, rfl, rfl, hC2, hB1, hA⟩
      · have gc : ¬ cv = c := gc
        have hn2 := hnext (fun h => absurd h gc)
        conv => cbv
        refine Fit.mk (by show (-9223372036854775808 : Int) ≤ i + 1; omega) (by show i + 1 ≤ 9223372036854775807; omega) fun i2 hi2 => ?_
        have hi2 : i2 = i + 1 := hi2
        rw [← hi2] at hn2
        conv => cbv
        refine Again.mk m' _ (Nat.lt_succ_self _) (Re.of [(0, 0), (1, 1), (2, 2)] [] (by first | exact Nat.zero_le _ | exact Nat.le_refl _ | decide | (dsimp only; decide)) rfl rfl (by (try (conv => cbv)); (repeat' (first | exact trivial | rfl | exact SEq.mk rfl | (exact SEq.mk (by first | assumption | (symm; assumption))) | (simp only [I.val]; done) | (simp only [I.val]; omega) | omega | assumption | (refine And.intro ?_ ?_) | exact Or.inl rfl | exact Or.inr (by assumption) | exact List.Mem.head _ | exact List.Mem.tail _ (List.Mem.head _) | exact ⟨_, rfl⟩ | exact ⟨_, rfl, Or.inl rfl⟩ | (refine ⟨_, rfl, Or.inr ?_⟩; (try (conv => cbv))) | (simp only [I.val] at *; first | omega | (subst_vars; rfl) | simp_all) | (refine Or.inr ?_; (try (conv => cbv)))))) (by (try (conv => cbv)); (repeat' (first | exact trivial | rfl | exact SEq.mk rfl | (exact SEq.mk (by first | assumption | (symm; assumption))) | (simp only [I.val]; done) | (simp only [I.val]; omega) | omega | assumption | (refine And.intro ?_ ?_) | exact Or.inl rfl | exact Or.inr (by assumption) | exact List.Mem.head _ | exact List.Mem.tail _ (List.Mem.head _) | exact ⟨_, rfl⟩ | exact ⟨_, rfl, Or.inl rfl⟩ | (refine ⟨_, rfl, Or.inr ?_⟩; (try (conv => cbv))) | (simp only [I.val] at *; first | omega | (subst_vars; rfl) | simp_all) | (refine Or.inr ?_; (try (conv => cbv))))))) ⟨i2, rfl, by omega, by omega, hn2, by omega⟩
    · have gt : ¬ t < k := gt
      have hn2 := hnext (fun h j hj => htr h j (by omega))
      conv => cbv
      refine Fit.mk (by show (-9223372036854775808 : Int) ≤ i + 1; omega) (by show i + 1 ≤ 9223372036854775807; omega) fun i2 hi2 => ?_
      have hi2 : i2 = i + 1 := hi2
      rw [← hi2] at hn2
      conv => cbv
      refine Again.mk m' _ (Nat.lt_succ_self _) (Re.of [(0, 0), (1, 1), (2, 2)] [] (by first | exact Nat.zero_le _ | exact Nat.le_refl _ | decide | (dsimp only; decide)) rfl rfl (by (try (conv => cbv)); (repeat' (first | exact trivial | rfl | exact SEq.mk rfl | (exact SEq.mk (by first | assumption | (symm; assumption))) | (simp only [I.val]; done) | (simp only [I.val]; omega) | omega | assumption | (refine And.intro ?_ ?_) | exact Or.inl rfl | exact Or.inr (by assumption) | exact List.Mem.head _ | exact List.Mem.tail _ (List.Mem.head _) | exact ⟨_, rfl⟩ | exact ⟨_, rfl, Or.inl rfl⟩ | (refine ⟨_, rfl, Or.inr ?_⟩; (try (conv => cbv))) | (simp only [I.val] at *; first | omega | (subst_vars; rfl) | simp_all) | (refine Or.inr ?_; (try (conv => cbv)))))) (by (try (conv => cbv)); (repeat' (first | exact trivial | rfl | exact SEq.mk rfl | (exact SEq.mk (by first | assumption | (symm; assumption))) | (simp only [I.val]; done) | (simp only [I.val]; omega) | omega | assumption | (refine And.intro ?_ ?_) | exact Or.inl rfl | exact Or.inr (by assumption) | exact List.Mem.head _ | exact List.Mem.tail _ (List.Mem.head _) | exact ⟨_, rfl⟩ | exact ⟨_, rfl, Or.inl rfl⟩ | (refine ⟨_, rfl, Or.inr ?_⟩; (try (conv => cbv))) | (simp only [I.val] at *; first | omega | (subst_vars; rfl) | simp_all) | (refine Or.inr ?_; (try (conv => cbv))))))) ⟨i2, rfl, by omega, by omega, hn2, by omega⟩
  · have gi : ¬ i < n := gi
    have hfull : ∀ (j : Nat) (m : List Bool), R[j]? = some (c, m) → false ∉ m := fun j m hm => hprev j (by have := (List.getElem?_eq_some_iff.1 hm).1; omega) m hm
    conv => cbv
    refine LoopF.mk (fun m s => ∃ (i : Int), s = ⟨.ptr 0 (.lit 0) :: .p (.int .i64 (.sym c)) :: (undefs 8 ++ .p (.int .i64 (.sym i)) :: undefs 81), [(0, .mix [.sl 1 3 1 (.lit 0) (.sym n), .sl 2 120 8 (.lit 0) (.sym n)]), (1, .pure true C), (2, .pure true B)], 3⟩ ∧ 0 ≤ i ∧ i ≤ n ∧ (∀ j : Nat, (j : Int) < i → ∀ d : Int, R[j]? ≠ some (d, [])) ∧ m = (n - i).toNat) n.toNat _
      (Re.of [(0, 0), (1, 1), (2, 2)] [] (by first | exact Nat.zero_le _ | exact Nat.le_refl _ | decide | (dsimp only; decide)) rfl rfl (by (try (conv => cbv)); (repeat' (first | exact trivial | rfl | exact SEq.mk rfl | (exact SEq.mk (by first | assumption | (symm; assumption))) | (simp only [I.val]; done) | (simp only [I.val]; omega) | omega | assumption | (refine And.intro ?_ ?_) | exact Or.inl rfl | exact Or.inr (by assumption) | exact List.Mem.head _ | exact List.Mem.tail _ (List.Mem.head _) | exact ⟨_, rfl⟩ | exact ⟨_, rfl, Or.inl rfl⟩ | (refine ⟨_, rfl, Or.inr ?_⟩; (try (conv => cbv))) | (simp only [I.val] at *; first | omega | (subst_vars; rfl) | simp_all) | (refine Or.inr ?_; (try (conv => cbv)))))) (by (try (conv => cbv)); (repeat' (first | exact trivial | rfl | exact SEq.mk rfl | (exact SEq.mk (by first | assumption | (symm; assumption))) | (simp only [I.val]; done) | (simp only [I.val]; omega) | omega | assumption | (refine And.intro ?_ ?_) | exact Or.inl rfl | exact Or.inr (by assumption) | exact List.Mem.head _ | exact List.Mem.tail _ (List.Mem.head _) | exact ⟨_, rfl⟩ | exact ⟨_, rfl, Or.inl rfl⟩ | (refine ⟨_, rfl, Or.inr ?_⟩; (try (conv => cbv))) | (simp only [I.val] at *; first | omega | (subst_vars; rfl) | simp_all) | (refine Or.inr ?_; (try (conv => cbv))))))) ⟨0, rfl, by omega, by omega, fun j hj => absurd hj (by omega), by omega⟩ ?_
    rintro m s ⟨i, rfl, hi0, hi1, hprev2, hm⟩
    conv => cbv
    refine Br.mk (fun gi => ?_) (fun gi => ?_)
    · have gi : i < n := gi
      obtain ⟨m', rfl⟩ : ∃ k', m = k' + 1 := ⟨m - 1, by omega⟩
      obtain ⟨e, he⟩ : ∃ e, R[i.toNat]? = some e := ⟨_, List.getElem?_eq_getElem (by omega)⟩
      have hem := List.mem_of_getElem? he
      obtain ⟨cv, hcv⟩ : ∃ cv, cv = clsOf e := ⟨_, rfl⟩
      have hcc := cpv_get he
      rw [← hC, ← hcv] at hcc
      conv => cbv
      refine Need.mk ⟨hi0, by show i < n; omega⟩ ?_
      conv => cbv
      refine Cell.at i _ hcc (by simp [I.val]) rfl ?_
      conv => cbv
      refine Br.mk (fun gc => ?_) (fun gc => ?_)
      · have gc : cv < 0 := gc
        have he2 : e.2 = [] := Classical.byContradiction fun hne => by
          have := (slots_iff e.1).1 ((hok e hem).2 hne).1
          rw [clsOf, if_neg hne] at hcv
          omega
        have heq : e = (e.1, []) := by rw [← he2]
        obtain ⟨m2, hm2⟩ : ∃ m2, m2 = (List.replicate (slotsOf c) false).set 0 true := ⟨_, rfl⟩
        have hA : Alloced R c i 0 true (R.set i.toNat (c, m2)) := by
          have := Alloced.fresh (R := R) (c := c) i.toNat e.1 hs0 hfull (by rw [he]; exact congrArg some heq) (fun j hj d => hprev2 j (by omega) d)
          rw [hm2]
          rwa [show ((i.toNat : Nat) : Int) = i by omega] at this
        have hrl : (List.replicate (slotsOf c) false).length = slotsOf c := List.length_replicate
        have h0l : 0 < (List.replicate (slotsOf c) false).length := by rw [hrl]; omega
        obtain ⟨o1, o2⟩ := okAt_set (m := List.replicate (slotsOf c) false) (v := true) h0l
        have hB2 := bpv_set (v := true) (c, m2) he (show 0 < 8 by decide) (flags_set (by decide) (by rw [hm2]; exact o1) (fun j hj => by
          rw [hm2, o2 j hj, he2, okAt_nil, okAt, List.getElem?_replicate]
          split <;> simp))
        rw [← hB] at hB2
        have hm2n : m2 ≠ [] := fun h => by
          have := congrArg List.length (hm2.symm.trans h)
          rw [List.length_set, hrl] at this
          exact hs0 this
        have hC2 := cpv_set (R := R) (q := i.toNat) (c := c) (c, m2) (by rw [clsOf, if_neg hm2n])
        rw [← hC] at hC2
        conv => cbv
        refine drawn_sound tok (by kernel_rfl) [(12, [13, 9]), (15, [])] [0, 1, 2, 3, 4, 5, 6, 7, 8, 9, 10, 11, 13, 12, 14, 15] (by kernel_rfl) ?_; conv => cbv
        refine Need.mk ⟨hi0, by show i < n; omega⟩ ?_
        conv => cbv
        refine Need.mk ⟨hi0, by show i < n; omega⟩ ?_
        conv => cbv
        refine Sum.mk fun a ha => ?_
        have ha : a = i * 8 := ha
        conv => cbv
        refine Need.mk (by show i + ((1 : Nat) : Int) ≤ (C.length : Int); omega) ?_
        conv => cbv
        refine Upd.mk fun C1 hC1 => ?_
        have hC1 : C1 = C.set i.toNat (.int .i64 (.sym c)) := hC1
        have hC1 : C1 = cpv (R.set i.toNat (c, m2)) := by rw [hC1, hC2]
        conv => cbv
        refine Need.mk ⟨by show (0 : Int) ≤ 0; decide, by show (0 : Int) < ((8 : Nat) : Int); decide⟩ ?_
        conv => cbv
        refine Need.mk (by show a + ((1 : Nat) : Int) ≤ (B.length : Int); omega) ?_
        conv => cbv
        refine Upd.mk fun B1 hB1 => ?_
        have hB1 : B1 = B.set a.toNat (.bool true) := hB1
        have hB1 : B1 = bpv (R.set i.toNat (c, m2)) := by rw [hB1, show a.toNat = 8 * i.toNat + 0 by omega, hB2]
        conv => cbv
        refine RetF.mk [.p (.int .i64 (.sym i)), .p (.int .i64 (.sym 0)), .p (.bool true)] [(0, .mix [.sl 1 3 1 (.lit 0) (.sym n), .sl 2 120 8 (.lit 0) (.sym n)]), (1, .pure true C1), (2, .pure true B1)] 3 (Re.of [(0, 0), (1, 1), (2, 2)] [] (by first | exact Nat.zero_le _ | exact Nat.le_refl _ | decide | (dsimp only; decide)) rfl rfl (by (try (conv => cbv)); (repeat' (first | exact trivial | rfl | exact SEq.mk rfl | (exact SEq.mk (by first | assumption | (symm; assumption))) | (simp only [I.val]; done) | (simp only [I.val]; omega) | omega | assumption | (refine And.intro ?_ ?_) | exact Or.inl rfl | exact Or.inr (by assumption) | exact List.Mem.head _ | exact List.Mem.tail _ (List.Mem.head _) | exact ⟨_, rfl⟩ | exact ⟨_, rfl, Or.inl rfl⟩ | (refine ⟨_, rfl, Or.inr ?_⟩; (try (conv => cbv))) | (simp only [I.val] at *; first | omega | (subst_vars; rfl) | simp_all) | (refine Or.inr ?_; (try (conv => cbv)))))) (by (try (conv => cbv)); (repeat' (first | exact trivial | rfl | exact SEq.mk rfl | (exact SEq.mk (by first | assumption | (symm; assumption))) | (simp only [I.val]; done) | (simp only [I.val]; omega) | omega | assumption | (refine And.intro ?_ ?_) | exact Or.inl rfl | exact Or.inr (by assumption) | exact List.Mem.head _ | exact List.Mem.tail _ (List.Mem.head _) | exact ⟨_, rfl⟩ | exact ⟨_, rfl, Or.inl rfl⟩ | (refine ⟨_, rfl, Or.inr ?_⟩; (try (conv => cbv))) | (simp only [I.val] at *; first | omega | (subst_vars; rfl) | simp_all) | (refine Or.inr ?_; (try (conv => cbv))))))) rfl ⟨i, 0, true, _, C1, B1, rfl, rfl, rfl, hC1, hB1, hA⟩
      · have gc : ¬ cv < 0 := gc
        have hp2 : ∀ j : Nat, (j : Int) < i + 1 → ∀ d : Int, R[j]? ≠ some (d, []) := fun j hj d hd => by
          by_cases hji : j = i.toNat
          · subst hji
            rw [he] at hd
            have hd : e = (d, []) := Option.some.inj hd
            rw [hd, clsOf, if_pos rfl] at hcv
            omega
          · exact hprev2 j (by omega) d hd
        conv => cbv
        refine Fit.mk (by show (-9223372036854775808 : Int) ≤ i + 1; omega) (by show i + 1 ≤ 9223372036854775807; omega) fun i2 hi2 => ?_
        have hi2 : i2 = i + 1 := hi2
        rw [← hi2] at hp2
        conv => cbv
        refine Again.mk m' _ (Nat.lt_succ_self _) (Re.of [(0, 0), (1, 1), (2, 2)] [] (by first | exact Nat.zero_le _ | exact Nat.le_refl _ | decide | (dsimp only; decide)) rfl rfl (by (try (conv => cbv)); (repeat' (first | exact trivial | rfl | exact SEq.mk rfl | (exact SEq.mk (by first | assumption | (symm; assumption))) | (simp only [I.val]; done) | (simp only [I.val]; omega) | omega | assumption | (refine And.intro ?_ ?_) | exact Or.inl rfl | exact Or.inr (by assumption) | exact List.Mem.head _ | exact List.Mem.tail _ (List.Mem.head _) | exact ⟨_, rfl⟩ | exact ⟨_, rfl, Or.inl rfl⟩ | (refine ⟨_, rfl, Or.inr ?_⟩; (try (conv => cbv))) | (simp only [I.val] at *; first | omega | (subst_vars; rfl) | simp_all) | (refine Or.inr ?_; (try (conv => cbv)))))) (by (try (conv => cbv)); (repeat' (first | exact trivial | rfl | exact SEq.mk rfl | (exact SEq.mk (by first | assumption | (symm; assumption))) | (simp only [I.val]; done) | (simp only [I.val]; omega) | omega | assumption | (refine And.intro ?_ ?_) | exact Or.inl rfl | exact Or.inr (by assumption) | exact List.Mem.head _ | exact List.Mem.tail _ (List.Mem.head _) | exact ⟨_, rfl⟩ | exact ⟨_, rfl, Or.inl rfl⟩ | (refine ⟨_, rfl, Or.inr ?_⟩; (try (conv => cbv))) | (simp only [I.val] at *; first | omega | (subst_vars; rfl) | simp_all) | (refine Or.inr ?_; (try (conv => cbv))))))) ⟨i2, rfl, by omega, by omega, hp2, by omega⟩
    · have gi : ¬ i < n := gi
      have hA : Alloced R c 0 0 false R := .full hs0 hfull (fun j d hd => hprev2 j (by have := (List.getElem?_eq_some_iff.1 hd).1; omega) d hd)
      conv => cbv
      refine RetF.mk [.p (.int .i64 (.sym 0)), .p (.int .i64 (.sym 0)), .p (.bool false)] [(0, .mix [.sl 1 3 1 (.lit 0) (.sym n), .sl 2 120 8 (.lit 0) (.sym n)]), (1, .pure true C), (2, .pure true B)] 3 (Re.of [(0, 0), (1, 1), (2, 2)] [] (by first | exact Nat.zero_le _ | exact Nat.le_refl _ | decide | (dsimp only; decide)) rfl rfl (by (try (conv => cbv)); (repeat' (first | exact trivial | rfl | exact SEq.mk rfl | (exact SEq.mk (by first | assumption | (symm; assumption))) | (simp only [I.val]; done) | (simp only [I.val]; omega) | omega | assumption | (refine And.intro ?_ ?_) | exact Or.inl rfl | exact Or.inr (by assumption) | exact List.Mem.head _ | exact List.Mem.tail _ (List.Mem.head _) | exact ⟨_, rfl⟩ | exact ⟨_, rfl, Or.inl rfl⟩ | (refine ⟨_, rfl, Or.inr ?_⟩; (try (conv => cbv))) | (simp only [I.val] at *; first | omega | (subst_vars; rfl) | simp_all) | (refine Or.inr ?_; (try (conv => cbv)))))) (by (try (conv => cbv)); (repeat' (first | exact trivial | rfl | exact SEq.mk rfl | (exact SEq.mk (by first | assumption | (symm; assumption))) | (simp only [I.val]; done) | (simp only [I.val]; omega) | omega | assumption | (refine And.intro ?_ ?_) | exact Or.inl rfl | exact Or.inr (by assumption) | exact List.Mem.head _ | exact List.Mem.tail _ (List.Mem.head _) | exact ⟨_, rfl⟩ | exact ⟨_, rfl, Or.inl rfl⟩ | (refine ⟨_, rfl, Or.inr ?_⟩; (try (conv => cbv))) | (simp only [I.val] at *; first | omega | (subst_vars; rfl) | simp_all) | (refine Or.inr ?_; (try (conv => cbv))))))) rfl ⟨0, 0, false, R, C, B, rfl, rfl, rfl, hC, hB, hA⟩
end Go.Proofs.YtllafhhnciobhaaGreatDoor
