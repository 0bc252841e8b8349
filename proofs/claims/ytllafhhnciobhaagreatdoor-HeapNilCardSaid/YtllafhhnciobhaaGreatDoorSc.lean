/-
  Layer 6: what is told of rows; nil ones; laws.
-/
import Derived.Test.YtllafhhnciobhaaGreatDoorSb

import Derived.Test.YtllafhhnciobhaaGreatDoorLxSplit

namespace Go.Proofs.YtllafhhnciobhaaGreatDoor

open Go Go.LX
set_option maxRecDepth 100000
set_option linter.unusedVariables false
set_option linter.unusedSimpArgs false

theorem has_nil (i : I) : CallF (fun _ => Tryz.prog) 79 [.p .nilp, .p (.int .i64 i)] [] 0 (fun r h n => r = .p (.bool false) ∧ h = [] ∧ n = 0) := by
  refine callF_of_body tok Tryz.func79 (by kernel_rfl) rfl rfl rfl ?_; conv => cbv
  refine RetF.mk [.p (.bool false)] [] 0 (Re.of [] [] (by first | exact Nat.zero_le _ | exact Nat.le_refl _ | decide | (dsimp only; decide)) rfl rfl (by (try (conv => cbv)); (repeat' (first | exact trivial | rfl | exact SEq.mk rfl | (exact SEq.mk (by first | assumption | (symm; assumption))) | (simp only [I.val]; done) | (simp only [I.val]; omega) | omega | assumption | (refine And.intro ?_ ?_) | exact Or.inl rfl | exact Or.inr (by assumption) | exact List.Mem.head _ | exact List.Mem.tail _ (List.Mem.head _) | exact ⟨_, rfl⟩ | exact ⟨_, rfl, Or.inl rfl⟩ | (refine ⟨_, rfl, Or.inr ?_⟩; (try (conv => cbv))) | (simp only [I.val] at *; first | omega | (subst_vars; rfl) | simp_all) | (refine Or.inr ?_; (try (conv => cbv)))))) (by (try (conv => cbv)); (repeat' (first | exact trivial | rfl | exact SEq.mk rfl | (exact SEq.mk (by first | assumption | (symm; assumption))) | (simp only [I.val]; done) | (simp only [I.val]; omega) | omega | assumption | (refine And.intro ?_ ?_) | exact Or.inl rfl | exact Or.inr (by assumption) | exact List.Mem.head _ | exact List.Mem.tail _ (List.Mem.head _) | exact ⟨_, rfl⟩ | exact ⟨_, rfl, Or.inl rfl⟩ | (refine ⟨_, rfl, Or.inr ?_⟩; (try (conv => cbv))) | (simp only [I.val] at *; first | omega | (subst_vars; rfl) | simp_all) | (refine Or.inr ?_; (try (conv => cbv))))))) rfl ⟨rfl, rfl, rfl⟩
theorem has_lx (n i : Int) (L : List PV) (hi0 : 0 ≤ i) (hin : i < n) : CallF (fun _ => Tryz.prog) 79 [.ptr 0 (.lit 0), .p (.int .i64 (.sym i))] [(0, .mix [.sl 1 101 2 (.lit 0) (.sym n)]), (1, .pure true L)] 2 (fun r h n' => r = .p (.bool true) ∧ h = [(0, .mix [.sl 1 101 2 (.lit 0) (.sym n)]), (1, .pure true L)] ∧ n' = 2) := by
  refine callF_of_body tok Tryz.func79 (by kernel_rfl) rfl rfl rfl ?_; conv => cbv
  refine Br.mk (fun g => ?_) (fun g => ?_)
  case refine_2 =>
    have gf : False := g hi0
    cases gf
  conv => cbv
  refine Br.mk (fun g => ?_) (fun g => ?_)
  case refine_2 =>
    have gf : False := g hin
    cases gf
  conv => cbv
  refine RetF.mk [.p (.bool true)] [(0, .mix [.sl 1 101 2 (.lit 0) (.sym n)]), (1, .pure true L)] 2 (Re.of [(0, 0), (1, 1)] [] (by first | exact Nat.zero_le _ | exact Nat.le_refl _ | decide | (dsimp only; decide)) rfl rfl (by (try (conv => cbv)); (repeat' (first | exact trivial | rfl | exact SEq.mk rfl | (exact SEq.mk (by first | assumption | (symm; assumption))) | (simp only [I.val]; done) | (simp only [I.val]; omega) | omega | assumption | (refine And.intro ?_ ?_) | exact Or.inl rfl | exact Or.inr (by assumption) | exact List.Mem.head _ | exact List.Mem.tail _ (List.Mem.head _) | exact ⟨_, rfl⟩ | exact ⟨_, rfl, Or.inl rfl⟩ | (refine ⟨_, rfl, Or.inr ?_⟩; (try (conv => cbv))) | (simp only [I.val] at *; first | omega | (subst_vars; rfl) | simp_all) | (refine Or.inr ?_; (try (conv => cbv)))))) (by (try (conv => cbv)); (repeat' (first | exact trivial | rfl | exact SEq.mk rfl | (exact SEq.mk (by first | assumption | (symm; assumption))) | (simp only [I.val]; done) | (simp only [I.val]; omega) | omega | assumption | (refine And.intro ?_ ?_) | exact Or.inl rfl | exact Or.inr (by assumption) | exact List.Mem.head _ | exact List.Mem.tail _ (List.Mem.head _) | exact ⟨_, rfl⟩ | exact ⟨_, rfl, Or.inl rfl⟩ | (refine ⟨_, rfl, Or.inr ?_⟩; (try (conv => cbv))) | (simp only [I.val] at *; first | omega | (subst_vars; rfl) | simp_all) | (refine Or.inr ?_; (try (conv => cbv))))))) rfl ⟨rfl, rfl, rfl⟩
theorem class_nil (i : I) : CallF (fun _ => Tryz.prog) 56 [.p .nilp, .p (.int .i64 i)] [] 0 (fun r h n => (∃ v : Int, r = .p (.int .i64 (.sym v)) ∧ v = -1) ∧ h = [] ∧ n = 0) := by
  refine callF_of_body tok Tryz.func56 (by kernel_rfl) rfl rfl rfl ?_; conv => cbv
  refine callF_frame (has_nil i) [] rfl trivial rfl rfl (fun r h' n' ⟨e1, e2, e3⟩ => ?_)
  subst e1 e2 e3
  conv => cbv
  refine RetF.mk [.p (.int .i64 (.sym (-1)))] [] 0 (Re.of [] [] (by first | exact Nat.zero_le _ | exact Nat.le_refl _ | decide | (dsimp only; decide)) rfl rfl (by (try (conv => cbv)); (repeat' (first | exact trivial | rfl | exact SEq.mk rfl | (exact SEq.mk (by first | assumption | (symm; assumption))) | (simp only [I.val]; done) | (simp only [I.val]; omega) | omega | assumption | (refine And.intro ?_ ?_) | exact Or.inl rfl | exact Or.inr (by assumption) | exact List.Mem.head _ | exact List.Mem.tail _ (List.Mem.head _) | exact ⟨_, rfl⟩ | exact ⟨_, rfl, Or.inl rfl⟩ | (refine ⟨_, rfl, Or.inr ?_⟩; (try (conv => cbv))) | (simp only [I.val] at *; first | omega | (subst_vars; rfl) | simp_all) | (refine Or.inr ?_; (try (conv => cbv)))))) (by (try (conv => cbv)); (repeat' (first | exact trivial | rfl | exact SEq.mk rfl | (exact SEq.mk (by first | assumption | (symm; assumption))) | (simp only [I.val]; done) | (simp only [I.val]; omega) | omega | assumption | (refine And.intro ?_ ?_) | exact Or.inl rfl | exact Or.inr (by assumption) | exact List.Mem.head _ | exact List.Mem.tail _ (List.Mem.head _) | exact ⟨_, rfl⟩ | exact ⟨_, rfl, Or.inl rfl⟩ | (refine ⟨_, rfl, Or.inr ?_⟩; (try (conv => cbv))) | (simp only [I.val] at *; first | omega | (subst_vars; rfl) | simp_all) | (refine Or.inr ?_; (try (conv => cbv))))))) rfl ⟨⟨-1, rfl, rfl⟩, rfl, rfl⟩
theorem used_nil (i j : I) : CallF (fun _ => Tryz.prog) 58 [.p .nilp, .p (.int .i64 i), .p (.int .i64 j)] [] 0 (fun r h n => r = .p (.bool false) ∧ h = [] ∧ n = 0) := by
  refine callF_of_body tok Tryz.func58 (by kernel_rfl) rfl rfl rfl ?_; conv => cbv
  refine callF_frame (has_nil i) [] rfl trivial rfl rfl (fun r h' n' ⟨e1, e2, e3⟩ => ?_)
  subst e1 e2 e3
  conv => cbv
  refine RetF.mk [.p (.bool false)] [] 0 (Re.of [] [] (by first | exact Nat.zero_le _ | exact Nat.le_refl _ | decide | (dsimp only; decide)) rfl rfl (by (try (conv => cbv)); (repeat' (first | exact trivial | rfl | exact SEq.mk rfl | (exact SEq.mk (by first | assumption | (symm; assumption))) | (simp only [I.val]; done) | (simp only [I.val]; omega) | omega | assumption | (refine And.intro ?_ ?_) | exact Or.inl rfl | exact Or.inr (by assumption) | exact List.Mem.head _ | exact List.Mem.tail _ (List.Mem.head _) | exact ⟨_, rfl⟩ | exact ⟨_, rfl, Or.inl rfl⟩ | (refine ⟨_, rfl, Or.inr ?_⟩; (try (conv => cbv))) | (simp only [I.val] at *; first | omega | (subst_vars; rfl) | simp_all) | (refine Or.inr ?_; (try (conv => cbv)))))) (by (try (conv => cbv)); (repeat' (first | exact trivial | rfl | exact SEq.mk rfl | (exact SEq.mk (by first | assumption | (symm; assumption))) | (simp only [I.val]; done) | (simp only [I.val]; omega) | omega | assumption | (refine And.intro ?_ ?_) | exact Or.inl rfl | exact Or.inr (by assumption) | exact List.Mem.head _ | exact List.Mem.tail _ (List.Mem.head _) | exact ⟨_, rfl⟩ | exact ⟨_, rfl, Or.inl rfl⟩ | (refine ⟨_, rfl, Or.inr ?_⟩; (try (conv => cbv))) | (simp only [I.val] at *; first | omega | (subst_vars; rfl) | simp_all) | (refine Or.inr ?_; (try (conv => cbv))))))) rfl ⟨rfl, rfl, rfl⟩
theorem len_nil : CallF (fun _ => Tryz.prog) 55 [.p .nilp] [] 0 (fun r h n => r = .p (.int .i64 (.sym 0)) ∧ h = [] ∧ n = 0) := by
  refine callF_of_body tok Tryz.func55 (by kernel_rfl) rfl rfl rfl ?_; conv => cbv
  refine RetF.mk [.p (.int .i64 (.sym 0))] [] 0 (Re.of [] [] (by first | exact Nat.zero_le _ | exact Nat.le_refl _ | decide | (dsimp only; decide)) rfl rfl (by (try (conv => cbv)); (repeat' (first | exact trivial | rfl | exact SEq.mk rfl | (exact SEq.mk (by first | assumption | (symm; assumption))) | (simp only [I.val]; done) | (simp only [I.val]; omega) | omega | assumption | (refine And.intro ?_ ?_) | exact Or.inl rfl | exact Or.inr (by assumption) | exact List.Mem.head _ | exact List.Mem.tail _ (List.Mem.head _) | exact ⟨_, rfl⟩ | exact ⟨_, rfl, Or.inl rfl⟩ | (refine ⟨_, rfl, Or.inr ?_⟩; (try (conv => cbv))) | (simp only [I.val] at *; first | omega | (subst_vars; rfl) | simp_all) | (refine Or.inr ?_; (try (conv => cbv)))))) (by (try (conv => cbv)); (repeat' (first | exact trivial | rfl | exact SEq.mk rfl | (exact SEq.mk (by first | assumption | (symm; assumption))) | (simp only [I.val]; done) | (simp only [I.val]; omega) | omega | assumption | (refine And.intro ?_ ?_) | exact Or.inl rfl | exact Or.inr (by assumption) | exact List.Mem.head _ | exact List.Mem.tail _ (List.Mem.head _) | exact ⟨_, rfl⟩ | exact ⟨_, rfl, Or.inl rfl⟩ | (refine ⟨_, rfl, Or.inr ?_⟩; (try (conv => cbv))) | (simp only [I.val] at *; first | omega | (subst_vars; rfl) | simp_all) | (refine Or.inr ?_; (try (conv => cbv))))))) rfl ⟨rfl, rfl, rfl⟩
theorem free_nil (i j : I) : CallF (fun _ => Tryz.prog) 105 [.p .nilp, .p (.int .i64 i), .p (.int .i64 j)] [] 0 (fun r h n => r = .p (.bool false) ∧ h = [] ∧ n = 0) := by
  refine callF_of_body tok Tryz.func105 (by kernel_rfl) rfl rfl rfl ?_; conv => cbv
  refine callF_frame (used_nil i j) [] rfl trivial rfl rfl (fun r h' n' ⟨e1, e2, e3⟩ => ?_)
  subst e1 e2 e3
  conv => cbv
  refine RetF.mk [.p (.bool false)] [] 0 (Re.of [] [] (by first | exact Nat.zero_le _ | exact Nat.le_refl _ | decide | (dsimp only; decide)) rfl rfl (by (try (conv => cbv)); (repeat' (first | exact trivial | rfl | exact SEq.mk rfl | (exact SEq.mk (by first | assumption | (symm; assumption))) | (simp only [I.val]; done) | (simp only [I.val]; omega) | omega | assumption | (refine And.intro ?_ ?_) | exact Or.inl rfl | exact Or.inr (by assumption) | exact List.Mem.head _ | exact List.Mem.tail _ (List.Mem.head _) | exact ⟨_, rfl⟩ | exact ⟨_, rfl, Or.inl rfl⟩ | (refine ⟨_, rfl, Or.inr ?_⟩; (try (conv => cbv))) | (simp only [I.val] at *; first | omega | (subst_vars; rfl) | simp_all) | (refine Or.inr ?_; (try (conv => cbv)))))) (by (try (conv => cbv)); (repeat' (first | exact trivial | rfl | exact SEq.mk rfl | (exact SEq.mk (by first | assumption | (symm; assumption))) | (simp only [I.val]; done) | (simp only [I.val]; omega) | omega | assumption | (refine And.intro ?_ ?_) | exact Or.inl rfl | exact Or.inr (by assumption) | exact List.Mem.head _ | exact List.Mem.tail _ (List.Mem.head _) | exact ⟨_, rfl⟩ | exact ⟨_, rfl, Or.inl rfl⟩ | (refine ⟨_, rfl, Or.inr ?_⟩; (try (conv => cbv))) | (simp only [I.val] at *; first | omega | (subst_vars; rfl) | simp_all) | (refine Or.inr ?_; (try (conv => cbv))))))) rfl ⟨rfl, rfl, rfl⟩
theorem alloc_nil (c : Int) : CallF (fun _ => Tryz.prog) 91 [.p .nilp, .p (.int .i64 (.sym c))] [] 0 (fun r h n => r = .tup [.p (.int .i64 (.sym 0)), .p (.int .i64 (.sym 0)), .p (.bool false)] ∧ h = [] ∧ n = 0) := by
  obtain ⟨z, hz⟩ : ∃ z : ByteArray, z = ⟨(mkB (List.replicate (slotsOf c) false)).toArray⟩ := ⟨_, rfl⟩
  refine callF_of_body tok Tryz.func91 (by kernel_rfl) rfl rfl rfl ?_; conv => cbv
  refine callF_frame (unusedRow_lx c z hz) [] rfl trivial rfl rfl (fun r h' n' ⟨e1, e2, e3⟩ => ?_)
  subst e1 e2 e3
  conv => cbv
  refine RetF.mk [.p (.int .i64 (.sym 0)), .p (.int .i64 (.sym 0)), .p (.bool false)] [] 0 (Re.of [] [] (by first | exact Nat.zero_le _ | exact Nat.le_refl _ | decide | (dsimp only; decide)) rfl rfl (by (try (conv => cbv)); (repeat' (first | exact trivial | rfl | exact SEq.mk rfl | (exact SEq.mk (by first | assumption | (symm; assumption))) | (simp only [I.val]; done) | (simp only [I.val]; omega) | omega | assumption | (refine And.intro ?_ ?_) | exact Or.inl rfl | exact Or.inr (by assumption) | exact List.Mem.head _ | exact List.Mem.tail _ (List.Mem.head _) | exact ⟨_, rfl⟩ | exact ⟨_, rfl, Or.inl rfl⟩ | (refine ⟨_, rfl, Or.inr ?_⟩; (try (conv => cbv))) | (simp only [I.val] at *; first | omega | (subst_vars; rfl) | simp_all) | (refine Or.inr ?_; (try (conv => cbv)))))) (by (try (conv => cbv)); (repeat' (first | exact trivial | rfl | exact SEq.mk rfl | (exact SEq.mk (by first | assumption | (symm; assumption))) | (simp only [I.val]; done) | (simp only [I.val]; omega) | omega | assumption | (refine And.intro ?_ ?_) | exact Or.inl rfl | exact Or.inr (by assumption) | exact List.Mem.head _ | exact List.Mem.tail _ (List.Mem.head _) | exact ⟨_, rfl⟩ | exact ⟨_, rfl, Or.inl rfl⟩ | (refine ⟨_, rfl, Or.inr ?_⟩; (try (conv => cbv))) | (simp only [I.val] at *; first | omega | (subst_vars; rfl) | simp_all) | (refine Or.inr ?_; (try (conv => cbv))))))) rfl ⟨rfl, rfl, rfl⟩
theorem class_lx (R : List Rw) (n i d : Int) (m : List Bool) (L : List PV) (hL : L = rpv R) (hn : n = R.length) (hi0 : 0 ≤ i) (hi : R[i.toNat]? = some (d, m)) (hm : m ≠ []) : CallF (fun _ => Tryz.prog) 56 [.ptr 0 (.lit 0), .p (.int .i64 (.sym i))] [(0, .mix [.sl 1 101 2 (.lit 0) (.sym n)]), (1, .pure true L)] 2
    (fun r h n' => r = .p (.int .i64 (.sym d)) ∧ h = [(0, .mix [.sl 1 101 2 (.lit 0) (.sym n)]), (1, .pure true L)] ∧ n' = 2) := by
  have hiR : i.toNat < R.length := (List.getElem?_eq_some_iff.1 hi).1
  obtain ⟨y, hy⟩ : ∃ y : ByteArray, y = ⟨(mkB m).toArray⟩ := ⟨_, rfl⟩
  obtain ⟨c1, c2⟩ := rpv_get R i.toNat _ hi
  dsimp only at c1 c2
  rw [← hL] at c1 c2
  rw [← hy] at c2
  have hyn : ¬ y = ⟨#[]⟩ := fun h => hm ((mkB_nil m).1 (hy.symm.trans h))
  refine callF_of_body tok Tryz.func56 (by kernel_rfl) rfl rfl rfl ?_; conv => cbv
  refine callF_frame (has_lx n i L hi0 (by omega)) [(0, 0), (1, 1)] rfl (by simp [hmapOk, nget, hget, renB, okB, renV, renVs, rn, okVs, okV]) rfl rfl (fun r h' n' ⟨e1, e2, e3⟩ => ?_)
  subst e1 e2 e3
  conv => cbv
  refine Need.mk ⟨hi0, by show i < n; omega⟩ ?_
  conv => cbv
  refine Sum.mk fun w hw => ?_
  have hw : w = i * 2 := hw
  conv => cbv
  refine Sum.mk fun a ha => ?_
  have ha : a = w + 1 := ha
  conv => cbv
  refine Cell.at a _ c2 (by simp [I.val]) (by omega) ?_
  conv => cbv
  refine Br.mk (fun g => ?_) (fun g => ?_)
  case refine_1 =>
    have gf : False := hyn g
    cases gf
  conv => cbv
  refine Need.mk ⟨hi0, by show i < n; omega⟩ ?_
  conv => cbv
  refine Sum.mk fun w2 hw2 => ?_
  have hw2 : w2 = i * 2 := hw2
  conv => cbv
  refine Cell.at w2 _ c1 (by simp [I.val]) (by omega) ?_
  conv => cbv
  refine RetF.mk [.p (.int .i64 (.sym d))] [(0, .mix [.sl 1 101 2 (.lit 0) (.sym n)]), (1, .pure true L)] 2 (Re.of [(0, 0), (1, 1)] [] (by first | exact Nat.zero_le _ | exact Nat.le_refl _ | decide | (dsimp only; decide)) rfl rfl (by (try (conv => cbv)); (repeat' (first | exact trivial | rfl | exact SEq.mk rfl | (exact SEq.mk (by first | assumption | (symm; assumption))) | (simp only [I.val]; done) | (simp only [I.val]; omega) | omega | assumption | (refine And.intro ?_ ?_) | exact Or.inl rfl | exact Or.inr (by assumption) | exact List.Mem.head _ | exact List.Mem.tail _ (List.Mem.head _) | exact ⟨_, rfl⟩ | exact ⟨_, rfl, Or.inl rfl⟩ | (refine ⟨_, rfl, Or.inr ?_⟩; (try (conv => cbv))) | (simp only [I.val] at *; first | omega | (subst_vars; rfl) | simp_all) | (refine Or.inr ?_; (try (conv => cbv)))))) (by (try (conv => cbv)); (repeat' (first | exact trivial | rfl | exact SEq.mk rfl | (exact SEq.mk (by first | assumption | (symm; assumption))) | (simp only [I.val]; done) | (simp only [I.val]; omega) | omega | assumption | (refine And.intro ?_ ?_) | exact Or.inl rfl | exact Or.inr (by assumption) | exact List.Mem.head _ | exact List.Mem.tail _ (List.Mem.head _) | exact ⟨_, rfl⟩ | exact ⟨_, rfl, Or.inl rfl⟩ | (refine ⟨_, rfl, Or.inr ?_⟩; (try (conv => cbv))) | (simp only [I.val] at *; first | omega | (subst_vars; rfl) | simp_all) | (refine Or.inr ?_; (try (conv => cbv))))))) rfl ⟨rfl, rfl, rfl⟩
theorem used_lx (R : List Rw) (n i j d : Int) (m : List Bool) (L : List PV) (hL : L = rpv R) (hn : n = R.length) (hi0 : 0 ≤ i) (hi : R[i.toNat]? = some (d, m)) (b : Bool) (hj0 : 0 ≤ j) (hj : m[j.toNat]? = some b) : CallF (fun _ => Tryz.prog) 58 [.ptr 0 (.lit 0), .p (.int .i64 (.sym i)), .p (.int .i64 (.sym j))] [(0, .mix [.sl 1 101 2 (.lit 0) (.sym n)]), (1, .pure true L)] 2
    (fun r h n' => r = .p (.bool b) ∧ h = [(0, .mix [.sl 1 101 2 (.lit 0) (.sym n)]), (1, .pure true L)] ∧ n' = 2) := by
  have hiR : i.toNat < R.length := (List.getElem?_eq_some_iff.1 hi).1
  obtain ⟨y, hy⟩ : ∃ y : ByteArray, y = ⟨(mkB m).toArray⟩ := ⟨_, rfl⟩
  obtain ⟨c1, c2⟩ := rpv_get R i.toNat _ hi
  dsimp only at c1 c2
  rw [← hL] at c1 c2
  rw [← hy] at c2
  refine callF_of_body tok Tryz.func58 (by kernel_rfl) rfl rfl rfl ?_; conv => cbv
  refine callF_frame (has_lx n i L hi0 (by omega)) [(0, 0), (1, 1)] rfl (by simp [hmapOk, nget, hget, renB, okB, renV, renVs, rn, okVs, okV]) rfl rfl (fun r h' n' ⟨e1, e2, e3⟩ => ?_)
  subst e1 e2 e3
  conv => cbv
  refine Need.mk ⟨hi0, by show i < n; omega⟩ ?_
  conv => cbv
  refine Sum.mk fun w hw => ?_
  have hw : w = i * 2 := hw
  conv => cbv
  refine Sum.mk fun a ha => ?_
  have ha : a = w + 1 := ha
  conv => cbv
  refine Cell.at a _ c2 (by simp [I.val]) (by omega) ?_
  conv => cbv
  obtain ⟨N, hN⟩ : ∃ N : Int, N = m.length := ⟨_, rfl⟩
  have hjN : j < N := by have := (List.getElem?_eq_some_iff.1 hj).1; omega
  have hys : (y.size : Int) = N := by rw [hy, mk_size, mkB_length, hN]
  refine LoopF.mk (fun k s => ∃ pos : Int, s = ⟨.ptr 0 (.lit 0) :: .p (.int .i64 (.sym i)) :: .p (.int .i64 (.sym j)) :: (undefs 18 ++ .ptr 2 (.lit 0) :: undefs 9), [(2, .iter (fun _ => y) (.sym pos)), (0, .mix [.sl 1 101 2 (.lit 0) (.sym n)]), (1, .pure true L)], 3⟩ ∧ 0 ≤ pos ∧ pos ≤ j ∧ k = (N - pos).toNat) N.toNat _
    (Re.of [(0, 0), (1, 1), (2, 2)] [] (by first | exact Nat.zero_le _ | exact Nat.le_refl _ | decide | (dsimp only; decide)) rfl rfl (by (try (conv => cbv)); (repeat' (first | exact trivial | rfl | exact SEq.mk rfl | (exact SEq.mk (by first | assumption | (symm; assumption))) | (simp only [I.val]; done) | (simp only [I.val]; omega) | omega | assumption | (refine And.intro ?_ ?_) | exact Or.inl rfl | exact Or.inr (by assumption) | exact List.Mem.head _ | exact List.Mem.tail _ (List.Mem.head _) | exact ⟨_, rfl⟩ | exact ⟨_, rfl, Or.inl rfl⟩ | (refine ⟨_, rfl, Or.inr ?_⟩; (try (conv => cbv))) | (simp only [I.val] at *; first | omega | (subst_vars; rfl) | simp_all) | (refine Or.inr ?_; (try (conv => cbv)))))) (by (try (conv => cbv)); (repeat' (first | exact trivial | rfl | exact SEq.mk rfl | (exact SEq.mk (by first | assumption | (symm; assumption))) | (simp only [I.val]; done) | (simp only [I.val]; omega) | omega | assumption | (refine And.intro ?_ ?_) | exact Or.inl rfl | exact Or.inr (by assumption) | exact List.Mem.head _ | exact List.Mem.tail _ (List.Mem.head _) | exact ⟨_, rfl⟩ | exact ⟨_, rfl, Or.inl rfl⟩ | (refine ⟨_, rfl, Or.inr ?_⟩; (try (conv => cbv))) | (simp only [I.val] at *; first | omega | (subst_vars; rfl) | simp_all) | (refine Or.inr ?_; (try (conv => cbv))))))) ⟨0, rfl, by omega, hj0, by omega⟩ ?_
  rintro k s ⟨pos, rfl, h0, h1, hk⟩
  obtain ⟨x, hb⟩ : ∃ x, m[pos.toNat]? = some x := ⟨_, List.getElem?_eq_getElem (by omega)⟩
  have hx : (mkB m)[pos.toNat]? = some (if x then 120 else 46) := by rw [mkB, List.getElem?_map, hb]; rfl
  have hd := dec_at (mkB m) (mkB_low m) pos.toNat _ hx
  rw [← hy] at hd
  obtain ⟨k', rfl⟩ : ∃ k', k = k' + 1 := ⟨k - 1, by omega⟩
  conv => cbv
  refine NextS.more (by show pos < (y.size : Int); omega) ?_
  intro r p' hr hp
  have hr : r = (if x then 120 else 46) := by
    have : r = ((Utf8.decode y pos.toNat).1 : Int) := hr
    rw [this, hd]; cases x <;> rfl
  have hp : p' = pos + 1 := by
    have : p' = pos + ((Utf8.decode y pos.toNat).2 : Int) := hp
    rw [this, hd]; rfl
  conv => cbv
  refine Br.mk (fun g => ?_) (fun g => ?_)
  · have g : pos = j := g
    have hxb : x = b := by rw [g] at hb; rw [hb] at hj; exact Option.some.inj hj
    conv => cbv
    refine Br.mk (fun g2 => ?_) (fun g2 => ?_)
    · have g2 : r = 120 := g2
      have hbt : true = b := by
        cases b with
        | true => rfl
        | false => rw [hxb] at hr; simp at hr; omega
      subst hbt
      conv => cbv
      refine RetF.mk [.p (.bool true)] [(0, .mix [.sl 1 101 2 (.lit 0) (.sym n)]), (1, .pure true L)] 2 (Re.of [(0, 0), (1, 1)] [] (by first | exact Nat.zero_le _ | exact Nat.le_refl _ | decide | (dsimp only; decide)) rfl rfl (by (try (conv => cbv)); (repeat' (first | exact trivial | rfl | exact SEq.mk rfl | (exact SEq.mk (by first | assumption | (symm; assumption))) | (simp only [I.val]; done) | (simp only [I.val]; omega) | omega | assumption | (refine And.intro ?_ ?_) | exact Or.inl rfl | exact Or.inr (by assumption) | exact List.Mem.head _ | exact List.Mem.tail _ (List.Mem.head _) | exact ⟨_, rfl⟩ | exact ⟨_, rfl, Or.inl rfl⟩ | (refine ⟨_, rfl, Or.inr ?_⟩; (try (conv => cbv))) | (simp only [I.val] at *; first | omega | (subst_vars; rfl) | simp_all) | (refine Or.inr ?_; (try (conv => cbv)))))) (by (try (conv => cbv)); (repeat' (first | exact trivial | rfl | exact SEq.mk rfl | (exact SEq.mk (by first | assumption | (symm; assumption))) | (simp only [I.val]; done) | (simp only [I.val]; omega) | omega | assumption | (refine And.intro ?_ ?_) | exact Or.inl rfl | exact Or.inr (by assumption) | exact List.Mem.head _ | exact List.Mem.tail _ (List.Mem.head _) | exact ⟨_, rfl⟩ | exact ⟨_, rfl, Or.inl rfl⟩ | (refine ⟨_, rfl, Or.inr ?_⟩; (try (conv => cbv))) | (simp only [I.val] at *; first | omega | (subst_vars; rfl) | simp_all) | (refine Or.inr ?_; (try (conv => cbv))))))) rfl ⟨rfl, rfl, rfl⟩
    · have g2 : ¬ r = 120 := g2
      have hbf : false = b := by
        cases b with
        | false => rfl
        | true => rw [hxb] at hr; simp at hr; omega
      subst hbf
      conv => cbv
      refine RetF.mk [.p (.bool false)] [(0, .mix [.sl 1 101 2 (.lit 0) (.sym n)]), (1, .pure true L)] 2 (Re.of [(0, 0), (1, 1)] [] (by first | exact Nat.zero_le _ | exact Nat.le_refl _ | decide | (dsimp only; decide)) rfl rfl (by (try (conv => cbv)); (repeat' (first | exact trivial | rfl | exact SEq.mk rfl | (exact SEq.mk (by first | assumption | (symm; assumption))) | (simp only [I.val]; done) | (simp only [I.val]; omega) | omega | assumption | (refine And.intro ?_ ?_) | exact Or.inl rfl | exact Or.inr (by assumption) | exact List.Mem.head _ | exact List.Mem.tail _ (List.Mem.head _) | exact ⟨_, rfl⟩ | exact ⟨_, rfl, Or.inl rfl⟩ | (refine ⟨_, rfl, Or.inr ?_⟩; (try (conv => cbv))) | (simp only [I.val] at *; first | omega | (subst_vars; rfl) | simp_all) | (refine Or.inr ?_; (try (conv => cbv)))))) (by (try (conv => cbv)); (repeat' (first | exact trivial | rfl | exact SEq.mk rfl | (exact SEq.mk (by first | assumption | (symm; assumption))) | (simp only [I.val]; done) | (simp only [I.val]; omega) | omega | assumption | (refine And.intro ?_ ?_) | exact Or.inl rfl | exact Or.inr (by assumption) | exact List.Mem.head _ | exact List.Mem.tail _ (List.Mem.head _) | exact ⟨_, rfl⟩ | exact ⟨_, rfl, Or.inl rfl⟩ | (refine ⟨_, rfl, Or.inr ?_⟩; (try (conv => cbv))) | (simp only [I.val] at *; first | omega | (subst_vars; rfl) | simp_all) | (refine Or.inr ?_; (try (conv => cbv))))))) rfl ⟨rfl, rfl, rfl⟩
  · have g : ¬ pos = j := g
    conv => cbv
    refine Again.mk k' _ (Nat.lt_succ_self _) (Re.of [(0, 0), (1, 1), (2, 2)] [] (by first | exact Nat.zero_le _ | exact Nat.le_refl _ | decide | (dsimp only; decide)) rfl rfl (by (try (conv => cbv)); (repeat' (first | exact trivial | rfl | exact SEq.mk rfl | (exact SEq.mk (by first | assumption | (symm; assumption))) | (simp only [I.val]; done) | (simp only [I.val]; omega) | omega | assumption | (refine And.intro ?_ ?_) | exact Or.inl rfl | exact Or.inr (by assumption) | exact List.Mem.head _ | exact List.Mem.tail _ (List.Mem.head _) | exact ⟨_, rfl⟩ | exact ⟨_, rfl, Or.inl rfl⟩ | (refine ⟨_, rfl, Or.inr ?_⟩; (try (conv => cbv))) | (simp only [I.val] at *; first | omega | (subst_vars; rfl) | simp_all) | (refine Or.inr ?_; (try (conv => cbv)))))) (by (try (conv => cbv)); (repeat' (first | exact trivial | rfl | exact SEq.mk rfl | (exact SEq.mk (by first | assumption | (symm; assumption))) | (simp only [I.val]; done) | (simp only [I.val]; omega) | omega | assumption | (refine And.intro ?_ ?_) | exact Or.inl rfl | exact Or.inr (by assumption) | exact List.Mem.head _ | exact List.Mem.tail _ (List.Mem.head _) | exact ⟨_, rfl⟩ | exact ⟨_, rfl, Or.inl rfl⟩ | (refine ⟨_, rfl, Or.inr ?_⟩; (try (conv => cbv))) | (simp only [I.val] at *; first | omega | (subst_vars; rfl) | simp_all) | (refine Or.inr ?_; (try (conv => cbv))))))) ⟨p', rfl, by omega, by omega, by omega⟩
theorem wordsOf_bd (c : Int) : 0 ≤ wordsOf c ∧ wordsOf c ≤ 32 := by
  unfold wordsOf; split
  · omega
  · split
    · omega
    · split
      · omega
      · split <;> omega
theorem lenS_lx (n : Int) (L : List PV) : CallF (fun _ => Tryz.prog) 55 [.ptr 0 (.lit 0)] [(0, .mix [.sl 1 101 2 (.lit 0) (.sym n)]), (1, .pure true L)] 2
    (fun r h n' => r = .p (.int .i64 (.sym n)) ∧ h = [(0, .mix [.sl 1 101 2 (.lit 0) (.sym n)]), (1, .pure true L)] ∧ n' = 2) := by
  refine callF_of_body tok Tryz.func55 (by kernel_rfl) rfl rfl rfl ?_; conv => cbv
  refine RetF.mk [.p (.int .i64 (.sym n))] [(0, .mix [.sl 1 101 2 (.lit 0) (.sym n)]), (1, .pure true L)] 2 (Re.of [(0, 0), (1, 1)] [] (by first | exact Nat.zero_le _ | exact Nat.le_refl _ | decide | (dsimp only; decide)) rfl rfl (by (try (conv => cbv)); (repeat' (first | exact trivial | rfl | exact SEq.mk rfl | (exact SEq.mk (by first | assumption | (symm; assumption))) | (simp only [I.val]; done) | (simp only [I.val]; omega) | omega | assumption | (refine And.intro ?_ ?_) | exact Or.inl rfl | exact Or.inr (by assumption) | exact List.Mem.head _ | exact List.Mem.tail _ (List.Mem.head _) | exact ⟨_, rfl⟩ | exact ⟨_, rfl, Or.inl rfl⟩ | (refine ⟨_, rfl, Or.inr ?_⟩; (try (conv => cbv))) | (simp only [I.val] at *; first | omega | (subst_vars; rfl) | simp_all) | (refine Or.inr ?_; (try (conv => cbv)))))) (by (try (conv => cbv)); (repeat' (first | exact trivial | rfl | exact SEq.mk rfl | (exact SEq.mk (by first | assumption | (symm; assumption))) | (simp only [I.val]; done) | (simp only [I.val]; omega) | omega | assumption | (refine And.intro ?_ ?_) | exact Or.inl rfl | exact Or.inr (by assumption) | exact List.Mem.head _ | exact List.Mem.tail _ (List.Mem.head _) | exact ⟨_, rfl⟩ | exact ⟨_, rfl, Or.inl rfl⟩ | (refine ⟨_, rfl, Or.inr ?_⟩; (try (conv => cbv))) | (simp only [I.val] at *; first | omega | (subst_vars; rfl) | simp_all) | (refine Or.inr ?_; (try (conv => cbv))))))) rfl ⟨rfl, rfl, rfl⟩
def R0 : List Rw := [(0, []), (0, [])]
theorem alloced_new {c i s : Int} {b : Bool} {R' : List Rw} (h : Alloced R0 c i s b R') : (slotsOf c = 0 ∧ b = false) ∨ (slotsOf c ≠ 0 ∧ i = 0 ∧ s = 0 ∧ b = true ∧ R' = [(c, (List.replicate (slotsOf c) false).set 0 true), (0, [])]) := by
  cases h with
  | no h => exact .inl ⟨h, rfl⟩
  | old i s l h0 hi hs h1 h2 =>
    exfalso
    have hl : l = [] := by
      rcases i with _ | _ | i
      · exact (congrArg Prod.snd (Option.some.inj hi)).symm
      · exact (congrArg Prod.snd (Option.some.inj hi)).symm
      · simp [R0] at hi
    rw [hl] at hs
    simp at hs
  | fresh i d h0 h2 hi h3 =>
    rcases i with _ | i
    · exact .inr ⟨h0, rfl, rfl, rfl, rfl⟩
    · exact absurd rfl (h3 0 (Nat.succ_pos _) 0)
  | full h0 h2 h3 => exact absurd rfl (h3 0 0)
theorem slots_iff (c : Int) : slotsOf c ≠ 0 ↔ 0 ≤ c ∧ c ≤ 3 := by
  unfold slotsOf
  constructor
  · intro h
    split at h
    · omega
    · split at h
      · omega
      · split at h
        · omega
        · split at h
          · omega
          · exact absurd rfl h
  · intro h
    split
    · decide
    · split
      · decide
      · split
        · decide
        · split
          · decide
          · omega
theorem R0_ok : ∀ e ∈ R0, e.2.length ≤ 8 := by decide
end Go.Proofs.YtllafhhnciobhaaGreatDoor
