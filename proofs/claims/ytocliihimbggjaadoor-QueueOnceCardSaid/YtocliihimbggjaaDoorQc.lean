/-
  Layer 20: a queue as it is written.
-/
import Derived.Test.YtocliihimbggjaaDoorQb
namespace Go.Proofs.YtocliihimbggjaaDoor
open Go Go.LX
set_option maxRecDepth 100000
set_option linter.unusedVariables false

theorem take_next (A : List Int) (i : Nat) (x : Int) (h : A[i]? = some x) : A.take (i + 1) = A.take i ++ [x] := by
  rw [List.take_add_one, h]; rfl
set_option maxHeartbeats 2000000 in
theorem write_lx (A : List Int) (k : Int) (L : List PV) (hL : L = ints A) (hk : k = A.length) (hA : ∀ a ∈ A, i64 a) (hl : A.length ≤ 1000) (o : Unit → Obj) (ho : IsPow o) : CallF (fun _ => Tryd.prog) 34 [.p (.vsl (.sym k) true L)] [(0, .fix 2 o)] 1 (fun r h n => (∃ z : ByteArray, r = .p (.str fun _ => z) ∧ z = ⟨(enc A).toArray⟩) ∧ h = [(0, .fix 2 o)] ∧ n = 1) := by
  refine callF_of_body tok Tryd.func34 (by kernel_rfl) rfl rfl rfl ?_; conv => cbv
  refine LoopF.mk (fun m s => ∃ (i j : Int) (Lb : List PV) (y : ByteArray), s = ⟨.p (.vsl (.sym k) true L) :: .undef :: .undef :: .ptr 1 (.lit 0) :: .undef :: .undef :: .p (.vsl (.sym k) true L) :: .p (.int .i64 (.sym k)) :: .p (.int .i64 (.sym i)) :: undefs 9, [(1, .bld 72 [.sl 2 5 1 (.lit 0) (.sym j)]), (2, .pure true Lb), (0, .fix 2 o)], 3⟩ ∧
      0 ≤ i ∧ i ≤ k ∧ y = ⟨(enc (A.take i.toNat)).toArray⟩ ∧ Lb = bytesPV y ∧ j = y.size ∧ m = (k - i).toNat) k.toNat _
    (Re.of [(0, 0), (1, 1)] [2] (by first | exact Nat.zero_le _ | exact Nat.le_refl _ | decide | (dsimp only; decide)) rfl rfl (by (try (conv => cbv)); (repeat' (first | exact trivial | rfl | exact SEq.mk rfl | (exact SEq.mk (by first | assumption | (symm; assumption))) | (simp only [I.val]; done) | (simp only [I.val]; omega) | omega | assumption | (refine And.intro ?_ ?_) | exact Or.inl rfl | exact Or.inr (by assumption) | exact List.Mem.head _ | exact List.Mem.tail _ (List.Mem.head _) | exact ⟨_, rfl⟩ | exact ⟨_, rfl, Or.inl rfl⟩ | (refine ⟨_, rfl, Or.inr ?_⟩; (try (conv => cbv))) | (simp only [I.val] at *; first | omega | (subst_vars; rfl) | simp_all) | (refine Or.inr ?_; (try (conv => cbv)))))) (by (try (conv => cbv)); (repeat' (first | exact trivial | rfl | exact SEq.mk rfl | (exact SEq.mk (by first | assumption | (symm; assumption))) | (simp only [I.val]; done) | (simp only [I.val]; omega) | omega | assumption | (refine And.intro ?_ ?_) | exact Or.inl rfl | exact Or.inr (by assumption) | exact List.Mem.head _ | exact List.Mem.tail _ (List.Mem.head _) | exact ⟨_, rfl⟩ | exact ⟨_, rfl, Or.inl rfl⟩ | (refine ⟨_, rfl, Or.inr ?_⟩; (try (conv => cbv))) | (simp only [I.val] at *; first | omega | (subst_vars; rfl) | simp_all) | (refine Or.inr ?_; (try (conv => cbv))))))) ⟨0, 0, [], ⟨#[]⟩, rfl, by omega, by omega, rfl, rfl, rfl, by omega⟩ ?_
  rintro m s ⟨i, j, Lb, y, rfl, h0, h1, hy, hLb, hj, hm⟩
  have hys : y.size = (enc (A.take i.toNat)).length := by rw [hy]; show (enc (A.take i.toNat)).toArray.size = _; simp
  have hyl := enc_len (A.take i.toNat) (fun a ha => hA a (List.mem_of_mem_take ha))
  have htl : (A.take i.toNat).length ≤ 1000 := by rw [List.length_take]; omega
  conv => cbv
  refine Br.mk (fun g => ?_) (fun g => ?_)
  · have g : i < k := g
    obtain ⟨x, hx⟩ : ∃ x, A[i.toNat]? = some x := ⟨_, List.getElem?_eq_getElem (by omega)⟩
    have hxi := hA x (List.mem_of_getElem? hx)
    obtain ⟨m', rfl⟩ : ∃ m', m = m' + 1 := ⟨m - 1, by omega⟩
    conv => cbv
    refine Need.mk ⟨h0, g⟩ ?_
    conv => cbv
    refine Cell.mk (.int .i64 (.sym x)) (by show L[(i + 0).toNat]? = _; rw [Int.add_zero, hL, ints_get, hx]; rfl) ?_
    conv => cbv
    refine callF_frame (itoa_lx x hxi.1 hxi.2 o ho) [(0, 0)] rfl (by simp [hmapOk, nget, hget, renB, okB]) rfl rfl (fun r h' n' ⟨⟨t, e1, ht⟩, e2, e3⟩ => ?_)
    subst e1 e2 e3
    have hts : t.size = (Lib.itoa x).length := by rw [ht]; show (Lib.itoa x).toArray.size = _; simp
    have hil := Lib.itoa_length_le x hxi.1 hxi.2
    conv => cbv
    refine callF_frame (writeString_lx j Lb y t hLb hj (by omega)) [(0, 1), (1, 2)] rfl (by simp [hmapOk, nget, hget, renB, okB, renV, renVs, rn, okVs, okV]) rfl rfl (fun r h' n' ⟨m1, k1, L1, e1, e2, e3, hL1, hk1⟩ => ?_)
    subst e1 e2 e3
    have hyts : (y ++ t).size = y.size + t.size := ByteArray.size_append
    conv => cbv
    refine CallF.le (args0 := [.ptr 1 (.lit 0), .p (.int .i32 (.sym 32))]) (callF_frame (writeRune_lx k1 32 L1 (y ++ t) hL1 hk1 (by decide) (by decide) (by omega)) [(0, 1), (1, 3)] rfl (by simp [hmapOk, nget, hget, renB, okB, renV, renVs, rn, okVs, okV]) rfl rfl (fun r h' n' ⟨m2, k2, L2, e1, e2, e3, hL2, hk2⟩ => ?_)) (by simp [ales, ale, pvle, I.val])
    subst e1 e2 e3
    conv => cbv
    refine Fit.mk (by show (-9223372036854775808 : Int) ≤ i + 1; omega) (by show i + 1 ≤ 9223372036854775807; omega) fun i2 hi2 => ?_
    have hi2 : i2 = i + 1 := hi2
    have q1 : y ++ t ++ ⟨#[(32 : Int).toNat.toUInt8]⟩ = ⟨(enc (A.take i2.toNat)).toArray⟩ := by
      rw [show i2.toNat = i.toNat + 1 by omega, take_next A i.toNat x hx, enc_append, hy, ht]
      apply ByteArray.ext
      apply Array.ext'
      rw [ByteArray.data_append, ByteArray.data_append, Array.toList_append, Array.toList_append]
      simp [enc]
    conv => cbv
    refine Again.mk m' _ (Nat.lt_succ_self _) (Re.of [(0, 0), (1, 1), (4, 2)] [] (by first | exact Nat.zero_le _ | exact Nat.le_refl _ | decide | (dsimp only; decide)) rfl rfl (by (try (conv => cbv)); (repeat' (first | exact trivial | rfl | exact SEq.mk rfl | (exact SEq.mk (by first | assumption | (symm; assumption))) | (simp only [I.val]; done) | (simp only [I.val]; omega) | omega | assumption | (refine And.intro ?_ ?_) | exact Or.inl rfl | exact Or.inr (by assumption) | exact List.Mem.head _ | exact List.Mem.tail _ (List.Mem.head _) | exact ⟨_, rfl⟩ | exact ⟨_, rfl, Or.inl rfl⟩ | (refine ⟨_, rfl, Or.inr ?_⟩; (try (conv => cbv))) | (simp only [I.val] at *; first | omega | (subst_vars; rfl) | simp_all) | (refine Or.inr ?_; (try (conv => cbv)))))) (by (try (conv => cbv)); (repeat' (first | exact trivial | rfl | exact SEq.mk rfl | (exact SEq.mk (by first | assumption | (symm; assumption))) | (simp only [I.val]; done) | (simp only [I.val]; omega) | omega | assumption | (refine And.intro ?_ ?_) | exact Or.inl rfl | exact Or.inr (by assumption) | exact List.Mem.head _ | exact List.Mem.tail _ (List.Mem.head _) | exact ⟨_, rfl⟩ | exact ⟨_, rfl, Or.inl rfl⟩ | (refine ⟨_, rfl, Or.inr ?_⟩; (try (conv => cbv))) | (simp only [I.val] at *; first | omega | (subst_vars; rfl) | simp_all) | (refine Or.inr ?_; (try (conv => cbv))))))) ⟨i2, k2, L2, _, rfl, by omega, by omega, q1, hL2, hk2, by omega⟩
  · have g : ¬ i < k := g
    have hik : i.toNat = A.length := by omega
    conv => cbv
    refine callF_frame (string_lx j Lb y hLb hj) [(0, 1), (1, 2)] rfl (by simp [hmapOk, nget, hget, renB, okB, renV, renVs, rn, okVs, okV]) rfl rfl (fun r h' n' ⟨e1, e2, e3⟩ => ?_)
    subst e1 e2 e3
    conv => cbv
    refine RetF.mk [.p (.str fun _ => y)] [(0, .fix 2 o)] 1 (Re.of [(0, 0)] [] (by first | exact Nat.zero_le _ | exact Nat.le_refl _ | decide | (dsimp only; decide)) rfl rfl (by (try (conv => cbv)); (repeat' (first | exact trivial | rfl | exact SEq.mk rfl | (exact SEq.mk (by first | assumption | (symm; assumption))) | (simp only [I.val]; done) | (simp only [I.val]; omega) | omega | assumption | (refine And.intro ?_ ?_) | exact Or.inl rfl | exact Or.inr (by assumption) | exact List.Mem.head _ | exact List.Mem.tail _ (List.Mem.head _) | exact ⟨_, rfl⟩ | exact ⟨_, rfl, Or.inl rfl⟩ | (refine ⟨_, rfl, Or.inr ?_⟩; (try (conv => cbv))) | (simp only [I.val] at *; first | omega | (subst_vars; rfl) | simp_all) | (refine Or.inr ?_; (try (conv => cbv)))))) (by (try (conv => cbv)); (repeat' (first | exact trivial | rfl | exact SEq.mk rfl | (exact SEq.mk (by first | assumption | (symm; assumption))) | (simp only [I.val]; done) | (simp only [I.val]; omega) | omega | assumption | (refine And.intro ?_ ?_) | exact Or.inl rfl | exact Or.inr (by assumption) | exact List.Mem.head _ | exact List.Mem.tail _ (List.Mem.head _) | exact ⟨_, rfl⟩ | exact ⟨_, rfl, Or.inl rfl⟩ | (refine ⟨_, rfl, Or.inr ?_⟩; (try (conv => cbv))) | (simp only [I.val] at *; first | omega | (subst_vars; rfl) | simp_all) | (refine Or.inr ?_; (try (conv => cbv))))))) rfl ⟨⟨y, rfl, ?_⟩, rfl, rfl⟩
    rw [hy, hik, List.take_length]
end Go.Proofs.YtocliihimbggjaaDoor
