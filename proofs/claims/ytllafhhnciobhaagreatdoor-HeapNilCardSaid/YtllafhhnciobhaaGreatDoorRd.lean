/-
  Layer 6: a new one of the reference.
-/
import Derived.Test.YtllafhhnciobhaaGreatDoorRa
namespace Go.Proofs.YtllafhhnciobhaaGreatDoor

open Go Go.LX
set_option maxRecDepth 100000
set_option linter.unusedVariables false
set_option linter.unusedSimpArgs false

theorem pvles_snoc6 : ∀ (L M : List PV) (u v : PV), pvles L M → pvle u v → pvles (L ++ [u]) (M ++ [v])
  | [], [], _, _, _, k => ⟨k, trivial⟩
  | x :: L, y :: M, u, v, h, k => ⟨h.1, pvles_snoc6 L M u v h.2 k⟩
theorem bpv_rep (k : Nat) : bpv (List.replicate k (0, [])) ++ flags [] = bpv (List.replicate (k + 1) (0, [])) := by
  induction k with
  | zero => rfl
  | succ k ih => rw [List.replicate_succ, bpv, List.append_assoc, ih, ← bpv]; rfl
theorem cpv_rep (k : Nat) : cpv (List.replicate k (0, [])) ++ [.int .i64 (.sym (-1))] = cpv (List.replicate (k + 1) (0, [])) := by
  rw [List.replicate_succ', cpv, cpv, List.map_append]; rfl
set_option maxHeartbeats 4000000 in
theorem rnew_lx (n : Int) (hn : 2 ≤ n ∧ n ≤ 128) : CallF (fun _ => Tryz.prog) 74 [.p (.int .i64 (.sym n))] [] 0
    (fun r h n' => ∃ C B : List PV, r = .tup [.ptr 0 (.lit 0), .p (.int .i64 (.lit 0))] ∧ h = [(0, .mix [.sl 1 3 1 (.lit 0) (.sym n), .sl 2 120 8 (.lit 0) (.sym n)]), (1, .pure true C), (2, .pure true B)] ∧ n' = 3 ∧ C = cpv (List.replicate n.toNat (0, [])) ∧ B = bpv (List.replicate n.toNat (0, []))) := by
  obtain ⟨rr, hrr⟩ : ∃ rr : Nat → List Rw, ∀ k, rr k = List.replicate k (0, []) := ⟨_, fun _ => rfl⟩
  refine callF_of_body tok Tryz.func74 (by kernel_rfl) rfl rfl rfl ?_; conv => cbv
  refine Br.mk (fun g => ?_) (fun g => ?_)
  case refine_1 =>
    have gf : False := by have g : n < 2 := g; omega
    cases gf
  conv => cbv
  refine Br.mk (fun g => ?_) (fun g => ?_)
  case refine_1 =>
    have gf : False := by have g : 128 < n := g; omega
    cases gf
  conv => cbv
  refine LoopF.mk (fun m s => ∃ (i : Int) (C B : List PV), s = ⟨.p (.int .i64 (.sym n)) :: (undefs 3 ++ .ptr 0 (.lit 0) :: .p (.int .i64 (.sym i)) :: undefs 33), [(0, .mix [.sl 1 3 1 (.lit 0) (.sym i), .sl 2 120 8 (.lit 0) (.sym i)]), (1, .pure true C), (2, .pure true B)], 3⟩ ∧ 0 ≤ i ∧ i ≤ n ∧ C = cpv (rr i.toNat) ∧ B = bpv (rr i.toNat) ∧ m = (n - i).toNat) n.toNat _
    (Re.of [(0, 0)] [1, 2] (by first | exact Nat.zero_le _ | exact Nat.le_refl _ | decide | (dsimp only; decide)) rfl rfl (by (try (conv => cbv)); (repeat' (first | exact trivial | rfl | exact SEq.mk rfl | (exact SEq.mk (by first | assumption | (symm; assumption))) | (simp only [I.val]; done) | (simp only [I.val]; omega) | omega | assumption | (refine And.intro ?_ ?_) | exact Or.inl rfl | exact Or.inr (by assumption) | exact List.Mem.head _ | exact List.Mem.tail _ (List.Mem.head _) | exact ⟨_, rfl⟩ | exact ⟨_, rfl, Or.inl rfl⟩ | (refine ⟨_, rfl, Or.inr ?_⟩; (try (conv => cbv))) | (simp only [I.val] at *; first | omega | (subst_vars; rfl) | simp_all) | (refine Or.inr ?_; (try (conv => cbv)))))) (by (try (conv => cbv)); (repeat' (first | exact trivial | rfl | exact SEq.mk rfl | (exact SEq.mk (by first | assumption | (symm; assumption))) | (simp only [I.val]; done) | (simp only [I.val]; omega) | omega | assumption | (refine And.intro ?_ ?_) | exact Or.inl rfl | exact Or.inr (by assumption) | exact List.Mem.head _ | exact List.Mem.tail _ (List.Mem.head _) | exact ⟨_, rfl⟩ | exact ⟨_, rfl, Or.inl rfl⟩ | (refine ⟨_, rfl, Or.inr ?_⟩; (try (conv => cbv))) | (simp only [I.val] at *; first | omega | (subst_vars; rfl) | simp_all) | (refine Or.inr ?_; (try (conv => cbv))))))) ⟨0, [], [], rfl, by omega, by omega, by rw [hrr]; rfl, by rw [hrr]; rfl, by omega⟩ ?_
  rintro m s ⟨i, C, B, rfl, hi0, hi1, hC, hB, hm⟩
  have hCl : (C.length : Int) = i := by rw [hC, cpv_length, hrr, List.length_replicate]; omega
  have hBl : (B.length : Int) = 8 * i := by rw [hB, bpv_length, hrr, List.length_replicate]; omega
  conv => cbv
  refine Br.mk (fun gi => ?_) (fun gi => ?_)
  · have gi : i < n := gi
    obtain ⟨m', rfl⟩ : ∃ k', m = k' + 1 := ⟨m - 1, by omega⟩
    conv => cbv
    refine drawF_of_any (by kernel_rfl) (drawAny_split 6 13 (by kernel_rfl) (drawAny_split 7 13 (by kernel_rfl) (any_of_drawn tok [(6, [12, 11, 10, 9, 8, 5, 4, 3, 2, 1, 0]), (7, [12, 11, 10, 9, 8, 1, 0]), (13, [11, 10, 9, 8, 1, 0]), (14, [1, 0]), (17, [1]), (20, [])] [0, 1, 2, 3, 4, 5, 8, 9, 10, 11, 12, 6, 7, 13, 14, 15, 16, 17, 18, 19, 20] (by kernel_rfl) ?_) (any_of_drawn tok [(6, [12, 11, 10, 9, 8, 5, 4, 3, 2, 1, 0]), (13, [11, 10, 9, 8, 5, 4, 3, 2, 1, 0]), (7, [11, 10, 9, 8, 1, 0]), (14, [1, 0]), (17, [1]), (20, [])] [0, 1, 2, 3, 4, 5, 8, 9, 10, 11, 12, 6, 13, 7, 14, 15, 16, 17, 18, 19, 20] (by kernel_rfl) ?_)) (any_of_drawn tok [(13, [11, 10, 9, 8, 5, 4, 3, 2, 1, 0]), (6, [11, 10, 9, 8, 5, 4, 3, 2, 1, 0]), (7, [11, 10, 9, 8, 1, 0]), (14, [1, 0]), (17, [1]), (20, [])] [0, 1, 2, 3, 4, 5, 8, 9, 10, 11, 12, 13, 6, 7, 14, 15, 16, 17, 18, 19, 20] (by kernel_rfl) ?_))
    · conv => cbv
      refine Room.new rfl ?_
      conv => cbv
      refine Room.new ⟨?_, ?_, ?_⟩ ?_
      · show (C.length : Int) = i * 1; omega
      · show (i + 1) * 8 ≤ 140737488355328; omega
      · show i + 1 ≤ 9223372036854775807; omega
      conv => cbv
      refine Upd.mk fun C1 hC1 => ?_
      have hC1 : C1 = C ++ [.int .i64 (.lit (-1))] := hC1
      conv => cbv
      refine Sum.mk fun ic hic => ?_
      have hic : ic = i + 1 := hic
      conv => cbv
      refine Room.new rfl ?_
      conv => cbv
      refine Room.new ⟨?_, ?_, ?_⟩ ?_
      · show (B.length : Int) = i * ((8 : Nat) : Int); omega
      · show (i + 1) * 8 ≤ 140737488355328; omega
      · show i + 1 ≤ 9223372036854775807; omega
      conv => cbv
      refine Upd.mk fun B1 hB1 => ?_
      have hB1 : B1 = B ++ flags [] := hB1
      conv => cbv
      refine Sum.mk fun ib hib => ?_
      have hib : ib = i + 1 := hib
      conv => cbv
      refine Fit.mk (by show (-9223372036854775808 : Int) ≤ i + 1; omega) (by show i + 1 ≤ 9223372036854775807; omega) fun i2 hi2 => ?_
      have hi2 : i2 = i + 1 := hi2
      obtain ⟨C9, hC9⟩ : ∃ C9, C9 = cpv (rr i2.toNat) := ⟨_, rfl⟩
      have hB9 : B1 = bpv (rr i2.toNat) := by rw [hB1, hB, hrr, hrr, show i2.toNat = i.toNat + 1 by omega, bpv_rep]
      have hle : pvles C1 C9 := by
        rw [hC1, hC9, hC, hrr, hrr, show i2.toNat = i.toNat + 1 by omega, ← cpv_rep]
        exact pvles_snoc6 _ _ _ _ (pvles_self _) (by simp [pvle, I.val])
      clear hC1 hB1
      have hci : ic = i2 := by omega
      have hbi : ib = i2 := by omega
      unfold pvles at hle
      conv => cbv
      refine Again.mk m' _ (Nat.lt_succ_self _) (Re.of [(0, 0), (4, 1), (6, 2)] [] (by first | exact Nat.zero_le _ | exact Nat.le_refl _ | decide | (dsimp only; decide)) rfl rfl (by (try (conv => cbv)); (repeat' (first | exact trivial | rfl | exact SEq.mk rfl | (exact SEq.mk (by first | assumption | (symm; assumption))) | (simp only [I.val]; done) | (simp only [I.val]; omega) | omega | assumption | (refine And.intro ?_ ?_) | exact Or.inl rfl | exact Or.inr (by assumption) | exact List.Mem.head _ | exact List.Mem.tail _ (List.Mem.head _) | exact ⟨_, rfl⟩ | exact ⟨_, rfl, Or.inl rfl⟩ | (refine ⟨_, rfl, Or.inr ?_⟩; (try (conv => cbv))) | (simp only [I.val] at *; first | omega | (subst_vars; rfl) | simp_all) | (refine Or.inr ?_; (try (conv => cbv)))))) (by (try (conv => cbv)); (repeat' (first | exact trivial | rfl | exact SEq.mk rfl | (exact SEq.mk (by first | assumption | (symm; assumption))) | (simp only [I.val]; done) | (simp only [I.val]; omega) | omega | assumption | (refine And.intro ?_ ?_) | exact Or.inl rfl | exact Or.inr (by assumption) | exact List.Mem.head _ | exact List.Mem.tail _ (List.Mem.head _) | exact ⟨_, rfl⟩ | exact ⟨_, rfl, Or.inl rfl⟩ | (refine ⟨_, rfl, Or.inr ?_⟩; (try (conv => cbv))) | (simp only [I.val] at *; first | omega | (subst_vars; rfl) | simp_all) | (refine Or.inr ?_; (try (conv => cbv))))))) ⟨i2, C9, B1, rfl, by omega, by omega, hC9, hB9, by omega⟩
    · conv => cbv
      refine Room.new rfl ?_
      conv => cbv
      refine Room.new ⟨?_, ?_, ?_⟩ ?_
      · show (C.length : Int) = i * 1; omega
      · show (i + 1) * 8 ≤ 140737488355328; omega
      · show i + 1 ≤ 9223372036854775807; omega
      conv => cbv
      refine Upd.mk fun C1 hC1 => ?_
      have hC1 : C1 = C ++ [.int .i64 (.lit (-1))] := hC1
      conv => cbv
      refine Sum.mk fun ic hic => ?_
      have hic : ic = i + 1 := hic
      conv => cbv
      refine Room.new rfl ?_
      conv => cbv
      refine Room.new ⟨?_, ?_, ?_⟩ ?_
      · show (B.length : Int) = i * ((8 : Nat) : Int); omega
      · show (i + 1) * 8 ≤ 140737488355328; omega
      · show i + 1 ≤ 9223372036854775807; omega
      conv => cbv
      refine Upd.mk fun B1 hB1 => ?_
      have hB1 : B1 = B ++ flags [] := hB1
      conv => cbv
      refine Sum.mk fun ib hib => ?_
      have hib : ib = i + 1 := hib
      conv => cbv
      refine Fit.mk (by show (-9223372036854775808 : Int) ≤ i + 1; omega) (by show i + 1 ≤ 9223372036854775807; omega) fun i2 hi2 => ?_
      have hi2 : i2 = i + 1 := hi2
      obtain ⟨C9, hC9⟩ : ∃ C9, C9 = cpv (rr i2.toNat) := ⟨_, rfl⟩
      have hB9 : B1 = bpv (rr i2.toNat) := by rw [hB1, hB, hrr, hrr, show i2.toNat = i.toNat + 1 by omega, bpv_rep]
      have hle : pvles C1 C9 := by
        rw [hC1, hC9, hC, hrr, hrr, show i2.toNat = i.toNat + 1 by omega, ← cpv_rep]
        exact pvles_snoc6 _ _ _ _ (pvles_self _) (by simp [pvle, I.val])
      clear hC1 hB1
      have hci : ic = i2 := by omega
      have hbi : ib = i2 := by omega
      unfold pvles at hle
      conv => cbv
      refine Again.mk m' _ (Nat.lt_succ_self _) (Re.of [(0, 0), (5, 1), (6, 2)] [] (by first | exact Nat.zero_le _ | exact Nat.le_refl _ | decide | (dsimp only; decide)) rfl rfl (by (try (conv => cbv)); (repeat' (first | exact trivial | rfl | exact SEq.mk rfl | (exact SEq.mk (by first | assumption | (symm; assumption))) | (simp only [I.val]; done) | (simp only [I.val]; omega) | omega | assumption | (refine And.intro ?_ ?_) | exact Or.inl rfl | exact Or.inr (by assumption) | exact List.Mem.head _ | exact List.Mem.tail _ (List.Mem.head _) | exact ⟨_, rfl⟩ | exact ⟨_, rfl, Or.inl rfl⟩ | (refine ⟨_, rfl, Or.inr ?_⟩; (try (conv => cbv))) | (simp only [I.val] at *; first | omega | (subst_vars; rfl) | simp_all) | (refine Or.inr ?_; (try (conv => cbv)))))) (by (try (conv => cbv)); (repeat' (first | exact trivial | rfl | exact SEq.mk rfl | (exact SEq.mk (by first | assumption | (symm; assumption))) | (simp only [I.val]; done) | (simp only [I.val]; omega) | omega | assumption | (refine And.intro ?_ ?_) | exact Or.inl rfl | exact Or.inr (by assumption) | exact List.Mem.head _ | exact List.Mem.tail _ (List.Mem.head _) | exact ⟨_, rfl⟩ | exact ⟨_, rfl, Or.inl rfl⟩ | (refine ⟨_, rfl, Or.inr ?_⟩; (try (conv => cbv))) | (simp only [I.val] at *; first | omega | (subst_vars; rfl) | simp_all) | (refine Or.inr ?_; (try (conv => cbv))))))) ⟨i2, C9, B1, rfl, by omega, by omega, hC9, hB9, by omega⟩
    · conv => cbv
      refine Room.new rfl ?_
      conv => cbv
      refine Room.new ⟨?_, ?_, ?_⟩ ?_
      · show (C.length : Int) = i * 1; omega
      · show (i + 1) * 8 ≤ 140737488355328; omega
      · show i + 1 ≤ 9223372036854775807; omega
      conv => cbv
      refine Upd.mk fun C1 hC1 => ?_
      have hC1 : C1 = C ++ [.int .i64 (.lit (-1))] := hC1
      conv => cbv
      refine Sum.mk fun ic hic => ?_
      have hic : ic = i + 1 := hic
      conv => cbv
      refine Room.new rfl ?_
      conv => cbv
      refine Room.new ⟨?_, ?_, ?_⟩ ?_
      · show (B.length : Int) = i * ((8 : Nat) : Int); omega
      · show (i + 1) * 8 ≤ 140737488355328; omega
      · show i + 1 ≤ 9223372036854775807; omega
      conv => cbv
      refine Upd.mk fun B1 hB1 => ?_
      have hB1 : B1 = B ++ flags [] := hB1
      conv => cbv
      refine Sum.mk fun ib hib => ?_
      have hib : ib = i + 1 := hib
      conv => cbv
      refine Fit.mk (by show (-9223372036854775808 : Int) ≤ i + 1; omega) (by show i + 1 ≤ 9223372036854775807; omega) fun i2 hi2 => ?_
      have hi2 : i2 = i + 1 := hi2
      obtain ⟨C9, hC9⟩ : ∃ C9, C9 = cpv (rr i2.toNat) := ⟨_, rfl⟩
      have hB9 : B1 = bpv (rr i2.toNat) := by rw [hB1, hB, hrr, hrr, show i2.toNat = i.toNat + 1 by omega, bpv_rep]
      have hle : pvles C1 C9 := by
        rw [hC1, hC9, hC, hrr, hrr, show i2.toNat = i.toNat + 1 by omega, ← cpv_rep]
        exact pvles_snoc6 _ _ _ _ (pvles_self _) (by simp [pvle, I.val])
      clear hC1 hB1
      have hci : ic = i2 := by omega
      have hbi : ib = i2 := by omega
      unfold pvles at hle
      conv => cbv
      refine Again.mk m' _ (Nat.lt_succ_self _) (Re.of [(0, 0), (5, 1), (6, 2)] [] (by first | exact Nat.zero_le _ | exact Nat.le_refl _ | decide | (dsimp only; decide)) rfl rfl (by (try (conv => cbv)); (repeat' (first | exact trivial | rfl | exact SEq.mk rfl | (exact SEq.mk (by first | assumption | (symm; assumption))) | (simp only [I.val]; done) | (simp only [I.val]; omega) | omega | assumption | (refine And.intro ?_ ?_) | exact Or.inl rfl | exact Or.inr (by assumption) | exact List.Mem.head _ | exact List.Mem.tail _ (List.Mem.head _) | exact ⟨_, rfl⟩ | exact ⟨_, rfl, Or.inl rfl⟩ | (refine ⟨_, rfl, Or.inr ?_⟩; (try (conv => cbv))) | (simp only [I.val] at *; first | omega | (subst_vars; rfl) | simp_all) | (refine Or.inr ?_; (try (conv => cbv)))))) (by (try (conv => cbv)); (repeat' (first | exact trivial | rfl | exact SEq.mk rfl | (exact SEq.mk (by first | assumption | (symm; assumption))) | (simp only [I.val]; done) | (simp only [I.val]; omega) | omega | assumption | (refine And.intro ?_ ?_) | exact Or.inl rfl | exact Or.inr (by assumption) | exact List.Mem.head _ | exact List.Mem.tail _ (List.Mem.head _) | exact ⟨_, rfl⟩ | exact ⟨_, rfl, Or.inl rfl⟩ | (refine ⟨_, rfl, Or.inr ?_⟩; (try (conv => cbv))) | (simp only [I.val] at *; first | omega | (subst_vars; rfl) | simp_all) | (refine Or.inr ?_; (try (conv => cbv))))))) ⟨i2, C9, B1, rfl, by omega, by omega, hC9, hB9, by omega⟩
  · have gi : ¬ i < n := gi
    have hin : i = n := by omega
    rw [hin, hrr] at hC hB
    conv => cbv
    refine RetF.mk [.ptr 0 (.lit 0), .p (.int .i64 (.lit 0))] [(0, .mix [.sl 1 3 1 (.lit 0) (.sym n), .sl 2 120 8 (.lit 0) (.sym n)]), (1, .pure true C), (2, .pure true B)] 3 (Re.of [(0, 0), (1, 1), (2, 2)] [] (by first | exact Nat.zero_le _ | exact Nat.le_refl _ | decide | (dsimp only; decide)) rfl rfl (by (try (conv => cbv)); (repeat' (first | exact trivial | rfl | exact SEq.mk rfl | (exact SEq.mk (by first | assumption | (symm; assumption))) | (simp only [I.val]; done) | (simp only [I.val]; omega) | omega | assumption | (refine And.intro ?_ ?_) | exact Or.inl rfl | exact Or.inr (by assumption) | exact List.Mem.head _ | exact List.Mem.tail _ (List.Mem.head _) | exact ⟨_, rfl⟩ | exact ⟨_, rfl, Or.inl rfl⟩ | (refine ⟨_, rfl, Or.inr ?_⟩; (try (conv => cbv))) | (simp only [I.val] at *; first | omega | (subst_vars; rfl) | simp_all) | (refine Or.inr ?_; (try (conv => cbv)))))) (by (try (conv => cbv)); (repeat' (first | exact trivial | rfl | exact SEq.mk rfl | (exact SEq.mk (by first | assumption | (symm; assumption))) | (simp only [I.val]; done) | (simp only [I.val]; omega) | omega | assumption | (refine And.intro ?_ ?_) | exact Or.inl rfl | exact Or.inr (by assumption) | exact List.Mem.head _ | exact List.Mem.tail _ (List.Mem.head _) | exact ⟨_, rfl⟩ | exact ⟨_, rfl, Or.inl rfl⟩ | (refine ⟨_, rfl, Or.inr ?_⟩; (try (conv => cbv))) | (simp only [I.val] at *; first | omega | (subst_vars; rfl) | simp_all) | (refine Or.inr ?_; (try (conv => cbv))))))) rfl ⟨C, B, rfl, rfl, rfl, hC, hB⟩
end Go.Proofs.YtllafhhnciobhaaGreatDoor
