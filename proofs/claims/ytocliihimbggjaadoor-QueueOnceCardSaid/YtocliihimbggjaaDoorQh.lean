/-
  QueueOnce.
-/
import Derived.Test.YtocliihimbggjaaDoorQf
import Derived.Test.YtocliihimbggjaaDoorLxSplit
namespace Go.Proofs.YtocliihimbggjaaDoor
open Go Go.LX
set_option maxRecDepth 100000
set_option linter.unusedVariables false
set_option linter.unusedSimpArgs false

theorem queueRemove_nil : CallF (fun _ => Tryd.prog) 20 [.p .nilp, .p (.int .i64 (.sym 1))] [] 0 (fun r h n => r = .p (.bool false) ∧ h = [] ∧ n = 0) := by
  refine callF_of_body tok Tryd.func20 (by kernel_rfl) rfl rfl rfl ?_; conv => cbv
  refine callF_frame all_nil [] rfl trivial rfl rfl (fun r h' n' ⟨e1, e2, e3⟩ => ?_)
  subst e1 e2 e3
  conv => cbv
  refine CallF.le (args0 := [.p (.vsl (.sym 0) true (ints [])), .p (.int .i64 (.sym 1))]) (callF_frame (index_lx [] 1 0 (ints []) rfl rfl (by simp)) [] rfl trivial rfl rfl (fun r h' n' ⟨⟨m, e1, hm⟩, e2, e3⟩ => ?_)) (by simp [ales, ale, pvle, I.val])
  subst e1 e2 e3
  have hm : m = -1 := by
    rcases hm with ⟨i, h, _⟩ | ⟨_, h⟩
    · simp at h
    · exact h
  conv => cbv
  refine Br.mk (fun g => ?_) (fun g => ?_)
  case refine_2 =>
    have g : ¬ m < 0 := g
    exfalso
    omega
  conv => cbv
  refine RetF.mk [.p (.bool false)] [] 0 (Re.of [] [] (by first | exact Nat.zero_le _ | exact Nat.le_refl _ | decide | (dsimp only; decide)) rfl rfl (by (try (conv => cbv)); (repeat' (first | exact trivial | rfl | exact SEq.mk rfl | (exact SEq.mk (by first | assumption | (symm; assumption))) | (simp only [I.val]; done) | (simp only [I.val]; omega) | omega | assumption | (refine And.intro ?_ ?_) | exact Or.inl rfl | exact Or.inr (by assumption) | exact List.Mem.head _ | exact List.Mem.tail _ (List.Mem.head _) | exact ⟨_, rfl⟩ | exact ⟨_, rfl, Or.inl rfl⟩ | (refine ⟨_, rfl, Or.inr ?_⟩; (try (conv => cbv))) | (simp only [I.val] at *; first | omega | (subst_vars; rfl) | simp_all) | (refine Or.inr ?_; (try (conv => cbv)))))) (by (try (conv => cbv)); (repeat' (first | exact trivial | rfl | exact SEq.mk rfl | (exact SEq.mk (by first | assumption | (symm; assumption))) | (simp only [I.val]; done) | (simp only [I.val]; omega) | omega | assumption | (refine And.intro ?_ ?_) | exact Or.inl rfl | exact Or.inr (by assumption) | exact List.Mem.head _ | exact List.Mem.tail _ (List.Mem.head _) | exact ⟨_, rfl⟩ | exact ⟨_, rfl, Or.inl rfl⟩ | (refine ⟨_, rfl, Or.inr ?_⟩; (try (conv => cbv))) | (simp only [I.val] at *; first | omega | (subst_vars; rfl) | simp_all) | (refine Or.inr ?_; (try (conv => cbv))))))) rfl ⟨rfl, rfl, rfl⟩
theorem nodup_first {A : List Int} (h : A.Nodup) {k : Nat} {y : Int} (hy : A[k]? = some y) : ∀ d, d < k → A[d]? ≠ some y := fun d hd e => by
  obtain ⟨h1, h2⟩ := List.getElem?_eq_some_iff.1 hy
  obtain ⟨h3, h4⟩ := List.getElem?_eq_some_iff.1 e
  exact List.pairwise_iff_getElem.1 h d k h3 h1 hd (h4.trans h2.symm)
theorem nodup_app {A : List Int} {x : Int} (h : A.Nodup) (hx : x ∉ A) : (A ++ [x]).Nodup :=
  List.nodup_append.2 ⟨h, by simp, fun a ha b hb e => hx (by rw [← List.mem_singleton.1 hb, ← e]; exact ha)⟩
set_option maxHeartbeats 4000000 in
theorem queueOnce_law (m g : Int) (B : List Int) (lb : List PV) (hm : m = B.length) (hb : lb = ints B) (hB : ∀ e ∈ B, i64 e) (hg : i64 g) (o : Unit → Obj) (ho : IsPow o) :
    CallF (fun _ => Tryd.prog) 7 [.p (.vsl (.sym m) true lb), .p (.int .i64 (.sym g))] [(0, .fix 2 o)] 1 (fun r _ _ => r = .p (.bool true)) := by
  refine callF_of_body tok Tryd.func7 (by kernel_rfl) rfl rfl rfl ?_; conv => cbv
  refine callF_frame queueNew_lx [] rfl trivial rfl rfl (fun r h' n' ⟨z, e1, e2, e3, hz⟩ => ?_)
  subst e1 e2 e3
  conv => cbv
  refine callF_frame (awake20_lx o ho) [(0, 0)] rfl (by simp [hmapOk, nget, hget, renB, okB]) rfl rfl (fun r h' n' ⟨e1, e2, e3⟩ => ?_)
  subst e1 e2 e3
  conv => cbv
  refine LoopF.mk (fun k s => ∃ (i q : Int) (A : List Int) (z : ByteArray) (la : List PV), s = ⟨.p (.vsl (.sym m) true lb) :: .p (.int .i64 (.sym g)) :: .undef :: .undef :: .undef :: .ptr 1 (.lit 0) :: .sl 2 3 1 (.lit 0) (.sym q) :: .p (.int .i64 (.sym i)) :: undefs 136, [(0, .fix 2 o), (1, .pure false [.str fun _ => z]), (2, .pure true la)], 3⟩ ∧ 0 ≤ i ∧ i ≤ 30 ∧ (∀ x ∈ A, i64 x) ∧ A.Nodup ∧ (A.length : Int) ≤ i ∧ z = ⟨(enc A).toArray⟩ ∧ la = ints A ∧ q = A.length ∧ k = (30 - i).toNat) 30 _
    (Re.of [(0, 0), (1, 1)] [2] (by first | exact Nat.zero_le _ | exact Nat.le_refl _ | decide | (dsimp only; decide)) rfl rfl (by (try (conv => cbv)); (repeat' (first | exact trivial | rfl | exact SEq.mk rfl | (exact SEq.mk (by first | assumption | (symm; assumption))) | (simp only [I.val]; done) | (simp only [I.val]; omega) | omega | assumption | (refine And.intro ?_ ?_) | exact Or.inl rfl | exact Or.inr (by assumption) | exact List.Mem.head _ | exact List.Mem.tail _ (List.Mem.head _) | exact ⟨_, rfl⟩ | exact ⟨_, rfl, Or.inl rfl⟩ | (refine ⟨_, rfl, Or.inr ?_⟩; (try (conv => cbv))) | (simp only [I.val] at *; first | omega | (subst_vars; rfl) | simp_all) | (refine Or.inr ?_; (try (conv => cbv)))))) (by (try (conv => cbv)); (repeat' (first | exact trivial | rfl | exact SEq.mk rfl | (exact SEq.mk (by first | assumption | (symm; assumption))) | (simp only [I.val]; done) | (simp only [I.val]; omega) | omega | assumption | (refine And.intro ?_ ?_) | exact Or.inl rfl | exact Or.inr (by assumption) | exact List.Mem.head _ | exact List.Mem.tail _ (List.Mem.head _) | exact ⟨_, rfl⟩ | exact ⟨_, rfl, Or.inl rfl⟩ | (refine ⟨_, rfl, Or.inr ?_⟩; (try (conv => cbv))) | (simp only [I.val] at *; first | omega | (subst_vars; rfl) | simp_all) | (refine Or.inr ?_; (try (conv => cbv))))))) ⟨0, 0, [], z, [], rfl, by omega, by omega, by simp, List.nodup_nil, by simp, hz, rfl, rfl, by omega⟩ ?_
  rintro k s ⟨i, q, A, z, la, rfl, hi0, hi1, hA, hnd, hAl, hz, hla, hq, hk⟩
  have after : ∀ Q : Prop, Q → Q := fun _ h => h
  conv => cbv
  refine Br.mk (fun g1 => ?_) (fun g1 => ?_)
  · have g1 : i < m := g1
    conv => cbv
    refine Br.mk (fun g2 => ?_) (fun g2 => ?_)
    · have g2 : i < 30 := g2
      obtain ⟨k', rfl⟩ : ∃ k', k = k' + 1 := ⟨k - 1, by omega⟩
      obtain ⟨x, hx1⟩ : ∃ e, B[i.toNat]? = some e := ⟨_, List.getElem?_eq_getElem (by omega)⟩
      have hc1 : lb[i.toNat]? = some (.int .i64 (.sym x)) := by rw [hb, ints_get, hx1]; rfl
      have hx8 := hB _ (List.mem_of_getElem? hx1)
      conv => cbv
      refine drawn_sound tok (by kernel_rfl) [(5, [10, 9, 8, 7, 6]), (11, [])] [0, 1, 2, 3, 4, 6, 7, 8, 9, 10, 5, 11, 12] (by kernel_rfl) ?_; conv => cbv
      refine Need.mk ⟨hi0, g1⟩ ?_
      conv => cbv
      refine Cell.at i _ hc1 (by simp [I.val]) (by omega) ?_
      conv => cbv
      refine Need.mk ⟨hi0, g1⟩ ?_
      conv => cbv
      refine Cell.at i _ hc1 (by simp [I.val]) (by omega) ?_
      conv => cbv
      refine callF_frame (queueAdd_lx A x z hz hA hx8 (by omega) o ho) [(0, 0), (1, 1)] rfl (by simp [hmapOk, nget, hget, renB, okB]) rfl rfl (fun r h' n' ⟨b, z2, A2, e1, e2, e3, hz2, h4⟩ => ?_)
      subst e1 e2 e3
      conv => cbv
      refine callF_lend (in_lx A x q la hla hq (by omega)) (by simp [lends, lendV, hget, I.val, pvle]) (fun r h' n' ⟨⟨b, e1, _⟩, e2, e3⟩ => by subst e1 e2; exact ⟨trivial, trivial⟩) (fun r h' n' ⟨⟨c, e1, hc⟩, e2, e3⟩ => ?_)
      subst e1 e2 e3
      by_cases hxA : x ∈ A
      · obtain rfl : c = true := hc.2 hxA
        obtain ⟨rfl, hA2⟩ : b = false ∧ A2 = A := by
          rcases h4 with ⟨_, h, k⟩ | ⟨h, _⟩
          · exact ⟨h, k⟩
          · exact absurd hxA h
        rw [hA2] at hz2
        conv => cbv
        refine Need.mk ⟨hi0, g1⟩ ?_
        conv => cbv
        refine Cell.at i _ hc1 (by simp [I.val]) (by omega) ?_
        conv => cbv
        refine callF_lend (in_lx A x q la hla hq (by omega)) (by simp [lends, lendV, hget, I.val, pvle]) (fun r h' n' ⟨⟨b, e1, _⟩, e2, e3⟩ => by subst e1 e2; exact ⟨trivial, trivial⟩) (fun r h' n' ⟨⟨c, e1, hc⟩, e2, e3⟩ => ?_)
        subst e1 e2 e3
        obtain rfl : c = true := hc.2 hxA
        conv => cbv
        refine Fit.mk (by show (-9223372036854775808 : Int) ≤ i + 1; omega) (by show i + 1 ≤ 9223372036854775807; omega) fun i2 hi2 => ?_
        have hi2 : i2 = i + 1 := hi2
        have hle : (A.length : Int) ≤ i2 := by omega
        have hke : k' = (30 - i2).toNat := by omega
        conv => cbv
        refine Again.mk k' _ (Nat.lt_succ_self _) (Re.of [(0, 0), (1, 1), (2, 2)] [] (by first | exact Nat.zero_le _ | exact Nat.le_refl _ | decide | (dsimp only; decide)) rfl rfl (by (try (conv => cbv)); (repeat' (first | exact trivial | rfl | exact SEq.mk rfl | (exact SEq.mk (by first | assumption | (symm; assumption))) | (simp only [I.val]; done) | (simp only [I.val]; omega) | omega | assumption | (refine And.intro ?_ ?_) | exact Or.inl rfl | exact Or.inr (by assumption) | exact List.Mem.head _ | exact List.Mem.tail _ (List.Mem.head _) | exact ⟨_, rfl⟩ | exact ⟨_, rfl, Or.inl rfl⟩ | (refine ⟨_, rfl, Or.inr ?_⟩; (try (conv => cbv))) | (simp only [I.val] at *; first | omega | (subst_vars; rfl) | simp_all) | (refine Or.inr ?_; (try (conv => cbv)))))) (by (try (conv => cbv)); (repeat' (first | exact trivial | rfl | exact SEq.mk rfl | (exact SEq.mk (by first | assumption | (symm; assumption))) | (simp only [I.val]; done) | (simp only [I.val]; omega) | omega | assumption | (refine And.intro ?_ ?_) | exact Or.inl rfl | exact Or.inr (by assumption) | exact List.Mem.head _ | exact List.Mem.tail _ (List.Mem.head _) | exact ⟨_, rfl⟩ | exact ⟨_, rfl, Or.inl rfl⟩ | (refine ⟨_, rfl, Or.inr ?_⟩; (try (conv => cbv))) | (simp only [I.val] at *; first | omega | (subst_vars; rfl) | simp_all) | (refine Or.inr ?_; (try (conv => cbv))))))) ⟨i2, q, A, z2, la, rfl, by omega, by omega, hA, hnd, hle, hz2, hla, hq, hke⟩
      · obtain rfl : c = false := by
          cases c with
          | false => rfl
          | true => exact absurd (hc.1 rfl) hxA
        obtain ⟨rfl, hA2⟩ : b = true ∧ A2 = A ++ [x] := by
          rcases h4 with ⟨h, _⟩ | ⟨_, h, k⟩
          · exact absurd h hxA
          · exact ⟨h, k⟩
        rw [hA2] at hz2
        conv => cbv
        refine Need.mk ⟨hi0, g1⟩ ?_
        conv => cbv
        refine Cell.at i _ hc1 (by simp [I.val]) (by omega) ?_
        conv => cbv
        refine callF_lend (in_lx A x q la hla hq (by omega)) (by simp [lends, lendV, hget, I.val, pvle]) (fun r h' n' ⟨⟨b, e1, _⟩, e2, e3⟩ => by subst e1 e2; exact ⟨trivial, trivial⟩) (fun r h' n' ⟨⟨c, e1, hc⟩, e2, e3⟩ => ?_)
        subst e1 e2 e3
        obtain rfl : c = false := by
          cases c with
          | false => rfl
          | true => exact absurd (hc.1 rfl) hxA
        conv => cbv
        refine Need.mk ⟨hi0, g1⟩ ?_
        conv => cbv
        refine Cell.at i _ hc1 (by simp [I.val]) (by omega) ?_
        conv => cbv
        refine Room.new rfl ?_
        conv => cbv
        refine Room.new ⟨by rw [hla, ints_length]; show ((A.length : Nat) : Int) = q * 1; omega, by show (q + 1) * 8 ≤ 140737488355328; omega, by show q + 1 ≤ 9223372036854775807; omega⟩ ?_
        conv => cbv
        refine Upd.mk fun la2 hM => ?_
        have hM : la2 = la ++ [.int .i64 (.sym x)] := hM
        conv => cbv
        refine Sum.mk fun q2 hk => ?_
        have hk : q2 = q + 1 := hk
        have p1 : la2 = ints (A ++ [x]) := by rw [hM, hla, ints, ints, List.map_append]; rfl
        have p2 : q2 = (A ++ [x]).length := by rw [List.length_append]; show q2 = ((A.length + 1 : Nat) : Int); omega
        have p3 : ∀ e ∈ A ++ [x], i64 e := by
          intro e he
          rcases List.mem_append.1 he with he | he
          · exact hA e he
          · rw [List.mem_singleton.1 he]; exact hx8
        conv => cbv
        refine Fit.mk (by show (-9223372036854775808 : Int) ≤ i + 1; omega) (by show i + 1 ≤ 9223372036854775807; omega) fun i2 hi2 => ?_
        have hi2 : i2 = i + 1 := hi2
        have hle : ((A ++ [x]).length : Int) ≤ i2 := by rw [← p2]; omega
        have hke : k' = (30 - i2).toNat := by omega
        conv => cbv
        refine Again.mk k' _ (Nat.lt_succ_self _) (Re.of [(0, 0), (1, 1), (4, 2)] [] (by first | exact Nat.zero_le _ | exact Nat.le_refl _ | decide | (dsimp only; decide)) rfl rfl (by (try (conv => cbv)); (repeat' (first | exact trivial | rfl | exact SEq.mk rfl | (exact SEq.mk (by first | assumption | (symm; assumption))) | (simp only [I.val]; done) | (simp only [I.val]; omega) | omega | assumption | (refine And.intro ?_ ?_) | exact Or.inl rfl | exact Or.inr (by assumption) | exact List.Mem.head _ | exact List.Mem.tail _ (List.Mem.head _) | exact ⟨_, rfl⟩ | exact ⟨_, rfl, Or.inl rfl⟩ | (refine ⟨_, rfl, Or.inr ?_⟩; (try (conv => cbv))) | (simp only [I.val] at *; first | omega | (subst_vars; rfl) | simp_all) | (refine Or.inr ?_; (try (conv => cbv)))))) (by (try (conv => cbv)); (repeat' (first | exact trivial | rfl | exact SEq.mk rfl | (exact SEq.mk (by first | assumption | (symm; assumption))) | (simp only [I.val]; done) | (simp only [I.val]; omega) | omega | assumption | (refine And.intro ?_ ?_) | exact Or.inl rfl | exact Or.inr (by assumption) | exact List.Mem.head _ | exact List.Mem.tail _ (List.Mem.head _) | exact ⟨_, rfl⟩ | exact ⟨_, rfl, Or.inl rfl⟩ | (refine ⟨_, rfl, Or.inr ?_⟩; (try (conv => cbv))) | (simp only [I.val] at *; first | omega | (subst_vars; rfl) | simp_all) | (refine Or.inr ?_; (try (conv => cbv))))))) ⟨i2, q2, A ++ [x], z2, la2, rfl, by omega, by omega, p3, nodup_app hnd hxA, hle, hz2, p1, p2, hke⟩
    · have g2 : ¬ i < 30 := g2
      conv => cbv
      refine Br.mk (fun g3 => ?_) (fun g3 => ?_)
      · have g3 : 0 < q := g3
        conv => cbv
        refine Fit.wrap fun x hx => ?_
        have hx : x = IntKind.u64.wrap g := hx
        have hx0 : 0 ≤ x := by rw [hx]; simp [IntKind.wrap, IntKind.bits, IntKind.signed]; omega
        clear hx
        conv => cbv
        refine Fit.mk (show (0 : Int) ≤ q by omega) (show q ≤ 18446744073709551615 by omega) fun u hu => ?_
        have hu : u = q := hu
        conv => cbv
        refine Need.mk (show u ≠ 0 by omega) ?_
        conv => cbv
        refine Sum.mk fun t ht => ?_
        have ht : t = x % u := (show t = x.tmod u from ht).trans (Int.tmod_eq_emod_of_nonneg hx0)
        have ht0 : 0 ≤ t := by rw [ht]; exact Int.emod_nonneg _ (by omega)
        have ht1 : t < q := by rw [ht, hu]; exact Int.emod_lt_of_pos _ g3
        clear ht
        conv => cbv
        refine Fit.mk (by show (-9223372036854775808 : Int) ≤ t; omega) (by show t ≤ 9223372036854775807; omega) fun k2 hk2 => ?_
        have hk2 : k2 = t := hk2
        have hk0 : 0 ≤ k2 := by omega
        have hk1 : k2 < q := by omega
        clear hk2 ht0 ht1 hx0
        obtain ⟨y, hy⟩ : ∃ y, A[k2.toNat]? = some y := ⟨_, List.getElem?_eq_getElem (by omega)⟩
        have hcy : la[k2.toNat]? = some (.int .i64 (.sym y)) := by rw [hla, ints_get, hy]; rfl
        conv => cbv
        refine Need.mk ⟨hk0, hk1⟩ ?_
        conv => cbv
        refine Cell.at k2 _ hcy (by simp [I.val]) (by omega) ?_
        conv => cbv
        have hyA := List.mem_of_getElem? hy
        have hy8 := hA y hyA
        refine callF_frame (queueRemove_lx A y z hz hA hy8 (by omega) o ho) [(0, 0), (1, 1)] rfl (by simp [hmapOk, nget, hget, renB, okB]) rfl rfl (fun r h' n' ⟨b, z2, A2, e1, e2, e3, hz2, hA2, hb1⟩ => ?_)
        subst e1 e2 e3
        obtain rfl : b = true := hb1.2 hyA
        have hel : A2.length = A.length - 1 := by rw [hA2, List.length_erase_of_mem hyA]
        have hA28 : ∀ e ∈ A2, i64 e := fun e he => hA e (List.mem_of_mem_erase (hA2 ▸ he))
        have hyn : y ∉ A2 := by rw [hA2]; exact hnd.not_mem_erase
        conv => cbv
        refine callF_frame (queueAdd_lx A2 y z2 hz2 hA28 hy8 (by omega) o ho) [(0, 0), (1, 1)] rfl (by simp [hmapOk, nget, hget, renB, okB]) rfl rfl (fun r h' n' ⟨b, z3, A3, e1, e2, e3, hz3, h4⟩ => ?_)
        subst e1 e2 e3
        obtain ⟨rfl, hA3⟩ : b = true ∧ A3 = A2 ++ [y] := by
          rcases h4 with ⟨h, _⟩ | ⟨_, h, k⟩
          · exact absurd h hyn
          · exact ⟨h, k⟩
        have her := erase_first y A k2.toNat hy (nodup_first hnd hy)
        conv => cbv
        have hA38 : ∀ e ∈ A3, i64 e := by
          intro e he
          rw [hA3] at he
          rcases List.mem_append.1 he with he | he
          · exact hA28 e he
          · rw [List.mem_singleton.1 he]; exact hy8
        have hA3l : A3.length ≤ 40 := by rw [hA3, List.length_append]; show A2.length + 1 ≤ 40; omega
        clear h4 hb1
        refine drawF_of_any (by kernel_rfl) (drawAny_split 10 3 (by kernel_rfl) (any_of_drawn tok [(10, [7, 6, 5, 4, 2, 1, 0]), (3, [7, 6, 5, 4]), (8, []), (11, [])] [0, 1, 2, 4, 5, 6, 7, 9, 10, 3, 8, 11, 12] (by kernel_rfl) ?_)
          (drawAny_split 10 8 (by kernel_rfl) (any_of_drawn tok [(3, [9, 7, 6, 5, 4]), (10, [7, 6, 5, 4]), (8, []), (11, [])] [0, 1, 2, 4, 5, 6, 7, 9, 3, 10, 8, 11, 12] (by kernel_rfl) ?_) (any_of_drawn tok [(3, [9, 7, 6, 5, 4]), (8, [9]), (10, []), (11, [])] [0, 1, 2, 4, 5, 6, 7, 9, 3, 8, 10, 11, 12] (by kernel_rfl) ?_)))
        · conv => cbv
          refine Need.mk ⟨hk0, .inl (Int.le_of_lt hk1)⟩ ?_
          conv => cbv
          refine Fit.mk (by show (-9223372036854775808 : Int) ≤ k2 + 1; omega) (by show k2 + 1 ≤ 9223372036854775807; omega) fun k3 hk3 => ?_
          have hk3 : k3 = k2 + 1 := hk3
          conv => cbv
          by_cases he : k3 = q
          · refine Room.within ⟨by show 0 ≤ k3; omega, he⟩ ?_
            conv => cbv
            refine Room.within ⟨hk0, by rw [hla, ints_length]; show k2 * 1 ≤ ((A.length : Nat) : Int); omega⟩ ?_
            conv => cbv
            refine Upd.mk fun T1 hT1 => ?_
            have hT1 : T1 = ints (A.take k2.toNat) := by
              have h : T1 = la.take (k2.toNat * 1) := hT1
              rw [h, hla, Nat.mul_one, ints, ints, List.map_take]
            have hl1 : T1.length = k2.toNat := by rw [hT1, ints_length, List.length_take]; omega
            conv => cbv
            refine Need.mk ⟨by show k2 * 8 ≤ 140737488355328; omega, by show k2 ≤ 9223372036854775807; omega⟩ ?_
            conv => cbv
            refine Need.mk rfl ?_
            conv => cbv
            refine Room.new ⟨by rw [hl1]; show ((k2.toNat : Nat) : Int) = k2 * 1; omega, by show (k2 + 0) * 8 ≤ 140737488355328; omega, by show k2 + 0 ≤ 9223372036854775807; omega⟩ ?_
            conv => cbv
            refine Upd.mk fun T3 hT3 => ?_
            have hT3 : T3 = T1 ++ [] := hT3
            have hl3 : T3.length = k2.toNat := by rw [hT3, List.append_nil, hl1]
            have hTe : T3 = ints (A.erase y) := by rw [hT3, hT1, her, List.append_nil, List.drop_eq_nil_of_le (by omega), List.append_nil]
            conv => cbv
            refine Room.new rfl ?_
            conv => cbv
            refine Room.new ⟨by rw [hl3]; show ((k2.toNat : Nat) : Int) = k2 * 1; omega, by show (k2 + 1) * 8 ≤ 140737488355328; omega, by show k2 + 1 ≤ 9223372036854775807; omega⟩ ?_
            conv => cbv
            refine Upd.mk fun W hWW => ?_
            have hWW : W = T3 ++ [.int .i64 (.sym y)] := hWW
            have hW : W = ints A3 := by rw [hWW, hTe, hA3, hA2, ints, ints, List.map_append]; rfl
            conv => cbv
            refine Sum.mk fun k9 hk99 => ?_
            have hk99 : k9 = k2 + 1 := hk99
            have hk9 : k9 = A3.length := by rw [← ints_length, ← hW, hWW, List.length_append, hl3]; show k9 = ((k2.toNat + 1 : Nat) : Int); omega
            conv => cbv
            refine Fit.mk (by show (-9223372036854775808 : Int) ≤ k9 - 1; omega) (by show k9 - 1 ≤ 9223372036854775807; omega) fun u9 hu9 => ?_
            have hu9 : u9 = k9 - 1 := hu9
            conv => cbv
            refine callF_frame (queueAt_lx A3 u9 ⟨by omega, by omega⟩ z3 hz3 hA38 (by omega)) [(0, 1)] rfl (by simp [hmapOk, nget, hget, renB, okB]) rfl rfl (fun r h' n' hrr => ?_)
            obtain ⟨v9, b9, e1, e2, e3, h9⟩ := hrr
            subst e1 e2 e3
            obtain ⟨rfl, hv9⟩ : b9 = true ∧ v9 = y := by
              rcases h9 with ⟨h, _⟩ | ⟨_, h1, h2⟩
              · rw [hA3] at h; simp at h
              · refine ⟨h1, ?_⟩
                have hl9 : A3.length = A2.length + 1 := by rw [hA3, List.length_append]; rfl
                rw [show (max u9 0).toNat = A2.length by omega, hl9, Nat.mod_eq_of_lt (Nat.lt_succ_self _), hA3, List.getElem?_append_right (Nat.le_refl _), Nat.sub_self] at h2
                exact (Option.some.inj h2).symm
            clear h9
            conv => cbv
            refine Br.mk (fun g9 => ?_) (fun g9 => ?_)
            case refine_1 =>
              have gf : False := g9 hv9
              cases gf
            conv => cbv
            refine callF_frame (queueAt_nil (.lit 0)) [] rfl trivial rfl rfl (fun r h' n' ⟨e1, e2, e3⟩ => ?_)
            subst e1 e2 e3
            conv => cbv
            refine callF_frame (all_lx A3 z3 hz3 hA38 (by omega)) [(0, 1)] rfl (by simp [hmapOk, nget, hget, renB, okB]) rfl rfl (fun r h' n' hrr => ?_)
            obtain ⟨k10, L10, e1, e2, e3, hL10, hk10⟩ := hrr
            subst e1 e2 e3
            conv => cbv
            refine callF_lend (plaini64_lx A3 A3 k10 k9 L10 W hk10 hk9 (by rw [hL10]; exact preI_ints A3) (by rw [hW]; exact preI_ints A3) (by omega)) (by simp [lends, lendV, hget, I.val, pvle]) (fun r h' n' ⟨⟨b, e1, _⟩, e2, e3⟩ => by subst e1 e2; exact ⟨trivial, trivial⟩) (fun r h' n' hrr => ?_)
            obtain ⟨⟨b9, e1, hb9⟩, e2, e3⟩ := hrr
            subst e1 e2 e3
            obtain rfl : b9 = true := hb9.2 rfl
            conv => cbv
            refine callF_frame (queueAdd_nil (.lit 1)) [] rfl trivial rfl rfl (fun r h' n' ⟨e1, e2, e3⟩ => ?_)
            subst e1 e2 e3
            conv => cbv
            refine CallF.le (args0 := [.p .nilp, .p (.int .i64 (.sym 1))]) (callF_frame queueRemove_nil [] rfl trivial rfl rfl (fun r h' n' ⟨e1, e2, e3⟩ => ?_)) (by simp [ales, ale, pvle, I.val])
            subst e1 e2 e3
            conv => cbv
            refine callF_frame all_nil [] rfl trivial rfl rfl (fun r h' n' ⟨e1, e2, e3⟩ => ?_)
            subst e1 e2 e3
            conv => cbv
            refine callF_frame queueLen_nil [] rfl trivial rfl rfl (fun r h' n' ⟨e1, e2, e3⟩ => ?_)
            subst e1 e2 e3
            conv => cbv
            refine Br.mk (fun g9 => ?_) (fun g9 => ?_)
            case refine_2 =>
              have gf : False := g9 rfl
              cases gf
            conv => cbv
            refine RetF.mk [.p (.bool true)] [] 1 (Re.of [] [] (by first | exact Nat.zero_le _ | exact Nat.le_refl _ | decide | (dsimp only; decide)) rfl rfl (by (try (conv => cbv)); (repeat' (first | exact trivial | rfl | exact SEq.mk rfl | (exact SEq.mk (by first | assumption | (symm; assumption))) | (simp only [I.val]; done) | (simp only [I.val]; omega) | omega | assumption | (refine And.intro ?_ ?_) | exact Or.inl rfl | exact Or.inr (by assumption) | exact List.Mem.head _ | exact List.Mem.tail _ (List.Mem.head _) | exact ⟨_, rfl⟩ | exact ⟨_, rfl, Or.inl rfl⟩ | (refine ⟨_, rfl, Or.inr ?_⟩; (try (conv => cbv))) | (simp only [I.val] at *; first | omega | (subst_vars; rfl) | simp_all) | (refine Or.inr ?_; (try (conv => cbv)))))) (by (try (conv => cbv)); (repeat' (first | exact trivial | rfl | exact SEq.mk rfl | (exact SEq.mk (by first | assumption | (symm; assumption))) | (simp only [I.val]; done) | (simp only [I.val]; omega) | omega | assumption | (refine And.intro ?_ ?_) | exact Or.inl rfl | exact Or.inr (by assumption) | exact List.Mem.head _ | exact List.Mem.tail _ (List.Mem.head _) | exact ⟨_, rfl⟩ | exact ⟨_, rfl, Or.inl rfl⟩ | (refine ⟨_, rfl, Or.inr ?_⟩; (try (conv => cbv))) | (simp only [I.val] at *; first | omega | (subst_vars; rfl) | simp_all) | (refine Or.inr ?_; (try (conv => cbv))))))) rfl rfl
          · refine Room.new ⟨by show 0 ≤ k3; omega, by show k3 < q; omega⟩ ?_
            conv => cbv
            refine Sum.mk fun d hd => ?_
            have hd : d = q - k3 := hd
            conv => cbv
            refine Room.within ⟨hk0, by rw [hla, ints_length]; show k2 * 1 ≤ ((A.length : Nat) : Int); omega⟩ ?_
            conv => cbv
            refine Upd.mk fun T1 hT1 => ?_
            have hT1 : T1 = ints (A.take k2.toNat) := by
              have h : T1 = la.take (k2.toNat * 1) := hT1
              rw [h, hla, Nat.mul_one, ints, ints, List.map_take]
            have hl1 : T1.length = k2.toNat := by rw [hT1, ints_length, List.length_take]; omega
            conv => cbv
            refine Need.mk ⟨by show k2 * 8 ≤ 140737488355328; omega, by show k2 ≤ 9223372036854775807; omega⟩ ?_
            conv => cbv
            refine Need.mk ⟨by show 0 ≤ k3; omega, by show 0 ≤ d; omega, by rw [hla, ints_length]; show k3 + d * 1 ≤ ((A.length : Nat) : Int); omega⟩ ?_
            conv => cbv
            refine Upd.mk fun T2 hT2 => ?_
            have hT2 : T2 = ints (A.drop (k2.toNat + 1)) := by
              have h : T2 = (la.drop k3.toNat).take (d.toNat * 1) := hT2
              rw [h, hla, Nat.mul_one, ints, ints, List.map_drop, show k3.toNat = k2.toNat + 1 by omega]
              exact List.take_of_length_le (by rw [List.length_drop, List.length_map]; omega)
            have hl2 : T2.length = d.toNat := by rw [hT2, ints_length, List.length_drop]; omega
            conv => cbv
            refine Room.new ⟨by rw [hl1]; show ((k2.toNat : Nat) : Int) = k2 * 1; omega, by show (k2 + d) * 8 ≤ 140737488355328; omega, by show k2 + d ≤ 9223372036854775807; omega⟩ ?_
            conv => cbv
            refine Upd.mk fun T3 hT3 => ?_
            have hT3 : T3 = T1 ++ T2 := hT3
            have hTe : T3 = ints (A.erase y) := by rw [hT3, hT1, hT2, her, ints, ints, ints, List.map_append]
            conv => cbv
            refine Sum.mk fun kk hkk => ?_
            have hkk : kk = k2 + d := hkk
            have hl3 : T3.length = kk.toNat := by rw [hT3, List.length_append, hl1, hl2]; omega
            conv => cbv
            refine Room.new rfl ?_
            conv => cbv
            refine Room.new ⟨by rw [hl3]; show ((kk.toNat : Nat) : Int) = kk * 1; omega, by show (kk + 1) * 8 ≤ 140737488355328; omega, by show kk + 1 ≤ 9223372036854775807; omega⟩ ?_
            conv => cbv
            refine Upd.mk fun W hWW => ?_
            have hWW : W = T3 ++ [.int .i64 (.sym y)] := hWW
            have hW : W = ints A3 := by rw [hWW, hTe, hA3, hA2, ints, ints, List.map_append]; rfl
            conv => cbv
            refine Sum.mk fun k9 hk99 => ?_
            have hk99 : k9 = kk + 1 := hk99
            have hk9 : k9 = A3.length := by rw [← ints_length, ← hW, hWW, List.length_append, hl3]; show k9 = ((kk.toNat + 1 : Nat) : Int); omega
            conv => cbv
            refine Fit.mk (by show (-9223372036854775808 : Int) ≤ k9 - 1; omega) (by show k9 - 1 ≤ 9223372036854775807; omega) fun u9 hu9 => ?_
            have hu9 : u9 = k9 - 1 := hu9
            conv => cbv
            refine callF_frame (queueAt_lx A3 u9 ⟨by omega, by omega⟩ z3 hz3 hA38 (by omega)) [(0, 1)] rfl (by simp [hmapOk, nget, hget, renB, okB]) rfl rfl (fun r h' n' hrr => ?_)
            obtain ⟨v9, b9, e1, e2, e3, h9⟩ := hrr
            subst e1 e2 e3
            obtain ⟨rfl, hv9⟩ : b9 = true ∧ v9 = y := by
              rcases h9 with ⟨h, _⟩ | ⟨_, h1, h2⟩
              · rw [hA3] at h; simp at h
              · refine ⟨h1, ?_⟩
                have hl9 : A3.length = A2.length + 1 := by rw [hA3, List.length_append]; rfl
                rw [show (max u9 0).toNat = A2.length by omega, hl9, Nat.mod_eq_of_lt (Nat.lt_succ_self _), hA3, List.getElem?_append_right (Nat.le_refl _), Nat.sub_self] at h2
                exact (Option.some.inj h2).symm
            clear h9
            conv => cbv
            refine Br.mk (fun g9 => ?_) (fun g9 => ?_)
            case refine_1 =>
              have gf : False := g9 hv9
              cases gf
            conv => cbv
            refine callF_frame (queueAt_nil (.lit 0)) [] rfl trivial rfl rfl (fun r h' n' ⟨e1, e2, e3⟩ => ?_)
            subst e1 e2 e3
            conv => cbv
            refine callF_frame (all_lx A3 z3 hz3 hA38 (by omega)) [(0, 1)] rfl (by simp [hmapOk, nget, hget, renB, okB]) rfl rfl (fun r h' n' hrr => ?_)
            obtain ⟨k10, L10, e1, e2, e3, hL10, hk10⟩ := hrr
            subst e1 e2 e3
            conv => cbv
            refine callF_lend (plaini64_lx A3 A3 k10 k9 L10 W hk10 hk9 (by rw [hL10]; exact preI_ints A3) (by rw [hW]; exact preI_ints A3) (by omega)) (by simp [lends, lendV, hget, I.val, pvle]) (fun r h' n' ⟨⟨b, e1, _⟩, e2, e3⟩ => by subst e1 e2; exact ⟨trivial, trivial⟩) (fun r h' n' hrr => ?_)
            obtain ⟨⟨b9, e1, hb9⟩, e2, e3⟩ := hrr
            subst e1 e2 e3
            obtain rfl : b9 = true := hb9.2 rfl
            conv => cbv
            refine callF_frame (queueAdd_nil (.lit 1)) [] rfl trivial rfl rfl (fun r h' n' ⟨e1, e2, e3⟩ => ?_)
            subst e1 e2 e3
            conv => cbv
            refine CallF.le (args0 := [.p .nilp, .p (.int .i64 (.sym 1))]) (callF_frame queueRemove_nil [] rfl trivial rfl rfl (fun r h' n' ⟨e1, e2, e3⟩ => ?_)) (by simp [ales, ale, pvle, I.val])
            subst e1 e2 e3
            conv => cbv
            refine callF_frame all_nil [] rfl trivial rfl rfl (fun r h' n' ⟨e1, e2, e3⟩ => ?_)
            subst e1 e2 e3
            conv => cbv
            refine callF_frame queueLen_nil [] rfl trivial rfl rfl (fun r h' n' ⟨e1, e2, e3⟩ => ?_)
            subst e1 e2 e3
            conv => cbv
            refine Br.mk (fun g9 => ?_) (fun g9 => ?_)
            case refine_2 =>
              have gf : False := g9 rfl
              cases gf
            conv => cbv
            refine RetF.mk [.p (.bool true)] [] 1 (Re.of [] [] (by first | exact Nat.zero_le _ | exact Nat.le_refl _ | decide | (dsimp only; decide)) rfl rfl (by (try (conv => cbv)); (repeat' (first | exact trivial | rfl | exact SEq.mk rfl | (exact SEq.mk (by first | assumption | (symm; assumption))) | (simp only [I.val]; done) | (simp only [I.val]; omega) | omega | assumption | (refine And.intro ?_ ?_) | exact Or.inl rfl | exact Or.inr (by assumption) | exact List.Mem.head _ | exact List.Mem.tail _ (List.Mem.head _) | exact ⟨_, rfl⟩ | exact ⟨_, rfl, Or.inl rfl⟩ | (refine ⟨_, rfl, Or.inr ?_⟩; (try (conv => cbv))) | (simp only [I.val] at *; first | omega | (subst_vars; rfl) | simp_all) | (refine Or.inr ?_; (try (conv => cbv)))))) (by (try (conv => cbv)); (repeat' (first | exact trivial | rfl | exact SEq.mk rfl | (exact SEq.mk (by first | assumption | (symm; assumption))) | (simp only [I.val]; done) | (simp only [I.val]; omega) | omega | assumption | (refine And.intro ?_ ?_) | exact Or.inl rfl | exact Or.inr (by assumption) | exact List.Mem.head _ | exact List.Mem.tail _ (List.Mem.head _) | exact ⟨_, rfl⟩ | exact ⟨_, rfl, Or.inl rfl⟩ | (refine ⟨_, rfl, Or.inr ?_⟩; (try (conv => cbv))) | (simp only [I.val] at *; first | omega | (subst_vars; rfl) | simp_all) | (refine Or.inr ?_; (try (conv => cbv))))))) rfl rfl
        · conv => cbv
          refine Need.mk ⟨hk0, .inl (Int.le_of_lt hk1)⟩ ?_
          conv => cbv
          refine Fit.mk (by show (-9223372036854775808 : Int) ≤ k2 + 1; omega) (by show k2 + 1 ≤ 9223372036854775807; omega) fun k3 hk3 => ?_
          have hk3 : k3 = k2 + 1 := hk3
          conv => cbv
          by_cases he : k3 = q
          · refine Room.within ⟨by show 0 ≤ k3; omega, he⟩ ?_
            conv => cbv
            refine Room.within ⟨hk0, by rw [hla, ints_length]; show k2 * 1 ≤ ((A.length : Nat) : Int); omega⟩ ?_
            conv => cbv
            refine Upd.mk fun T1 hT1 => ?_
            have hT1 : T1 = ints (A.take k2.toNat) := by
              have h : T1 = la.take (k2.toNat * 1) := hT1
              rw [h, hla, Nat.mul_one, ints, ints, List.map_take]
            have hl1 : T1.length = k2.toNat := by rw [hT1, ints_length, List.length_take]; omega
            conv => cbv
            refine Need.mk ⟨by show k2 * 8 ≤ 140737488355328; omega, by show k2 ≤ 9223372036854775807; omega⟩ ?_
            conv => cbv
            refine Need.mk rfl ?_
            conv => cbv
            refine Room.new ⟨by rw [hl1]; show ((k2.toNat : Nat) : Int) = k2 * 1; omega, by show (k2 + 0) * 8 ≤ 140737488355328; omega, by show k2 + 0 ≤ 9223372036854775807; omega⟩ ?_
            conv => cbv
            refine Upd.mk fun T3 hT3 => ?_
            have hT3 : T3 = T1 ++ [] := hT3
            have hl3 : T3.length = k2.toNat := by rw [hT3, List.append_nil, hl1]
            have hTe : T3 = ints (A.erase y) := by rw [hT3, hT1, her, List.append_nil, List.drop_eq_nil_of_le (by omega), List.append_nil]
            conv => cbv
            refine Room.new rfl ?_
            conv => cbv
            refine Room.new ⟨by rw [hl3]; show ((k2.toNat : Nat) : Int) = k2 * 1; omega, by show (k2 + 1) * 8 ≤ 140737488355328; omega, by show k2 + 1 ≤ 9223372036854775807; omega⟩ ?_
            conv => cbv
            refine Upd.mk fun W hWW => ?_
            have hWW : W = T3 ++ [.int .i64 (.sym y)] := hWW
            have hW : W = ints A3 := by rw [hWW, hTe, hA3, hA2, ints, ints, List.map_append]; rfl
            conv => cbv
            refine Sum.mk fun k9 hk99 => ?_
            have hk99 : k9 = k2 + 1 := hk99
            have hk9 : k9 = A3.length := by rw [← ints_length, ← hW, hWW, List.length_append, hl3]; show k9 = ((k2.toNat + 1 : Nat) : Int); omega
            conv => cbv
            refine Fit.mk (by show (-9223372036854775808 : Int) ≤ k9 - 1; omega) (by show k9 - 1 ≤ 9223372036854775807; omega) fun u9 hu9 => ?_
            have hu9 : u9 = k9 - 1 := hu9
            conv => cbv
            refine callF_frame (queueAt_lx A3 u9 ⟨by omega, by omega⟩ z3 hz3 hA38 (by omega)) [(0, 1)] rfl (by simp [hmapOk, nget, hget, renB, okB]) rfl rfl (fun r h' n' hrr => ?_)
            obtain ⟨v9, b9, e1, e2, e3, h9⟩ := hrr
            subst e1 e2 e3
            obtain ⟨rfl, hv9⟩ : b9 = true ∧ v9 = y := by
              rcases h9 with ⟨h, _⟩ | ⟨_, h1, h2⟩
              · rw [hA3] at h; simp at h
              · refine ⟨h1, ?_⟩
                have hl9 : A3.length = A2.length + 1 := by rw [hA3, List.length_append]; rfl
                rw [show (max u9 0).toNat = A2.length by omega, hl9, Nat.mod_eq_of_lt (Nat.lt_succ_self _), hA3, List.getElem?_append_right (Nat.le_refl _), Nat.sub_self] at h2
                exact (Option.some.inj h2).symm
            clear h9
            conv => cbv
            refine Br.mk (fun g9 => ?_) (fun g9 => ?_)
            case refine_1 =>
              have gf : False := g9 hv9
              cases gf
            conv => cbv
            refine callF_frame (queueAt_nil (.lit 0)) [] rfl trivial rfl rfl (fun r h' n' ⟨e1, e2, e3⟩ => ?_)
            subst e1 e2 e3
            conv => cbv
            refine callF_frame (all_lx A3 z3 hz3 hA38 (by omega)) [(0, 1)] rfl (by simp [hmapOk, nget, hget, renB, okB]) rfl rfl (fun r h' n' hrr => ?_)
            obtain ⟨k10, L10, e1, e2, e3, hL10, hk10⟩ := hrr
            subst e1 e2 e3
            conv => cbv
            refine callF_lend (plaini64_lx A3 A3 k10 k9 L10 W hk10 hk9 (by rw [hL10]; exact preI_ints A3) (by rw [hW]; exact preI_ints A3) (by omega)) (by simp [lends, lendV, hget, I.val, pvle]) (fun r h' n' ⟨⟨b, e1, _⟩, e2, e3⟩ => by subst e1 e2; exact ⟨trivial, trivial⟩) (fun r h' n' hrr => ?_)
            obtain ⟨⟨b9, e1, hb9⟩, e2, e3⟩ := hrr
            subst e1 e2 e3
            obtain rfl : b9 = true := hb9.2 rfl
            conv => cbv
            refine callF_frame (queueAdd_nil (.lit 1)) [] rfl trivial rfl rfl (fun r h' n' ⟨e1, e2, e3⟩ => ?_)
            subst e1 e2 e3
            conv => cbv
            refine CallF.le (args0 := [.p .nilp, .p (.int .i64 (.sym 1))]) (callF_frame queueRemove_nil [] rfl trivial rfl rfl (fun r h' n' ⟨e1, e2, e3⟩ => ?_)) (by simp [ales, ale, pvle, I.val])
            subst e1 e2 e3
            conv => cbv
            refine callF_frame all_nil [] rfl trivial rfl rfl (fun r h' n' ⟨e1, e2, e3⟩ => ?_)
            subst e1 e2 e3
            conv => cbv
            refine callF_frame queueLen_nil [] rfl trivial rfl rfl (fun r h' n' ⟨e1, e2, e3⟩ => ?_)
            subst e1 e2 e3
            conv => cbv
            refine Br.mk (fun g9 => ?_) (fun g9 => ?_)
            case refine_2 =>
              have gf : False := g9 rfl
              cases gf
            conv => cbv
            refine RetF.mk [.p (.bool true)] [] 1 (Re.of [] [] (by first | exact Nat.zero_le _ | exact Nat.le_refl _ | decide | (dsimp only; decide)) rfl rfl (by (try (conv => cbv)); (repeat' (first | exact trivial | rfl | exact SEq.mk rfl | (exact SEq.mk (by first | assumption | (symm; assumption))) | (simp only [I.val]; done) | (simp only [I.val]; omega) | omega | assumption | (refine And.intro ?_ ?_) | exact Or.inl rfl | exact Or.inr (by assumption) | exact List.Mem.head _ | exact List.Mem.tail _ (List.Mem.head _) | exact ⟨_, rfl⟩ | exact ⟨_, rfl, Or.inl rfl⟩ | (refine ⟨_, rfl, Or.inr ?_⟩; (try (conv => cbv))) | (simp only [I.val] at *; first | omega | (subst_vars; rfl) | simp_all) | (refine Or.inr ?_; (try (conv => cbv)))))) (by (try (conv => cbv)); (repeat' (first | exact trivial | rfl | exact SEq.mk rfl | (exact SEq.mk (by first | assumption | (symm; assumption))) | (simp only [I.val]; done) | (simp only [I.val]; omega) | omega | assumption | (refine And.intro ?_ ?_) | exact Or.inl rfl | exact Or.inr (by assumption) | exact List.Mem.head _ | exact List.Mem.tail _ (List.Mem.head _) | exact ⟨_, rfl⟩ | exact ⟨_, rfl, Or.inl rfl⟩ | (refine ⟨_, rfl, Or.inr ?_⟩; (try (conv => cbv))) | (simp only [I.val] at *; first | omega | (subst_vars; rfl) | simp_all) | (refine Or.inr ?_; (try (conv => cbv))))))) rfl rfl
          · refine Room.new ⟨by show 0 ≤ k3; omega, by show k3 < q; omega⟩ ?_
            conv => cbv
            refine Sum.mk fun d hd => ?_
            have hd : d = q - k3 := hd
            conv => cbv
            refine Room.within ⟨hk0, by rw [hla, ints_length]; show k2 * 1 ≤ ((A.length : Nat) : Int); omega⟩ ?_
            conv => cbv
            refine Upd.mk fun T1 hT1 => ?_
            have hT1 : T1 = ints (A.take k2.toNat) := by
              have h : T1 = la.take (k2.toNat * 1) := hT1
              rw [h, hla, Nat.mul_one, ints, ints, List.map_take]
            have hl1 : T1.length = k2.toNat := by rw [hT1, ints_length, List.length_take]; omega
            conv => cbv
            refine Need.mk ⟨by show k2 * 8 ≤ 140737488355328; omega, by show k2 ≤ 9223372036854775807; omega⟩ ?_
            conv => cbv
            refine Need.mk ⟨by show 0 ≤ k3; omega, by show 0 ≤ d; omega, by rw [hla, ints_length]; show k3 + d * 1 ≤ ((A.length : Nat) : Int); omega⟩ ?_
            conv => cbv
            refine Upd.mk fun T2 hT2 => ?_
            have hT2 : T2 = ints (A.drop (k2.toNat + 1)) := by
              have h : T2 = (la.drop k3.toNat).take (d.toNat * 1) := hT2
              rw [h, hla, Nat.mul_one, ints, ints, List.map_drop, show k3.toNat = k2.toNat + 1 by omega]
              exact List.take_of_length_le (by rw [List.length_drop, List.length_map]; omega)
            have hl2 : T2.length = d.toNat := by rw [hT2, ints_length, List.length_drop]; omega
            conv => cbv
            refine Room.new ⟨by rw [hl1]; show ((k2.toNat : Nat) : Int) = k2 * 1; omega, by show (k2 + d) * 8 ≤ 140737488355328; omega, by show k2 + d ≤ 9223372036854775807; omega⟩ ?_
            conv => cbv
            refine Upd.mk fun T3 hT3 => ?_
            have hT3 : T3 = T1 ++ T2 := hT3
            have hTe : T3 = ints (A.erase y) := by rw [hT3, hT1, hT2, her, ints, ints, ints, List.map_append]
            conv => cbv
            refine Sum.mk fun kk hkk => ?_
            have hkk : kk = k2 + d := hkk
            have hl3 : T3.length = kk.toNat := by rw [hT3, List.length_append, hl1, hl2]; omega
            conv => cbv
            refine Room.new rfl ?_
            conv => cbv
            refine Room.new ⟨by rw [hl3]; show ((kk.toNat : Nat) : Int) = kk * 1; omega, by show (kk + 1) * 8 ≤ 140737488355328; omega, by show kk + 1 ≤ 9223372036854775807; omega⟩ ?_
            conv => cbv
            refine Upd.mk fun W hWW => ?_
            have hWW : W = T3 ++ [.int .i64 (.sym y)] := hWW
            have hW : W = ints A3 := by rw [hWW, hTe, hA3, hA2, ints, ints, List.map_append]; rfl
            conv => cbv
            refine Sum.mk fun k9 hk99 => ?_
            have hk99 : k9 = kk + 1 := hk99
            have hk9 : k9 = A3.length := by rw [← ints_length, ← hW, hWW, List.length_append, hl3]; show k9 = ((kk.toNat + 1 : Nat) : Int); omega
            conv => cbv
            refine Fit.mk (by show (-9223372036854775808 : Int) ≤ k9 - 1; omega) (by show k9 - 1 ≤ 9223372036854775807; omega) fun u9 hu9 => ?_
            have hu9 : u9 = k9 - 1 := hu9
            conv => cbv
            refine callF_frame (queueAt_lx A3 u9 ⟨by omega, by omega⟩ z3 hz3 hA38 (by omega)) [(0, 1)] rfl (by simp [hmapOk, nget, hget, renB, okB]) rfl rfl (fun r h' n' hrr => ?_)
            obtain ⟨v9, b9, e1, e2, e3, h9⟩ := hrr
            subst e1 e2 e3
            obtain ⟨rfl, hv9⟩ : b9 = true ∧ v9 = y := by
              rcases h9 with ⟨h, _⟩ | ⟨_, h1, h2⟩
              · rw [hA3] at h; simp at h
              · refine ⟨h1, ?_⟩
                have hl9 : A3.length = A2.length + 1 := by rw [hA3, List.length_append]; rfl
                rw [show (max u9 0).toNat = A2.length by omega, hl9, Nat.mod_eq_of_lt (Nat.lt_succ_self _), hA3, List.getElem?_append_right (Nat.le_refl _), Nat.sub_self] at h2
                exact (Option.some.inj h2).symm
            clear h9
            conv => cbv
            refine Br.mk (fun g9 => ?_) (fun g9 => ?_)
            case refine_1 =>
              have gf : False := g9 hv9
              cases gf
            conv => cbv
            refine callF_frame (queueAt_nil (.lit 0)) [] rfl trivial rfl rfl (fun r h' n' ⟨e1, e2, e3⟩ => ?_)
            subst e1 e2 e3
            conv => cbv
            refine callF_frame (all_lx A3 z3 hz3 hA38 (by omega)) [(0, 1)] rfl (by simp [hmapOk, nget, hget, renB, okB]) rfl rfl (fun r h' n' hrr => ?_)
            obtain ⟨k10, L10, e1, e2, e3, hL10, hk10⟩ := hrr
            subst e1 e2 e3
            conv => cbv
            refine callF_lend (plaini64_lx A3 A3 k10 k9 L10 W hk10 hk9 (by rw [hL10]; exact preI_ints A3) (by rw [hW]; exact preI_ints A3) (by omega)) (by simp [lends, lendV, hget, I.val, pvle]) (fun r h' n' ⟨⟨b, e1, _⟩, e2, e3⟩ => by subst e1 e2; exact ⟨trivial, trivial⟩) (fun r h' n' hrr => ?_)
            obtain ⟨⟨b9, e1, hb9⟩, e2, e3⟩ := hrr
            subst e1 e2 e3
            obtain rfl : b9 = true := hb9.2 rfl
            conv => cbv
            refine callF_frame (queueAdd_nil (.lit 1)) [] rfl trivial rfl rfl (fun r h' n' ⟨e1, e2, e3⟩ => ?_)
            subst e1 e2 e3
            conv => cbv
            refine CallF.le (args0 := [.p .nilp, .p (.int .i64 (.sym 1))]) (callF_frame queueRemove_nil [] rfl trivial rfl rfl (fun r h' n' ⟨e1, e2, e3⟩ => ?_)) (by simp [ales, ale, pvle, I.val])
            subst e1 e2 e3
            conv => cbv
            refine callF_frame all_nil [] rfl trivial rfl rfl (fun r h' n' ⟨e1, e2, e3⟩ => ?_)
            subst e1 e2 e3
            conv => cbv
            refine callF_frame queueLen_nil [] rfl trivial rfl rfl (fun r h' n' ⟨e1, e2, e3⟩ => ?_)
            subst e1 e2 e3
            conv => cbv
            refine Br.mk (fun g9 => ?_) (fun g9 => ?_)
            case refine_2 =>
              have gf : False := g9 rfl
              cases gf
            conv => cbv
            refine RetF.mk [.p (.bool true)] [] 1 (Re.of [] [] (by first | exact Nat.zero_le _ | exact Nat.le_refl _ | decide | (dsimp only; decide)) rfl rfl (by (try (conv => cbv)); (repeat' (first | exact trivial | rfl | exact SEq.mk rfl | (exact SEq.mk (by first | assumption | (symm; assumption))) | (simp only [I.val]; done) | (simp only [I.val]; omega) | omega | assumption | (refine And.intro ?_ ?_) | exact Or.inl rfl | exact Or.inr (by assumption) | exact List.Mem.head _ | exact List.Mem.tail _ (List.Mem.head _) | exact ⟨_, rfl⟩ | exact ⟨_, rfl, Or.inl rfl⟩ | (refine ⟨_, rfl, Or.inr ?_⟩; (try (conv => cbv))) | (simp only [I.val] at *; first | omega | (subst_vars; rfl) | simp_all) | (refine Or.inr ?_; (try (conv => cbv)))))) (by (try (conv => cbv)); (repeat' (first | exact trivial | rfl | exact SEq.mk rfl | (exact SEq.mk (by first | assumption | (symm; assumption))) | (simp only [I.val]; done) | (simp only [I.val]; omega) | omega | assumption | (refine And.intro ?_ ?_) | exact Or.inl rfl | exact Or.inr (by assumption) | exact List.Mem.head _ | exact List.Mem.tail _ (List.Mem.head _) | exact ⟨_, rfl⟩ | exact ⟨_, rfl, Or.inl rfl⟩ | (refine ⟨_, rfl, Or.inr ?_⟩; (try (conv => cbv))) | (simp only [I.val] at *; first | omega | (subst_vars; rfl) | simp_all) | (refine Or.inr ?_; (try (conv => cbv))))))) rfl rfl
        · conv => cbv
          refine Need.mk ⟨hk0, .inl (Int.le_of_lt hk1)⟩ ?_
          conv => cbv
          refine Fit.mk (by show (-9223372036854775808 : Int) ≤ k2 + 1; omega) (by show k2 + 1 ≤ 9223372036854775807; omega) fun k3 hk3 => ?_
          have hk3 : k3 = k2 + 1 := hk3
          conv => cbv
          by_cases he : k3 = q
          · refine Room.within ⟨by show 0 ≤ k3; omega, he⟩ ?_
            conv => cbv
            refine Room.within ⟨hk0, by rw [hla, ints_length]; show k2 * 1 ≤ ((A.length : Nat) : Int); omega⟩ ?_
            conv => cbv
            refine Upd.mk fun T1 hT1 => ?_
            have hT1 : T1 = ints (A.take k2.toNat) := by
              have h : T1 = la.take (k2.toNat * 1) := hT1
              rw [h, hla, Nat.mul_one, ints, ints, List.map_take]
            have hl1 : T1.length = k2.toNat := by rw [hT1, ints_length, List.length_take]; omega
            conv => cbv
            refine Need.mk ⟨by show k2 * 8 ≤ 140737488355328; omega, by show k2 ≤ 9223372036854775807; omega⟩ ?_
            conv => cbv
            refine Need.mk rfl ?_
            conv => cbv
            refine Room.new ⟨by rw [hl1]; show ((k2.toNat : Nat) : Int) = k2 * 1; omega, by show (k2 + 0) * 8 ≤ 140737488355328; omega, by show k2 + 0 ≤ 9223372036854775807; omega⟩ ?_
            conv => cbv
            refine Upd.mk fun T3 hT3 => ?_
            have hT3 : T3 = T1 ++ [] := hT3
            have hl3 : T3.length = k2.toNat := by rw [hT3, List.append_nil, hl1]
            have hTe : T3 = ints (A.erase y) := by rw [hT3, hT1, her, List.append_nil, List.drop_eq_nil_of_le (by omega), List.append_nil]
            conv => cbv
            refine Room.new rfl ?_
            conv => cbv
            refine Room.new ⟨by rw [hl3]; show ((k2.toNat : Nat) : Int) = k2 * 1; omega, by show (k2 + 1) * 8 ≤ 140737488355328; omega, by show k2 + 1 ≤ 9223372036854775807; omega⟩ ?_
            conv => cbv
            refine Upd.mk fun W hWW => ?_
            have hWW : W = T3 ++ [.int .i64 (.sym y)] := hWW
            have hW : W = ints A3 := by rw [hWW, hTe, hA3, hA2, ints, ints, List.map_append]; rfl
            conv => cbv
            refine Sum.mk fun k9 hk99 => ?_
            have hk99 : k9 = k2 + 1 := hk99
            have hk9 : k9 = A3.length := by rw [← ints_length, ← hW, hWW, List.length_append, hl3]; show k9 = ((k2.toNat + 1 : Nat) : Int); omega
            conv => cbv
            refine Fit.mk (by show (-9223372036854775808 : Int) ≤ k9 - 1; omega) (by show k9 - 1 ≤ 9223372036854775807; omega) fun u9 hu9 => ?_
            have hu9 : u9 = k9 - 1 := hu9
            conv => cbv
            refine callF_frame (queueAt_lx A3 u9 ⟨by omega, by omega⟩ z3 hz3 hA38 (by omega)) [(0, 1)] rfl (by simp [hmapOk, nget, hget, renB, okB]) rfl rfl (fun r h' n' hrr => ?_)
            obtain ⟨v9, b9, e1, e2, e3, h9⟩ := hrr
            subst e1 e2 e3
            obtain ⟨rfl, hv9⟩ : b9 = true ∧ v9 = y := by
              rcases h9 with ⟨h, _⟩ | ⟨_, h1, h2⟩
              · rw [hA3] at h; simp at h
              · refine ⟨h1, ?_⟩
                have hl9 : A3.length = A2.length + 1 := by rw [hA3, List.length_append]; rfl
                rw [show (max u9 0).toNat = A2.length by omega, hl9, Nat.mod_eq_of_lt (Nat.lt_succ_self _), hA3, List.getElem?_append_right (Nat.le_refl _), Nat.sub_self] at h2
                exact (Option.some.inj h2).symm
            clear h9
            conv => cbv
            refine Br.mk (fun g9 => ?_) (fun g9 => ?_)
            case refine_1 =>
              have gf : False := g9 hv9
              cases gf
            conv => cbv
            refine callF_frame (queueAt_nil (.lit 0)) [] rfl trivial rfl rfl (fun r h' n' ⟨e1, e2, e3⟩ => ?_)
            subst e1 e2 e3
            conv => cbv
            refine callF_frame (all_lx A3 z3 hz3 hA38 (by omega)) [(0, 1)] rfl (by simp [hmapOk, nget, hget, renB, okB]) rfl rfl (fun r h' n' hrr => ?_)
            obtain ⟨k10, L10, e1, e2, e3, hL10, hk10⟩ := hrr
            subst e1 e2 e3
            conv => cbv
            refine callF_lend (plaini64_lx A3 A3 k10 k9 L10 W hk10 hk9 (by rw [hL10]; exact preI_ints A3) (by rw [hW]; exact preI_ints A3) (by omega)) (by simp [lends, lendV, hget, I.val, pvle]) (fun r h' n' ⟨⟨b, e1, _⟩, e2, e3⟩ => by subst e1 e2; exact ⟨trivial, trivial⟩) (fun r h' n' hrr => ?_)
            obtain ⟨⟨b9, e1, hb9⟩, e2, e3⟩ := hrr
            subst e1 e2 e3
            obtain rfl : b9 = true := hb9.2 rfl
            conv => cbv
            refine callF_frame (queueAdd_nil (.lit 1)) [] rfl trivial rfl rfl (fun r h' n' ⟨e1, e2, e3⟩ => ?_)
            subst e1 e2 e3
            conv => cbv
            refine CallF.le (args0 := [.p .nilp, .p (.int .i64 (.sym 1))]) (callF_frame queueRemove_nil [] rfl trivial rfl rfl (fun r h' n' ⟨e1, e2, e3⟩ => ?_)) (by simp [ales, ale, pvle, I.val])
            subst e1 e2 e3
            conv => cbv
            refine callF_frame all_nil [] rfl trivial rfl rfl (fun r h' n' ⟨e1, e2, e3⟩ => ?_)
            subst e1 e2 e3
            conv => cbv
            refine callF_frame queueLen_nil [] rfl trivial rfl rfl (fun r h' n' ⟨e1, e2, e3⟩ => ?_)
            subst e1 e2 e3
            conv => cbv
            refine Br.mk (fun g9 => ?_) (fun g9 => ?_)
            case refine_2 =>
              have gf : False := g9 rfl
              cases gf
            conv => cbv
            refine RetF.mk [.p (.bool true)] [] 1 (Re.of [] [] (by first | exact Nat.zero_le _ | exact Nat.le_refl _ | decide | (dsimp only; decide)) rfl rfl (by (try (conv => cbv)); (repeat' (first | exact trivial | rfl | exact SEq.mk rfl | (exact SEq.mk (by first | assumption | (symm; assumption))) | (simp only [I.val]; done) | (simp only [I.val]; omega) | omega | assumption | (refine And.intro ?_ ?_) | exact Or.inl rfl | exact Or.inr (by assumption) | exact List.Mem.head _ | exact List.Mem.tail _ (List.Mem.head _) | exact ⟨_, rfl⟩ | exact ⟨_, rfl, Or.inl rfl⟩ | (refine ⟨_, rfl, Or.inr ?_⟩; (try (conv => cbv))) | (simp only [I.val] at *; first | omega | (subst_vars; rfl) | simp_all) | (refine Or.inr ?_; (try (conv => cbv)))))) (by (try (conv => cbv)); (repeat' (first | exact trivial | rfl | exact SEq.mk rfl | (exact SEq.mk (by first | assumption | (symm; assumption))) | (simp only [I.val]; done) | (simp only [I.val]; omega) | omega | assumption | (refine And.intro ?_ ?_) | exact Or.inl rfl | exact Or.inr (by assumption) | exact List.Mem.head _ | exact List.Mem.tail _ (List.Mem.head _) | exact ⟨_, rfl⟩ | exact ⟨_, rfl, Or.inl rfl⟩ | (refine ⟨_, rfl, Or.inr ?_⟩; (try (conv => cbv))) | (simp only [I.val] at *; first | omega | (subst_vars; rfl) | simp_all) | (refine Or.inr ?_; (try (conv => cbv))))))) rfl rfl
          · refine Room.new ⟨by show 0 ≤ k3; omega, by show k3 < q; omega⟩ ?_
            conv => cbv
            refine Sum.mk fun d hd => ?_
            have hd : d = q - k3 := hd
            conv => cbv
            refine Room.within ⟨hk0, by rw [hla, ints_length]; show k2 * 1 ≤ ((A.length : Nat) : Int); omega⟩ ?_
            conv => cbv
            refine Upd.mk fun T1 hT1 => ?_
            have hT1 : T1 = ints (A.take k2.toNat) := by
              have h : T1 = la.take (k2.toNat * 1) := hT1
              rw [h, hla, Nat.mul_one, ints, ints, List.map_take]
            have hl1 : T1.length = k2.toNat := by rw [hT1, ints_length, List.length_take]; omega
            conv => cbv
            refine Need.mk ⟨by show k2 * 8 ≤ 140737488355328; omega, by show k2 ≤ 9223372036854775807; omega⟩ ?_
            conv => cbv
            refine Need.mk ⟨by show 0 ≤ k3; omega, by show 0 ≤ d; omega, by rw [hla, ints_length]; show k3 + d * 1 ≤ ((A.length : Nat) : Int); omega⟩ ?_
            conv => cbv
            refine Upd.mk fun T2 hT2 => ?_
            have hT2 : T2 = ints (A.drop (k2.toNat + 1)) := by
              have h : T2 = (la.drop k3.toNat).take (d.toNat * 1) := hT2
              rw [h, hla, Nat.mul_one, ints, ints, List.map_drop, show k3.toNat = k2.toNat + 1 by omega]
              exact List.take_of_length_le (by rw [List.length_drop, List.length_map]; omega)
            have hl2 : T2.length = d.toNat := by rw [hT2, ints_length, List.length_drop]; omega
            conv => cbv
            refine Room.new ⟨by rw [hl1]; show ((k2.toNat : Nat) : Int) = k2 * 1; omega, by show (k2 + d) * 8 ≤ 140737488355328; omega, by show k2 + d ≤ 9223372036854775807; omega⟩ ?_
            conv => cbv
            refine Upd.mk fun T3 hT3 => ?_
            have hT3 : T3 = T1 ++ T2 := hT3
            have hTe : T3 = ints (A.erase y) := by rw [hT3, hT1, hT2, her, ints, ints, ints, List.map_append]
            conv => cbv
            refine Sum.mk fun kk hkk => ?_
            have hkk : kk = k2 + d := hkk
            have hl3 : T3.length = kk.toNat := by rw [hT3, List.length_append, hl1, hl2]; omega
            conv => cbv
            refine Room.new rfl ?_
            conv => cbv
            refine Room.new ⟨by rw [hl3]; show ((kk.toNat : Nat) : Int) = kk * 1; omega, by show (kk + 1) * 8 ≤ 140737488355328; omega, by show kk + 1 ≤ 9223372036854775807; omega⟩ ?_
            conv => cbv
            refine Upd.mk fun W hWW => ?_
            have hWW : W = T3 ++ [.int .i64 (.sym y)] := hWW
            have hW : W = ints A3 := by rw [hWW, hTe, hA3, hA2, ints, ints, List.map_append]; rfl
            conv => cbv
            refine Sum.mk fun k9 hk99 => ?_
            have hk99 : k9 = kk + 1 := hk99
            have hk9 : k9 = A3.length := by rw [← ints_length, ← hW, hWW, List.length_append, hl3]; show k9 = ((kk.toNat + 1 : Nat) : Int); omega
            conv => cbv
            refine Fit.mk (by show (-9223372036854775808 : Int) ≤ k9 - 1; omega) (by show k9 - 1 ≤ 9223372036854775807; omega) fun u9 hu9 => ?_
            have hu9 : u9 = k9 - 1 := hu9
            conv => cbv
            refine callF_frame (queueAt_lx A3 u9 ⟨by omega, by omega⟩ z3 hz3 hA38 (by omega)) [(0, 1)] rfl (by simp [hmapOk, nget, hget, renB, okB]) rfl rfl (fun r h' n' hrr => ?_)
            obtain ⟨v9, b9, e1, e2, e3, h9⟩ := hrr
            subst e1 e2 e3
            obtain ⟨rfl, hv9⟩ : b9 = true ∧ v9 = y := by
              rcases h9 with ⟨h, _⟩ | ⟨_, h1, h2⟩
              · rw [hA3] at h; simp at h
              · refine ⟨h1, ?_⟩
                have hl9 : A3.length = A2.length + 1 := by rw [hA3, List.length_append]; rfl
                rw [show (max u9 0).toNat = A2.length by omega, hl9, Nat.mod_eq_of_lt (Nat.lt_succ_self _), hA3, List.getElem?_append_right (Nat.le_refl _), Nat.sub_self] at h2
                exact (Option.some.inj h2).symm
            clear h9
            conv => cbv
            refine Br.mk (fun g9 => ?_) (fun g9 => ?_)
            case refine_1 =>
              have gf : False := g9 hv9
              cases gf
            conv => cbv
            refine callF_frame (queueAt_nil (.lit 0)) [] rfl trivial rfl rfl (fun r h' n' ⟨e1, e2, e3⟩ => ?_)
            subst e1 e2 e3
            conv => cbv
            refine callF_frame (all_lx A3 z3 hz3 hA38 (by omega)) [(0, 1)] rfl (by simp [hmapOk, nget, hget, renB, okB]) rfl rfl (fun r h' n' hrr => ?_)
            obtain ⟨k10, L10, e1, e2, e3, hL10, hk10⟩ := hrr
            subst e1 e2 e3
            conv => cbv
            refine callF_lend (plaini64_lx A3 A3 k10 k9 L10 W hk10 hk9 (by rw [hL10]; exact preI_ints A3) (by rw [hW]; exact preI_ints A3) (by omega)) (by simp [lends, lendV, hget, I.val, pvle]) (fun r h' n' ⟨⟨b, e1, _⟩, e2, e3⟩ => by subst e1 e2; exact ⟨trivial, trivial⟩) (fun r h' n' hrr => ?_)
            obtain ⟨⟨b9, e1, hb9⟩, e2, e3⟩ := hrr
            subst e1 e2 e3
            obtain rfl : b9 = true := hb9.2 rfl
            conv => cbv
            refine callF_frame (queueAdd_nil (.lit 1)) [] rfl trivial rfl rfl (fun r h' n' ⟨e1, e2, e3⟩ => ?_)
            subst e1 e2 e3
            conv => cbv
            refine CallF.le (args0 := [.p .nilp, .p (.int .i64 (.sym 1))]) (callF_frame queueRemove_nil [] rfl trivial rfl rfl (fun r h' n' ⟨e1, e2, e3⟩ => ?_)) (by simp [ales, ale, pvle, I.val])
            subst e1 e2 e3
            conv => cbv
            refine callF_frame all_nil [] rfl trivial rfl rfl (fun r h' n' ⟨e1, e2, e3⟩ => ?_)
            subst e1 e2 e3
            conv => cbv
            refine callF_frame queueLen_nil [] rfl trivial rfl rfl (fun r h' n' ⟨e1, e2, e3⟩ => ?_)
            subst e1 e2 e3
            conv => cbv
            refine Br.mk (fun g9 => ?_) (fun g9 => ?_)
            case refine_2 =>
              have gf : False := g9 rfl
              cases gf
            conv => cbv
            refine RetF.mk [.p (.bool true)] [] 1 (Re.of [] [] (by first | exact Nat.zero_le _ | exact Nat.le_refl _ | decide | (dsimp only; decide)) rfl rfl (by (try (conv => cbv)); (repeat' (first | exact trivial | rfl | exact SEq.mk rfl | (exact SEq.mk (by first | assumption | (symm; assumption))) | (simp only [I.val]; done) | (simp only [I.val]; omega) | omega | assumption | (refine And.intro ?_ ?_) | exact Or.inl rfl | exact Or.inr (by assumption) | exact List.Mem.head _ | exact List.Mem.tail _ (List.Mem.head _) | exact ⟨_, rfl⟩ | exact ⟨_, rfl, Or.inl rfl⟩ | (refine ⟨_, rfl, Or.inr ?_⟩; (try (conv => cbv))) | (simp only [I.val] at *; first | omega | (subst_vars; rfl) | simp_all) | (refine Or.inr ?_; (try (conv => cbv)))))) (by (try (conv => cbv)); (repeat' (first | exact trivial | rfl | exact SEq.mk rfl | (exact SEq.mk (by first | assumption | (symm; assumption))) | (simp only [I.val]; done) | (simp only [I.val]; omega) | omega | assumption | (refine And.intro ?_ ?_) | exact Or.inl rfl | exact Or.inr (by assumption) | exact List.Mem.head _ | exact List.Mem.tail _ (List.Mem.head _) | exact ⟨_, rfl⟩ | exact ⟨_, rfl, Or.inl rfl⟩ | (refine ⟨_, rfl, Or.inr ?_⟩; (try (conv => cbv))) | (simp only [I.val] at *; first | omega | (subst_vars; rfl) | simp_all) | (refine Or.inr ?_; (try (conv => cbv))))))) rfl rfl
      · have g3 : ¬ 0 < q := g3
        have hAn : A = [] := List.eq_nil_of_length_eq_zero (by omega)
        conv => cbv
        refine callF_frame (queueAt_nil (.lit 0)) [] rfl trivial rfl rfl (fun r h' n' ⟨e1, e2, e3⟩ => ?_)
        subst e1 e2 e3
        conv => cbv
        refine callF_frame (all_lx A z hz hA (by omega)) [(0, 1)] rfl (by simp [hmapOk, nget, hget, renB, okB]) rfl rfl (fun r h' n' hrr => ?_)
        obtain ⟨k10, L10, e1, e2, e3, hL10, hk10⟩ := hrr
        subst e1 e2 e3
        conv => cbv
        refine callF_lend (plaini64_lx A A k10 q L10 la hk10 hq (by rw [hL10]; exact preI_ints A) (by rw [hla]; exact preI_ints A) (by omega)) (by simp [lends, lendV, hget, I.val, pvle]) (fun r h' n' ⟨⟨b, e1, _⟩, e2, e3⟩ => by subst e1 e2; exact ⟨trivial, trivial⟩) (fun r h' n' hrr => ?_)
        obtain ⟨⟨b9, e1, hb9⟩, e2, e3⟩ := hrr
        subst e1 e2 e3
        obtain rfl : b9 = true := hb9.2 rfl
        conv => cbv
        refine callF_frame (queueAdd_nil (.lit 1)) [] rfl trivial rfl rfl (fun r h' n' ⟨e1, e2, e3⟩ => ?_)
        subst e1 e2 e3
        conv => cbv
        refine CallF.le (args0 := [.p .nilp, .p (.int .i64 (.sym 1))]) (callF_frame queueRemove_nil [] rfl trivial rfl rfl (fun r h' n' ⟨e1, e2, e3⟩ => ?_)) (by simp [ales, ale, pvle, I.val])
        subst e1 e2 e3
        conv => cbv
        refine callF_frame all_nil [] rfl trivial rfl rfl (fun r h' n' ⟨e1, e2, e3⟩ => ?_)
        subst e1 e2 e3
        conv => cbv
        refine callF_frame queueLen_nil [] rfl trivial rfl rfl (fun r h' n' ⟨e1, e2, e3⟩ => ?_)
        subst e1 e2 e3
        conv => cbv
        refine Br.mk (fun g9 => ?_) (fun g9 => ?_)
        case refine_2 =>
          have gf : False := g9 rfl
          cases gf
        conv => cbv
        refine RetF.mk [.p (.bool true)] [] 1 (Re.of [] [] (by first | exact Nat.zero_le _ | exact Nat.le_refl _ | decide | (dsimp only; decide)) rfl rfl (by (try (conv => cbv)); (repeat' (first | exact trivial | rfl | exact SEq.mk rfl | (exact SEq.mk (by first | assumption | (symm; assumption))) | (simp only [I.val]; done) | (simp only [I.val]; omega) | omega | assumption | (refine And.intro ?_ ?_) | exact Or.inl rfl | exact Or.inr (by assumption) | exact List.Mem.head _ | exact List.Mem.tail _ (List.Mem.head _) | exact ⟨_, rfl⟩ | exact ⟨_, rfl, Or.inl rfl⟩ | (refine ⟨_, rfl, Or.inr ?_⟩; (try (conv => cbv))) | (simp only [I.val] at *; first | omega | (subst_vars; rfl) | simp_all) | (refine Or.inr ?_; (try (conv => cbv)))))) (by (try (conv => cbv)); (repeat' (first | exact trivial | rfl | exact SEq.mk rfl | (exact SEq.mk (by first | assumption | (symm; assumption))) | (simp only [I.val]; done) | (simp only [I.val]; omega) | omega | assumption | (refine And.intro ?_ ?_) | exact Or.inl rfl | exact Or.inr (by assumption) | exact List.Mem.head _ | exact List.Mem.tail _ (List.Mem.head _) | exact ⟨_, rfl⟩ | exact ⟨_, rfl, Or.inl rfl⟩ | (refine ⟨_, rfl, Or.inr ?_⟩; (try (conv => cbv))) | (simp only [I.val] at *; first | omega | (subst_vars; rfl) | simp_all) | (refine Or.inr ?_; (try (conv => cbv))))))) rfl rfl
  · have g1 : ¬ i < m := g1
    conv => cbv
    refine Br.mk (fun g3 => ?_) (fun g3 => ?_)
    · have g3 : 0 < q := g3
      conv => cbv
      refine Fit.wrap fun x hx => ?_
      have hx : x = IntKind.u64.wrap g := hx
      have hx0 : 0 ≤ x := by rw [hx]; simp [IntKind.wrap, IntKind.bits, IntKind.signed]; omega
      clear hx
      conv => cbv
      refine Fit.mk (show (0 : Int) ≤ q by omega) (show q ≤ 18446744073709551615 by omega) fun u hu => ?_
      have hu : u = q := hu
      conv => cbv
      refine Need.mk (show u ≠ 0 by omega) ?_
      conv => cbv
      refine Sum.mk fun t ht => ?_
      have ht : t = x % u := (show t = x.tmod u from ht).trans (Int.tmod_eq_emod_of_nonneg hx0)
      have ht0 : 0 ≤ t := by rw [ht]; exact Int.emod_nonneg _ (by omega)
      have ht1 : t < q := by rw [ht, hu]; exact Int.emod_lt_of_pos _ g3
      clear ht
      conv => cbv
      refine Fit.mk (by show (-9223372036854775808 : Int) ≤ t; omega) (by show t ≤ 9223372036854775807; omega) fun k2 hk2 => ?_
      have hk2 : k2 = t := hk2
      have hk0 : 0 ≤ k2 := by omega
      have hk1 : k2 < q := by omega
      clear hk2 ht0 ht1 hx0
      obtain ⟨y, hy⟩ : ∃ y, A[k2.toNat]? = some y := ⟨_, List.getElem?_eq_getElem (by omega)⟩
      have hcy : la[k2.toNat]? = some (.int .i64 (.sym y)) := by rw [hla, ints_get, hy]; rfl
      conv => cbv
      refine Need.mk ⟨hk0, hk1⟩ ?_
      conv => cbv
      refine Cell.at k2 _ hcy (by simp [I.val]) (by omega) ?_
      conv => cbv
      have hyA := List.mem_of_getElem? hy
      have hy8 := hA y hyA
      refine callF_frame (queueRemove_lx A y z hz hA hy8 (by omega) o ho) [(0, 0), (1, 1)] rfl (by simp [hmapOk, nget, hget, renB, okB]) rfl rfl (fun r h' n' ⟨b, z2, A2, e1, e2, e3, hz2, hA2, hb1⟩ => ?_)
      subst e1 e2 e3
      obtain rfl : b = true := hb1.2 hyA
      have hel : A2.length = A.length - 1 := by rw [hA2, List.length_erase_of_mem hyA]
      have hA28 : ∀ e ∈ A2, i64 e := fun e he => hA e (List.mem_of_mem_erase (hA2 ▸ he))
      have hyn : y ∉ A2 := by rw [hA2]; exact hnd.not_mem_erase
      conv => cbv
      refine callF_frame (queueAdd_lx A2 y z2 hz2 hA28 hy8 (by omega) o ho) [(0, 0), (1, 1)] rfl (by simp [hmapOk, nget, hget, renB, okB]) rfl rfl (fun r h' n' ⟨b, z3, A3, e1, e2, e3, hz3, h4⟩ => ?_)
      subst e1 e2 e3
      obtain ⟨rfl, hA3⟩ : b = true ∧ A3 = A2 ++ [y] := by
        rcases h4 with ⟨h, _⟩ | ⟨_, h, k⟩
        · exact absurd h hyn
        · exact ⟨h, k⟩
      have her := erase_first y A k2.toNat hy (nodup_first hnd hy)
      conv => cbv
      have hA38 : ∀ e ∈ A3, i64 e := by
        intro e he
        rw [hA3] at he
        rcases List.mem_append.1 he with he | he
        · exact hA28 e he
        · rw [List.mem_singleton.1 he]; exact hy8
      have hA3l : A3.length ≤ 40 := by rw [hA3, List.length_append]; show A2.length + 1 ≤ 40; omega
      clear h4 hb1
      refine drawF_of_any (by kernel_rfl) (drawAny_split 10 3 (by kernel_rfl) (any_of_drawn tok [(10, [7, 6, 5, 4, 2, 1, 0]), (3, [7, 6, 5, 4]), (8, []), (11, [])] [0, 1, 2, 4, 5, 6, 7, 9, 10, 3, 8, 11, 12] (by kernel_rfl) ?_)
        (drawAny_split 10 8 (by kernel_rfl) (any_of_drawn tok [(3, [9, 7, 6, 5, 4]), (10, [7, 6, 5, 4]), (8, []), (11, [])] [0, 1, 2, 4, 5, 6, 7, 9, 3, 10, 8, 11, 12] (by kernel_rfl) ?_) (any_of_drawn tok [(3, [9, 7, 6, 5, 4]), (8, [9]), (10, []), (11, [])] [0, 1, 2, 4, 5, 6, 7, 9, 3, 8, 10, 11, 12] (by kernel_rfl) ?_)))
      · conv => cbv
        refine Need.mk ⟨hk0, .inl (Int.le_of_lt hk1)⟩ ?_
        conv => cbv
        refine Fit.mk (by show (-9223372036854775808 : Int) ≤ k2 + 1; omega) (by show k2 + 1 ≤ 9223372036854775807; omega) fun k3 hk3 => ?_
        have hk3 : k3 = k2 + 1 := hk3
        conv => cbv
        by_cases he : k3 = q
        · refine Room.within ⟨by show 0 ≤ k3; omega, he⟩ ?_
          conv => cbv
          refine Room.within ⟨hk0, by rw [hla, ints_length]; show k2 * 1 ≤ ((A.length : Nat) : Int); omega⟩ ?_
          conv => cbv
          refine Upd.mk fun T1 hT1 => ?_
          have hT1 : T1 = ints (A.take k2.toNat) := by
            have h : T1 = la.take (k2.toNat * 1) := hT1
            rw [h, hla, Nat.mul_one, ints, ints, List.map_take]
          have hl1 : T1.length = k2.toNat := by rw [hT1, ints_length, List.length_take]; omega
          conv => cbv
          refine Need.mk ⟨by show k2 * 8 ≤ 140737488355328; omega, by show k2 ≤ 9223372036854775807; omega⟩ ?_
          conv => cbv
          refine Need.mk rfl ?_
          conv => cbv
          refine Room.new ⟨by rw [hl1]; show ((k2.toNat : Nat) : Int) = k2 * 1; omega, by show (k2 + 0) * 8 ≤ 140737488355328; omega, by show k2 + 0 ≤ 9223372036854775807; omega⟩ ?_
          conv => cbv
          refine Upd.mk fun T3 hT3 => ?_
          have hT3 : T3 = T1 ++ [] := hT3
          have hl3 : T3.length = k2.toNat := by rw [hT3, List.append_nil, hl1]
          have hTe : T3 = ints (A.erase y) := by rw [hT3, hT1, her, List.append_nil, List.drop_eq_nil_of_le (by omega), List.append_nil]
          conv => cbv
          refine Room.new rfl ?_
          conv => cbv
          refine Room.new ⟨by rw [hl3]; show ((k2.toNat : Nat) : Int) = k2 * 1; omega, by show (k2 + 1) * 8 ≤ 140737488355328; omega, by show k2 + 1 ≤ 9223372036854775807; omega⟩ ?_
          conv => cbv
          refine Upd.mk fun W hWW => ?_
          have hWW : W = T3 ++ [.int .i64 (.sym y)] := hWW
          have hW : W = ints A3 := by rw [hWW, hTe, hA3, hA2, ints, ints, List.map_append]; rfl
          conv => cbv
          refine Sum.mk fun k9 hk99 => ?_
          have hk99 : k9 = k2 + 1 := hk99
          have hk9 : k9 = A3.length := by rw [← ints_length, ← hW, hWW, List.length_append, hl3]; show k9 = ((k2.toNat + 1 : Nat) : Int); omega
          conv => cbv
          refine Fit.mk (by show (-9223372036854775808 : Int) ≤ k9 - 1; omega) (by show k9 - 1 ≤ 9223372036854775807; omega) fun u9 hu9 => ?_
          have hu9 : u9 = k9 - 1 := hu9
          conv => cbv
          refine callF_frame (queueAt_lx A3 u9 ⟨by omega, by omega⟩ z3 hz3 hA38 (by omega)) [(0, 1)] rfl (by simp [hmapOk, nget, hget, renB, okB]) rfl rfl (fun r h' n' hrr => ?_)
          obtain ⟨v9, b9, e1, e2, e3, h9⟩ := hrr
          subst e1 e2 e3
          obtain ⟨rfl, hv9⟩ : b9 = true ∧ v9 = y := by
            rcases h9 with ⟨h, _⟩ | ⟨_, h1, h2⟩
            · rw [hA3] at h; simp at h
            · refine ⟨h1, ?_⟩
              have hl9 : A3.length = A2.length + 1 := by rw [hA3, List.length_append]; rfl
              rw [show (max u9 0).toNat = A2.length by omega, hl9, Nat.mod_eq_of_lt (Nat.lt_succ_self _), hA3, List.getElem?_append_right (Nat.le_refl _), Nat.sub_self] at h2
              exact (Option.some.inj h2).symm
          clear h9
          conv => cbv
          refine Br.mk (fun g9 => ?_) (fun g9 => ?_)
          case refine_1 =>
            have gf : False := g9 hv9
            cases gf
          conv => cbv
          refine callF_frame (queueAt_nil (.lit 0)) [] rfl trivial rfl rfl (fun r h' n' ⟨e1, e2, e3⟩ => ?_)
          subst e1 e2 e3
          conv => cbv
          refine callF_frame (all_lx A3 z3 hz3 hA38 (by omega)) [(0, 1)] rfl (by simp [hmapOk, nget, hget, renB, okB]) rfl rfl (fun r h' n' hrr => ?_)
          obtain ⟨k10, L10, e1, e2, e3, hL10, hk10⟩ := hrr
          subst e1 e2 e3
          conv => cbv
          refine callF_lend (plaini64_lx A3 A3 k10 k9 L10 W hk10 hk9 (by rw [hL10]; exact preI_ints A3) (by rw [hW]; exact preI_ints A3) (by omega)) (by simp [lends, lendV, hget, I.val, pvle]) (fun r h' n' ⟨⟨b, e1, _⟩, e2, e3⟩ => by subst e1 e2; exact ⟨trivial, trivial⟩) (fun r h' n' hrr => ?_)
          obtain ⟨⟨b9, e1, hb9⟩, e2, e3⟩ := hrr
          subst e1 e2 e3
          obtain rfl : b9 = true := hb9.2 rfl
          conv => cbv
          refine callF_frame (queueAdd_nil (.lit 1)) [] rfl trivial rfl rfl (fun r h' n' ⟨e1, e2, e3⟩ => ?_)
          subst e1 e2 e3
          conv => cbv
          refine CallF.le (args0 := [.p .nilp, .p (.int .i64 (.sym 1))]) (callF_frame queueRemove_nil [] rfl trivial rfl rfl (fun r h' n' ⟨e1, e2, e3⟩ => ?_)) (by simp [ales, ale, pvle, I.val])
          subst e1 e2 e3
          conv => cbv
          refine callF_frame all_nil [] rfl trivial rfl rfl (fun r h' n' ⟨e1, e2, e3⟩ => ?_)
          subst e1 e2 e3
          conv => cbv
          refine callF_frame queueLen_nil [] rfl trivial rfl rfl (fun r h' n' ⟨e1, e2, e3⟩ => ?_)
          subst e1 e2 e3
          conv => cbv
          refine Br.mk (fun g9 => ?_) (fun g9 => ?_)
          case refine_2 =>
            have gf : False := g9 rfl
            cases gf
          conv => cbv
          refine RetF.mk [.p (.bool true)] [] 1 (Re.of [] [] (by first | exact Nat.zero_le _ | exact Nat.le_refl _ | decide | (dsimp only; decide)) rfl rfl (by (try (conv => cbv)); (repeat' (first | exact trivial | rfl | exact SEq.mk rfl | (exact SEq.mk (by first | assumption | (symm; assumption))) | (simp only [I.val]; done) | (simp only [I.val]; omega) | omega | assumption | (refine And.intro ?_ ?_) | exact Or.inl rfl | exact Or.inr (by assumption) | exact List.Mem.head _ | exact List.Mem.tail _ (List.Mem.head _) | exact ⟨_, rfl⟩ | exact ⟨_, rfl, Or.inl rfl⟩ | (refine ⟨_, rfl, Or.inr ?_⟩; (try (conv => cbv))) | (simp only [I.val] at *; first | omega | (subst_vars; rfl) | simp_all) | (refine Or.inr ?_; (try (conv => cbv)))))) (by (try (conv => cbv)); (repeat' (first | exact trivial | rfl | exact SEq.mk rfl | (exact SEq.mk (by first | assumption | (symm; assumption))) | (simp only [I.val]; done) | (simp only [I.val]; omega) | omega | assumption | (refine And.intro ?_ ?_) | exact Or.inl rfl | exact Or.inr (by assumption) | exact List.Mem.head _ | exact List.Mem.tail _ (List.Mem.head _) | exact ⟨_, rfl⟩ | exact ⟨_, rfl, Or.inl rfl⟩ | (refine ⟨_, rfl, Or.inr ?_⟩; (try (conv => cbv))) | (simp only [I.val] at *; first | omega | (subst_vars; rfl) | simp_all) | (refine Or.inr ?_; (try (conv => cbv))))))) rfl rfl
        · refine Room.new ⟨by show 0 ≤ k3; omega, by show k3 < q; omega⟩ ?_
          conv => cbv
          refine Sum.mk fun d hd => ?_
          have hd : d = q - k3 := hd
          conv => cbv
          refine Room.within ⟨hk0, by rw [hla, ints_length]; show k2 * 1 ≤ ((A.length : Nat) : Int); omega⟩ ?_
          conv => cbv
          refine Upd.mk fun T1 hT1 => ?_
          have hT1 : T1 = ints (A.take k2.toNat) := by
            have h : T1 = la.take (k2.toNat * 1) := hT1
            rw [h, hla, Nat.mul_one, ints, ints, List.map_take]
          have hl1 : T1.length = k2.toNat := by rw [hT1, ints_length, List.length_take]; omega
          conv => cbv
          refine Need.mk ⟨by show k2 * 8 ≤ 140737488355328; omega, by show k2 ≤ 9223372036854775807; omega⟩ ?_
          conv => cbv
          refine Need.mk ⟨by show 0 ≤ k3; omega, by show 0 ≤ d; omega, by rw [hla, ints_length]; show k3 + d * 1 ≤ ((A.length : Nat) : Int); omega⟩ ?_
          conv => cbv
          refine Upd.mk fun T2 hT2 => ?_
          have hT2 : T2 = ints (A.drop (k2.toNat + 1)) := by
            have h : T2 = (la.drop k3.toNat).take (d.toNat * 1) := hT2
            rw [h, hla, Nat.mul_one, ints, ints, List.map_drop, show k3.toNat = k2.toNat + 1 by omega]
            exact List.take_of_length_le (by rw [List.length_drop, List.length_map]; omega)
          have hl2 : T2.length = d.toNat := by rw [hT2, ints_length, List.length_drop]; omega
          conv => cbv
          refine Room.new ⟨by rw [hl1]; show ((k2.toNat : Nat) : Int) = k2 * 1; omega, by show (k2 + d) * 8 ≤ 140737488355328; omega, by show k2 + d ≤ 9223372036854775807; omega⟩ ?_
          conv => cbv
          refine Upd.mk fun T3 hT3 => ?_
          have hT3 : T3 = T1 ++ T2 := hT3
          have hTe : T3 = ints (A.erase y) := by rw [hT3, hT1, hT2, her, ints, ints, ints, List.map_append]
          conv => cbv
          refine Sum.mk fun kk hkk => ?_
          have hkk : kk = k2 + d := hkk
          have hl3 : T3.length = kk.toNat := by rw [hT3, List.length_append, hl1, hl2]; omega
          conv => cbv
          refine Room.new rfl ?_
          conv => cbv
          refine Room.new ⟨by rw [hl3]; show ((kk.toNat : Nat) : Int) = kk * 1; omega, by show (kk + 1) * 8 ≤ 140737488355328; omega, by show kk + 1 ≤ 9223372036854775807; omega⟩ ?_
          conv => cbv
          refine Upd.mk fun W hWW => ?_
          have hWW : W = T3 ++ [.int .i64 (.sym y)] := hWW
          have hW : W = ints A3 := by rw [hWW, hTe, hA3, hA2, ints, ints, List.map_append]; rfl
          conv => cbv
          refine Sum.mk fun k9 hk99 => ?_
          have hk99 : k9 = kk + 1 := hk99
          have hk9 : k9 = A3.length := by rw [← ints_length, ← hW, hWW, List.length_append, hl3]; show k9 = ((kk.toNat + 1 : Nat) : Int); omega
          conv => cbv
          refine Fit.mk (by show (-9223372036854775808 : Int) ≤ k9 - 1; omega) (by show k9 - 1 ≤ 9223372036854775807; omega) fun u9 hu9 => ?_
          have hu9 : u9 = k9 - 1 := hu9
          conv => cbv
          refine callF_frame (queueAt_lx A3 u9 ⟨by omega, by omega⟩ z3 hz3 hA38 (by omega)) [(0, 1)] rfl (by simp [hmapOk, nget, hget, renB, okB]) rfl rfl (fun r h' n' hrr => ?_)
          obtain ⟨v9, b9, e1, e2, e3, h9⟩ := hrr
          subst e1 e2 e3
          obtain ⟨rfl, hv9⟩ : b9 = true ∧ v9 = y := by
            rcases h9 with ⟨h, _⟩ | ⟨_, h1, h2⟩
            · rw [hA3] at h; simp at h
            · refine ⟨h1, ?_⟩
              have hl9 : A3.length = A2.length + 1 := by rw [hA3, List.length_append]; rfl
              rw [show (max u9 0).toNat = A2.length by omega, hl9, Nat.mod_eq_of_lt (Nat.lt_succ_self _), hA3, List.getElem?_append_right (Nat.le_refl _), Nat.sub_self] at h2
              exact (Option.some.inj h2).symm
          clear h9
          conv => cbv
          refine Br.mk (fun g9 => ?_) (fun g9 => ?_)
          case refine_1 =>
            have gf : False := g9 hv9
            cases gf
          conv => cbv
          refine callF_frame (queueAt_nil (.lit 0)) [] rfl trivial rfl rfl (fun r h' n' ⟨e1, e2, e3⟩ => ?_)
          subst e1 e2 e3
          conv => cbv
          refine callF_frame (all_lx A3 z3 hz3 hA38 (by omega)) [(0, 1)] rfl (by simp [hmapOk, nget, hget, renB, okB]) rfl rfl (fun r h' n' hrr => ?_)
          obtain ⟨k10, L10, e1, e2, e3, hL10, hk10⟩ := hrr
          subst e1 e2 e3
          conv => cbv
          refine callF_lend (plaini64_lx A3 A3 k10 k9 L10 W hk10 hk9 (by rw [hL10]; exact preI_ints A3) (by rw [hW]; exact preI_ints A3) (by omega)) (by simp [lends, lendV, hget, I.val, pvle]) (fun r h' n' ⟨⟨b, e1, _⟩, e2, e3⟩ => by subst e1 e2; exact ⟨trivial, trivial⟩) (fun r h' n' hrr => ?_)
          obtain ⟨⟨b9, e1, hb9⟩, e2, e3⟩ := hrr
          subst e1 e2 e3
          obtain rfl : b9 = true := hb9.2 rfl
          conv => cbv
          refine callF_frame (queueAdd_nil (.lit 1)) [] rfl trivial rfl rfl (fun r h' n' ⟨e1, e2, e3⟩ => ?_)
          subst e1 e2 e3
          conv => cbv
          refine CallF.le (args0 := [.p .nilp, .p (.int .i64 (.sym 1))]) (callF_frame queueRemove_nil [] rfl trivial rfl rfl (fun r h' n' ⟨e1, e2, e3⟩ => ?_)) (by simp [ales, ale, pvle, I.val])
          subst e1 e2 e3
          conv => cbv
          refine callF_frame all_nil [] rfl trivial rfl rfl (fun r h' n' ⟨e1, e2, e3⟩ => ?_)
          subst e1 e2 e3
          conv => cbv
          refine callF_frame queueLen_nil [] rfl trivial rfl rfl (fun r h' n' ⟨e1, e2, e3⟩ => ?_)
          subst e1 e2 e3
          conv => cbv
          refine Br.mk (fun g9 => ?_) (fun g9 => ?_)
          case refine_2 =>
            have gf : False := g9 rfl
            cases gf
          conv => cbv
          refine RetF.mk [.p (.bool true)] [] 1 (Re.of [] [] (by first | exact Nat.zero_le _ | exact Nat.le_refl _ | decide | (dsimp only; decide)) rfl rfl (by (try (conv => cbv)); (repeat' (first | exact trivial | rfl | exact SEq.mk rfl | (exact SEq.mk (by first | assumption | (symm; assumption))) | (simp only [I.val]; done) | (simp only [I.val]; omega) | omega | assumption | (refine And.intro ?_ ?_) | exact Or.inl rfl | exact Or.inr (by assumption) | exact List.Mem.head _ | exact List.Mem.tail _ (List.Mem.head _) | exact ⟨_, rfl⟩ | exact ⟨_, rfl, Or.inl rfl⟩ | (refine ⟨_, rfl, Or.inr ?_⟩; (try (conv => cbv))) | (simp only [I.val] at *; first | omega | (subst_vars; rfl) | simp_all) | (refine Or.inr ?_; (try (conv => cbv)))))) (by (try (conv => cbv)); (repeat' (first | exact trivial | rfl | exact SEq.mk rfl | (exact SEq.mk (by first | assumption | (symm; assumption))) | (simp only [I.val]; done) | (simp only [I.val]; omega) | omega | assumption | (refine And.intro ?_ ?_) | exact Or.inl rfl | exact Or.inr (by assumption) | exact List.Mem.head _ | exact List.Mem.tail _ (List.Mem.head _) | exact ⟨_, rfl⟩ | exact ⟨_, rfl, Or.inl rfl⟩ | (refine ⟨_, rfl, Or.inr ?_⟩; (try (conv => cbv))) | (simp only [I.val] at *; first | omega | (subst_vars; rfl) | simp_all) | (refine Or.inr ?_; (try (conv => cbv))))))) rfl rfl
      · conv => cbv
        refine Need.mk ⟨hk0, .inl (Int.le_of_lt hk1)⟩ ?_
        conv => cbv
        refine Fit.mk (by show (-9223372036854775808 : Int) ≤ k2 + 1; omega) (by show k2 + 1 ≤ 9223372036854775807; omega) fun k3 hk3 => ?_
        have hk3 : k3 = k2 + 1 := hk3
        conv => cbv
        by_cases he : k3 = q
        · refine Room.within ⟨by show 0 ≤ k3; omega, he⟩ ?_
          conv => cbv
          refine Room.within ⟨hk0, by rw [hla, ints_length]; show k2 * 1 ≤ ((A.length : Nat) : Int); omega⟩ ?_
          conv => cbv
          refine Upd.mk fun T1 hT1 => ?_
          have hT1 : T1 = ints (A.take k2.toNat) := by
            have h : T1 = la.take (k2.toNat * 1) := hT1
            rw [h, hla, Nat.mul_one, ints, ints, List.map_take]
          have hl1 : T1.length = k2.toNat := by rw [hT1, ints_length, List.length_take]; omega
          conv => cbv
          refine Need.mk ⟨by show k2 * 8 ≤ 140737488355328; omega, by show k2 ≤ 9223372036854775807; omega⟩ ?_
          conv => cbv
          refine Need.mk rfl ?_
          conv => cbv
          refine Room.new ⟨by rw [hl1]; show ((k2.toNat : Nat) : Int) = k2 * 1; omega, by show (k2 + 0) * 8 ≤ 140737488355328; omega, by show k2 + 0 ≤ 9223372036854775807; omega⟩ ?_
          conv => cbv
          refine Upd.mk fun T3 hT3 => ?_
          have hT3 : T3 = T1 ++ [] := hT3
          have hl3 : T3.length = k2.toNat := by rw [hT3, List.append_nil, hl1]
          have hTe : T3 = ints (A.erase y) := by rw [hT3, hT1, her, List.append_nil, List.drop_eq_nil_of_le (by omega), List.append_nil]
          conv => cbv
          refine Room.new rfl ?_
          conv => cbv
          refine Room.new ⟨by rw [hl3]; show ((k2.toNat : Nat) : Int) = k2 * 1; omega, by show (k2 + 1) * 8 ≤ 140737488355328; omega, by show k2 + 1 ≤ 9223372036854775807; omega⟩ ?_
          conv => cbv
          refine Upd.mk fun W hWW => ?_
          have hWW : W = T3 ++ [.int .i64 (.sym y)] := hWW
          have hW : W = ints A3 := by rw [hWW, hTe, hA3, hA2, ints, ints, List.map_append]; rfl
          conv => cbv
          refine Sum.mk fun k9 hk99 => ?_
          have hk99 : k9 = k2 + 1 := hk99
          have hk9 : k9 = A3.length := by rw [← ints_length, ← hW, hWW, List.length_append, hl3]; show k9 = ((k2.toNat + 1 : Nat) : Int); omega
          conv => cbv
          refine Fit.mk (by show (-9223372036854775808 : Int) ≤ k9 - 1; omega) (by show k9 - 1 ≤ 9223372036854775807; omega) fun u9 hu9 => ?_
          have hu9 : u9 = k9 - 1 := hu9
          conv => cbv
          refine callF_frame (queueAt_lx A3 u9 ⟨by omega, by omega⟩ z3 hz3 hA38 (by omega)) [(0, 1)] rfl (by simp [hmapOk, nget, hget, renB, okB]) rfl rfl (fun r h' n' hrr => ?_)
          obtain ⟨v9, b9, e1, e2, e3, h9⟩ := hrr
          subst e1 e2 e3
          obtain ⟨rfl, hv9⟩ : b9 = true ∧ v9 = y := by
            rcases h9 with ⟨h, _⟩ | ⟨_, h1, h2⟩
            · rw [hA3] at h; simp at h
            · refine ⟨h1, ?_⟩
              have hl9 : A3.length = A2.length + 1 := by rw [hA3, List.length_append]; rfl
              rw [show (max u9 0).toNat = A2.length by omega, hl9, Nat.mod_eq_of_lt (Nat.lt_succ_self _), hA3, List.getElem?_append_right (Nat.le_refl _), Nat.sub_self] at h2
              exact (Option.some.inj h2).symm
          clear h9
          conv => cbv
          refine Br.mk (fun g9 => ?_) (fun g9 => ?_)
          case refine_1 =>
            have gf : False := g9 hv9
            cases gf
          conv => cbv
          refine callF_frame (queueAt_nil (.lit 0)) [] rfl trivial rfl rfl (fun r h' n' ⟨e1, e2, e3⟩ => ?_)
          subst e1 e2 e3
          conv => cbv
          refine callF_frame (all_lx A3 z3 hz3 hA38 (by omega)) [(0, 1)] rfl (by simp [hmapOk, nget, hget, renB, okB]) rfl rfl (fun r h' n' hrr => ?_)
          obtain ⟨k10, L10, e1, e2, e3, hL10, hk10⟩ := hrr
          subst e1 e2 e3
          conv => cbv
          refine callF_lend (plaini64_lx A3 A3 k10 k9 L10 W hk10 hk9 (by rw [hL10]; exact preI_ints A3) (by rw [hW]; exact preI_ints A3) (by omega)) (by simp [lends, lendV, hget, I.val, pvle]) (fun r h' n' ⟨⟨b, e1, _⟩, e2, e3⟩ => by subst e1 e2; exact ⟨trivial, trivial⟩) (fun r h' n' hrr => ?_)
          obtain ⟨⟨b9, e1, hb9⟩, e2, e3⟩ := hrr
          subst e1 e2 e3
          obtain rfl : b9 = true := hb9.2 rfl
          conv => cbv
          refine callF_frame (queueAdd_nil (.lit 1)) [] rfl trivial rfl rfl (fun r h' n' ⟨e1, e2, e3⟩ => ?_)
          subst e1 e2 e3
          conv => cbv
          refine CallF.le (args0 := [.p .nilp, .p (.int .i64 (.sym 1))]) (callF_frame queueRemove_nil [] rfl trivial rfl rfl (fun r h' n' ⟨e1, e2, e3⟩ => ?_)) (by simp [ales, ale, pvle, I.val])
          subst e1 e2 e3
          conv => cbv
          refine callF_frame all_nil [] rfl trivial rfl rfl (fun r h' n' ⟨e1, e2, e3⟩ => ?_)
          subst e1 e2 e3
          conv => cbv
          refine callF_frame queueLen_nil [] rfl trivial rfl rfl (fun r h' n' ⟨e1, e2, e3⟩ => ?_)
          subst e1 e2 e3
          conv => cbv
          refine Br.mk (fun g9 => ?_) (fun g9 => ?_)
          case refine_2 =>
            have gf : False := g9 rfl
            cases gf
          conv => cbv
          refine RetF.mk [.p (.bool true)] [] 1 (Re.of [] [] (by first | exact Nat.zero_le _ | exact Nat.le_refl _ | decide | (dsimp only; decide)) rfl rfl (by (try (conv => cbv)); (repeat' (first | exact trivial | rfl | exact SEq.mk rfl | (exact SEq.mk (by first | assumption | (symm; assumption))) | (simp only [I.val]; done) | (simp only [I.val]; omega) | omega | assumption | (refine And.intro ?_ ?_) | exact Or.inl rfl | exact Or.inr (by assumption) | exact List.Mem.head _ | exact List.Mem.tail _ (List.Mem.head _) | exact ⟨_, rfl⟩ | exact ⟨_, rfl, Or.inl rfl⟩ | (refine ⟨_, rfl, Or.inr ?_⟩; (try (conv => cbv))) | (simp only [I.val] at *; first | omega | (subst_vars; rfl) | simp_all) | (refine Or.inr ?_; (try (conv => cbv)))))) (by (try (conv => cbv)); (repeat' (first | exact trivial | rfl | exact SEq.mk rfl | (exact SEq.mk (by first | assumption | (symm; assumption))) | (simp only [I.val]; done) | (simp only [I.val]; omega) | omega | assumption | (refine And.intro ?_ ?_) | exact Or.inl rfl | exact Or.inr (by assumption) | exact List.Mem.head _ | exact List.Mem.tail _ (List.Mem.head _) | exact ⟨_, rfl⟩ | exact ⟨_, rfl, Or.inl rfl⟩ | (refine ⟨_, rfl, Or.inr ?_⟩; (try (conv => cbv))) | (simp only [I.val] at *; first | omega | (subst_vars; rfl) | simp_all) | (refine Or.inr ?_; (try (conv => cbv))))))) rfl rfl
        · refine Room.new ⟨by show 0 ≤ k3; omega, by show k3 < q; omega⟩ ?_
          conv => cbv
          refine Sum.mk fun d hd => ?_
          have hd : d = q - k3 := hd
          conv => cbv
          refine Room.within ⟨hk0, by rw [hla, ints_length]; show k2 * 1 ≤ ((A.length : Nat) : Int); omega⟩ ?_
          conv => cbv
          refine Upd.mk fun T1 hT1 => ?_
          have hT1 : T1 = ints (A.take k2.toNat) := by
            have h : T1 = la.take (k2.toNat * 1) := hT1
            rw [h, hla, Nat.mul_one, ints, ints, List.map_take]
          have hl1 : T1.length = k2.toNat := by rw [hT1, ints_length, List.length_take]; omega
          conv => cbv
          refine Need.mk ⟨by show k2 * 8 ≤ 140737488355328; omega, by show k2 ≤ 9223372036854775807; omega⟩ ?_
          conv => cbv
          refine Need.mk ⟨by show 0 ≤ k3; omega, by show 0 ≤ d; omega, by rw [hla, ints_length]; show k3 + d * 1 ≤ ((A.length : Nat) : Int); omega⟩ ?_
          conv => cbv
          refine Upd.mk fun T2 hT2 => ?_
          have hT2 : T2 = ints (A.drop (k2.toNat + 1)) := by
            have h : T2 = (la.drop k3.toNat).take (d.toNat * 1) := hT2
            rw [h, hla, Nat.mul_one, ints, ints, List.map_drop, show k3.toNat = k2.toNat + 1 by omega]
            exact List.take_of_length_le (by rw [List.length_drop, List.length_map]; omega)
          have hl2 : T2.length = d.toNat := by rw [hT2, ints_length, List.length_drop]; omega
          conv => cbv
          refine Room.new ⟨by rw [hl1]; show ((k2.toNat : Nat) : Int) = k2 * 1; omega, by show (k2 + d) * 8 ≤ 140737488355328; omega, by show k2 + d ≤ 9223372036854775807; omega⟩ ?_
          conv => cbv
          refine Upd.mk fun T3 hT3 => ?_
          have hT3 : T3 = T1 ++ T2 := hT3
          have hTe : T3 = ints (A.erase y) := by rw [hT3, hT1, hT2, her, ints, ints, ints, List.map_append]
          conv => cbv
          refine Sum.mk fun kk hkk => ?_
          have hkk : kk = k2 + d := hkk
          have hl3 : T3.length = kk.toNat := by rw [hT3, List.length_append, hl1, hl2]; omega
          conv => cbv
          refine Room.new rfl ?_
          conv => cbv
          refine Room.new ⟨by rw [hl3]; show ((kk.toNat : Nat) : Int) = kk * 1; omega, by show (kk + 1) * 8 ≤ 140737488355328; omega, by show kk + 1 ≤ 9223372036854775807; omega⟩ ?_
          conv => cbv
          refine Upd.mk fun W hWW => ?_
          have hWW : W = T3 ++ [.int .i64 (.sym y)] := hWW
          have hW : W = ints A3 := by rw [hWW, hTe, hA3, hA2, ints, ints, List.map_append]; rfl
          conv => cbv
          refine Sum.mk fun k9 hk99 => ?_
          have hk99 : k9 = kk + 1 := hk99
          have hk9 : k9 = A3.length := by rw [← ints_length, ← hW, hWW, List.length_append, hl3]; show k9 = ((kk.toNat + 1 : Nat) : Int); omega
          conv => cbv
          refine Fit.mk (by show (-9223372036854775808 : Int) ≤ k9 - 1; omega) (by show k9 - 1 ≤ 9223372036854775807; omega) fun u9 hu9 => ?_
          have hu9 : u9 = k9 - 1 := hu9
          conv => cbv
          refine callF_frame (queueAt_lx A3 u9 ⟨by omega, by omega⟩ z3 hz3 hA38 (by omega)) [(0, 1)] rfl (by simp [hmapOk, nget, hget, renB, okB]) rfl rfl (fun r h' n' hrr => ?_)
          obtain ⟨v9, b9, e1, e2, e3, h9⟩ := hrr
          subst e1 e2 e3
          obtain ⟨rfl, hv9⟩ : b9 = true ∧ v9 = y := by
            rcases h9 with ⟨h, _⟩ | ⟨_, h1, h2⟩
            · rw [hA3] at h; simp at h
            · refine ⟨h1, ?_⟩
              have hl9 : A3.length = A2.length + 1 := by rw [hA3, List.length_append]; rfl
              rw [show (max u9 0).toNat = A2.length by omega, hl9, Nat.mod_eq_of_lt (Nat.lt_succ_self _), hA3, List.getElem?_append_right (Nat.le_refl _), Nat.sub_self] at h2
              exact (Option.some.inj h2).symm
          clear h9
          conv => cbv
          refine Br.mk (fun g9 => ?_) (fun g9 => ?_)
          case refine_1 =>
            have gf : False := g9 hv9
            cases gf
          conv => cbv
          refine callF_frame (queueAt_nil (.lit 0)) [] rfl trivial rfl rfl (fun r h' n' ⟨e1, e2, e3⟩ => ?_)
          subst e1 e2 e3
          conv => cbv
          refine callF_frame (all_lx A3 z3 hz3 hA38 (by omega)) [(0, 1)] rfl (by simp [hmapOk, nget, hget, renB, okB]) rfl rfl (fun r h' n' hrr => ?_)
          obtain ⟨k10, L10, e1, e2, e3, hL10, hk10⟩ := hrr
          subst e1 e2 e3
          conv => cbv
          refine callF_lend (plaini64_lx A3 A3 k10 k9 L10 W hk10 hk9 (by rw [hL10]; exact preI_ints A3) (by rw [hW]; exact preI_ints A3) (by omega)) (by simp [lends, lendV, hget, I.val, pvle]) (fun r h' n' ⟨⟨b, e1, _⟩, e2, e3⟩ => by subst e1 e2; exact ⟨trivial, trivial⟩) (fun r h' n' hrr => ?_)
          obtain ⟨⟨b9, e1, hb9⟩, e2, e3⟩ := hrr
          subst e1 e2 e3
          obtain rfl : b9 = true := hb9.2 rfl
          conv => cbv
          refine callF_frame (queueAdd_nil (.lit 1)) [] rfl trivial rfl rfl (fun r h' n' ⟨e1, e2, e3⟩ => ?_)
          subst e1 e2 e3
          conv => cbv
          refine CallF.le (args0 := [.p .nilp, .p (.int .i64 (.sym 1))]) (callF_frame queueRemove_nil [] rfl trivial rfl rfl (fun r h' n' ⟨e1, e2, e3⟩ => ?_)) (by simp [ales, ale, pvle, I.val])
          subst e1 e2 e3
          conv => cbv
          refine callF_frame all_nil [] rfl trivial rfl rfl (fun r h' n' ⟨e1, e2, e3⟩ => ?_)
          subst e1 e2 e3
          conv => cbv
          refine callF_frame queueLen_nil [] rfl trivial rfl rfl (fun r h' n' ⟨e1, e2, e3⟩ => ?_)
          subst e1 e2 e3
          conv => cbv
          refine Br.mk (fun g9 => ?_) (fun g9 => ?_)
          case refine_2 =>
            have gf : False := g9 rfl
            cases gf
          conv => cbv
          refine RetF.mk [.p (.bool true)] [] 1 (Re.of [] [] (by first | exact Nat.zero_le _ | exact Nat.le_refl _ | decide | (dsimp only; decide)) rfl rfl (by (try (conv => cbv)); (repeat' (first | exact trivial | rfl | exact SEq.mk rfl | (exact SEq.mk (by first | assumption | (symm; assumption))) | (simp only [I.val]; done) | (simp only [I.val]; omega) | omega | assumption | (refine And.intro ?_ ?_) | exact Or.inl rfl | exact Or.inr (by assumption) | exact List.Mem.head _ | exact List.Mem.tail _ (List.Mem.head _) | exact ⟨_, rfl⟩ | exact ⟨_, rfl, Or.inl rfl⟩ | (refine ⟨_, rfl, Or.inr ?_⟩; (try (conv => cbv))) | (simp only [I.val] at *; first | omega | (subst_vars; rfl) | simp_all) | (refine Or.inr ?_; (try (conv => cbv)))))) (by (try (conv => cbv)); (repeat' (first | exact trivial | rfl | exact SEq.mk rfl | (exact SEq.mk (by first | assumption | (symm; assumption))) | (simp only [I.val]; done) | (simp only [I.val]; omega) | omega | assumption | (refine And.intro ?_ ?_) | exact Or.inl rfl | exact Or.inr (by assumption) | exact List.Mem.head _ | exact List.Mem.tail _ (List.Mem.head _) | exact ⟨_, rfl⟩ | exact ⟨_, rfl, Or.inl rfl⟩ | (refine ⟨_, rfl, Or.inr ?_⟩; (try (conv => cbv))) | (simp only [I.val] at *; first | omega | (subst_vars; rfl) | simp_all) | (refine Or.inr ?_; (try (conv => cbv))))))) rfl rfl
      · conv => cbv
        refine Need.mk ⟨hk0, .inl (Int.le_of_lt hk1)⟩ ?_
        conv => cbv
        refine Fit.mk (by show (-9223372036854775808 : Int) ≤ k2 + 1; omega) (by show k2 + 1 ≤ 9223372036854775807; omega) fun k3 hk3 => ?_
        have hk3 : k3 = k2 + 1 := hk3
        conv => cbv
        by_cases he : k3 = q
        · refine Room.within ⟨by show 0 ≤ k3; omega, he⟩ ?_
          conv => cbv
          refine Room.within ⟨hk0, by rw [hla, ints_length]; show k2 * 1 ≤ ((A.length : Nat) : Int); omega⟩ ?_
          conv => cbv
          refine Upd.mk fun T1 hT1 => ?_
          have hT1 : T1 = ints (A.take k2.toNat) := by
            have h : T1 = la.take (k2.toNat * 1) := hT1
            rw [h, hla, Nat.mul_one, ints, ints, List.map_take]
          have hl1 : T1.length = k2.toNat := by rw [hT1, ints_length, List.length_take]; omega
          conv => cbv
          refine Need.mk ⟨by show k2 * 8 ≤ 140737488355328; omega, by show k2 ≤ 9223372036854775807; omega⟩ ?_
          conv => cbv
          refine Need.mk rfl ?_
          conv => cbv
          refine Room.new ⟨by rw [hl1]; show ((k2.toNat : Nat) : Int) = k2 * 1; omega, by show (k2 + 0) * 8 ≤ 140737488355328; omega, by show k2 + 0 ≤ 9223372036854775807; omega⟩ ?_
          conv => cbv
          refine Upd.mk fun T3 hT3 => ?_
          have hT3 : T3 = T1 ++ [] := hT3
          have hl3 : T3.length = k2.toNat := by rw [hT3, List.append_nil, hl1]
          have hTe : T3 = ints (A.erase y) := by rw [hT3, hT1, her, List.append_nil, List.drop_eq_nil_of_le (by omega), List.append_nil]
          conv => cbv
          refine Room.new rfl ?_
          conv => cbv
          refine Room.new ⟨by rw [hl3]; show ((k2.toNat : Nat) : Int) = k2 * 1; omega, by show (k2 + 1) * 8 ≤ 140737488355328; omega, by show k2 + 1 ≤ 9223372036854775807; omega⟩ ?_
          conv => cbv
          refine Upd.mk fun W hWW => ?_
          have hWW : W = T3 ++ [.int .i64 (.sym y)] := hWW
          have hW : W = ints A3 := by rw [hWW, hTe, hA3, hA2, ints, ints, List.map_append]; rfl
          conv => cbv
          refine Sum.mk fun k9 hk99 => ?_
          have hk99 : k9 = k2 + 1 := hk99
          have hk9 : k9 = A3.length := by rw [← ints_length, ← hW, hWW, List.length_append, hl3]; show k9 = ((k2.toNat + 1 : Nat) : Int); omega
          conv => cbv
          refine Fit.mk (by show (-9223372036854775808 : Int) ≤ k9 - 1; omega) (by show k9 - 1 ≤ 9223372036854775807; omega) fun u9 hu9 => ?_
          have hu9 : u9 = k9 - 1 := hu9
          conv => cbv
          refine callF_frame (queueAt_lx A3 u9 ⟨by omega, by omega⟩ z3 hz3 hA38 (by omega)) [(0, 1)] rfl (by simp [hmapOk, nget, hget, renB, okB]) rfl rfl (fun r h' n' hrr => ?_)
          obtain ⟨v9, b9, e1, e2, e3, h9⟩ := hrr
          subst e1 e2 e3
          obtain ⟨rfl, hv9⟩ : b9 = true ∧ v9 = y := by
            rcases h9 with ⟨h, _⟩ | ⟨_, h1, h2⟩
            · rw [hA3] at h; simp at h
            · refine ⟨h1, ?_⟩
              have hl9 : A3.length = A2.length + 1 := by rw [hA3, List.length_append]; rfl
              rw [show (max u9 0).toNat = A2.length by omega, hl9, Nat.mod_eq_of_lt (Nat.lt_succ_self _), hA3, List.getElem?_append_right (Nat.le_refl _), Nat.sub_self] at h2
              exact (Option.some.inj h2).symm
          clear h9
          conv => cbv
          refine Br.mk (fun g9 => ?_) (fun g9 => ?_)
          case refine_1 =>
            have gf : False := g9 hv9
            cases gf
          conv => cbv
          refine callF_frame (queueAt_nil (.lit 0)) [] rfl trivial rfl rfl (fun r h' n' ⟨e1, e2, e3⟩ => ?_)
          subst e1 e2 e3
          conv => cbv
          refine callF_frame (all_lx A3 z3 hz3 hA38 (by omega)) [(0, 1)] rfl (by simp [hmapOk, nget, hget, renB, okB]) rfl rfl (fun r h' n' hrr => ?_)
          obtain ⟨k10, L10, e1, e2, e3, hL10, hk10⟩ := hrr
          subst e1 e2 e3
          conv => cbv
          refine callF_lend (plaini64_lx A3 A3 k10 k9 L10 W hk10 hk9 (by rw [hL10]; exact preI_ints A3) (by rw [hW]; exact preI_ints A3) (by omega)) (by simp [lends, lendV, hget, I.val, pvle]) (fun r h' n' ⟨⟨b, e1, _⟩, e2, e3⟩ => by subst e1 e2; exact ⟨trivial, trivial⟩) (fun r h' n' hrr => ?_)
          obtain ⟨⟨b9, e1, hb9⟩, e2, e3⟩ := hrr
          subst e1 e2 e3
          obtain rfl : b9 = true := hb9.2 rfl
          conv => cbv
          refine callF_frame (queueAdd_nil (.lit 1)) [] rfl trivial rfl rfl (fun r h' n' ⟨e1, e2, e3⟩ => ?_)
          subst e1 e2 e3
          conv => cbv
          refine CallF.le (args0 := [.p .nilp, .p (.int .i64 (.sym 1))]) (callF_frame queueRemove_nil [] rfl trivial rfl rfl (fun r h' n' ⟨e1, e2, e3⟩ => ?_)) (by simp [ales, ale, pvle, I.val])
          subst e1 e2 e3
          conv => cbv
          refine callF_frame all_nil [] rfl trivial rfl rfl (fun r h' n' ⟨e1, e2, e3⟩ => ?_)
          subst e1 e2 e3
          conv => cbv
          refine callF_frame queueLen_nil [] rfl trivial rfl rfl (fun r h' n' ⟨e1, e2, e3⟩ => ?_)
          subst e1 e2 e3
          conv => cbv
          refine Br.mk (fun g9 => ?_) (fun g9 => ?_)
          case refine_2 =>
            have gf : False := g9 rfl
            cases gf
          conv => cbv
          refine RetF.mk [.p (.bool true)] [] 1 (Re.of [] [] (by first | exact Nat.zero_le _ | exact Nat.le_refl _ | decide | (dsimp only; decide)) rfl rfl (by (try (conv => cbv)); (repeat' (first | exact trivial | rfl | exact SEq.mk rfl | (exact SEq.mk (by first | assumption | (symm; assumption))) | (simp only [I.val]; done) | (simp only [I.val]; omega) | omega | assumption | (refine And.intro ?_ ?_) | exact Or.inl rfl | exact Or.inr (by assumption) | exact List.Mem.head _ | exact List.Mem.tail _ (List.Mem.head _) | exact ⟨_, rfl⟩ | exact ⟨_, rfl, Or.inl rfl⟩ | (refine ⟨_, rfl, Or.inr ?_⟩; (try (conv => cbv))) | (simp only [I.val] at *; first | omega | (subst_vars; rfl) | simp_all) | (refine Or.inr ?_; (try (conv => cbv)))))) (by (try (conv => cbv)); (repeat' (first | exact trivial | rfl | exact SEq.mk rfl | (exact SEq.mk (by first | assumption | (symm; assumption))) | (simp only [I.val]; done) | (simp only [I.val]; omega) | omega | assumption | (refine And.intro ?_ ?_) | exact Or.inl rfl | exact Or.inr (by assumption) | exact List.Mem.head _ | exact List.Mem.tail _ (List.Mem.head _) | exact ⟨_, rfl⟩ | exact ⟨_, rfl, Or.inl rfl⟩ | (refine ⟨_, rfl, Or.inr ?_⟩; (try (conv => cbv))) | (simp only [I.val] at *; first | omega | (subst_vars; rfl) | simp_all) | (refine Or.inr ?_; (try (conv => cbv))))))) rfl rfl
        · refine Room.new ⟨by show 0 ≤ k3; omega, by show k3 < q; omega⟩ ?_
          conv => cbv
          refine Sum.mk fun d hd => ?_
          have hd : d = q - k3 := hd
          conv => cbv
          refine Room.within ⟨hk0, by rw [hla, ints_length]; show k2 * 1 ≤ ((A.length : Nat) : Int); omega⟩ ?_
          conv => cbv
          refine Upd.mk fun T1 hT1 => ?_
          have hT1 : T1 = ints (A.take k2.toNat) := by
            have h : T1 = la.take (k2.toNat * 1) := hT1
            rw [h, hla, Nat.mul_one, ints, ints, List.map_take]
          have hl1 : T1.length = k2.toNat := by rw [hT1, ints_length, List.length_take]; omega
          conv => cbv
          refine Need.mk ⟨by show k2 * 8 ≤ 140737488355328; omega, by show k2 ≤ 9223372036854775807; omega⟩ ?_
          conv => cbv
          refine Need.mk ⟨by show 0 ≤ k3; omega, by show 0 ≤ d; omega, by rw [hla, ints_length]; show k3 + d * 1 ≤ ((A.length : Nat) : Int); omega⟩ ?_
          conv => cbv
          refine Upd.mk fun T2 hT2 => ?_
          have hT2 : T2 = ints (A.drop (k2.toNat + 1)) := by
            have h : T2 = (la.drop k3.toNat).take (d.toNat * 1) := hT2
            rw [h, hla, Nat.mul_one, ints, ints, List.map_drop, show k3.toNat = k2.toNat + 1 by omega]
            exact List.take_of_length_le (by rw [List.length_drop, List.length_map]; omega)
          have hl2 : T2.length = d.toNat := by rw [hT2, ints_length, List.length_drop]; omega
          conv => cbv
          refine Room.new ⟨by rw [hl1]; show ((k2.toNat : Nat) : Int) = k2 * 1; omega, by show (k2 + d) * 8 ≤ 140737488355328; omega, by show k2 + d ≤ 9223372036854775807; omega⟩ ?_
          conv => cbv
          refine Upd.mk fun T3 hT3 => ?_
          have hT3 : T3 = T1 ++ T2 := hT3
          have hTe : T3 = ints (A.erase y) := by rw [hT3, hT1, hT2, her, ints, ints, ints, List.map_append]
          conv => cbv
          refine Sum.mk fun kk hkk => ?_
          have hkk : kk = k2 + d := hkk
          have hl3 : T3.length = kk.toNat := by rw [hT3, List.length_append, hl1, hl2]; omega
          conv => cbv
          refine Room.new rfl ?_
          conv => cbv
          refine Room.new ⟨by rw [hl3]; show ((kk.toNat : Nat) : Int) = kk * 1; omega, by show (kk + 1) * 8 ≤ 140737488355328; omega, by show kk + 1 ≤ 9223372036854775807; omega⟩ ?_
          conv => cbv
          refine Upd.mk fun W hWW => ?_
          have hWW : W = T3 ++ [.int .i64 (.sym y)] := hWW
          have hW : W = ints A3 := by rw [hWW, hTe, hA3, hA2, ints, ints, List.map_append]; rfl
          conv => cbv
          refine Sum.mk fun k9 hk99 => ?_
          have hk99 : k9 = kk + 1 := hk99
          have hk9 : k9 = A3.length := by rw [← ints_length, ← hW, hWW, List.length_append, hl3]; show k9 = ((kk.toNat + 1 : Nat) : Int); omega
          conv => cbv
          refine Fit.mk (by show (-9223372036854775808 : Int) ≤ k9 - 1; omega) (by show k9 - 1 ≤ 9223372036854775807; omega) fun u9 hu9 => ?_
          have hu9 : u9 = k9 - 1 := hu9
          conv => cbv
          refine callF_frame (queueAt_lx A3 u9 ⟨by omega, by omega⟩ z3 hz3 hA38 (by omega)) [(0, 1)] rfl (by simp [hmapOk, nget, hget, renB, okB]) rfl rfl (fun r h' n' hrr => ?_)
          obtain ⟨v9, b9, e1, e2, e3, h9⟩ := hrr
          subst e1 e2 e3
          obtain ⟨rfl, hv9⟩ : b9 = true ∧ v9 = y := by
            rcases h9 with ⟨h, _⟩ | ⟨_, h1, h2⟩
            · rw [hA3] at h; simp at h
            · refine ⟨h1, ?_⟩
              have hl9 : A3.length = A2.length + 1 := by rw [hA3, List.length_append]; rfl
              rw [show (max u9 0).toNat = A2.length by omega, hl9, Nat.mod_eq_of_lt (Nat.lt_succ_self _), hA3, List.getElem?_append_right (Nat.le_refl _), Nat.sub_self] at h2
              exact (Option.some.inj h2).symm
          clear h9
          conv => cbv
          refine Br.mk (fun g9 => ?_) (fun g9 => ?_)
          case refine_1 =>
            have gf : False := g9 hv9
            cases gf
          conv => cbv
          refine callF_frame (queueAt_nil (.lit 0)) [] rfl trivial rfl rfl (fun r h' n' ⟨e1, e2, e3⟩ => ?_)
          subst e1 e2 e3
          conv => cbv
          refine callF_frame (all_lx A3 z3 hz3 hA38 (by omega)) [(0, 1)] rfl (by simp [hmapOk, nget, hget, renB, okB]) rfl rfl (fun r h' n' hrr => ?_)
          obtain ⟨k10, L10, e1, e2, e3, hL10, hk10⟩ := hrr
          subst e1 e2 e3
          conv => cbv
          refine callF_lend (plaini64_lx A3 A3 k10 k9 L10 W hk10 hk9 (by rw [hL10]; exact preI_ints A3) (by rw [hW]; exact preI_ints A3) (by omega)) (by simp [lends, lendV, hget, I.val, pvle]) (fun r h' n' ⟨⟨b, e1, _⟩, e2, e3⟩ => by subst e1 e2; exact ⟨trivial, trivial⟩) (fun r h' n' hrr => ?_)
          obtain ⟨⟨b9, e1, hb9⟩, e2, e3⟩ := hrr
          subst e1 e2 e3
          obtain rfl : b9 = true := hb9.2 rfl
          conv => cbv
          refine callF_frame (queueAdd_nil (.lit 1)) [] rfl trivial rfl rfl (fun r h' n' ⟨e1, e2, e3⟩ => ?_)
          subst e1 e2 e3
          conv => cbv
          refine CallF.le (args0 := [.p .nilp, .p (.int .i64 (.sym 1))]) (callF_frame queueRemove_nil [] rfl trivial rfl rfl (fun r h' n' ⟨e1, e2, e3⟩ => ?_)) (by simp [ales, ale, pvle, I.val])
          subst e1 e2 e3
          conv => cbv
          refine callF_frame all_nil [] rfl trivial rfl rfl (fun r h' n' ⟨e1, e2, e3⟩ => ?_)
          subst e1 e2 e3
          conv => cbv
          refine callF_frame queueLen_nil [] rfl trivial rfl rfl (fun r h' n' ⟨e1, e2, e3⟩ => ?_)
          subst e1 e2 e3
          conv => cbv
          refine Br.mk (fun g9 => ?_) (fun g9 => ?_)
          case refine_2 =>
            have gf : False := g9 rfl
            cases gf
          conv => cbv
          refine RetF.mk [.p (.bool true)] [] 1 (Re.of [] [] (by first | exact Nat.zero_le _ | exact Nat.le_refl _ | decide | (dsimp only; decide)) rfl rfl (by (try (conv => cbv)); (repeat' (first | exact trivial | rfl | exact SEq.mk rfl | (exact SEq.mk (by first | assumption | (symm; assumption))) | (simp only [I.val]; done) | (simp only [I.val]; omega) | omega | assumption | (refine And.intro ?_ ?_) | exact Or.inl rfl | exact Or.inr (by assumption) | exact List.Mem.head _ | exact List.Mem.tail _ (List.Mem.head _) | exact ⟨_, rfl⟩ | exact ⟨_, rfl, Or.inl rfl⟩ | (refine ⟨_, rfl, Or.inr ?_⟩; (try (conv => cbv))) | (simp only [I.val] at *; first | omega | (subst_vars; rfl) | simp_all) | (refine Or.inr ?_; (try (conv => cbv)))))) (by (try (conv => cbv)); (repeat' (first | exact trivial | rfl | exact SEq.mk rfl | (exact SEq.mk (by first | assumption | (symm; assumption))) | (simp only [I.val]; done) | (simp only [I.val]; omega) | omega | assumption | (refine And.intro ?_ ?_) | exact Or.inl rfl | exact Or.inr (by assumption) | exact List.Mem.head _ | exact List.Mem.tail _ (List.Mem.head _) | exact ⟨_, rfl⟩ | exact ⟨_, rfl, Or.inl rfl⟩ | (refine ⟨_, rfl, Or.inr ?_⟩; (try (conv => cbv))) | (simp only [I.val] at *; first | omega | (subst_vars; rfl) | simp_all) | (refine Or.inr ?_; (try (conv => cbv))))))) rfl rfl
    · have g3 : ¬ 0 < q := g3
      have hAn : A = [] := List.eq_nil_of_length_eq_zero (by omega)
      conv => cbv
      refine callF_frame (queueAt_nil (.lit 0)) [] rfl trivial rfl rfl (fun r h' n' ⟨e1, e2, e3⟩ => ?_)
      subst e1 e2 e3
      conv => cbv
      refine callF_frame (all_lx A z hz hA (by omega)) [(0, 1)] rfl (by simp [hmapOk, nget, hget, renB, okB]) rfl rfl (fun r h' n' hrr => ?_)
      obtain ⟨k10, L10, e1, e2, e3, hL10, hk10⟩ := hrr
      subst e1 e2 e3
      conv => cbv
      refine callF_lend (plaini64_lx A A k10 q L10 la hk10 hq (by rw [hL10]; exact preI_ints A) (by rw [hla]; exact preI_ints A) (by omega)) (by simp [lends, lendV, hget, I.val, pvle]) (fun r h' n' ⟨⟨b, e1, _⟩, e2, e3⟩ => by subst e1 e2; exact ⟨trivial, trivial⟩) (fun r h' n' hrr => ?_)
      obtain ⟨⟨b9, e1, hb9⟩, e2, e3⟩ := hrr
      subst e1 e2 e3
      obtain rfl : b9 = true := hb9.2 rfl
      conv => cbv
      refine callF_frame (queueAdd_nil (.lit 1)) [] rfl trivial rfl rfl (fun r h' n' ⟨e1, e2, e3⟩ => ?_)
      subst e1 e2 e3
      conv => cbv
      refine CallF.le (args0 := [.p .nilp, .p (.int .i64 (.sym 1))]) (callF_frame queueRemove_nil [] rfl trivial rfl rfl (fun r h' n' ⟨e1, e2, e3⟩ => ?_)) (by simp [ales, ale, pvle, I.val])
      subst e1 e2 e3
      conv => cbv
      refine callF_frame all_nil [] rfl trivial rfl rfl (fun r h' n' ⟨e1, e2, e3⟩ => ?_)
      subst e1 e2 e3
      conv => cbv
      refine callF_frame queueLen_nil [] rfl trivial rfl rfl (fun r h' n' ⟨e1, e2, e3⟩ => ?_)
      subst e1 e2 e3
      conv => cbv
      refine Br.mk (fun g9 => ?_) (fun g9 => ?_)
      case refine_2 =>
        have gf : False := g9 rfl
        cases gf
      conv => cbv
      refine RetF.mk [.p (.bool true)] [] 1 (Re.of [] [] (by first | exact Nat.zero_le _ | exact Nat.le_refl _ | decide | (dsimp only; decide)) rfl rfl (by (try (conv => cbv)); (repeat' (first | exact trivial | rfl | exact SEq.mk rfl | (exact SEq.mk (by first | assumption | (symm; assumption))) | (simp only [I.val]; done) | (simp only [I.val]; omega) | omega | assumption | (refine And.intro ?_ ?_) | exact Or.inl rfl | exact Or.inr (by assumption) | exact List.Mem.head _ | exact List.Mem.tail _ (List.Mem.head _) | exact ⟨_, rfl⟩ | exact ⟨_, rfl, Or.inl rfl⟩ | (refine ⟨_, rfl, Or.inr ?_⟩; (try (conv => cbv))) | (simp only [I.val] at *; first | omega | (subst_vars; rfl) | simp_all) | (refine Or.inr ?_; (try (conv => cbv)))))) (by (try (conv => cbv)); (repeat' (first | exact trivial | rfl | exact SEq.mk rfl | (exact SEq.mk (by first | assumption | (symm; assumption))) | (simp only [I.val]; done) | (simp only [I.val]; omega) | omega | assumption | (refine And.intro ?_ ?_) | exact Or.inl rfl | exact Or.inr (by assumption) | exact List.Mem.head _ | exact List.Mem.tail _ (List.Mem.head _) | exact ⟨_, rfl⟩ | exact ⟨_, rfl, Or.inl rfl⟩ | (refine ⟨_, rfl, Or.inr ?_⟩; (try (conv => cbv))) | (simp only [I.val] at *; first | omega | (subst_vars; rfl) | simp_all) | (refine Or.inr ?_; (try (conv => cbv))))))) rfl rfl
end Go.Proofs.YtocliihimbggjaaDoor
