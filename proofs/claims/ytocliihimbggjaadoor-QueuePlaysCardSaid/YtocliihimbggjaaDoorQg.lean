/-
  QueuePlays.
-/
import Derived.Test.YtocliihimbggjaaDoorQf
namespace Go.Proofs.YtocliihimbggjaaDoor
open Go Go.LX
set_option maxRecDepth 100000
set_option linter.unusedVariables false

def twos : List (Int × Int) → List PV
  | [] => []
  | (x, y) :: l => .int .i64 (.sym x) :: .int .i64 (.sym y) :: twos l
theorem twos_length : ∀ l, (twos l).length = 2 * l.length
  | [] => rfl
  | (x, y) :: l => by simp [twos, twos_length l]; omega
theorem twos_get : ∀ (l : List (Int × Int)) (i : Nat) (e : Int × Int), l[i]? = some e → (twos l)[2 * i]? = some (.int .i64 (.sym e.1)) ∧ (twos l)[2 * i + 1]? = some (.int .i64 (.sym e.2))
  | [], i, e, h => by simp at h
  | (x, y) :: l, 0, e, h => by simp at h; subst h; exact ⟨rfl, rfl⟩
  | (x, y) :: l, i + 1, e, h => by
    obtain ⟨h1, h2⟩ := twos_get l i e (by simpa using h)
    rw [show 2 * (i + 1) = 2 * i + 2 by omega]
    exact ⟨by simpa [twos] using h1, by simpa [twos] using h2⟩
theorem added_eq {A A1 A2 : List Int} {a : Int} {b c : Bool} (h : (a ∈ A ∧ b = false ∧ A1 = A) ∨ (a ∉ A ∧ b = true ∧ A1 = A ++ [a])) (k : Added A a c A2) : c = b ∧ A2 = A1 := by
  rcases h with ⟨h, h1, h2⟩ | ⟨h, h1, h2⟩ <;> rcases k with ⟨k, k1, k2⟩ | ⟨k, k1, k2⟩
  · exact ⟨k1.trans h1.symm, k2.trans h2.symm⟩
  · exact absurd h k
  · exact absurd k h
  · exact ⟨k1.trans h1.symm, k2.trans h2.symm⟩
set_option maxHeartbeats 4000000 in
theorem queuePlays_law (m : Int) (B : List (Int × Int)) (lb : List PV) (hm : m = B.length) (hb : lb = twos B) (hB : ∀ e ∈ B, i64 e.1 ∧ i64 e.2) (o : Unit → Obj) (ho : IsPow o) :
    CallF (fun _ => Tryd.prog) 6 [.p (.vsl (.sym m) true lb)] [(0, .fix 2 o)] 1 (fun r _ _ => r = .p (.bool true)) := by
  refine callF_of_body tok Tryd.func6 (by kernel_rfl) rfl rfl rfl ?_; conv => cbv
  refine callF_frame queueNew_lx [] rfl trivial rfl rfl (fun r h' n' ⟨z, e1, e2, e3, hz⟩ => ?_)
  subst e1 e2 e3
  conv => cbv
  refine callF_frame (awake20_lx o ho) [(0, 0)] rfl (by simp [hmapOk, nget, hget, renB, okB]) rfl rfl (fun r h' n' ⟨e1, e2, e3⟩ => ?_)
  subst e1 e2 e3
  conv => cbv
  refine LoopF.mk (fun k s => ∃ (i q : Int) (A : List Int) (z : ByteArray) (la : List PV), s = ⟨.p (.vsl (.sym m) true lb) :: .undef :: .undef :: .ptr 1 (.lit 0) :: .ptr 2 (.lit 0) :: .p (.int .i64 (.sym i)) :: undefs 97, [(0, .fix 2 o), (1, .pure false [.str fun _ => z]), (2, .mix [.p (.vsl (.sym q) true la)])], 3⟩ ∧ 0 ≤ i ∧ i ≤ 100 ∧ (∀ x ∈ A, i64 x) ∧ (A.length : Int) ≤ i ∧ z = ⟨(enc A).toArray⟩ ∧ la = ints A ∧ q = A.length ∧ k = (100 - i).toNat) 100 _
    (Re.of [(0, 0), (1, 1), (2, 2)] [] (by first | exact Nat.zero_le _ | exact Nat.le_refl _ | decide | (dsimp only; decide)) rfl rfl (by (try (conv => cbv)); (repeat' (first | exact trivial | rfl | exact SEq.mk rfl | (exact SEq.mk (by first | assumption | (symm; assumption))) | (simp only [I.val]; done) | (simp only [I.val]; omega) | omega | assumption | (refine And.intro ?_ ?_) | exact Or.inl rfl | exact Or.inr (by assumption) | exact List.Mem.head _ | exact List.Mem.tail _ (List.Mem.head _) | exact ⟨_, rfl⟩ | exact ⟨_, rfl, Or.inl rfl⟩ | (refine ⟨_, rfl, Or.inr ?_⟩; (try (conv => cbv))) | (simp only [I.val] at *; first | omega | (subst_vars; rfl) | simp_all) | (refine Or.inr ?_; (try (conv => cbv)))))) (by (try (conv => cbv)); (repeat' (first | exact trivial | rfl | exact SEq.mk rfl | (exact SEq.mk (by first | assumption | (symm; assumption))) | (simp only [I.val]; done) | (simp only [I.val]; omega) | omega | assumption | (refine And.intro ?_ ?_) | exact Or.inl rfl | exact Or.inr (by assumption) | exact List.Mem.head _ | exact List.Mem.tail _ (List.Mem.head _) | exact ⟨_, rfl⟩ | exact ⟨_, rfl, Or.inl rfl⟩ | (refine ⟨_, rfl, Or.inr ?_⟩; (try (conv => cbv))) | (simp only [I.val] at *; first | omega | (subst_vars; rfl) | simp_all) | (refine Or.inr ?_; (try (conv => cbv))))))) ⟨0, 0, [], z, [], rfl, by omega, by omega, by simp, by simp, hz, rfl, rfl, by omega⟩ ?_
  rintro k s ⟨i, q, A, z, la, rfl, hi0, hi1, hA, hAl, hz, hla, hq, hk⟩
  conv => cbv
  refine Br.mk (fun g1 => ?_) (fun g1 => ?_)
  · have g1 : i < m := g1
    conv => cbv
    refine Br.mk (fun g2 => ?_) (fun g2 => ?_)
    · have g2 : i < 100 := g2
      obtain ⟨k', rfl⟩ : ∃ k', k = k' + 1 := ⟨k - 1, by omega⟩
      obtain ⟨⟨x1, y1⟩, hx1⟩ : ∃ e, B[i.toNat]? = some e := ⟨_, List.getElem?_eq_getElem (by omega)⟩
      obtain ⟨hc1, hc2⟩ := twos_get B i.toNat _ hx1
      rw [← hb] at hc1 hc2
      dsimp only at hc1 hc2
      have hi8 := (hB _ (List.mem_of_getElem? hx1)).2
      dsimp only at hi8
      conv => cbv
      refine Need.mk ⟨hi0, by simp only [I.val]; omega⟩ ?_
      conv => cbv
      refine Sum.mk fun w1 hw1 => ?_
      have hw1 : w1 = i * 2 := hw1
      conv => cbv
      refine Cell.at (w1 + 0) _ hc1 (by simp [I.val]) (by omega) ?_
      refine Cell.at (w1 + 1) _ hc2 (by simp [I.val]) (by omega) ?_
      conv => cbv
      refine Br.mk (fun g3 => ?_) (fun g3 => ?_)
      · clear g3
        conv => cbv
        refine drawn_sound tok (by kernel_rfl) [(3, [6, 5, 4]), (7, [])] [0, 1, 2, 4, 5, 6, 3, 7, 8, 9] (by kernel_rfl) ?_; conv => cbv
        refine callF_frame (queueRemove_lx A y1 z hz hA hi8 (by omega) o ho) [(0, 0), (1, 1)] rfl (by simp [hmapOk, nget, hget, renB, okB]) rfl rfl (fun r h' n' ⟨b, z2, A2, e1, e2, e3, hz2, hA2, hb1⟩ => ?_)
        subst e1 e2 e3
        conv => cbv
        refine callF_frame (refRemove_lx A y1 q la hla hq (by omega)) [(0, 2)] rfl (by simp [hmapOk, nget, hget, renB, okB, renVs, renV, okVs, okV]) rfl rfl (fun r h' n' ⟨b2, q2, la2, e1, e2, e3, hla2, hq2, hb2⟩ => ?_)
        subst e1 e2 e3
        rw [← hA2] at hla2 hq2
        obtain rfl : b2 = b := by
          cases b <;> cases b2
          · rfl
          · exact absurd (hb1.2 (hb2.1 rfl)) (by decide)
          · exact absurd (hb2.2 (hb1.1 rfl)) (by decide)
          · rfl
        have hA3 : ∀ x ∈ A2, i64 x := fun x hx => hA x (List.mem_of_mem_erase (hA2 ▸ hx))
        have hl3 : (A2.length : Int) ≤ i + 1 := by have := List.length_erase_le (a := y1) (l := A); rw [hA2]; omega
        clear hb1 hb2 hA2
        cases b2 with
        | true =>
          conv => cbv
          refine drawn_sound tok (by kernel_rfl) [(4, [8, 7, 6, 5]), (9, []), (14, [19, 18, 17, 16, 15])] [0, 1, 2, 3, 5, 6, 7, 8, 4, 9, 10, 11, 12, 13, 15, 16, 17, 18, 19, 14, 20, 21] (by kernel_rfl) ?_; conv => cbv
          refine callF_frame (all_lx A2 z2 hz2 hA3 (by omega)) [(0, 1)] rfl (by simp [hmapOk, nget, hget, renB, okB]) rfl rfl (fun r h' n' ⟨k1, L1, e1, e2, e3, hL1, hk1⟩ => ?_)
          subst e1 e2 e3
          conv => cbv
          refine callF_lend (plaini64_lx A2 A2 k1 q2 L1 la2 hk1 hq2 (by rw [hL1]; exact preI_ints A2) (by rw [hla2]; exact preI_ints A2) (by omega)) (by simp [lends, lendV, hget, I.val, pvle]) (fun r h' n' ⟨⟨b, e1, _⟩, e2, e3⟩ => by subst e1 e2; exact ⟨trivial, trivial⟩) (fun r h' n' ⟨⟨b3, e1, hb3⟩, e2, e3⟩ => ?_)
          subst e1 e2 e3
          obtain rfl : b3 = true := hb3.2 rfl
          conv => cbv
          refine callF_frame (queueLen_lx A2 z2 hz2 hA3 (by omega)) [(0, 1)] rfl (by simp [hmapOk, nget, hget, renB, okB]) rfl rfl (fun r h' n' ⟨m1, e1, e2, e3, hm1⟩ => ?_)
          subst e1 e2 e3
          conv => cbv
          refine Br.mk (fun g6 => ?_) (fun g6 => ?_)
          case refine_1 =>
            have g6 : m1 ≠ q2 := g6
            exfalso
            exact g6 (by omega)
          conv => cbv
          refine Fit.mk (by show (-9223372036854775808 : Int) ≤ i + 1; omega) (by show i + 1 ≤ 9223372036854775807; omega) fun i2 hi2 => ?_
          have hi2 : i2 = i + 1 := hi2
          have hle : (A2.length : Int) ≤ i2 := by omega
          have hke : k' = (100 - i2).toNat := by omega
          conv => cbv
          refine Again.mk k' _ (Nat.lt_succ_self _) (Re.of [(0, 0), (1, 1), (2, 2)] [] (by first | exact Nat.zero_le _ | exact Nat.le_refl _ | decide | (dsimp only; decide)) rfl rfl (by (try (conv => cbv)); (repeat' (first | exact trivial | rfl | exact SEq.mk rfl | (exact SEq.mk (by first | assumption | (symm; assumption))) | (simp only [I.val]; done) | (simp only [I.val]; omega) | omega | assumption | (refine And.intro ?_ ?_) | exact Or.inl rfl | exact Or.inr (by assumption) | exact List.Mem.head _ | exact List.Mem.tail _ (List.Mem.head _) | exact ⟨_, rfl⟩ | exact ⟨_, rfl, Or.inl rfl⟩ | (refine ⟨_, rfl, Or.inr ?_⟩; (try (conv => cbv))) | (simp only [I.val] at *; first | omega | (subst_vars; rfl) | simp_all) | (refine Or.inr ?_; (try (conv => cbv)))))) (by (try (conv => cbv)); (repeat' (first | exact trivial | rfl | exact SEq.mk rfl | (exact SEq.mk (by first | assumption | (symm; assumption))) | (simp only [I.val]; done) | (simp only [I.val]; omega) | omega | assumption | (refine And.intro ?_ ?_) | exact Or.inl rfl | exact Or.inr (by assumption) | exact List.Mem.head _ | exact List.Mem.tail _ (List.Mem.head _) | exact ⟨_, rfl⟩ | exact ⟨_, rfl, Or.inl rfl⟩ | (refine ⟨_, rfl, Or.inr ?_⟩; (try (conv => cbv))) | (simp only [I.val] at *; first | omega | (subst_vars; rfl) | simp_all) | (refine Or.inr ?_; (try (conv => cbv))))))) ⟨i2, q2, A2, z2, la2, rfl, by omega, by omega, hA3, hle, hz2, hla2, hq2, hke⟩
        | false =>
          conv => cbv
          refine drawn_sound tok (by kernel_rfl) [(4, [8, 7, 6, 5]), (9, []), (14, [19, 18, 17, 16, 15])] [0, 1, 2, 3, 5, 6, 7, 8, 4, 9, 10, 11, 12, 13, 15, 16, 17, 18, 19, 14, 20, 21] (by kernel_rfl) ?_; conv => cbv
          refine callF_frame (all_lx A2 z2 hz2 hA3 (by omega)) [(0, 1)] rfl (by simp [hmapOk, nget, hget, renB, okB]) rfl rfl (fun r h' n' ⟨k1, L1, e1, e2, e3, hL1, hk1⟩ => ?_)
          subst e1 e2 e3
          conv => cbv
          refine callF_lend (plaini64_lx A2 A2 k1 q2 L1 la2 hk1 hq2 (by rw [hL1]; exact preI_ints A2) (by rw [hla2]; exact preI_ints A2) (by omega)) (by simp [lends, lendV, hget, I.val, pvle]) (fun r h' n' ⟨⟨b, e1, _⟩, e2, e3⟩ => by subst e1 e2; exact ⟨trivial, trivial⟩) (fun r h' n' ⟨⟨b3, e1, hb3⟩, e2, e3⟩ => ?_)
          subst e1 e2 e3
          obtain rfl : b3 = true := hb3.2 rfl
          conv => cbv
          refine callF_frame (queueLen_lx A2 z2 hz2 hA3 (by omega)) [(0, 1)] rfl (by simp [hmapOk, nget, hget, renB, okB]) rfl rfl (fun r h' n' ⟨m1, e1, e2, e3, hm1⟩ => ?_)
          subst e1 e2 e3
          conv => cbv
          refine Br.mk (fun g6 => ?_) (fun g6 => ?_)
          case refine_1 =>
            have g6 : m1 ≠ q2 := g6
            exfalso
            exact g6 (by omega)
          conv => cbv
          refine Fit.mk (by show (-9223372036854775808 : Int) ≤ i + 1; omega) (by show i + 1 ≤ 9223372036854775807; omega) fun i2 hi2 => ?_
          have hi2 : i2 = i + 1 := hi2
          have hle : (A2.length : Int) ≤ i2 := by omega
          have hke : k' = (100 - i2).toNat := by omega
          conv => cbv
          refine Again.mk k' _ (Nat.lt_succ_self _) (Re.of [(0, 0), (1, 1), (2, 2)] [] (by first | exact Nat.zero_le _ | exact Nat.le_refl _ | decide | (dsimp only; decide)) rfl rfl (by (try (conv => cbv)); (repeat' (first | exact trivial | rfl | exact SEq.mk rfl | (exact SEq.mk (by first | assumption | (symm; assumption))) | (simp only [I.val]; done) | (simp only [I.val]; omega) | omega | assumption | (refine And.intro ?_ ?_) | exact Or.inl rfl | exact Or.inr (by assumption) | exact List.Mem.head _ | exact List.Mem.tail _ (List.Mem.head _) | exact ⟨_, rfl⟩ | exact ⟨_, rfl, Or.inl rfl⟩ | (refine ⟨_, rfl, Or.inr ?_⟩; (try (conv => cbv))) | (simp only [I.val] at *; first | omega | (subst_vars; rfl) | simp_all) | (refine Or.inr ?_; (try (conv => cbv)))))) (by (try (conv => cbv)); (repeat' (first | exact trivial | rfl | exact SEq.mk rfl | (exact SEq.mk (by first | assumption | (symm; assumption))) | (simp only [I.val]; done) | (simp only [I.val]; omega) | omega | assumption | (refine And.intro ?_ ?_) | exact Or.inl rfl | exact Or.inr (by assumption) | exact List.Mem.head _ | exact List.Mem.tail _ (List.Mem.head _) | exact ⟨_, rfl⟩ | exact ⟨_, rfl, Or.inl rfl⟩ | (refine ⟨_, rfl, Or.inr ?_⟩; (try (conv => cbv))) | (simp only [I.val] at *; first | omega | (subst_vars; rfl) | simp_all) | (refine Or.inr ?_; (try (conv => cbv))))))) ⟨i2, q2, A2, z2, la2, rfl, by omega, by omega, hA3, hle, hz2, hla2, hq2, hke⟩
      · have g3 : ¬ x1 = 1 := g3
        conv => cbv
        refine Br.mk (fun g4 => ?_) (fun g4 => ?_)
        · clear g4
          conv => cbv
          refine callF_frame (queueAt_lx A y1 hi8 z hz hA (by omega)) [(0, 1)] rfl (by simp [hmapOk, nget, hget, renB, okB]) rfl rfl (fun r h' n' ⟨v, b, e1, e2, e3, h4⟩ => ?_)
          subst e1 e2 e3
          conv => cbv
          refine callF_frame (refAt_lx A y1 q la hla hq (by omega)) [(0, 2)] rfl (by simp [hmapOk, nget, hget, renB, okB, renVs, renV, okVs, okV]) rfl rfl (fun r h' n' ⟨v2, b2, e1, e2, e3, h5⟩ => ?_)
          subst e1 e2 e3
          obtain ⟨rfl, rfl⟩ : v2 = v ∧ b2 = b := by
            rcases h4 with ⟨h, h6, h7⟩ | ⟨h, h6, h7⟩ <;> rcases h5 with ⟨g, g6, g7⟩ | ⟨g, g6, g7⟩
            · exact ⟨g6.trans h6.symm, g7.trans h7.symm⟩
            · exact absurd h g
            · exact absurd g h
            · rw [h7] at g7; exact ⟨(Option.some.inj g7).symm, g6.trans h6.symm⟩
          clear h4 h5
          obtain ⟨z2, A2, q2, la2, hz2, hla2, hq2, hA3, hl3, rfl, rfl, rfl⟩ : ∃ (z2 : ByteArray) (A2 : List Int) (q2 : Int) (la2 : List PV), z2 = ⟨(enc A2).toArray⟩ ∧ la2 = ints A2 ∧ q2 = A2.length ∧ (∀ x ∈ A2, i64 x) ∧ (A2.length : Int) ≤ i + 1 ∧ z2 = z ∧ q2 = q ∧ la2 = la := ⟨z, A, q, la, hz, hla, hq, hA, by omega, rfl, rfl, rfl⟩
          conv => cbv
          refine Br.mk (fun g5 => ?_) (fun g5 => ?_)
          case refine_2 =>
            have g5 : ¬ v2 = v2 := g5
            exfalso
            exact g5 rfl
          cases b2 with
          | true =>
            conv => cbv
            refine drawn_sound tok (by kernel_rfl) [(4, [8, 7, 6, 5]), (9, []), (14, [19, 18, 17, 16, 15])] [0, 1, 2, 3, 5, 6, 7, 8, 4, 9, 10, 11, 12, 13, 15, 16, 17, 18, 19, 14, 20, 21] (by kernel_rfl) ?_; conv => cbv
            refine callF_frame (all_lx A2 z2 hz2 hA3 (by omega)) [(0, 1)] rfl (by simp [hmapOk, nget, hget, renB, okB]) rfl rfl (fun r h' n' ⟨k1, L1, e1, e2, e3, hL1, hk1⟩ => ?_)
            subst e1 e2 e3
            conv => cbv
            refine callF_lend (plaini64_lx A2 A2 k1 q2 L1 la2 hk1 hq2 (by rw [hL1]; exact preI_ints A2) (by rw [hla2]; exact preI_ints A2) (by omega)) (by simp [lends, lendV, hget, I.val, pvle]) (fun r h' n' ⟨⟨b, e1, _⟩, e2, e3⟩ => by subst e1 e2; exact ⟨trivial, trivial⟩) (fun r h' n' ⟨⟨b3, e1, hb3⟩, e2, e3⟩ => ?_)
            subst e1 e2 e3
            obtain rfl : b3 = true := hb3.2 rfl
            conv => cbv
            refine callF_frame (queueLen_lx A2 z2 hz2 hA3 (by omega)) [(0, 1)] rfl (by simp [hmapOk, nget, hget, renB, okB]) rfl rfl (fun r h' n' ⟨m1, e1, e2, e3, hm1⟩ => ?_)
            subst e1 e2 e3
            conv => cbv
            refine Br.mk (fun g6 => ?_) (fun g6 => ?_)
            case refine_1 =>
              have g6 : m1 ≠ q2 := g6
              exfalso
              exact g6 (by omega)
            conv => cbv
            refine Fit.mk (by show (-9223372036854775808 : Int) ≤ i + 1; omega) (by show i + 1 ≤ 9223372036854775807; omega) fun i2 hi2 => ?_
            have hi2 : i2 = i + 1 := hi2
            have hle : (A2.length : Int) ≤ i2 := by omega
            have hke : k' = (100 - i2).toNat := by omega
            conv => cbv
            refine Again.mk k' _ (Nat.lt_succ_self _) (Re.of [(0, 0), (1, 1), (2, 2)] [] (by first | exact Nat.zero_le _ | exact Nat.le_refl _ | decide | (dsimp only; decide)) rfl rfl (by (try (conv => cbv)); (repeat' (first | exact trivial | rfl | exact SEq.mk rfl | (exact SEq.mk (by first | assumption | (symm; assumption))) | (simp only [I.val]; done) | (simp only [I.val]; omega) | omega | assumption | (refine And.intro ?_ ?_) | exact Or.inl rfl | exact Or.inr (by assumption) | exact List.Mem.head _ | exact List.Mem.tail _ (List.Mem.head _) | exact ⟨_, rfl⟩ | exact ⟨_, rfl, Or.inl rfl⟩ | (refine ⟨_, rfl, Or.inr ?_⟩; (try (conv => cbv))) | (simp only [I.val] at *; first | omega | (subst_vars; rfl) | simp_all) | (refine Or.inr ?_; (try (conv => cbv)))))) (by (try (conv => cbv)); (repeat' (first | exact trivial | rfl | exact SEq.mk rfl | (exact SEq.mk (by first | assumption | (symm; assumption))) | (simp only [I.val]; done) | (simp only [I.val]; omega) | omega | assumption | (refine And.intro ?_ ?_) | exact Or.inl rfl | exact Or.inr (by assumption) | exact List.Mem.head _ | exact List.Mem.tail _ (List.Mem.head _) | exact ⟨_, rfl⟩ | exact ⟨_, rfl, Or.inl rfl⟩ | (refine ⟨_, rfl, Or.inr ?_⟩; (try (conv => cbv))) | (simp only [I.val] at *; first | omega | (subst_vars; rfl) | simp_all) | (refine Or.inr ?_; (try (conv => cbv))))))) ⟨i2, q2, A2, z2, la2, rfl, by omega, by omega, hA3, hle, hz2, hla2, hq2, hke⟩
          | false =>
            conv => cbv
            refine drawn_sound tok (by kernel_rfl) [(4, [8, 7, 6, 5]), (9, []), (14, [19, 18, 17, 16, 15])] [0, 1, 2, 3, 5, 6, 7, 8, 4, 9, 10, 11, 12, 13, 15, 16, 17, 18, 19, 14, 20, 21] (by kernel_rfl) ?_; conv => cbv
            refine callF_frame (all_lx A2 z2 hz2 hA3 (by omega)) [(0, 1)] rfl (by simp [hmapOk, nget, hget, renB, okB]) rfl rfl (fun r h' n' ⟨k1, L1, e1, e2, e3, hL1, hk1⟩ => ?_)
            subst e1 e2 e3
            conv => cbv
            refine callF_lend (plaini64_lx A2 A2 k1 q2 L1 la2 hk1 hq2 (by rw [hL1]; exact preI_ints A2) (by rw [hla2]; exact preI_ints A2) (by omega)) (by simp [lends, lendV, hget, I.val, pvle]) (fun r h' n' ⟨⟨b, e1, _⟩, e2, e3⟩ => by subst e1 e2; exact ⟨trivial, trivial⟩) (fun r h' n' ⟨⟨b3, e1, hb3⟩, e2, e3⟩ => ?_)
            subst e1 e2 e3
            obtain rfl : b3 = true := hb3.2 rfl
            conv => cbv
            refine callF_frame (queueLen_lx A2 z2 hz2 hA3 (by omega)) [(0, 1)] rfl (by simp [hmapOk, nget, hget, renB, okB]) rfl rfl (fun r h' n' ⟨m1, e1, e2, e3, hm1⟩ => ?_)
            subst e1 e2 e3
            conv => cbv
            refine Br.mk (fun g6 => ?_) (fun g6 => ?_)
            case refine_1 =>
              have g6 : m1 ≠ q2 := g6
              exfalso
              exact g6 (by omega)
            conv => cbv
            refine Fit.mk (by show (-9223372036854775808 : Int) ≤ i + 1; omega) (by show i + 1 ≤ 9223372036854775807; omega) fun i2 hi2 => ?_
            have hi2 : i2 = i + 1 := hi2
            have hle : (A2.length : Int) ≤ i2 := by omega
            have hke : k' = (100 - i2).toNat := by omega
            conv => cbv
            refine Again.mk k' _ (Nat.lt_succ_self _) (Re.of [(0, 0), (1, 1), (2, 2)] [] (by first | exact Nat.zero_le _ | exact Nat.le_refl _ | decide | (dsimp only; decide)) rfl rfl (by (try (conv => cbv)); (repeat' (first | exact trivial | rfl | exact SEq.mk rfl | (exact SEq.mk (by first | assumption | (symm; assumption))) | (simp only [I.val]; done) | (simp only [I.val]; omega) | omega | assumption | (refine And.intro ?_ ?_) | exact Or.inl rfl | exact Or.inr (by assumption) | exact List.Mem.head _ | exact List.Mem.tail _ (List.Mem.head _) | exact ⟨_, rfl⟩ | exact ⟨_, rfl, Or.inl rfl⟩ | (refine ⟨_, rfl, Or.inr ?_⟩; (try (conv => cbv))) | (simp only [I.val] at *; first | omega | (subst_vars; rfl) | simp_all) | (refine Or.inr ?_; (try (conv => cbv)))))) (by (try (conv => cbv)); (repeat' (first | exact trivial | rfl | exact SEq.mk rfl | (exact SEq.mk (by first | assumption | (symm; assumption))) | (simp only [I.val]; done) | (simp only [I.val]; omega) | omega | assumption | (refine And.intro ?_ ?_) | exact Or.inl rfl | exact Or.inr (by assumption) | exact List.Mem.head _ | exact List.Mem.tail _ (List.Mem.head _) | exact ⟨_, rfl⟩ | exact ⟨_, rfl, Or.inl rfl⟩ | (refine ⟨_, rfl, Or.inr ?_⟩; (try (conv => cbv))) | (simp only [I.val] at *; first | omega | (subst_vars; rfl) | simp_all) | (refine Or.inr ?_; (try (conv => cbv))))))) ⟨i2, q2, A2, z2, la2, rfl, by omega, by omega, hA3, hle, hz2, hla2, hq2, hke⟩
        · have g4 : ¬ x1 = 2 := g4
          conv => cbv
          refine drawn_sound tok (by kernel_rfl) [(3, [6, 5, 4]), (7, [])] [0, 1, 2, 4, 5, 6, 3, 7, 8, 9] (by kernel_rfl) ?_; conv => cbv
          refine callF_frame (queueAdd_lx A y1 z hz hA hi8 (by omega) o ho) [(0, 0), (1, 1)] rfl (by simp [hmapOk, nget, hget, renB, okB]) rfl rfl (fun r h' n' ⟨b, z2, A2, e1, e2, e3, hz2, h4⟩ => ?_)
          subst e1 e2 e3
          conv => cbv
          refine callF_frame (refAdd_lx A y1 q la hla hq (by omega)) [(0, 2)] rfl (by simp [hmapOk, nget, hget, renB, okB, renVs, renV, okVs, okV]) rfl rfl (fun r h' n' ⟨b2, q2, la2, A3, e1, e2, e3, hla2, hq2, h5⟩ => ?_)
          subst e1 e2 e3
          obtain ⟨rfl, rfl⟩ := added_eq h4 h5
          have hA3 : ∀ x ∈ A3, i64 x := by
            rcases h4 with ⟨_, _, h⟩ | ⟨_, _, h⟩
            · rw [h]; exact hA
            · intro x hx
              rw [h] at hx
              rcases List.mem_append.1 hx with hx | hx
              · exact hA x hx
              · rw [List.mem_singleton.1 hx]; exact hi8
          have hl3 : (A3.length : Int) ≤ i + 1 := by
            rcases h4 with ⟨_, _, h⟩ | ⟨_, _, h⟩
            · rw [h]; omega
            · rw [h, List.length_append]; show ((A.length + 1 : Nat) : Int) ≤ i + 1; omega
          clear h4 h5
          obtain ⟨A2, hAA⟩ : ∃ A2, A2 = A3 := ⟨_, rfl⟩
          subst hAA
          cases b2 with
          | true =>
            conv => cbv
            refine drawn_sound tok (by kernel_rfl) [(4, [8, 7, 6, 5]), (9, []), (14, [19, 18, 17, 16, 15])] [0, 1, 2, 3, 5, 6, 7, 8, 4, 9, 10, 11, 12, 13, 15, 16, 17, 18, 19, 14, 20, 21] (by kernel_rfl) ?_; conv => cbv
            refine callF_frame (all_lx A2 z2 hz2 hA3 (by omega)) [(0, 1)] rfl (by simp [hmapOk, nget, hget, renB, okB]) rfl rfl (fun r h' n' ⟨k1, L1, e1, e2, e3, hL1, hk1⟩ => ?_)
            subst e1 e2 e3
            conv => cbv
            refine callF_lend (plaini64_lx A2 A2 k1 q2 L1 la2 hk1 hq2 (by rw [hL1]; exact preI_ints A2) (by rw [hla2]; exact preI_ints A2) (by omega)) (by simp [lends, lendV, hget, I.val, pvle]) (fun r h' n' ⟨⟨b, e1, _⟩, e2, e3⟩ => by subst e1 e2; exact ⟨trivial, trivial⟩) (fun r h' n' ⟨⟨b3, e1, hb3⟩, e2, e3⟩ => ?_)
            subst e1 e2 e3
            obtain rfl : b3 = true := hb3.2 rfl
            conv => cbv
            refine callF_frame (queueLen_lx A2 z2 hz2 hA3 (by omega)) [(0, 1)] rfl (by simp [hmapOk, nget, hget, renB, okB]) rfl rfl (fun r h' n' ⟨m1, e1, e2, e3, hm1⟩ => ?_)
            subst e1 e2 e3
            conv => cbv
            refine Br.mk (fun g6 => ?_) (fun g6 => ?_)
            case refine_1 =>
              have g6 : m1 ≠ q2 := g6
              exfalso
              exact g6 (by omega)
            conv => cbv
            refine Fit.mk (by show (-9223372036854775808 : Int) ≤ i + 1; omega) (by show i + 1 ≤ 9223372036854775807; omega) fun i2 hi2 => ?_
            have hi2 : i2 = i + 1 := hi2
            have hle : (A2.length : Int) ≤ i2 := by omega
            have hke : k' = (100 - i2).toNat := by omega
            conv => cbv
            refine Again.mk k' _ (Nat.lt_succ_self _) (Re.of [(0, 0), (1, 1), (2, 2)] [] (by first | exact Nat.zero_le _ | exact Nat.le_refl _ | decide | (dsimp only; decide)) rfl rfl (by (try (conv => cbv)); (repeat' (first | exact trivial | rfl | exact SEq.mk rfl | (exact SEq.mk (by first | assumption | (symm; assumption))) | (simp only [I.val]; done) | (simp only [I.val]; omega) | omega | assumption | (refine And.intro ?_ ?_) | exact Or.inl rfl | exact Or.inr (by assumption) | exact List.Mem.head _ | exact List.Mem.tail _ (List.Mem.head _) | exact ⟨_, rfl⟩ | exact ⟨_, rfl, Or.inl rfl⟩ | (refine ⟨_, rfl, Or.inr ?_⟩; (try (conv => cbv))) | (simp only [I.val] at *; first | omega | (subst_vars; rfl) | simp_all) | (refine Or.inr ?_; (try (conv => cbv)))))) (by (try (conv => cbv)); (repeat' (first | exact trivial | rfl | exact SEq.mk rfl | (exact SEq.mk (by first | assumption | (symm; assumption))) | (simp only [I.val]; done) | (simp only [I.val]; omega) | omega | assumption | (refine And.intro ?_ ?_) | exact Or.inl rfl | exact Or.inr (by assumption) | exact List.Mem.head _ | exact List.Mem.tail _ (List.Mem.head _) | exact ⟨_, rfl⟩ | exact ⟨_, rfl, Or.inl rfl⟩ | (refine ⟨_, rfl, Or.inr ?_⟩; (try (conv => cbv))) | (simp only [I.val] at *; first | omega | (subst_vars; rfl) | simp_all) | (refine Or.inr ?_; (try (conv => cbv))))))) ⟨i2, q2, A2, z2, la2, rfl, by omega, by omega, hA3, hle, hz2, hla2, hq2, hke⟩
          | false =>
            conv => cbv
            refine drawn_sound tok (by kernel_rfl) [(4, [8, 7, 6, 5]), (9, []), (14, [19, 18, 17, 16, 15])] [0, 1, 2, 3, 5, 6, 7, 8, 4, 9, 10, 11, 12, 13, 15, 16, 17, 18, 19, 14, 20, 21] (by kernel_rfl) ?_; conv => cbv
            refine callF_frame (all_lx A2 z2 hz2 hA3 (by omega)) [(0, 1)] rfl (by simp [hmapOk, nget, hget, renB, okB]) rfl rfl (fun r h' n' ⟨k1, L1, e1, e2, e3, hL1, hk1⟩ => ?_)
            subst e1 e2 e3
            conv => cbv
            refine callF_lend (plaini64_lx A2 A2 k1 q2 L1 la2 hk1 hq2 (by rw [hL1]; exact preI_ints A2) (by rw [hla2]; exact preI_ints A2) (by omega)) (by simp [lends, lendV, hget, I.val, pvle]) (fun r h' n' ⟨⟨b, e1, _⟩, e2, e3⟩ => by subst e1 e2; exact ⟨trivial, trivial⟩) (fun r h' n' ⟨⟨b3, e1, hb3⟩, e2, e3⟩ => ?_)
            subst e1 e2 e3
            obtain rfl : b3 = true := hb3.2 rfl
            conv => cbv
            refine callF_frame (queueLen_lx A2 z2 hz2 hA3 (by omega)) [(0, 1)] rfl (by simp [hmapOk, nget, hget, renB, okB]) rfl rfl (fun r h' n' ⟨m1, e1, e2, e3, hm1⟩ => ?_)
            subst e1 e2 e3
            conv => cbv
            refine Br.mk (fun g6 => ?_) (fun g6 => ?_)
            case refine_1 =>
              have g6 : m1 ≠ q2 := g6
              exfalso
              exact g6 (by omega)
            conv => cbv
            refine Fit.mk (by show (-9223372036854775808 : Int) ≤ i + 1; omega) (by show i + 1 ≤ 9223372036854775807; omega) fun i2 hi2 => ?_
            have hi2 : i2 = i + 1 := hi2
            have hle : (A2.length : Int) ≤ i2 := by omega
            have hke : k' = (100 - i2).toNat := by omega
            conv => cbv
            refine Again.mk k' _ (Nat.lt_succ_self _) (Re.of [(0, 0), (1, 1), (2, 2)] [] (by first | exact Nat.zero_le _ | exact Nat.le_refl _ | decide | (dsimp only; decide)) rfl rfl (by (try (conv => cbv)); (repeat' (first | exact trivial | rfl | exact SEq.mk rfl | (exact SEq.mk (by first | assumption | (symm; assumption))) | (simp only [I.val]; done) | (simp only [I.val]; omega) | omega | assumption | (refine And.intro ?_ ?_) | exact Or.inl rfl | exact Or.inr (by assumption) | exact List.Mem.head _ | exact List.Mem.tail _ (List.Mem.head _) | exact ⟨_, rfl⟩ | exact ⟨_, rfl, Or.inl rfl⟩ | (refine ⟨_, rfl, Or.inr ?_⟩; (try (conv => cbv))) | (simp only [I.val] at *; first | omega | (subst_vars; rfl) | simp_all) | (refine Or.inr ?_; (try (conv => cbv)))))) (by (try (conv => cbv)); (repeat' (first | exact trivial | rfl | exact SEq.mk rfl | (exact SEq.mk (by first | assumption | (symm; assumption))) | (simp only [I.val]; done) | (simp only [I.val]; omega) | omega | assumption | (refine And.intro ?_ ?_) | exact Or.inl rfl | exact Or.inr (by assumption) | exact List.Mem.head _ | exact List.Mem.tail _ (List.Mem.head _) | exact ⟨_, rfl⟩ | exact ⟨_, rfl, Or.inl rfl⟩ | (refine ⟨_, rfl, Or.inr ?_⟩; (try (conv => cbv))) | (simp only [I.val] at *; first | omega | (subst_vars; rfl) | simp_all) | (refine Or.inr ?_; (try (conv => cbv))))))) ⟨i2, q2, A2, z2, la2, rfl, by omega, by omega, hA3, hle, hz2, hla2, hq2, hke⟩
    · have g2 : ¬ i < 100 := g2
      conv => cbv
      refine RetF.mk [.p (.bool true)] [] 1 (Re.of [] [] (by first | exact Nat.zero_le _ | exact Nat.le_refl _ | decide | (dsimp only; decide)) rfl rfl (by (try (conv => cbv)); (repeat' (first | exact trivial | rfl | exact SEq.mk rfl | (exact SEq.mk (by first | assumption | (symm; assumption))) | (simp only [I.val]; done) | (simp only [I.val]; omega) | omega | assumption | (refine And.intro ?_ ?_) | exact Or.inl rfl | exact Or.inr (by assumption) | exact List.Mem.head _ | exact List.Mem.tail _ (List.Mem.head _) | exact ⟨_, rfl⟩ | exact ⟨_, rfl, Or.inl rfl⟩ | (refine ⟨_, rfl, Or.inr ?_⟩; (try (conv => cbv))) | (simp only [I.val] at *; first | omega | (subst_vars; rfl) | simp_all) | (refine Or.inr ?_; (try (conv => cbv)))))) (by (try (conv => cbv)); (repeat' (first | exact trivial | rfl | exact SEq.mk rfl | (exact SEq.mk (by first | assumption | (symm; assumption))) | (simp only [I.val]; done) | (simp only [I.val]; omega) | omega | assumption | (refine And.intro ?_ ?_) | exact Or.inl rfl | exact Or.inr (by assumption) | exact List.Mem.head _ | exact List.Mem.tail _ (List.Mem.head _) | exact ⟨_, rfl⟩ | exact ⟨_, rfl, Or.inl rfl⟩ | (refine ⟨_, rfl, Or.inr ?_⟩; (try (conv => cbv))) | (simp only [I.val] at *; first | omega | (subst_vars; rfl) | simp_all) | (refine Or.inr ?_; (try (conv => cbv))))))) rfl rfl
  · have g1 : ¬ i < m := g1
    conv => cbv
    refine RetF.mk [.p (.bool true)] [] 1 (Re.of [] [] (by first | exact Nat.zero_le _ | exact Nat.le_refl _ | decide | (dsimp only; decide)) rfl rfl (by (try (conv => cbv)); (repeat' (first | exact trivial | rfl | exact SEq.mk rfl | (exact SEq.mk (by first | assumption | (symm; assumption))) | (simp only [I.val]; done) | (simp only [I.val]; omega) | omega | assumption | (refine And.intro ?_ ?_) | exact Or.inl rfl | exact Or.inr (by assumption) | exact List.Mem.head _ | exact List.Mem.tail _ (List.Mem.head _) | exact ⟨_, rfl⟩ | exact ⟨_, rfl, Or.inl rfl⟩ | (refine ⟨_, rfl, Or.inr ?_⟩; (try (conv => cbv))) | (simp only [I.val] at *; first | omega | (subst_vars; rfl) | simp_all) | (refine Or.inr ?_; (try (conv => cbv)))))) (by (try (conv => cbv)); (repeat' (first | exact trivial | rfl | exact SEq.mk rfl | (exact SEq.mk (by first | assumption | (symm; assumption))) | (simp only [I.val]; done) | (simp only [I.val]; omega) | omega | assumption | (refine And.intro ?_ ?_) | exact Or.inl rfl | exact Or.inr (by assumption) | exact List.Mem.head _ | exact List.Mem.tail _ (List.Mem.head _) | exact ⟨_, rfl⟩ | exact ⟨_, rfl, Or.inl rfl⟩ | (refine ⟨_, rfl, Or.inr ?_⟩; (try (conv => cbv))) | (simp only [I.val] at *; first | omega | (subst_vars; rfl) | simp_all) | (refine Or.inr ?_; (try (conv => cbv))))))) rfl rfl
end Go.Proofs.YtocliihimbggjaaDoor
