/-
  Law 8, GreyPlays.
-/
import Derived.Test.YtocliihimbggjaaDoorGf
namespace Go.Proofs.YtocliihimbggjaaDoor
open Go Go.LX
set_option maxRecDepth 100000
set_option linter.unusedVariables false

/-- Pairs of whole numbers, as cells. -/
def twos : List (Int × Int) → List PV
  | [] => []
  | (x, y) :: l => .int .i64 (.sym x) :: .int .i64 (.sym y) :: twos l
theorem twos_length : ∀ l, (twos l).length = 2 * l.length
  | [] => rfl
  | (x, y) :: l => by simp [twos, twos_length l]; omega
theorem twos_get : ∀ (l : List (Int × Int)) (i : Nat) (e : Int × Int), l[i]? = some e → (twos l)[2 * i]? = some (.int .i64 (.sym e.1)) ∧ (twos l)[2 * i + 1]? = some (.int .i64 (.sym e.2))
  | [], i, e, h => by simp at h
  | (x, y) :: l, 0, e, h => by simp at h; subst h; exact ⟨rfl, rfl⟩
  | (x, y) :: l, i + 1, e, h => by
    obtain ⟨h1, h2⟩ := twos_get l i e (by simpa using h)
    rw [show 2 * (i + 1) = 2 * i + 2 by omega]
    exact ⟨by simpa [twos] using h1, by simpa [twos] using h2⟩
set_option maxHeartbeats 2000000 in
theorem greyPlays_law (m : Int) (B : List (Int × Int)) (lb : List PV) (hm : m = B.length) (hb : lb = twos B) (hB : ∀ e ∈ B, i64 e.1 ∧ i64 e.2) (o : Unit → Obj) (ho : IsPow o) :
    CallF (fun _ => Tryd.prog) 3 [.p (.vsl (.sym m) true lb)] [(0, .fix 2 o)] 1 (fun r _ _ => r = .p (.bool true)) := by
  refine callF_of_body tok Tryd.func3 (by kernel_rfl) rfl rfl rfl ?_; conv => cbv
  refine callF_frame greyNew_lx [] rfl trivial rfl rfl (fun r h' n' ⟨z, e1, e2, e3, hz⟩ => ?_)
  subst e1 e2 e3
  conv => cbv
  refine callF_frame (awake08_lx o ho) [(0, 0)] rfl (by simp [hmapOk, nget, hget, renB, okB]) rfl rfl (fun r h' n' ⟨e1, e2, e3⟩ => ?_)
  subst e1 e2 e3
  conv => cbv
  refine LoopF.mk (fun k s => ∃ (i q : Int) (A : List Int) (z : ByteArray) (ov : Bool) (la : List PV), s = ⟨.p (.vsl (.sym m) true lb) :: .undef :: .undef :: .ptr 1 (.lit 0) :: .ptr 2 (.lit 0) :: .p (.int .i64 (.sym i)) :: undefs 97, [(0, .fix 2 o), (1, .pure false [.str fun _ => z, .bool ov]), (2, .mix [.p (.vsl (.sym q) true la), .p (.bool ov)])], 3⟩ ∧ 0 ≤ i ∧ i ≤ 200 ∧ (∀ x ∈ A, i64 x) ∧ A.length ≤ 8 ∧ z = ⟨(enc A).toArray⟩ ∧ la = i64s A ∧ q = A.length ∧ k = (200 - i).toNat) 200 _
    (Re.of [(0, 0), (1, 1), (2, 2)] [] (by first | exact Nat.zero_le _ | exact Nat.le_refl _ | decide | (dsimp only; decide)) rfl rfl (by (try (conv => cbv)); (repeat' (first | exact trivial | rfl | exact SEq.mk rfl | (exact SEq.mk (by first | assumption | (symm; assumption))) | (simp only [I.val]; done) | (simp only [I.val]; omega) | omega | assumption | (refine And.intro ?_ ?_) | exact Or.inl rfl | exact Or.inr (by assumption) | exact List.Mem.head _ | exact List.Mem.tail _ (List.Mem.head _) | exact ⟨_, rfl⟩ | exact ⟨_, rfl, Or.inl rfl⟩ | (refine ⟨_, rfl, Or.inr ?_⟩; (try (conv => cbv))) | (simp only [I.val] at *; first | omega | (subst_vars; rfl) | simp_all) | (refine Or.inr ?_; (try (conv => cbv)))))) (by (try (conv => cbv)); (repeat' (first | exact trivial | rfl | exact SEq.mk rfl | (exact SEq.mk (by first | assumption | (symm; assumption))) | (simp only [I.val]; done) | (simp only [I.val]; omega) | omega | assumption | (refine And.intro ?_ ?_) | exact Or.inl rfl | exact Or.inr (by assumption) | exact List.Mem.head _ | exact List.Mem.tail _ (List.Mem.head _) | exact ⟨_, rfl⟩ | exact ⟨_, rfl, Or.inl rfl⟩ | (refine ⟨_, rfl, Or.inr ?_⟩; (try (conv => cbv))) | (simp only [I.val] at *; first | omega | (subst_vars; rfl) | simp_all) | (refine Or.inr ?_; (try (conv => cbv))))))) ⟨0, 0, [], z, false, [], rfl, by omega, by omega, by simp, by simp, hz, rfl, rfl, by omega⟩ ?_
  rintro k s ⟨i, q, A, z, ov, la, rfl, hi0, hi1, hA, hA8, hz, hla, hq, hk⟩
  conv => cbv
  refine Br.mk (fun g1 => ?_) (fun g1 => ?_)
  · have g1 : i < m := g1
    conv => cbv
    refine Br.mk (fun g2 => ?_) (fun g2 => ?_)
    · have g2 : i < 200 := g2
      obtain ⟨k', rfl⟩ : ∃ k', k = k' + 1 := ⟨k - 1, by omega⟩
      obtain ⟨⟨x1, y1⟩, hx1⟩ : ∃ e, B[i.toNat]? = some e := ⟨_, List.getElem?_eq_getElem (by omega)⟩
      obtain ⟨hc1, hc2⟩ := twos_get B i.toNat _ hx1
      rw [← hb] at hc1 hc2
      dsimp only at hc1 hc2
      have hi8 := (hB _ (List.mem_of_getElem? hx1)).2
      dsimp only at hi8
      conv => cbv
      refine Need.mk ⟨hi0, by simp only [I.val]; omega⟩ ?_
      conv => cbv
      refine Sum.mk fun w1 hw1 => ?_
      have hw1 : w1 = i * 2 := hw1
      conv => cbv
      refine Cell.at (w1 + 0) _ hc1 (by simp [I.val]) (by omega) ?_
      conv => cbv
      refine Br.mk (fun g3 => ?_) (fun g3 => ?_)
      · clear g3
        conv => cbv
        refine callF_frame (greyPop_lx A z ov hz hA hA8) [(0, 1)] rfl (by simp [hmapOk, nget, hget, renB, okB]) rfl rfl (fun r h' n' ⟨v, b, z2, A2, e1, e2, e3, hz2, h4⟩ => ?_)
        subst e1 e2 e3
        conv => cbv
        refine callF_frame (refPop_lx A q la ov hq hla hA8) [(0, 2)] rfl (by simp [hmapOk, nget, hget, renB, okB, renVs, renV, okVs, okV]) rfl rfl (fun r h' n' ⟨v2, b2, q2, la2, A3, e1, e2, e3, hq2, hla2, h5⟩ => ?_)
        subst e1 e2 e3
        obtain ⟨rfl, rfl, hAA, hA2, hA82⟩ : v2 = v ∧ b2 = b ∧ A3 = A2 ∧ (∀ x ∈ A2, i64 x) ∧ A2.length ≤ 8 := by
          rcases h4 with ⟨h, h6, h7, h8⟩ | ⟨h, h6⟩ <;> rcases h5 with ⟨g, g6, g7, g8⟩ | ⟨g, g6⟩
          · exact ⟨g6.trans h6.symm, g7.trans h7.symm, g8.trans h8.symm, by rw [h8]; simp, by rw [h8]; simp⟩
          · rw [h] at g; exact absurd g (by simp)
          · rw [g] at h; exact absurd h (by simp)
          · rw [h] at g
            obtain ⟨k1, k2⟩ := List.append_inj' g rfl
            refine ⟨by simpa using k2.symm, g6.trans h6.symm, k1.symm, fun x hx => hA x (by rw [h]; simp [hx]), ?_⟩
            rw [h] at hA8; simp at hA8; omega
        subst hAA
        clear h4 h5
        obtain ⟨ov2, hov2⟩ : ∃ ov2, ov2 = ov := ⟨_, rfl⟩
        subst hov2
        conv => cbv
        refine Br.mk (fun g4 => ?_) (fun g4 => ?_)
        case refine_2 =>
          have g4 : ¬ v2 = v2 := g4
          exfalso
          exact g4 rfl
        cases b2 with
        | true =>
          conv => cbv
          cases ov2 with
          | true =>
            conv => cbv
            refine drawn_sound tok (by kernel_rfl) [(4, [9, 8, 7, 6, 5]), (14, [18, 17, 16, 15]), (23, [])] [0, 1, 2, 3, 5, 6, 7, 8, 9, 4, 10, 11, 12, 13, 15, 16, 17, 18, 14, 19, 20, 21, 22, 23, 24, 25] (by kernel_rfl) ?_; conv => cbv
            refine callF_frame (greyLen_lx A3 z2 true hz2 (enc_small A3 hA2 hA82)) [(0, 1)] rfl (by simp [hmapOk, nget, hget, renB, okB]) rfl rfl (fun r h' n' ⟨m1, e1, hm1, e2, e3⟩ => ?_)
            subst e1 e2 e3
            conv => cbv
            refine Br.mk (fun g5 => ?_) (fun g5 => ?_)
            case refine_1 =>
              have g5 : m1 ≠ q2 := g5
              exfalso
              exact g5 (by omega)
            conv => cbv
            refine callF_frame (greyOver_lx z2 true) [(0, 1)] rfl (by simp [hmapOk, nget, hget, renB, okB]) rfl rfl (fun r h' n' ⟨e1, e2, e3⟩ => ?_)
            subst e1 e2 e3
            conv => cbv
            refine callF_frame (greyLen_lx A3 z2 true hz2 (enc_small A3 hA2 hA82)) [(0, 1)] rfl (by simp [hmapOk, nget, hget, renB, okB]) rfl rfl (fun r h' n' ⟨m3, e1, hm3, e2, e3⟩ => ?_)
            subst e1 e2 e3
            conv => cbv
            refine Br.mk (fun g6 => ?_) (fun g6 => ?_)
            case refine_1 =>
              have g6 : 8 < m3 := g6
              exfalso
              omega
            conv => cbv
            refine Fit.mk (by show (-9223372036854775808 : Int) ≤ i + 1; omega) (by show i + 1 ≤ 9223372036854775807; omega) ?_
            intro i2 hi2
            have hi2 : i2 = i + 1 := hi2
            conv => cbv
            refine Again.mk k' _ (Nat.lt_succ_self _) (Re.of [(0, 0), (1, 1), (2, 2)] [] (by first | exact Nat.zero_le _ | exact Nat.le_refl _ | decide | (dsimp only; decide)) rfl rfl (by (try (conv => cbv)); (repeat' (first | exact trivial | rfl | exact SEq.mk rfl | (exact SEq.mk (by first | assumption | (symm; assumption))) | (simp only [I.val]; done) | (simp only [I.val]; omega) | omega | assumption | (refine And.intro ?_ ?_) | exact Or.inl rfl | exact Or.inr (by assumption) | exact List.Mem.head _ | exact List.Mem.tail _ (List.Mem.head _) | exact ⟨_, rfl⟩ | exact ⟨_, rfl, Or.inl rfl⟩ | (refine ⟨_, rfl, Or.inr ?_⟩; (try (conv => cbv))) | (simp only [I.val] at *; first | omega | (subst_vars; rfl) | simp_all) | (refine Or.inr ?_; (try (conv => cbv)))))) (by (try (conv => cbv)); (repeat' (first | exact trivial | rfl | exact SEq.mk rfl | (exact SEq.mk (by first | assumption | (symm; assumption))) | (simp only [I.val]; done) | (simp only [I.val]; omega) | omega | assumption | (refine And.intro ?_ ?_) | exact Or.inl rfl | exact Or.inr (by assumption) | exact List.Mem.head _ | exact List.Mem.tail _ (List.Mem.head _) | exact ⟨_, rfl⟩ | exact ⟨_, rfl, Or.inl rfl⟩ | (refine ⟨_, rfl, Or.inr ?_⟩; (try (conv => cbv))) | (simp only [I.val] at *; first | omega | (subst_vars; rfl) | simp_all) | (refine Or.inr ?_; (try (conv => cbv))))))) ⟨i2, q2, A3, z2, true, la2, rfl, by omega, by omega, hA2, hA82, hz2, hla2, hq2, by omega⟩
          | false =>
            conv => cbv
            refine drawn_sound tok (by kernel_rfl) [(4, [9, 8, 7, 6, 5]), (14, [18, 17, 16, 15]), (23, [])] [0, 1, 2, 3, 5, 6, 7, 8, 9, 4, 10, 11, 12, 13, 15, 16, 17, 18, 14, 19, 20, 21, 22, 23, 24, 25] (by kernel_rfl) ?_; conv => cbv
            refine callF_frame (greyLen_lx A3 z2 false hz2 (enc_small A3 hA2 hA82)) [(0, 1)] rfl (by simp [hmapOk, nget, hget, renB, okB]) rfl rfl (fun r h' n' ⟨m1, e1, hm1, e2, e3⟩ => ?_)
            subst e1 e2 e3
            conv => cbv
            refine Br.mk (fun g5 => ?_) (fun g5 => ?_)
            case refine_1 =>
              have g5 : m1 ≠ q2 := g5
              exfalso
              exact g5 (by omega)
            conv => cbv
            refine callF_frame (greyOver_lx z2 false) [(0, 1)] rfl (by simp [hmapOk, nget, hget, renB, okB]) rfl rfl (fun r h' n' ⟨e1, e2, e3⟩ => ?_)
            subst e1 e2 e3
            conv => cbv
            refine callF_frame (greyLen_lx A3 z2 false hz2 (enc_small A3 hA2 hA82)) [(0, 1)] rfl (by simp [hmapOk, nget, hget, renB, okB]) rfl rfl (fun r h' n' ⟨m3, e1, hm3, e2, e3⟩ => ?_)
            subst e1 e2 e3
            conv => cbv
            refine Br.mk (fun g6 => ?_) (fun g6 => ?_)
            case refine_1 =>
              have g6 : 8 < m3 := g6
              exfalso
              omega
            conv => cbv
            refine Fit.mk (by show (-9223372036854775808 : Int) ≤ i + 1; omega) (by show i + 1 ≤ 9223372036854775807; omega) ?_
            intro i2 hi2
            have hi2 : i2 = i + 1 := hi2
            conv => cbv
            refine Again.mk k' _ (Nat.lt_succ_self _) (Re.of [(0, 0), (1, 1), (2, 2)] [] (by first | exact Nat.zero_le _ | exact Nat.le_refl _ | decide | (dsimp only; decide)) rfl rfl (by (try (conv => cbv)); (repeat' (first | exact trivial | rfl | exact SEq.mk rfl | (exact SEq.mk (by first | assumption | (symm; assumption))) | (simp only [I.val]; done) | (simp only [I.val]; omega) | omega | assumption | (refine And.intro ?_ ?_) | exact Or.inl rfl | exact Or.inr (by assumption) | exact List.Mem.head _ | exact List.Mem.tail _ (List.Mem.head _) | exact ⟨_, rfl⟩ | exact ⟨_, rfl, Or.inl rfl⟩ | (refine ⟨_, rfl, Or.inr ?_⟩; (try (conv => cbv))) | (simp only [I.val] at *; first | omega | (subst_vars; rfl) | simp_all) | (refine Or.inr ?_; (try (conv => cbv)))))) (by (try (conv => cbv)); (repeat' (first | exact trivial | rfl | exact SEq.mk rfl | (exact SEq.mk (by first | assumption | (symm; assumption))) | (simp only [I.val]; done) | (simp only [I.val]; omega) | omega | assumption | (refine And.intro ?_ ?_) | exact Or.inl rfl | exact Or.inr (by assumption) | exact List.Mem.head _ | exact List.Mem.tail _ (List.Mem.head _) | exact ⟨_, rfl⟩ | exact ⟨_, rfl, Or.inl rfl⟩ | (refine ⟨_, rfl, Or.inr ?_⟩; (try (conv => cbv))) | (simp only [I.val] at *; first | omega | (subst_vars; rfl) | simp_all) | (refine Or.inr ?_; (try (conv => cbv))))))) ⟨i2, q2, A3, z2, false, la2, rfl, by omega, by omega, hA2, hA82, hz2, hla2, hq2, by omega⟩
        | false =>
          conv => cbv
          cases ov2 with
          | true =>
            conv => cbv
            refine drawn_sound tok (by kernel_rfl) [(4, [9, 8, 7, 6, 5]), (14, [18, 17, 16, 15]), (23, [])] [0, 1, 2, 3, 5, 6, 7, 8, 9, 4, 10, 11, 12, 13, 15, 16, 17, 18, 14, 19, 20, 21, 22, 23, 24, 25] (by kernel_rfl) ?_; conv => cbv
            refine callF_frame (greyLen_lx A3 z2 true hz2 (enc_small A3 hA2 hA82)) [(0, 1)] rfl (by simp [hmapOk, nget, hget, renB, okB]) rfl rfl (fun r h' n' ⟨m1, e1, hm1, e2, e3⟩ => ?_)
            subst e1 e2 e3
            conv => cbv
            refine Br.mk (fun g5 => ?_) (fun g5 => ?_)
            case refine_1 =>
              have g5 : m1 ≠ q2 := g5
              exfalso
              exact g5 (by omega)
            conv => cbv
            refine callF_frame (greyOver_lx z2 true) [(0, 1)] rfl (by simp [hmapOk, nget, hget, renB, okB]) rfl rfl (fun r h' n' ⟨e1, e2, e3⟩ => ?_)
            subst e1 e2 e3
            conv => cbv
            refine callF_frame (greyLen_lx A3 z2 true hz2 (enc_small A3 hA2 hA82)) [(0, 1)] rfl (by simp [hmapOk, nget, hget, renB, okB]) rfl rfl (fun r h' n' ⟨m3, e1, hm3, e2, e3⟩ => ?_)
            subst e1 e2 e3
            conv => cbv
            refine Br.mk (fun g6 => ?_) (fun g6 => ?_)
            case refine_1 =>
              have g6 : 8 < m3 := g6
              exfalso
              omega
            conv => cbv
            refine Fit.mk (by show (-9223372036854775808 : Int) ≤ i + 1; omega) (by show i + 1 ≤ 9223372036854775807; omega) ?_
            intro i2 hi2
            have hi2 : i2 = i + 1 := hi2
            conv => cbv
            refine Again.mk k' _ (Nat.lt_succ_self _) (Re.of [(0, 0), (1, 1), (2, 2)] [] (by first | exact Nat.zero_le _ | exact Nat.le_refl _ | decide | (dsimp only; decide)) rfl rfl (by (try (conv => cbv)); (repeat' (first | exact trivial | rfl | exact SEq.mk rfl | (exact SEq.mk (by first | assumption | (symm; assumption))) | (simp only [I.val]; done) | (simp only [I.val]; omega) | omega | assumption | (refine And.intro ?_ ?_) | exact Or.inl rfl | exact Or.inr (by assumption) | exact List.Mem.head _ | exact List.Mem.tail _ (List.Mem.head _) | exact ⟨_, rfl⟩ | exact ⟨_, rfl, Or.inl rfl⟩ | (refine ⟨_, rfl, Or.inr ?_⟩; (try (conv => cbv))) | (simp only [I.val] at *; first | omega | (subst_vars; rfl) | simp_all) | (refine Or.inr ?_; (try (conv => cbv)))))) (by (try (conv => cbv)); (repeat' (first | exact trivial | rfl | exact SEq.mk rfl | (exact SEq.mk (by first | assumption | (symm; assumption))) | (simp only [I.val]; done) | (simp only [I.val]; omega) | omega | assumption | (refine And.intro ?_ ?_) | exact Or.inl rfl | exact Or.inr (by assumption) | exact List.Mem.head _ | exact List.Mem.tail _ (List.Mem.head _) | exact ⟨_, rfl⟩ | exact ⟨_, rfl, Or.inl rfl⟩ | (refine ⟨_, rfl, Or.inr ?_⟩; (try (conv => cbv))) | (simp only [I.val] at *; first | omega | (subst_vars; rfl) | simp_all) | (refine Or.inr ?_; (try (conv => cbv))))))) ⟨i2, q2, A3, z2, true, la2, rfl, by omega, by omega, hA2, hA82, hz2, hla2, hq2, by omega⟩
          | false =>
            conv => cbv
            refine drawn_sound tok (by kernel_rfl) [(4, [9, 8, 7, 6, 5]), (14, [18, 17, 16, 15]), (23, [])] [0, 1, 2, 3, 5, 6, 7, 8, 9, 4, 10, 11, 12, 13, 15, 16, 17, 18, 14, 19, 20, 21, 22, 23, 24, 25] (by kernel_rfl) ?_; conv => cbv
            refine callF_frame (greyLen_lx A3 z2 false hz2 (enc_small A3 hA2 hA82)) [(0, 1)] rfl (by simp [hmapOk, nget, hget, renB, okB]) rfl rfl (fun r h' n' ⟨m1, e1, hm1, e2, e3⟩ => ?_)
            subst e1 e2 e3
            conv => cbv
            refine Br.mk (fun g5 => ?_) (fun g5 => ?_)
            case refine_1 =>
              have g5 : m1 ≠ q2 := g5
              exfalso
              exact g5 (by omega)
            conv => cbv
            refine callF_frame (greyOver_lx z2 false) [(0, 1)] rfl (by simp [hmapOk, nget, hget, renB, okB]) rfl rfl (fun r h' n' ⟨e1, e2, e3⟩ => ?_)
            subst e1 e2 e3
            conv => cbv
            refine callF_frame (greyLen_lx A3 z2 false hz2 (enc_small A3 hA2 hA82)) [(0, 1)] rfl (by simp [hmapOk, nget, hget, renB, okB]) rfl rfl (fun r h' n' ⟨m3, e1, hm3, e2, e3⟩ => ?_)
            subst e1 e2 e3
            conv => cbv
            refine Br.mk (fun g6 => ?_) (fun g6 => ?_)
            case refine_1 =>
              have g6 : 8 < m3 := g6
              exfalso
              omega
            conv => cbv
            refine Fit.mk (by show (-9223372036854775808 : Int) ≤ i + 1; omega) (by show i + 1 ≤ 9223372036854775807; omega) ?_
            intro i2 hi2
            have hi2 : i2 = i + 1 := hi2
            conv => cbv
            refine Again.mk k' _ (Nat.lt_succ_self _) (Re.of [(0, 0), (1, 1), (2, 2)] [] (by first | exact Nat.zero_le _ | exact Nat.le_refl _ | decide | (dsimp only; decide)) rfl rfl (by (try (conv => cbv)); (repeat' (first | exact trivial | rfl | exact SEq.mk rfl | (exact SEq.mk (by first | assumption | (symm; assumption))) | (simp only [I.val]; done) | (simp only [I.val]; omega) | omega | assumption | (refine And.intro ?_ ?_) | exact Or.inl rfl | exact Or.inr (by assumption) | exact List.Mem.head _ | exact List.Mem.tail _ (List.Mem.head _) | exact ⟨_, rfl⟩ | exact ⟨_, rfl, Or.inl rfl⟩ | (refine ⟨_, rfl, Or.inr ?_⟩; (try (conv => cbv))) | (simp only [I.val] at *; first | omega | (subst_vars; rfl) | simp_all) | (refine Or.inr ?_; (try (conv => cbv)))))) (by (try (conv => cbv)); (repeat' (first | exact trivial | rfl | exact SEq.mk rfl | (exact SEq.mk (by first | assumption | (symm; assumption))) | (simp only [I.val]; done) | (simp only [I.val]; omega) | omega | assumption | (refine And.intro ?_ ?_) | exact Or.inl rfl | exact Or.inr (by assumption) | exact List.Mem.head _ | exact List.Mem.tail _ (List.Mem.head _) | exact ⟨_, rfl⟩ | exact ⟨_, rfl, Or.inl rfl⟩ | (refine ⟨_, rfl, Or.inr ?_⟩; (try (conv => cbv))) | (simp only [I.val] at *; first | omega | (subst_vars; rfl) | simp_all) | (refine Or.inr ?_; (try (conv => cbv))))))) ⟨i2, q2, A3, z2, false, la2, rfl, by omega, by omega, hA2, hA82, hz2, hla2, hq2, by omega⟩
      · clear g3
        conv => cbv
        refine Br.mk (fun g4 => ?_) (fun g4 => ?_)
        · clear g4
          conv => cbv
          refine callF_frame (greySettle_lx z ov) [(0, 1)] rfl (by simp [hmapOk, nget, hget, renB, okB]) rfl rfl (fun r h' n' ⟨e1, e2, e3⟩ => ?_)
          subst e1 e2 e3
          conv => cbv
          refine drawn_sound tok (by kernel_rfl) [(4, [9, 8, 7, 6, 5]), (14, [18, 17, 16, 15]), (23, [])] [0, 1, 2, 3, 5, 6, 7, 8, 9, 4, 10, 11, 12, 13, 15, 16, 17, 18, 14, 19, 20, 21, 22, 23, 24, 25] (by kernel_rfl) ?_; conv => cbv
          refine callF_frame (greyLen_lx A z false hz (enc_small A hA hA8)) [(0, 1)] rfl (by simp [hmapOk, nget, hget, renB, okB]) rfl rfl (fun r h' n' ⟨m1, e1, hm1, e2, e3⟩ => ?_)
          subst e1 e2 e3
          conv => cbv
          refine Br.mk (fun g5 => ?_) (fun g5 => ?_)
          case refine_1 =>
            have g5 : m1 ≠ q := g5
            exfalso
            exact g5 (by omega)
          conv => cbv
          refine callF_frame (greyOver_lx z false) [(0, 1)] rfl (by simp [hmapOk, nget, hget, renB, okB]) rfl rfl (fun r h' n' ⟨e1, e2, e3⟩ => ?_)
          subst e1 e2 e3
          conv => cbv
          refine callF_frame (greyLen_lx A z false hz (enc_small A hA hA8)) [(0, 1)] rfl (by simp [hmapOk, nget, hget, renB, okB]) rfl rfl (fun r h' n' ⟨m3, e1, hm3, e2, e3⟩ => ?_)
          subst e1 e2 e3
          conv => cbv
          refine Br.mk (fun g6 => ?_) (fun g6 => ?_)
          case refine_1 =>
            have g6 : 8 < m3 := g6
            exfalso
            omega
          conv => cbv
          refine Fit.mk (by show (-9223372036854775808 : Int) ≤ i + 1; omega) (by show i + 1 ≤ 9223372036854775807; omega) ?_
          intro i2 hi2
          have hi2 : i2 = i + 1 := hi2
          conv => cbv
          refine Again.mk k' _ (Nat.lt_succ_self _) (Re.of [(0, 0), (1, 1), (2, 2)] [] (by first | exact Nat.zero_le _ | exact Nat.le_refl _ | decide | (dsimp only; decide)) rfl rfl (by (try (conv => cbv)); (repeat' (first | exact trivial | rfl | exact SEq.mk rfl | (exact SEq.mk (by first | assumption | (symm; assumption))) | (simp only [I.val]; done) | (simp only [I.val]; omega) | omega | assumption | (refine And.intro ?_ ?_) | exact Or.inl rfl | exact Or.inr (by assumption) | exact List.Mem.head _ | exact List.Mem.tail _ (List.Mem.head _) | exact ⟨_, rfl⟩ | exact ⟨_, rfl, Or.inl rfl⟩ | (refine ⟨_, rfl, Or.inr ?_⟩; (try (conv => cbv))) | (simp only [I.val] at *; first | omega | (subst_vars; rfl) | simp_all) | (refine Or.inr ?_; (try (conv => cbv)))))) (by (try (conv => cbv)); (repeat' (first | exact trivial | rfl | exact SEq.mk rfl | (exact SEq.mk (by first | assumption | (symm; assumption))) | (simp only [I.val]; done) | (simp only [I.val]; omega) | omega | assumption | (refine And.intro ?_ ?_) | exact Or.inl rfl | exact Or.inr (by assumption) | exact List.Mem.head _ | exact List.Mem.tail _ (List.Mem.head _) | exact ⟨_, rfl⟩ | exact ⟨_, rfl, Or.inl rfl⟩ | (refine ⟨_, rfl, Or.inr ?_⟩; (try (conv => cbv))) | (simp only [I.val] at *; first | omega | (subst_vars; rfl) | simp_all) | (refine Or.inr ?_; (try (conv => cbv))))))) ⟨i2, q, A, z, false, la, rfl, by omega, by omega, hA, hA8, hz, hla, hq, by omega⟩
        · clear g4
          conv => cbv
          refine drawn_sound tok (by kernel_rfl) [(6, [12, 11, 10, 9, 8, 7]), (13, [])] [0, 1, 2, 3, 4, 5, 7, 8, 9, 10, 11, 12, 6, 13, 14, 15] (by kernel_rfl) ?_; conv => cbv
          refine Need.mk ⟨hi0, by simp only [I.val]; omega⟩ ?_
          conv => cbv
          refine Sum.mk fun w2 hw2 => ?_
          have hw2 : w2 = i * 2 := hw2
          conv => cbv
          refine Sum.mk fun w3 hw3 => ?_
          have hw3 : w3 = w2 + 1 := hw3
          conv => cbv
          refine Cell.at (w3 + 0) _ hc2 (by simp [I.val]) (by omega) ?_
          conv => cbv
          refine Need.mk ⟨hi0, by simp only [I.val]; omega⟩ ?_
          conv => cbv
          refine Sum.mk fun w4 hw4 => ?_
          have hw4 : w4 = i * 2 := hw4
          conv => cbv
          refine Sum.mk fun w5 hw5 => ?_
          have hw5 : w5 = w4 + 1 := hw5
          conv => cbv
          refine Cell.at (w5 + 0) _ hc2 (by simp [I.val]) (by omega) ?_
          conv => cbv
          refine callF_frame (greyPush_lx A y1 z ov o ho hz hA hA8 hi8) [(0, 0), (1, 1)] rfl (by simp [hmapOk, nget, hget, renB, okB]) rfl rfl (fun r h' n' ⟨b, ov2, z2, A2, e1, e2, e3, hz2, h4, h5⟩ => ?_)
          subst e1 e2 e3
          conv => cbv
          refine callF_frame (refPush_lx A y1 q la ov hq hla hA8) [(0, 2)] rfl (by simp [hmapOk, nget, hget, renB, okB, renVs, renV, okVs, okV]) rfl rfl (fun r h' n' ⟨b2, ov3, q2, la2, A3, e1, e2, e3, hq2, hla2, h6, h7⟩ => ?_)
          subst e1 e2 e3
          obtain ⟨rfl, rfl, rfl, hA2, hA82⟩ : b2 = b ∧ ov3 = ov2 ∧ A3 = A2 ∧ (∀ x ∈ A2, i64 x) ∧ A2.length ≤ 8 := by
            by_cases h : A.length < 8
            · obtain ⟨a1, a2, a3⟩ := h4 h
              obtain ⟨c1, c2, c3⟩ := h6 h
              refine ⟨c1.trans a1.symm, c3.trans a3.symm, c2.trans a2.symm, fun x hx => ?_, by rw [a2]; simp; omega⟩
              rw [a2] at hx
              rcases List.mem_append.1 hx with hx | hx
              · exact hA x hx
              · rw [List.mem_singleton.1 hx]; exact hi8
            · obtain ⟨a1, a2, a3⟩ := h5 (by omega)
              obtain ⟨c1, c2, c3⟩ := h7 (by omega)
              exact ⟨c1.trans a1.symm, c3.trans a3.symm, c2.trans a2.symm, by rw [a2]; exact hA, by rw [a2]; exact hA8⟩
          clear h4 h5 h6 h7
          cases b2 with
          | true =>
            conv => cbv
            cases ov3 with
            | true =>
              conv => cbv
              refine drawn_sound tok (by kernel_rfl) [(4, [9, 8, 7, 6, 5]), (14, [18, 17, 16, 15]), (23, [])] [0, 1, 2, 3, 5, 6, 7, 8, 9, 4, 10, 11, 12, 13, 15, 16, 17, 18, 14, 19, 20, 21, 22, 23, 24, 25] (by kernel_rfl) ?_; conv => cbv
              refine callF_frame (greyLen_lx A3 z2 true hz2 (enc_small A3 hA2 hA82)) [(0, 1)] rfl (by simp [hmapOk, nget, hget, renB, okB]) rfl rfl (fun r h' n' ⟨m1, e1, hm1, e2, e3⟩ => ?_)
              subst e1 e2 e3
              conv => cbv
              refine Br.mk (fun g5 => ?_) (fun g5 => ?_)
              case refine_1 =>
                have g5 : m1 ≠ q2 := g5
                exfalso
                exact g5 (by omega)
              conv => cbv
              refine callF_frame (greyOver_lx z2 true) [(0, 1)] rfl (by simp [hmapOk, nget, hget, renB, okB]) rfl rfl (fun r h' n' ⟨e1, e2, e3⟩ => ?_)
              subst e1 e2 e3
              conv => cbv
              refine callF_frame (greyLen_lx A3 z2 true hz2 (enc_small A3 hA2 hA82)) [(0, 1)] rfl (by simp [hmapOk, nget, hget, renB, okB]) rfl rfl (fun r h' n' ⟨m3, e1, hm3, e2, e3⟩ => ?_)
              subst e1 e2 e3
              conv => cbv
              refine Br.mk (fun g6 => ?_) (fun g6 => ?_)
              case refine_1 =>
                have g6 : 8 < m3 := g6
                exfalso
                omega
              conv => cbv
              refine Fit.mk (by show (-9223372036854775808 : Int) ≤ i + 1; omega) (by show i + 1 ≤ 9223372036854775807; omega) ?_
              intro i2 hi2
              have hi2 : i2 = i + 1 := hi2
              conv => cbv
              refine Again.mk k' _ (Nat.lt_succ_self _) (Re.of [(0, 0), (1, 1), (2, 2)] [] (by first | exact Nat.zero_le _ | exact Nat.le_refl _ | decide | (dsimp only; decide)) rfl rfl (by (try (conv => cbv)); (repeat' (first | exact trivial | rfl | exact SEq.mk rfl | (exact SEq.mk (by first | assumption | (symm; assumption))) | (simp only [I.val]; done) | (simp only [I.val]; omega) | omega | assumption | (refine And.intro ?_ ?_) | exact Or.inl rfl | exact Or.inr (by assumption) | exact List.Mem.head _ | exact List.Mem.tail _ (List.Mem.head _) | exact ⟨_, rfl⟩ | exact ⟨_, rfl, Or.inl rfl⟩ | (refine ⟨_, rfl, Or.inr ?_⟩; (try (conv => cbv))) | (simp only [I.val] at *; first | omega | (subst_vars; rfl) | simp_all) | (refine Or.inr ?_; (try (conv => cbv)))))) (by (try (conv => cbv)); (repeat' (first | exact trivial | rfl | exact SEq.mk rfl | (exact SEq.mk (by first | assumption | (symm; assumption))) | (simp only [I.val]; done) | (simp only [I.val]; omega) | omega | assumption | (refine And.intro ?_ ?_) | exact Or.inl rfl | exact Or.inr (by assumption) | exact List.Mem.head _ | exact List.Mem.tail _ (List.Mem.head _) | exact ⟨_, rfl⟩ | exact ⟨_, rfl, Or.inl rfl⟩ | (refine ⟨_, rfl, Or.inr ?_⟩; (try (conv => cbv))) | (simp only [I.val] at *; first | omega | (subst_vars; rfl) | simp_all) | (refine Or.inr ?_; (try (conv => cbv))))))) ⟨i2, q2, A3, z2, true, la2, rfl, by omega, by omega, hA2, hA82, hz2, hla2, hq2, by omega⟩
            | false =>
              conv => cbv
              refine drawn_sound tok (by kernel_rfl) [(4, [9, 8, 7, 6, 5]), (14, [18, 17, 16, 15]), (23, [])] [0, 1, 2, 3, 5, 6, 7, 8, 9, 4, 10, 11, 12, 13, 15, 16, 17, 18, 14, 19, 20, 21, 22, 23, 24, 25] (by kernel_rfl) ?_; conv => cbv
              refine callF_frame (greyLen_lx A3 z2 false hz2 (enc_small A3 hA2 hA82)) [(0, 1)] rfl (by simp [hmapOk, nget, hget, renB, okB]) rfl rfl (fun r h' n' ⟨m1, e1, hm1, e2, e3⟩ => ?_)
              subst e1 e2 e3
              conv => cbv
              refine Br.mk (fun g5 => ?_) (fun g5 => ?_)
              case refine_1 =>
                have g5 : m1 ≠ q2 := g5
                exfalso
                exact g5 (by omega)
              conv => cbv
              refine callF_frame (greyOver_lx z2 false) [(0, 1)] rfl (by simp [hmapOk, nget, hget, renB, okB]) rfl rfl (fun r h' n' ⟨e1, e2, e3⟩ => ?_)
              subst e1 e2 e3
              conv => cbv
              refine callF_frame (greyLen_lx A3 z2 false hz2 (enc_small A3 hA2 hA82)) [(0, 1)] rfl (by simp [hmapOk, nget, hget, renB, okB]) rfl rfl (fun r h' n' ⟨m3, e1, hm3, e2, e3⟩ => ?_)
              subst e1 e2 e3
              conv => cbv
              refine Br.mk (fun g6 => ?_) (fun g6 => ?_)
              case refine_1 =>
                have g6 : 8 < m3 := g6
                exfalso
                omega
              conv => cbv
              refine Fit.mk (by show (-9223372036854775808 : Int) ≤ i + 1; omega) (by show i + 1 ≤ 9223372036854775807; omega) ?_
              intro i2 hi2
              have hi2 : i2 = i + 1 := hi2
              conv => cbv
              refine Again.mk k' _ (Nat.lt_succ_self _) (Re.of [(0, 0), (1, 1), (2, 2)] [] (by first | exact Nat.zero_le _ | exact Nat.le_refl _ | decide | (dsimp only; decide)) rfl rfl (by (try (conv => cbv)); (repeat' (first | exact trivial | rfl | exact SEq.mk rfl | (exact SEq.mk (by first | assumption | (symm; assumption))) | (simp only [I.val]; done) | (simp only [I.val]; omega) | omega | assumption | (refine And.intro ?_ ?_) | exact Or.inl rfl | exact Or.inr (by assumption) | exact List.Mem.head _ | exact List.Mem.tail _ (List.Mem.head _) | exact ⟨_, rfl⟩ | exact ⟨_, rfl, Or.inl rfl⟩ | (refine ⟨_, rfl, Or.inr ?_⟩; (try (conv => cbv))) | (simp only [I.val] at *; first | omega | (subst_vars; rfl) | simp_all) | (refine Or.inr ?_; (try (conv => cbv)))))) (by (try (conv => cbv)); (repeat' (first | exact trivial | rfl | exact SEq.mk rfl | (exact SEq.mk (by first | assumption | (symm; assumption))) | (simp only [I.val]; done) | (simp only [I.val]; omega) | omega | assumption | (refine And.intro ?_ ?_) | exact Or.inl rfl | exact Or.inr (by assumption) | exact List.Mem.head _ | exact List.Mem.tail _ (List.Mem.head _) | exact ⟨_, rfl⟩ | exact ⟨_, rfl, Or.inl rfl⟩ | (refine ⟨_, rfl, Or.inr ?_⟩; (try (conv => cbv))) | (simp only [I.val] at *; first | omega | (subst_vars; rfl) | simp_all) | (refine Or.inr ?_; (try (conv => cbv))))))) ⟨i2, q2, A3, z2, false, la2, rfl, by omega, by omega, hA2, hA82, hz2, hla2, hq2, by omega⟩
          | false =>
            conv => cbv
            cases ov3 with
            | true =>
              conv => cbv
              refine drawn_sound tok (by kernel_rfl) [(4, [9, 8, 7, 6, 5]), (14, [18, 17, 16, 15]), (23, [])] [0, 1, 2, 3, 5, 6, 7, 8, 9, 4, 10, 11, 12, 13, 15, 16, 17, 18, 14, 19, 20, 21, 22, 23, 24, 25] (by kernel_rfl) ?_; conv => cbv
              refine callF_frame (greyLen_lx A3 z2 true hz2 (enc_small A3 hA2 hA82)) [(0, 1)] rfl (by simp [hmapOk, nget, hget, renB, okB]) rfl rfl (fun r h' n' ⟨m1, e1, hm1, e2, e3⟩ => ?_)
              subst e1 e2 e3
              conv => cbv
              refine Br.mk (fun g5 => ?_) (fun g5 => ?_)
              case refine_1 =>
                have g5 : m1 ≠ q2 := g5
                exfalso
                exact g5 (by omega)
              conv => cbv
              refine callF_frame (greyOver_lx z2 true) [(0, 1)] rfl (by simp [hmapOk, nget, hget, renB, okB]) rfl rfl (fun r h' n' ⟨e1, e2, e3⟩ => ?_)
              subst e1 e2 e3
              conv => cbv
              refine callF_frame (greyLen_lx A3 z2 true hz2 (enc_small A3 hA2 hA82)) [(0, 1)] rfl (by simp [hmapOk, nget, hget, renB, okB]) rfl rfl (fun r h' n' ⟨m3, e1, hm3, e2, e3⟩ => ?_)
              subst e1 e2 e3
              conv => cbv
              refine Br.mk (fun g6 => ?_) (fun g6 => ?_)
              case refine_1 =>
                have g6 : 8 < m3 := g6
                exfalso
                omega
              conv => cbv
              refine Fit.mk (by show (-9223372036854775808 : Int) ≤ i + 1; omega) (by show i + 1 ≤ 9223372036854775807; omega) ?_
              intro i2 hi2
              have hi2 : i2 = i + 1 := hi2
              conv => cbv
              refine Again.mk k' _ (Nat.lt_succ_self _) (Re.of [(0, 0), (1, 1), (2, 2)] [] (by first | exact Nat.zero_le _ | exact Nat.le_refl _ | decide | (dsimp only; decide)) rfl rfl (by (try (conv => cbv)); (repeat' (first | exact trivial | rfl | exact SEq.mk rfl | (exact SEq.mk (by first | assumption | (symm; assumption))) | (simp only [I.val]; done) | (simp only [I.val]; omega) | omega | assumption | (refine And.intro ?_ ?_) | exact Or.inl rfl | exact Or.inr (by assumption) | exact List.Mem.head _ | exact List.Mem.tail _ (List.Mem.head _) | exact ⟨_, rfl⟩ | exact ⟨_, rfl, Or.inl rfl⟩ | (refine ⟨_, rfl, Or.inr ?_⟩; (try (conv => cbv))) | (simp only [I.val] at *; first | omega | (subst_vars; rfl) | simp_all) | (refine Or.inr ?_; (try (conv => cbv)))))) (by (try (conv => cbv)); (repeat' (first | exact trivial | rfl | exact SEq.mk rfl | (exact SEq.mk (by first | assumption | (symm; assumption))) | (simp only [I.val]; done) | (simp only [I.val]; omega) | omega | assumption | (refine And.intro ?_ ?_) | exact Or.inl rfl | exact Or.inr (by assumption) | exact List.Mem.head _ | exact List.Mem.tail _ (List.Mem.head _) | exact ⟨_, rfl⟩ | exact ⟨_, rfl, Or.inl rfl⟩ | (refine ⟨_, rfl, Or.inr ?_⟩; (try (conv => cbv))) | (simp only [I.val] at *; first | omega | (subst_vars; rfl) | simp_all) | (refine Or.inr ?_; (try (conv => cbv))))))) ⟨i2, q2, A3, z2, true, la2, rfl, by omega, by omega, hA2, hA82, hz2, hla2, hq2, by omega⟩
            | false =>
              conv => cbv
              refine drawn_sound tok (by kernel_rfl) [(4, [9, 8, 7, 6, 5]), (14, [18, 17, 16, 15]), (23, [])] [0, 1, 2, 3, 5, 6, 7, 8, 9, 4, 10, 11, 12, 13, 15, 16, 17, 18, 14, 19, 20, 21, 22, 23, 24, 25] (by kernel_rfl) ?_; conv => cbv
              refine callF_frame (greyLen_lx A3 z2 false hz2 (enc_small A3 hA2 hA82)) [(0, 1)] rfl (by simp [hmapOk, nget, hget, renB, okB]) rfl rfl (fun r h' n' ⟨m1, e1, hm1, e2, e3⟩ => ?_)
              subst e1 e2 e3
              conv => cbv
              refine Br.mk (fun g5 => ?_) (fun g5 => ?_)
              case refine_1 =>
                have g5 : m1 ≠ q2 := g5
                exfalso
                exact g5 (by omega)
              conv => cbv
              refine callF_frame (greyOver_lx z2 false) [(0, 1)] rfl (by simp [hmapOk, nget, hget, renB, okB]) rfl rfl (fun r h' n' ⟨e1, e2, e3⟩ => ?_)
              subst e1 e2 e3
              conv => cbv
              refine callF_frame (greyLen_lx A3 z2 false hz2 (enc_small A3 hA2 hA82)) [(0, 1)] rfl (by simp [hmapOk, nget, hget, renB, okB]) rfl rfl (fun r h' n' ⟨m3, e1, hm3, e2, e3⟩ => ?_)
              subst e1 e2 e3
              conv => cbv
              refine Br.mk (fun g6 => ?_) (fun g6 => ?_)
              case refine_1 =>
                have g6 : 8 < m3 := g6
                exfalso
                omega
              conv => cbv
              refine Fit.mk (by show (-9223372036854775808 : Int) ≤ i + 1; omega) (by show i + 1 ≤ 9223372036854775807; omega) ?_
              intro i2 hi2
              have hi2 : i2 = i + 1 := hi2
              conv => cbv
              refine Again.mk k' _ (Nat.lt_succ_self _) (Re.of [(0, 0), (1, 1), (2, 2)] [] (by first | exact Nat.zero_le _ | exact Nat.le_refl _ | decide | (dsimp only; decide)) rfl rfl (by (try (conv => cbv)); (repeat' (first | exact trivial | rfl | exact SEq.mk rfl | (exact SEq.mk (by first | assumption | (symm; assumption))) | (simp only [I.val]; done) | (simp only [I.val]; omega) | omega | assumption | (refine And.intro ?_ ?_) | exact Or.inl rfl | exact Or.inr (by assumption) | exact List.Mem.head _ | exact List.Mem.tail _ (List.Mem.head _) | exact ⟨_, rfl⟩ | exact ⟨_, rfl, Or.inl rfl⟩ | (refine ⟨_, rfl, Or.inr ?_⟩; (try (conv => cbv))) | (simp only [I.val] at *; first | omega | (subst_vars; rfl) | simp_all) | (refine Or.inr ?_; (try (conv => cbv)))))) (by (try (conv => cbv)); (repeat' (first | exact trivial | rfl | exact SEq.mk rfl | (exact SEq.mk (by first | assumption | (symm; assumption))) | (simp only [I.val]; done) | (simp only [I.val]; omega) | omega | assumption | (refine And.intro ?_ ?_) | exact Or.inl rfl | exact Or.inr (by assumption) | exact List.Mem.head _ | exact List.Mem.tail _ (List.Mem.head _) | exact ⟨_, rfl⟩ | exact ⟨_, rfl, Or.inl rfl⟩ | (refine ⟨_, rfl, Or.inr ?_⟩; (try (conv => cbv))) | (simp only [I.val] at *; first | omega | (subst_vars; rfl) | simp_all) | (refine Or.inr ?_; (try (conv => cbv))))))) ⟨i2, q2, A3, z2, false, la2, rfl, by omega, by omega, hA2, hA82, hz2, hla2, hq2, by omega⟩
    · clear g2
      conv => cbv
      refine RetF.mk [.p (.bool true)] [] 1 (Re.of [] [] (by first | exact Nat.zero_le _ | exact Nat.le_refl _ | decide | (dsimp only; decide)) rfl rfl (by (try (conv => cbv)); (repeat' (first | exact trivial | rfl | exact SEq.mk rfl | (exact SEq.mk (by first | assumption | (symm; assumption))) | (simp only [I.val]; done) | (simp only [I.val]; omega) | omega | assumption | (refine And.intro ?_ ?_) | exact Or.inl rfl | exact Or.inr (by assumption) | exact List.Mem.head _ | exact List.Mem.tail _ (List.Mem.head _) | exact ⟨_, rfl⟩ | exact ⟨_, rfl, Or.inl rfl⟩ | (refine ⟨_, rfl, Or.inr ?_⟩; (try (conv => cbv))) | (simp only [I.val] at *; first | omega | (subst_vars; rfl) | simp_all) | (refine Or.inr ?_; (try (conv => cbv)))))) (by (try (conv => cbv)); (repeat' (first | exact trivial | rfl | exact SEq.mk rfl | (exact SEq.mk (by first | assumption | (symm; assumption))) | (simp only [I.val]; done) | (simp only [I.val]; omega) | omega | assumption | (refine And.intro ?_ ?_) | exact Or.inl rfl | exact Or.inr (by assumption) | exact List.Mem.head _ | exact List.Mem.tail _ (List.Mem.head _) | exact ⟨_, rfl⟩ | exact ⟨_, rfl, Or.inl rfl⟩ | (refine ⟨_, rfl, Or.inr ?_⟩; (try (conv => cbv))) | (simp only [I.val] at *; first | omega | (subst_vars; rfl) | simp_all) | (refine Or.inr ?_; (try (conv => cbv))))))) rfl rfl
  · clear g1
    conv => cbv
    refine RetF.mk [.p (.bool true)] [] 1 (Re.of [] [] (by first | exact Nat.zero_le _ | exact Nat.le_refl _ | decide | (dsimp only; decide)) rfl rfl (by (try (conv => cbv)); (repeat' (first | exact trivial | rfl | exact SEq.mk rfl | (exact SEq.mk (by first | assumption | (symm; assumption))) | (simp only [I.val]; done) | (simp only [I.val]; omega) | omega | assumption | (refine And.intro ?_ ?_) | exact Or.inl rfl | exact Or.inr (by assumption) | exact List.Mem.head _ | exact List.Mem.tail _ (List.Mem.head _) | exact ⟨_, rfl⟩ | exact ⟨_, rfl, Or.inl rfl⟩ | (refine ⟨_, rfl, Or.inr ?_⟩; (try (conv => cbv))) | (simp only [I.val] at *; first | omega | (subst_vars; rfl) | simp_all) | (refine Or.inr ?_; (try (conv => cbv)))))) (by (try (conv => cbv)); (repeat' (first | exact trivial | rfl | exact SEq.mk rfl | (exact SEq.mk (by first | assumption | (symm; assumption))) | (simp only [I.val]; done) | (simp only [I.val]; omega) | omega | assumption | (refine And.intro ?_ ?_) | exact Or.inl rfl | exact Or.inr (by assumption) | exact List.Mem.head _ | exact List.Mem.tail _ (List.Mem.head _) | exact ⟨_, rfl⟩ | exact ⟨_, rfl, Or.inl rfl⟩ | (refine ⟨_, rfl, Or.inr ?_⟩; (try (conv => cbv))) | (simp only [I.val] at *; first | omega | (subst_vars; rfl) | simp_all) | (refine Or.inr ?_; (try (conv => cbv))))))) rfl rfl
end Go.Proofs.YtocliihimbggjaaDoor
