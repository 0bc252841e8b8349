/-
  SpanPlays.
-/
import Derived.Test.YtocliihimbggjaaRe
import Derived.Test.YtocliihimbggjaaSg
import Derived.Test.YtocliihimbggjaaLxQ
namespace Go.Proofs.Ytocliihimbggjaa
open Go Go.LX
set_option maxRecDepth 100000
set_option linter.unusedVariables false
set_option linter.unusedSimpArgs false

set_option maxHeartbeats 8000000 in
theorem spanPlays_law (n k1 : Int) (ops : List (Int × Int × Int × Int)) (L1 : List PV) (hn : -9223372036854775808 ≤ n ∧ n ≤ 9223372036854775807) (hk1 : k1 = ops.length) (hL1 : L1 = fours ops) (hkb : k1 ≤ 9223372036854775807) :
    CallF (fun _ => Try.prog) 3 [.p (.int .i64 (.sym n)), .p (.vsl (.sym k1) true L1)] [] 0 (fun r _ _ => r = .p (.bool true)) := by
  have hL1l : L1.length = 4 * ops.length := by rw [hL1, fours_length]
  refine callF_of_body tok Try.func3 (by kernel_rfl) rfl rfl rfl ?_; conv => cbv
  refine Fit.wrap fun xn hxn => ?_
  have hxn : xn = IntKind.u64.wrap n := hxn
  have hyn : 0 ≤ xn := by rw [hxn]; simp [IntKind.wrap, IntKind.bits, IntKind.signed]; omega
  clear hxn
  conv => cbv
  refine Sum.mk fun tn htn => ?_
  have htn : tn = xn % 8 := (show tn = xn.tmod 8 from htn).trans (Int.tmod_eq_emod_of_nonneg hyn)
  conv => cbv
  refine Fit.mk (by show (-9223372036854775808 : Int) ≤ tn; omega) (by show tn ≤ 9223372036854775807; omega) fun un hun => ?_
  have hun : un = tn := hun
  have h0n : 0 ≤ un := by omega
  have h1n : un < 8 := by omega
  clear hun htn hyn
  conv => cbv
  refine Fit.mk (by show (-9223372036854775808 : Int) ≤ 2 + un; omega) (by show 2 + un ≤ 9223372036854775807; omega) fun N hN => ?_
  have hN : N = 2 + un := hN
  have hN0 : 2 ≤ N := by omega
  have hN1 : N ≤ 9 := by omega
  clear hN h0n h1n
  obtain ⟨R0, hR0⟩ : ∃ R0, R0 = List.replicate N.toNat ((0, []) : Rw) := ⟨_, rfl⟩
  have hl0 : N = R0.length := by rw [hR0, List.length_replicate]; omega
  have hok0 : ROk R0 := by
    intro e he
    rw [hR0] at he
    obtain ⟨_, rfl⟩ := List.mem_replicate.1 he
    exact ⟨by simp, fun h => absurd rfl h⟩
  obtain ⟨L, hL⟩ : ∃ L, L = rpv R0 := ⟨_, rfl⟩
  conv => cbv
  refine callF_frame (spanNew_lx N hN0 (by omega) L (by rw [hL, hR0])) [] rfl trivial rfl rfl (fun r h' n' ⟨e1, e2, e3⟩ => ?_)
  subst e1 e2 e3
  conv => cbv
  refine callF_frame (rnew_lx N ⟨hN0, by omega⟩) [] rfl trivial rfl rfl (fun r h' n' hrr => ?_)
  obtain ⟨C, B, e1, e2, e3, hC, hB⟩ := hrr
  subst e1 e2 e3
  rw [← hR0] at hC hB
  conv => cbv
  refine callF_frame awake06_lx [] rfl trivial rfl rfl (fun r h' n' ⟨e1, e2, e3⟩ => ?_)
  subst e1 e2 e3
  conv => cbv
  refine LoopF.mk (fun kk s => ∃ (i : Int) (L C B : List PV) (R : List Rw), s = ⟨.p (.int .i64 (.sym N)) :: .p (.vsl (.sym k1) true L1) :: (undefs 3 ++ .ptr 0 (.lit 0) :: .undef :: .ptr 2 (.lit 0) :: .undef :: .p (.int .i64 (.sym i)) :: undefs 135), [(0, .mix [.sl 1 58 2 (.lit 0) (.sym N)]), (1, .pure true L), (2, .mix [.sl 3 3 1 (.lit 0) (.sym N), .sl 4 54 8 (.lit 0) (.sym N)]), (3, .pure true C), (4, .pure true B)], 5⟩ ∧ ROk R ∧ N = R.length ∧ L = rpv R ∧ C = cpv R ∧ B = bpv R ∧ 0 ≤ i ∧ i ≤ 100 ∧ kk = (100 - i).toNat) 100 _
    (Re.of [(0, 0), (1, 1), (2, 2), (3, 3), (4, 4)] [] (by first | exact Nat.zero_le _ | exact Nat.le_refl _ | decide | (dsimp only; decide)) rfl rfl (by (try (conv => cbv)); (repeat' (first | exact trivial | rfl | exact SEq.mk rfl | (exact SEq.mk (by first | assumption | (symm; assumption))) | (simp only [I.val]; done) | (simp only [I.val]; omega) | omega | assumption | (refine And.intro ?_ ?_) | exact Or.inl rfl | exact Or.inr (by assumption) | exact List.Mem.head _ | exact List.Mem.tail _ (List.Mem.head _) | exact ⟨_, rfl⟩ | exact ⟨_, rfl, Or.inl rfl⟩ | (refine ⟨_, rfl, Or.inr ?_⟩; (try (conv => cbv))) | (simp only [I.val] at *; first | omega | (subst_vars; rfl) | simp_all) | (refine Or.inr ?_; (try (conv => cbv)))))) (by (try (conv => cbv)); (repeat' (first | exact trivial | rfl | exact SEq.mk rfl | (exact SEq.mk (by first | assumption | (symm; assumption))) | (simp only [I.val]; done) | (simp only [I.val]; omega) | omega | assumption | (refine And.intro ?_ ?_) | exact Or.inl rfl | exact Or.inr (by assumption) | exact List.Mem.head _ | exact List.Mem.tail _ (List.Mem.head _) | exact ⟨_, rfl⟩ | exact ⟨_, rfl, Or.inl rfl⟩ | (refine ⟨_, rfl, Or.inr ?_⟩; (try (conv => cbv))) | (simp only [I.val] at *; first | omega | (subst_vars; rfl) | simp_all) | (refine Or.inr ?_; (try (conv => cbv))))))) ⟨0, L, C, B, R0, rfl, hok0, hl0, hL, hC, hB, by omega, by omega, by omega⟩ ?_
  clear hok0 hl0 hL hC hB hR0
  rintro kk s ⟨i, L, C, B, R, rfl, hok, hl, hL, hC, hB, hi0, hi1, hkk⟩
  have hR9 : R.length ≤ 1000 := by omega
  conv => cbv
  refine Br.mk (fun gi => ?_) (fun gi => ?_)
  case refine_2 =>
    conv => cbv
    refine RetF.mk [.p (.bool true)] [] 0 (Re.of [] [] (by first | exact Nat.zero_le _ | exact Nat.le_refl _ | decide | (dsimp only; decide)) rfl rfl (by (try (conv => cbv)); (repeat' (first | exact trivial | rfl | exact SEq.mk rfl | (exact SEq.mk (by first | assumption | (symm; assumption))) | (simp only [I.val]; done) | (simp only [I.val]; omega) | omega | assumption | (refine And.intro ?_ ?_) | exact Or.inl rfl | exact Or.inr (by assumption) | exact List.Mem.head _ | exact List.Mem.tail _ (List.Mem.head _) | exact ⟨_, rfl⟩ | exact ⟨_, rfl, Or.inl rfl⟩ | (refine ⟨_, rfl, Or.inr ?_⟩; (try (conv => cbv))) | (simp only [I.val] at *; first | omega | (subst_vars; rfl) | simp_all) | (refine Or.inr ?_; (try (conv => cbv)))))) (by (try (conv => cbv)); (repeat' (first | exact trivial | rfl | exact SEq.mk rfl | (exact SEq.mk (by first | assumption | (symm; assumption))) | (simp only [I.val]; done) | (simp only [I.val]; omega) | omega | assumption | (refine And.intro ?_ ?_) | exact Or.inl rfl | exact Or.inr (by assumption) | exact List.Mem.head _ | exact List.Mem.tail _ (List.Mem.head _) | exact ⟨_, rfl⟩ | exact ⟨_, rfl, Or.inl rfl⟩ | (refine ⟨_, rfl, Or.inr ?_⟩; (try (conv => cbv))) | (simp only [I.val] at *; first | omega | (subst_vars; rfl) | simp_all) | (refine Or.inr ?_; (try (conv => cbv))))))) rfl rfl
  have gi : i < k1 := gi
  conv => cbv
  refine Br.mk (fun gi2 => ?_) (fun gi2 => ?_)
  case refine_2 =>
    conv => cbv
    refine RetF.mk [.p (.bool true)] [] 0 (Re.of [] [] (by first | exact Nat.zero_le _ | exact Nat.le_refl _ | decide | (dsimp only; decide)) rfl rfl (by (try (conv => cbv)); (repeat' (first | exact trivial | rfl | exact SEq.mk rfl | (exact SEq.mk (by first | assumption | (symm; assumption))) | (simp only [I.val]; done) | (simp only [I.val]; omega) | omega | assumption | (refine And.intro ?_ ?_) | exact Or.inl rfl | exact Or.inr (by assumption) | exact List.Mem.head _ | exact List.Mem.tail _ (List.Mem.head _) | exact ⟨_, rfl⟩ | exact ⟨_, rfl, Or.inl rfl⟩ | (refine ⟨_, rfl, Or.inr ?_⟩; (try (conv => cbv))) | (simp only [I.val] at *; first | omega | (subst_vars; rfl) | simp_all) | (refine Or.inr ?_; (try (conv => cbv)))))) (by (try (conv => cbv)); (repeat' (first | exact trivial | rfl | exact SEq.mk rfl | (exact SEq.mk (by first | assumption | (symm; assumption))) | (simp only [I.val]; done) | (simp only [I.val]; omega) | omega | assumption | (refine And.intro ?_ ?_) | exact Or.inl rfl | exact Or.inr (by assumption) | exact List.Mem.head _ | exact List.Mem.tail _ (List.Mem.head _) | exact ⟨_, rfl⟩ | exact ⟨_, rfl, Or.inl rfl⟩ | (refine ⟨_, rfl, Or.inr ?_⟩; (try (conv => cbv))) | (simp only [I.val] at *; first | omega | (subst_vars; rfl) | simp_all) | (refine Or.inr ?_; (try (conv => cbv))))))) rfl rfl
  have gi2 : i < 100 := gi2
  obtain ⟨k', rfl⟩ : ∃ k', kk = k' + 1 := ⟨kk - 1, by omega⟩
  obtain ⟨⟨ok, oc, op, ol⟩, ho⟩ : ∃ o, ops[i.toNat]? = some o := ⟨_, List.getElem?_eq_getElem (by omega)⟩
  obtain ⟨c0, c1, c2, c3⟩ := fours_get ops i.toNat _ ho
  rw [← hL1] at c0 c1 c2 c3
  dsimp only at c0 c1 c2 c3
  conv => cbv
  refine Need.mk ⟨hi0, by show i < k1; omega⟩ ?_
  conv => cbv
  refine Sum.mk fun w hw => ?_
  have hw : w = i * 4 := hw
  conv => cbv
  refine Cell.at (w + 0) _ c0 rfl (by omega) ?_
  conv => cbv
  refine Cell.at (w + 1) _ c1 rfl (by omega) ?_
  conv => cbv
  refine Cell.at (w + 2) _ c2 rfl (by omega) ?_
  conv => cbv
  refine Cell.at (w + 3) _ c3 rfl (by omega) ?_
  conv => cbv
  refine Br.mk (fun gk => ?_) (fun gk => ?_)
  · conv => cbv
    refine drawn_sound tok (by kernel_rfl) [(5, [10, 9, 8, 7, 6]), (11, [])] [0, 1, 2, 3, 4, 6, 7, 8, 9, 10, 5, 11, 12, 13] (by kernel_rfl) ?_; conv => cbv
    refine callF_frame (freeF_lx op ol R N L hL hl hR9 hok) [(0, 0), (1, 1)] rfl (by simp [hmapOk, nget, hget, renB, okB, renV, renVs, rn, okVs, okV]) rfl rfl (fun r h' n' hrr => ?_)
    obtain ⟨b, R', L', e1, e2, e3, hL', hF⟩ := hrr
    subst e1 e2 e3
    conv => cbv
    refine callF_frame (rfree_lx op ol R N C B hC hB hl hR9 hok) [(0, 2), (1, 3), (2, 4)] rfl (by simp [hmapOk, nget, hget, renB, okB, renV, renVs, rn, okVs, okV]) rfl rfl (fun r h' n' hrr => ?_)
    obtain ⟨b2, R2, C', B', e1, e2, e3, hC', hB', hF2⟩ := hrr
    obtain ⟨rfl, rfl⟩ := hF.det hF2
    subst e1 e2 e3
    obtain ⟨hok', hl'⟩ := hok.free hF
    clear hF hF2
    cases b with
    | true =>
      obtain ⟨v, hv⟩ : ∃ v, v = wsum R' := ⟨_, rfl⟩
      have hR9' : R'.length ≤ 1000 := by omega
      have hln : N = R'.length := by rw [hl', ← hl]
      have hm8 : ∀ e ∈ R', e.2.length ≤ 8 := fun e he => (hok' e he).1
      conv => cbv
      refine callF_frame (wordsS_lx R' N L' hL' hln hR9' hm8 v hv) [(0, 0), (1, 1)] rfl (by simp [hmapOk, nget, hget, renB, okB, renV, renVs, rn, okVs, okV]) rfl rfl (fun r h' n' ⟨e1, e2, e3⟩ => ?_)
      subst e1 e2 e3
      conv => cbv
      refine callF_frame (rwords_lx R' N C' B' hC' hB' hln hR9' hok' v hv) [(0, 2), (1, 3), (2, 4)] rfl (by simp [hmapOk, nget, hget, renB, okB, renV, renVs, rn, okVs, okV]) rfl rfl (fun r h' n' ⟨e1, e2, e3⟩ => ?_)
      subst e1 e2 e3
      conv => cbv
      refine Br.mk (fun g => ?_) (fun g => ?_)
      case refine_1 =>
        have gf : False := g rfl
        cases gf
      conv => cbv
      refine callF_frame (lenS_lx N L') [(0, 0), (1, 1)] rfl (by simp [hmapOk, nget, hget, renB, okB, renV, renVs, rn, okVs, okV]) rfl rfl (fun r h' n' ⟨e1, e2, e3⟩ => ?_)
      subst e1 e2 e3
      conv => cbv
      refine Br.mk (fun g => ?_) (fun g => ?_)
      case refine_1 =>
        have gf : False := g rfl
        cases gf
      conv => cbv
      refine LoopF.mk (fun kk s => ∃ k : Int, s = ⟨.p (.int .i64 (.sym N)) :: .p (.vsl (.sym k1) true L1) :: (undefs 3 ++ .ptr 0 (.lit 0) :: .undef :: .ptr 2 (.lit 0) :: .undef :: .p (.int .i64 (.sym i)) :: (undefs 8 ++ .p (.int .i64 (.sym k)) :: undefs 126)), [(0, .mix [.sl 1 58 2 (.lit 0) (.sym N)]), (1, .pure true L'), (2, .mix [.sl 3 3 1 (.lit 0) (.sym N), .sl 4 54 8 (.lit 0) (.sym N)]), (3, .pure true C'), (4, .pure true B')], 5⟩ ∧ -1 ≤ k ∧ k ≤ N + 1 ∧ kk = (N + 1 - k).toNat) (N + 2).toNat _
        (Re.of [(0, 0), (1, 1), (2, 2), (3, 3), (4, 4)] [] (by first | exact Nat.zero_le _ | exact Nat.le_refl _ | decide | (dsimp only; decide)) rfl rfl (by (try (conv => cbv)); (repeat' (first | exact trivial | rfl | exact SEq.mk rfl | (exact SEq.mk (by first | assumption | (symm; assumption))) | (simp only [I.val]; done) | (simp only [I.val]; omega) | omega | assumption | (refine And.intro ?_ ?_) | exact Or.inl rfl | exact Or.inr (by assumption) | exact List.Mem.head _ | exact List.Mem.tail _ (List.Mem.head _) | exact ⟨_, rfl⟩ | exact ⟨_, rfl, Or.inl rfl⟩ | (refine ⟨_, rfl, Or.inr ?_⟩; (try (conv => cbv))) | (simp only [I.val] at *; first | omega | (subst_vars; rfl) | simp_all) | (refine Or.inr ?_; (try (conv => cbv)))))) (by (try (conv => cbv)); (repeat' (first | exact trivial | rfl | exact SEq.mk rfl | (exact SEq.mk (by first | assumption | (symm; assumption))) | (simp only [I.val]; done) | (simp only [I.val]; omega) | omega | assumption | (refine And.intro ?_ ?_) | exact Or.inl rfl | exact Or.inr (by assumption) | exact List.Mem.head _ | exact List.Mem.tail _ (List.Mem.head _) | exact ⟨_, rfl⟩ | exact ⟨_, rfl, Or.inl rfl⟩ | (refine ⟨_, rfl, Or.inr ?_⟩; (try (conv => cbv))) | (simp only [I.val] at *; first | omega | (subst_vars; rfl) | simp_all) | (refine Or.inr ?_; (try (conv => cbv))))))) ⟨-1, rfl, by omega, by omega, by omega⟩ ?_
      rintro kk s ⟨k, rfl, hk0, hk1, hkk⟩
      conv => cbv
      refine Br.mk (fun gn => ?_) (fun gn => ?_)
      · have gn : k ≤ N := gn
        obtain ⟨kk', rfl⟩ : ∃ k', kk = k' + 1 := ⟨kk - 1, by omega⟩
        obtain ⟨cv, hcv⟩ : ∃ cv, cv = classAt R' k := ⟨_, rfl⟩
        conv => cbv
        refine callF_frame (classF_lx k R' N L' hL' hln hR9' hok' cv hcv) [(0, 0), (1, 1)] rfl (by simp [hmapOk, nget, hget, renB, okB, renV, renVs, rn, okVs, okV]) rfl rfl (fun r h' n' ⟨e1, e2, e3⟩ => ?_)
        subst e1 e2 e3
        conv => cbv
        refine callF_frame (rclass_lx k R' N C' B' hC' hB' hln hR9' hok' cv hcv) [(0, 2), (1, 3), (2, 4)] rfl (by simp [hmapOk, nget, hget, renB, okB, renV, renVs, rn, okVs, okV]) rfl rfl (fun r h' n' ⟨e1, e2, e3⟩ => ?_)
        subst e1 e2 e3
        conv => cbv
        refine Br.mk (fun g => ?_) (fun g => ?_)
        case refine_1 =>
          have gf : False := g rfl
          cases gf
        conv => cbv
        refine LoopF.mk (fun km s => ∃ m : Int, s = ⟨.p (.int .i64 (.sym N)) :: .p (.vsl (.sym k1) true L1) :: (undefs 3 ++ .ptr 0 (.lit 0) :: .undef :: .ptr 2 (.lit 0) :: .undef :: .p (.int .i64 (.sym i)) :: (undefs 8 ++ .p (.int .i64 (.sym k)) :: .p (.int .i64 (.sym m)) :: undefs 125)), [(0, .mix [.sl 1 58 2 (.lit 0) (.sym N)]), (1, .pure true L'), (2, .mix [.sl 3 3 1 (.lit 0) (.sym N), .sl 4 54 8 (.lit 0) (.sym N)]), (3, .pure true C'), (4, .pure true B')], 5⟩ ∧ -1 ≤ m ∧ m ≤ 9 ∧ km = (9 - m).toNat) 10 _
          (Re.of [(0, 0), (1, 1), (2, 2), (3, 3), (4, 4)] [] (by first | exact Nat.zero_le _ | exact Nat.le_refl _ | decide | (dsimp only; decide)) rfl rfl (by (try (conv => cbv)); (repeat' (first | exact trivial | rfl | exact SEq.mk rfl | (exact SEq.mk (by first | assumption | (symm; assumption))) | (simp only [I.val]; done) | (simp only [I.val]; omega) | omega | assumption | (refine And.intro ?_ ?_) | exact Or.inl rfl | exact Or.inr (by assumption) | exact List.Mem.head _ | exact List.Mem.tail _ (List.Mem.head _) | exact ⟨_, rfl⟩ | exact ⟨_, rfl, Or.inl rfl⟩ | (refine ⟨_, rfl, Or.inr ?_⟩; (try (conv => cbv))) | (simp only [I.val] at *; first | omega | (subst_vars; rfl) | simp_all) | (refine Or.inr ?_; (try (conv => cbv)))))) (by (try (conv => cbv)); (repeat' (first | exact trivial | rfl | exact SEq.mk rfl | (exact SEq.mk (by first | assumption | (symm; assumption))) | (simp only [I.val]; done) | (simp only [I.val]; omega) | omega | assumption | (refine And.intro ?_ ?_) | exact Or.inl rfl | exact Or.inr (by assumption) | exact List.Mem.head _ | exact List.Mem.tail _ (List.Mem.head _) | exact ⟨_, rfl⟩ | exact ⟨_, rfl, Or.inl rfl⟩ | (refine ⟨_, rfl, Or.inr ?_⟩; (try (conv => cbv))) | (simp only [I.val] at *; first | omega | (subst_vars; rfl) | simp_all) | (refine Or.inr ?_; (try (conv => cbv))))))) ⟨-1, rfl, by omega, by omega, by omega⟩ ?_
        rintro km s ⟨m, rfl, hm0, hm1, hkm⟩
        conv => cbv
        refine Br.mk (fun gm => ?_) (fun gm => ?_)
        · have gm : m ≤ 8 := gm
          obtain ⟨km', rfl⟩ : ∃ k', km = k' + 1 := ⟨km - 1, by omega⟩
          conv => cbv
          refine callF_frame (usedF_lx k m R' N L' hL' hln hR9' hok') [(0, 0), (1, 1)] rfl (by simp [hmapOk, nget, hget, renB, okB, renV, renVs, rn, okVs, okV]) rfl rfl (fun r h' n' hrr => ?_)
          obtain ⟨b1, e1, e2, e3, hb1⟩ := hrr
          subst e1 e2 e3
          conv => cbv
          refine callF_frame (rused_lx k m R' N C' B' hC' hB' hln hR9' hok') [(0, 2), (1, 3), (2, 4)] rfl (by simp [hmapOk, nget, hget, renB, okB, renV, renVs, rn, okVs, okV]) rfl rfl (fun r h' n' hrr => ?_)
          obtain ⟨b2, e1, e2, e3, hb2⟩ := hrr
          obtain rfl : b1 = b2 := Bool.eq_iff_iff.2 (hb1.trans hb2.symm)
          subst e1 e2 e3
          cases b1 with
          | true =>
            conv => cbv
            refine Fit.mk (by show (-9223372036854775808 : Int) ≤ m + 1; omega) (by show m + 1 ≤ 9223372036854775807; omega) fun m2 hm2 => ?_
            have hm2 : m2 = m + 1 := hm2
            conv => cbv
            refine Again.mk km' _ (Nat.lt_succ_self _) (Re.of [(0, 0), (1, 1), (2, 2), (3, 3), (4, 4)] [] (by first | exact Nat.zero_le _ | exact Nat.le_refl _ | decide | (dsimp only; decide)) rfl rfl (by (try (conv => cbv)); (repeat' (first | exact trivial | rfl | exact SEq.mk rfl | (exact SEq.mk (by first | assumption | (symm; assumption))) | (simp only [I.val]; done) | (simp only [I.val]; omega) | omega | assumption | (refine And.intro ?_ ?_) | exact Or.inl rfl | exact Or.inr (by assumption) | exact List.Mem.head _ | exact List.Mem.tail _ (List.Mem.head _) | exact ⟨_, rfl⟩ | exact ⟨_, rfl, Or.inl rfl⟩ | (refine ⟨_, rfl, Or.inr ?_⟩; (try (conv => cbv))) | (simp only [I.val] at *; first | omega | (subst_vars; rfl) | simp_all) | (refine Or.inr ?_; (try (conv => cbv)))))) (by (try (conv => cbv)); (repeat' (first | exact trivial | rfl | exact SEq.mk rfl | (exact SEq.mk (by first | assumption | (symm; assumption))) | (simp only [I.val]; done) | (simp only [I.val]; omega) | omega | assumption | (refine And.intro ?_ ?_) | exact Or.inl rfl | exact Or.inr (by assumption) | exact List.Mem.head _ | exact List.Mem.tail _ (List.Mem.head _) | exact ⟨_, rfl⟩ | exact ⟨_, rfl, Or.inl rfl⟩ | (refine ⟨_, rfl, Or.inr ?_⟩; (try (conv => cbv))) | (simp only [I.val] at *; first | omega | (subst_vars; rfl) | simp_all) | (refine Or.inr ?_; (try (conv => cbv))))))) ⟨m2, rfl, by omega, by omega, by omega⟩
          | false =>
            conv => cbv
            refine Fit.mk (by show (-9223372036854775808 : Int) ≤ m + 1; omega) (by show m + 1 ≤ 9223372036854775807; omega) fun m2 hm2 => ?_
            have hm2 : m2 = m + 1 := hm2
            conv => cbv
            refine Again.mk km' _ (Nat.lt_succ_self _) (Re.of [(0, 0), (1, 1), (2, 2), (3, 3), (4, 4)] [] (by first | exact Nat.zero_le _ | exact Nat.le_refl _ | decide | (dsimp only; decide)) rfl rfl (by (try (conv => cbv)); (repeat' (first | exact trivial | rfl | exact SEq.mk rfl | (exact SEq.mk (by first | assumption | (symm; assumption))) | (simp only [I.val]; done) | (simp only [I.val]; omega) | omega | assumption | (refine And.intro ?_ ?_) | exact Or.inl rfl | exact Or.inr (by assumption) | exact List.Mem.head _ | exact List.Mem.tail _ (List.Mem.head _) | exact ⟨_, rfl⟩ | exact ⟨_, rfl, Or.inl rfl⟩ | (refine ⟨_, rfl, Or.inr ?_⟩; (try (conv => cbv))) | (simp only [I.val] at *; first | omega | (subst_vars; rfl) | simp_all) | (refine Or.inr ?_; (try (conv => cbv)))))) (by (try (conv => cbv)); (repeat' (first | exact trivial | rfl | exact SEq.mk rfl | (exact SEq.mk (by first | assumption | (symm; assumption))) | (simp only [I.val]; done) | (simp only [I.val]; omega) | omega | assumption | (refine And.intro ?_ ?_) | exact Or.inl rfl | exact Or.inr (by assumption) | exact List.Mem.head _ | exact List.Mem.tail _ (List.Mem.head _) | exact ⟨_, rfl⟩ | exact ⟨_, rfl, Or.inl rfl⟩ | (refine ⟨_, rfl, Or.inr ?_⟩; (try (conv => cbv))) | (simp only [I.val] at *; first | omega | (subst_vars; rfl) | simp_all) | (refine Or.inr ?_; (try (conv => cbv))))))) ⟨m2, rfl, by omega, by omega, by omega⟩
        · have gm : ¬ m ≤ 8 := gm
          conv => cbv
          refine Fit.mk (by show (-9223372036854775808 : Int) ≤ k + 1; omega) (by show k + 1 ≤ 9223372036854775807; omega) fun k2 hk2 => ?_
          have hk2 : k2 = k + 1 := hk2
          conv => cbv
          refine Again.mk kk' _ (Nat.lt_succ_self _) (Re.of [(0, 0), (1, 1), (2, 2), (3, 3), (4, 4)] [] (by first | exact Nat.zero_le _ | exact Nat.le_refl _ | decide | (dsimp only; decide)) rfl rfl (by (try (conv => cbv)); (repeat' (first | exact trivial | rfl | exact SEq.mk rfl | (exact SEq.mk (by first | assumption | (symm; assumption))) | (simp only [I.val]; done) | (simp only [I.val]; omega) | omega | assumption | (refine And.intro ?_ ?_) | exact Or.inl rfl | exact Or.inr (by assumption) | exact List.Mem.head _ | exact List.Mem.tail _ (List.Mem.head _) | exact ⟨_, rfl⟩ | exact ⟨_, rfl, Or.inl rfl⟩ | (refine ⟨_, rfl, Or.inr ?_⟩; (try (conv => cbv))) | (simp only [I.val] at *; first | omega | (subst_vars; rfl) | simp_all) | (refine Or.inr ?_; (try (conv => cbv)))))) (by (try (conv => cbv)); (repeat' (first | exact trivial | rfl | exact SEq.mk rfl | (exact SEq.mk (by first | assumption | (symm; assumption))) | (simp only [I.val]; done) | (simp only [I.val]; omega) | omega | assumption | (refine And.intro ?_ ?_) | exact Or.inl rfl | exact Or.inr (by assumption) | exact List.Mem.head _ | exact List.Mem.tail _ (List.Mem.head _) | exact ⟨_, rfl⟩ | exact ⟨_, rfl, Or.inl rfl⟩ | (refine ⟨_, rfl, Or.inr ?_⟩; (try (conv => cbv))) | (simp only [I.val] at *; first | omega | (subst_vars; rfl) | simp_all) | (refine Or.inr ?_; (try (conv => cbv))))))) ⟨k2, rfl, by omega, by omega, by omega⟩
      · have gn : ¬ k ≤ N := gn
        conv => cbv
        refine Fit.mk (by show (-9223372036854775808 : Int) ≤ i + 1; omega) (by show i + 1 ≤ 9223372036854775807; omega) fun i2 hi2 => ?_
        have hi2 : i2 = i + 1 := hi2
        conv => cbv
        refine Again.mk k' _ (Nat.lt_succ_self _) (Re.of [(0, 0), (1, 1), (2, 2), (3, 3), (4, 4)] [] (by first | exact Nat.zero_le _ | exact Nat.le_refl _ | decide | (dsimp only; decide)) rfl rfl (by (try (conv => cbv)); (repeat' (first | exact trivial | rfl | exact SEq.mk rfl | (exact SEq.mk (by first | assumption | (symm; assumption))) | (simp only [I.val]; done) | (simp only [I.val]; omega) | omega | assumption | (refine And.intro ?_ ?_) | exact Or.inl rfl | exact Or.inr (by assumption) | exact List.Mem.head _ | exact List.Mem.tail _ (List.Mem.head _) | exact ⟨_, rfl⟩ | exact ⟨_, rfl, Or.inl rfl⟩ | (refine ⟨_, rfl, Or.inr ?_⟩; (try (conv => cbv))) | (simp only [I.val] at *; first | omega | (subst_vars; rfl) | simp_all) | (refine Or.inr ?_; (try (conv => cbv)))))) (by (try (conv => cbv)); (repeat' (first | exact trivial | rfl | exact SEq.mk rfl | (exact SEq.mk (by first | assumption | (symm; assumption))) | (simp only [I.val]; done) | (simp only [I.val]; omega) | omega | assumption | (refine And.intro ?_ ?_) | exact Or.inl rfl | exact Or.inr (by assumption) | exact List.Mem.head _ | exact List.Mem.tail _ (List.Mem.head _) | exact ⟨_, rfl⟩ | exact ⟨_, rfl, Or.inl rfl⟩ | (refine ⟨_, rfl, Or.inr ?_⟩; (try (conv => cbv))) | (simp only [I.val] at *; first | omega | (subst_vars; rfl) | simp_all) | (refine Or.inr ?_; (try (conv => cbv))))))) ⟨i2, L', C', B', R', rfl, hok', hln, hL', hC', hB', by omega, by omega, by omega⟩
    | false =>
      obtain ⟨v, hv⟩ : ∃ v, v = wsum R' := ⟨_, rfl⟩
      have hR9' : R'.length ≤ 1000 := by omega
      have hln : N = R'.length := by rw [hl', ← hl]
      have hm8 : ∀ e ∈ R', e.2.length ≤ 8 := fun e he => (hok' e he).1
      conv => cbv
      refine callF_frame (wordsS_lx R' N L' hL' hln hR9' hm8 v hv) [(0, 0), (1, 1)] rfl (by simp [hmapOk, nget, hget, renB, okB, renV, renVs, rn, okVs, okV]) rfl rfl (fun r h' n' ⟨e1, e2, e3⟩ => ?_)
      subst e1 e2 e3
      conv => cbv
      refine callF_frame (rwords_lx R' N C' B' hC' hB' hln hR9' hok' v hv) [(0, 2), (1, 3), (2, 4)] rfl (by simp [hmapOk, nget, hget, renB, okB, renV, renVs, rn, okVs, okV]) rfl rfl (fun r h' n' ⟨e1, e2, e3⟩ => ?_)
      subst e1 e2 e3
      conv => cbv
      refine Br.mk (fun g => ?_) (fun g => ?_)
      case refine_1 =>
        have gf : False := g rfl
        cases gf
      conv => cbv
      refine callF_frame (lenS_lx N L') [(0, 0), (1, 1)] rfl (by simp [hmapOk, nget, hget, renB, okB, renV, renVs, rn, okVs, okV]) rfl rfl (fun r h' n' ⟨e1, e2, e3⟩ => ?_)
      subst e1 e2 e3
      conv => cbv
      refine Br.mk (fun g => ?_) (fun g => ?_)
      case refine_1 =>
        have gf : False := g rfl
        cases gf
      conv => cbv
      refine LoopF.mk (fun kk s => ∃ k : Int, s = ⟨.p (.int .i64 (.sym N)) :: .p (.vsl (.sym k1) true L1) :: (undefs 3 ++ .ptr 0 (.lit 0) :: .undef :: .ptr 2 (.lit 0) :: .undef :: .p (.int .i64 (.sym i)) :: (undefs 8 ++ .p (.int .i64 (.sym k)) :: undefs 126)), [(0, .mix [.sl 1 58 2 (.lit 0) (.sym N)]), (1, .pure true L'), (2, .mix [.sl 3 3 1 (.lit 0) (.sym N), .sl 4 54 8 (.lit 0) (.sym N)]), (3, .pure true C'), (4, .pure true B')], 5⟩ ∧ -1 ≤ k ∧ k ≤ N + 1 ∧ kk = (N + 1 - k).toNat) (N + 2).toNat _
        (Re.of [(0, 0), (1, 1), (2, 2), (3, 3), (4, 4)] [] (by first | exact Nat.zero_le _ | exact Nat.le_refl _ | decide | (dsimp only; decide)) rfl rfl (by (try (conv => cbv)); (repeat' (first | exact trivial | rfl | exact SEq.mk rfl | (exact SEq.mk (by first | assumption | (symm; assumption))) | (simp only [I.val]; done) | (simp only [I.val]; omega) | omega | assumption | (refine And.intro ?_ ?_) | exact Or.inl rfl | exact Or.inr (by assumption) | exact List.Mem.head _ | exact List.Mem.tail _ (List.Mem.head _) | exact ⟨_, rfl⟩ | exact ⟨_, rfl, Or.inl rfl⟩ | (refine ⟨_, rfl, Or.inr ?_⟩; (try (conv => cbv))) | (simp only [I.val] at *; first | omega | (subst_vars; rfl) | simp_all) | (refine Or.inr ?_; (try (conv => cbv)))))) (by (try (conv => cbv)); (repeat' (first | exact trivial | rfl | exact SEq.mk rfl | (exact SEq.mk (by first | assumption | (symm; assumption))) | (simp only [I.val]; done) | (simp only [I.val]; omega) | omega | assumption | (refine And.intro ?_ ?_) | exact Or.inl rfl | exact Or.inr (by assumption) | exact List.Mem.head _ | exact List.Mem.tail _ (List.Mem.head _) | exact ⟨_, rfl⟩ | exact ⟨_, rfl, Or.inl rfl⟩ | (refine ⟨_, rfl, Or.inr ?_⟩; (try (conv => cbv))) | (simp only [I.val] at *; first | omega | (subst_vars; rfl) | simp_all) | (refine Or.inr ?_; (try (conv => cbv))))))) ⟨-1, rfl, by omega, by omega, by omega⟩ ?_
      rintro kk s ⟨k, rfl, hk0, hk1, hkk⟩
      conv => cbv
      refine Br.mk (fun gn => ?_) (fun gn => ?_)
      · have gn : k ≤ N := gn
        obtain ⟨kk', rfl⟩ : ∃ k', kk = k' + 1 := ⟨kk - 1, by omega⟩
        obtain ⟨cv, hcv⟩ : ∃ cv, cv = classAt R' k := ⟨_, rfl⟩
        conv => cbv
        refine callF_frame (classF_lx k R' N L' hL' hln hR9' hok' cv hcv) [(0, 0), (1, 1)] rfl (by simp [hmapOk, nget, hget, renB, okB, renV, renVs, rn, okVs, okV]) rfl rfl (fun r h' n' ⟨e1, e2, e3⟩ => ?_)
        subst e1 e2 e3
        conv => cbv
        refine callF_frame (rclass_lx k R' N C' B' hC' hB' hln hR9' hok' cv hcv) [(0, 2), (1, 3), (2, 4)] rfl (by simp [hmapOk, nget, hget, renB, okB, renV, renVs, rn, okVs, okV]) rfl rfl (fun r h' n' ⟨e1, e2, e3⟩ => ?_)
        subst e1 e2 e3
        conv => cbv
        refine Br.mk (fun g => ?_) (fun g => ?_)
        case refine_1 =>
          have gf : False := g rfl
          cases gf
        conv => cbv
        refine LoopF.mk (fun km s => ∃ m : Int, s = ⟨.p (.int .i64 (.sym N)) :: .p (.vsl (.sym k1) true L1) :: (undefs 3 ++ .ptr 0 (.lit 0) :: .undef :: .ptr 2 (.lit 0) :: .undef :: .p (.int .i64 (.sym i)) :: (undefs 8 ++ .p (.int .i64 (.sym k)) :: .p (.int .i64 (.sym m)) :: undefs 125)), [(0, .mix [.sl 1 58 2 (.lit 0) (.sym N)]), (1, .pure true L'), (2, .mix [.sl 3 3 1 (.lit 0) (.sym N), .sl 4 54 8 (.lit 0) (.sym N)]), (3, .pure true C'), (4, .pure true B')], 5⟩ ∧ -1 ≤ m ∧ m ≤ 9 ∧ km = (9 - m).toNat) 10 _
          (Re.of [(0, 0), (1, 1), (2, 2), (3, 3), (4, 4)] [] (by first | exact Nat.zero_le _ | exact Nat.le_refl _ | decide | (dsimp only; decide)) rfl rfl (by (try (conv => cbv)); (repeat' (first | exact trivial | rfl | exact SEq.mk rfl | (exact SEq.mk (by first | assumption | (symm; assumption))) | (simp only [I.val]; done) | (simp only [I.val]; omega) | omega | assumption | (refine And.intro ?_ ?_) | exact Or.inl rfl | exact Or.inr (by assumption) | exact List.Mem.head _ | exact List.Mem.tail _ (List.Mem.head _) | exact ⟨_, rfl⟩ | exact ⟨_, rfl, Or.inl rfl⟩ | (refine ⟨_, rfl, Or.inr ?_⟩; (try (conv => cbv))) | (simp only [I.val] at *; first | omega | (subst_vars; rfl) | simp_all) | (refine Or.inr ?_; (try (conv => cbv)))))) (by (try (conv => cbv)); (repeat' (first | exact trivial | rfl | exact SEq.mk rfl | (exact SEq.mk (by first | assumption | (symm; assumption))) | (simp only [I.val]; done) | (simp only [I.val]; omega) | omega | assumption | (refine And.intro ?_ ?_) | exact Or.inl rfl | exact Or.inr (by assumption) | exact List.Mem.head _ | exact List.Mem.tail _ (List.Mem.head _) | exact ⟨_, rfl⟩ | exact ⟨_, rfl, Or.inl rfl⟩ | (refine ⟨_, rfl, Or.inr ?_⟩; (try (conv => cbv))) | (simp only [I.val] at *; first | omega | (subst_vars; rfl) | simp_all) | (refine Or.inr ?_; (try (conv => cbv))))))) ⟨-1, rfl, by omega, by omega, by omega⟩ ?_
        rintro km s ⟨m, rfl, hm0, hm1, hkm⟩
        conv => cbv
        refine Br.mk (fun gm => ?_) (fun gm => ?_)
        · have gm : m ≤ 8 := gm
          obtain ⟨km', rfl⟩ : ∃ k', km = k' + 1 := ⟨km - 1, by omega⟩
          conv => cbv
          refine callF_frame (usedF_lx k m R' N L' hL' hln hR9' hok') [(0, 0), (1, 1)] rfl (by simp [hmapOk, nget, hget, renB, okB, renV, renVs, rn, okVs, okV]) rfl rfl (fun r h' n' hrr => ?_)
          obtain ⟨b1, e1, e2, e3, hb1⟩ := hrr
          subst e1 e2 e3
          conv => cbv
          refine callF_frame (rused_lx k m R' N C' B' hC' hB' hln hR9' hok') [(0, 2), (1, 3), (2, 4)] rfl (by simp [hmapOk, nget, hget, renB, okB, renV, renVs, rn, okVs, okV]) rfl rfl (fun r h' n' hrr => ?_)
          obtain ⟨b2, e1, e2, e3, hb2⟩ := hrr
          obtain rfl : b1 = b2 := Bool.eq_iff_iff.2 (hb1.trans hb2.symm)
          subst e1 e2 e3
          cases b1 with
          | true =>
            conv => cbv
            refine Fit.mk (by show (-9223372036854775808 : Int) ≤ m + 1; omega) (by show m + 1 ≤ 9223372036854775807; omega) fun m2 hm2 => ?_
            have hm2 : m2 = m + 1 := hm2
            conv => cbv
            refine Again.mk km' _ (Nat.lt_succ_self _) (Re.of [(0, 0), (1, 1), (2, 2), (3, 3), (4, 4)] [] (by first | exact Nat.zero_le _ | exact Nat.le_refl _ | decide | (dsimp only; decide)) rfl rfl (by (try (conv => cbv)); (repeat' (first | exact trivial | rfl | exact SEq.mk rfl | (exact SEq.mk (by first | assumption | (symm; assumption))) | (simp only [I.val]; done) | (simp only [I.val]; omega) | omega | assumption | (refine And.intro ?_ ?_) | exact Or.inl rfl | exact Or.inr (by assumption) | exact List.Mem.head _ | exact List.Mem.tail _ (List.Mem.head _) | exact ⟨_, rfl⟩ | exact ⟨_, rfl, Or.inl rfl⟩ | (refine ⟨_, rfl, Or.inr ?_⟩; (try (conv => cbv))) | (simp only [I.val] at *; first | omega | (subst_vars; rfl) | simp_all) | (refine Or.inr ?_; (try (conv => cbv)))))) (by (try (conv => cbv)); (repeat' (first | exact trivial | rfl | exact SEq.mk rfl | (exact SEq.mk (by first | assumption | (symm; assumption))) | (simp only [I.val]; done) | (simp only [I.val]; omega) | omega | assumption | (refine And.intro ?_ ?_) | exact Or.inl rfl | exact Or.inr (by assumption) | exact List.Mem.head _ | exact List.Mem.tail _ (List.Mem.head _) | exact ⟨_, rfl⟩ | exact ⟨_, rfl, Or.inl rfl⟩ | (refine ⟨_, rfl, Or.inr ?_⟩; (try (conv => cbv))) | (simp only [I.val] at *; first | omega | (subst_vars; rfl) | simp_all) | (refine Or.inr ?_; (try (conv => cbv))))))) ⟨m2, rfl, by omega, by omega, by omega⟩
          | false =>
            conv => cbv
            refine Fit.mk (by show (-9223372036854775808 : Int) ≤ m + 1; omega) (by show m + 1 ≤ 9223372036854775807; omega) fun m2 hm2 => ?_
            have hm2 : m2 = m + 1 := hm2
            conv => cbv
            refine Again.mk km' _ (Nat.lt_succ_self _) (Re.of [(0, 0), (1, 1), (2, 2), (3, 3), (4, 4)] [] (by first | exact Nat.zero_le _ | exact Nat.le_refl _ | decide | (dsimp only; decide)) rfl rfl (by (try (conv => cbv)); (repeat' (first | exact trivial | rfl | exact SEq.mk rfl | (exact SEq.mk (by first | assumption | (symm; assumption))) | (simp only [I.val]; done) | (simp only [I.val]; omega) | omega | assumption | (refine And.intro ?_ ?_) | exact Or.inl rfl | exact Or.inr (by assumption) | exact List.Mem.head _ | exact List.Mem.tail _ (List.Mem.head _) | exact ⟨_, rfl⟩ | exact ⟨_, rfl, Or.inl rfl⟩ | (refine ⟨_, rfl, Or.inr ?_⟩; (try (conv => cbv))) | (simp only [I.val] at *; first | omega | (subst_vars; rfl) | simp_all) | (refine Or.inr ?_; (try (conv => cbv)))))) (by (try (conv => cbv)); (repeat' (first | exact trivial | rfl | exact SEq.mk rfl | (exact SEq.mk (by first | assumption | (symm; assumption))) | (simp only [I.val]; done) | (simp only [I.val]; omega) | omega | assumption | (refine And.intro ?_ ?_) | exact Or.inl rfl | exact Or.inr (by assumption) | exact List.Mem.head _ | exact List.Mem.tail _ (List.Mem.head _) | exact ⟨_, rfl⟩ | exact ⟨_, rfl, Or.inl rfl⟩ | (refine ⟨_, rfl, Or.inr ?_⟩; (try (conv => cbv))) | (simp only [I.val] at *; first | omega | (subst_vars; rfl) | simp_all) | (refine Or.inr ?_; (try (conv => cbv))))))) ⟨m2, rfl, by omega, by omega, by omega⟩
        · have gm : ¬ m ≤ 8 := gm
          conv => cbv
          refine Fit.mk (by show (-9223372036854775808 : Int) ≤ k + 1; omega) (by show k + 1 ≤ 9223372036854775807; omega) fun k2 hk2 => ?_
          have hk2 : k2 = k + 1 := hk2
          conv => cbv
          refine Again.mk kk' _ (Nat.lt_succ_self _) (Re.of [(0, 0), (1, 1), (2, 2), (3, 3), (4, 4)] [] (by first | exact Nat.zero_le _ | exact Nat.le_refl _ | decide | (dsimp only; decide)) rfl rfl (by (try (conv => cbv)); (repeat' (first | exact trivial | rfl | exact SEq.mk rfl | (exact SEq.mk (by first | assumption | (symm; assumption))) | (simp only [I.val]; done) | (simp only [I.val]; omega) | omega | assumption | (refine And.intro ?_ ?_) | exact Or.inl rfl | exact Or.inr (by assumption) | exact List.Mem.head _ | exact List.Mem.tail _ (List.Mem.head _) | exact ⟨_, rfl⟩ | exact ⟨_, rfl, Or.inl rfl⟩ | (refine ⟨_, rfl, Or.inr ?_⟩; (try (conv => cbv))) | (simp only [I.val] at *; first | omega | (subst_vars; rfl) | simp_all) | (refine Or.inr ?_; (try (conv => cbv)))))) (by (try (conv => cbv)); (repeat' (first | exact trivial | rfl | exact SEq.mk rfl | (exact SEq.mk (by first | assumption | (symm; assumption))) | (simp only [I.val]; done) | (simp only [I.val]; omega) | omega | assumption | (refine And.intro ?_ ?_) | exact Or.inl rfl | exact Or.inr (by assumption) | exact List.Mem.head _ | exact List.Mem.tail _ (List.Mem.head _) | exact ⟨_, rfl⟩ | exact ⟨_, rfl, Or.inl rfl⟩ | (refine ⟨_, rfl, Or.inr ?_⟩; (try (conv => cbv))) | (simp only [I.val] at *; first | omega | (subst_vars; rfl) | simp_all) | (refine Or.inr ?_; (try (conv => cbv))))))) ⟨k2, rfl, by omega, by omega, by omega⟩
      · have gn : ¬ k ≤ N := gn
        conv => cbv
        refine Fit.mk (by show (-9223372036854775808 : Int) ≤ i + 1; omega) (by show i + 1 ≤ 9223372036854775807; omega) fun i2 hi2 => ?_
        have hi2 : i2 = i + 1 := hi2
        conv => cbv
        refine Again.mk k' _ (Nat.lt_succ_self _) (Re.of [(0, 0), (1, 1), (2, 2), (3, 3), (4, 4)] [] (by first | exact Nat.zero_le _ | exact Nat.le_refl _ | decide | (dsimp only; decide)) rfl rfl (by (try (conv => cbv)); (repeat' (first | exact trivial | rfl | exact SEq.mk rfl | (exact SEq.mk (by first | assumption | (symm; assumption))) | (simp only [I.val]; done) | (simp only [I.val]; omega) | omega | assumption | (refine And.intro ?_ ?_) | exact Or.inl rfl | exact Or.inr (by assumption) | exact List.Mem.head _ | exact List.Mem.tail _ (List.Mem.head _) | exact ⟨_, rfl⟩ | exact ⟨_, rfl, Or.inl rfl⟩ | (refine ⟨_, rfl, Or.inr ?_⟩; (try (conv => cbv))) | (simp only [I.val] at *; first | omega | (subst_vars; rfl) | simp_all) | (refine Or.inr ?_; (try (conv => cbv)))))) (by (try (conv => cbv)); (repeat' (first | exact trivial | rfl | exact SEq.mk rfl | (exact SEq.mk (by first | assumption | (symm; assumption))) | (simp only [I.val]; done) | (simp only [I.val]; omega) | omega | assumption | (refine And.intro ?_ ?_) | exact Or.inl rfl | exact Or.inr (by assumption) | exact List.Mem.head _ | exact List.Mem.tail _ (List.Mem.head _) | exact ⟨_, rfl⟩ | exact ⟨_, rfl, Or.inl rfl⟩ | (refine ⟨_, rfl, Or.inr ?_⟩; (try (conv => cbv))) | (simp only [I.val] at *; first | omega | (subst_vars; rfl) | simp_all) | (refine Or.inr ?_; (try (conv => cbv))))))) ⟨i2, L', C', B', R', rfl, hok', hln, hL', hC', hB', by omega, by omega, by omega⟩
  · conv => cbv
    refine callF_frame (alloc_lx R N oc L hL hl hR9 (fun e he => (hok e he).1)) [(0, 0), (1, 1)] rfl (by simp [hmapOk, nget, hget, renB, okB, renV, renVs, rn, okVs, okV]) rfl rfl (fun r h' n' hrr => ?_)
    obtain ⟨a1, s1, b, L', R', e1, e2, e3, hL', hA⟩ := hrr
    subst e1 e2 e3
    conv => cbv
    refine callF_frame (ralloc_lx oc R N C B hC hB hl hR9 hok) [(0, 2), (1, 3), (2, 4)] rfl (by simp [hmapOk, nget, hget, renB, okB, renV, renVs, rn, okVs, okV]) rfl rfl (fun r h' n' hrr => ?_)
    obtain ⟨a2, s2, b2, R2, C', B', e1, e2, e3, hC', hB', hA2⟩ := hrr
    obtain ⟨ha, hs, rfl, rfl⟩ := hA.det hA2
    subst e1 e2 e3
    obtain ⟨hok', hl'⟩ := hok.alloc hA
    clear hA hA2
    conv => cbv
    refine Br.mk (fun g => ?_) (fun g => ?_)
    case refine_2 =>
      have gf : False := g ha
      cases gf
    conv => cbv
    refine Br.mk (fun g => ?_) (fun g => ?_)
    case refine_2 =>
      have gf : False := g hs
      cases gf
    conv => cbv
    cases b with
    | true =>
      obtain ⟨v, hv⟩ : ∃ v, v = wsum R' := ⟨_, rfl⟩
      have hR9' : R'.length ≤ 1000 := by omega
      have hln : N = R'.length := by rw [hl', ← hl]
      have hm8 : ∀ e ∈ R', e.2.length ≤ 8 := fun e he => (hok' e he).1
      conv => cbv
      refine callF_frame (wordsS_lx R' N L' hL' hln hR9' hm8 v hv) [(0, 0), (1, 1)] rfl (by simp [hmapOk, nget, hget, renB, okB, renV, renVs, rn, okVs, okV]) rfl rfl (fun r h' n' ⟨e1, e2, e3⟩ => ?_)
      subst e1 e2 e3
      conv => cbv
      refine callF_frame (rwords_lx R' N C' B' hC' hB' hln hR9' hok' v hv) [(0, 2), (1, 3), (2, 4)] rfl (by simp [hmapOk, nget, hget, renB, okB, renV, renVs, rn, okVs, okV]) rfl rfl (fun r h' n' ⟨e1, e2, e3⟩ => ?_)
      subst e1 e2 e3
      conv => cbv
      refine Br.mk (fun g => ?_) (fun g => ?_)
      case refine_1 =>
        have gf : False := g rfl
        cases gf
      conv => cbv
      refine callF_frame (lenS_lx N L') [(0, 0), (1, 1)] rfl (by simp [hmapOk, nget, hget, renB, okB, renV, renVs, rn, okVs, okV]) rfl rfl (fun r h' n' ⟨e1, e2, e3⟩ => ?_)
      subst e1 e2 e3
      conv => cbv
      refine Br.mk (fun g => ?_) (fun g => ?_)
      case refine_1 =>
        have gf : False := g rfl
        cases gf
      conv => cbv
      refine LoopF.mk (fun kk s => ∃ k : Int, s = ⟨.p (.int .i64 (.sym N)) :: .p (.vsl (.sym k1) true L1) :: (undefs 3 ++ .ptr 0 (.lit 0) :: .undef :: .ptr 2 (.lit 0) :: .undef :: .p (.int .i64 (.sym i)) :: (undefs 8 ++ .p (.int .i64 (.sym k)) :: undefs 126)), [(0, .mix [.sl 1 58 2 (.lit 0) (.sym N)]), (1, .pure true L'), (2, .mix [.sl 3 3 1 (.lit 0) (.sym N), .sl 4 54 8 (.lit 0) (.sym N)]), (3, .pure true C'), (4, .pure true B')], 5⟩ ∧ -1 ≤ k ∧ k ≤ N + 1 ∧ kk = (N + 1 - k).toNat) (N + 2).toNat _
        (Re.of [(0, 0), (1, 1), (2, 2), (3, 3), (4, 4)] [] (by first | exact Nat.zero_le _ | exact Nat.le_refl _ | decide | (dsimp only; decide)) rfl rfl (by (try (conv => cbv)); (repeat' (first | exact trivial | rfl | exact SEq.mk rfl | (exact SEq.mk (by first | assumption | (symm; assumption))) | (simp only [I.val]; done) | (simp only [I.val]; omega) | omega | assumption | (refine And.intro ?_ ?_) | exact Or.inl rfl | exact Or.inr (by assumption) | exact List.Mem.head _ | exact List.Mem.tail _ (List.Mem.head _) | exact ⟨_, rfl⟩ | exact ⟨_, rfl, Or.inl rfl⟩ | (refine ⟨_, rfl, Or.inr ?_⟩; (try (conv => cbv))) | (simp only [I.val] at *; first | omega | (subst_vars; rfl) | simp_all) | (refine Or.inr ?_; (try (conv => cbv)))))) (by (try (conv => cbv)); (repeat' (first | exact trivial | rfl | exact SEq.mk rfl | (exact SEq.mk (by first | assumption | (symm; assumption))) | (simp only [I.val]; done) | (simp only [I.val]; omega) | omega | assumption | (refine And.intro ?_ ?_) | exact Or.inl rfl | exact Or.inr (by assumption) | exact List.Mem.head _ | exact List.Mem.tail _ (List.Mem.head _) | exact ⟨_, rfl⟩ | exact ⟨_, rfl, Or.inl rfl⟩ | (refine ⟨_, rfl, Or.inr ?_⟩; (try (conv => cbv))) | (simp only [I.val] at *; first | omega | (subst_vars; rfl) | simp_all) | (refine Or.inr ?_; (try (conv => cbv))))))) ⟨-1, rfl, by omega, by omega, by omega⟩ ?_
      rintro kk s ⟨k, rfl, hk0, hk1, hkk⟩
      conv => cbv
      refine Br.mk (fun gn => ?_) (fun gn => ?_)
      · have gn : k ≤ N := gn
        obtain ⟨kk', rfl⟩ : ∃ k', kk = k' + 1 := ⟨kk - 1, by omega⟩
        obtain ⟨cv, hcv⟩ : ∃ cv, cv = classAt R' k := ⟨_, rfl⟩
        conv => cbv
        refine callF_frame (classF_lx k R' N L' hL' hln hR9' hok' cv hcv) [(0, 0), (1, 1)] rfl (by simp [hmapOk, nget, hget, renB, okB, renV, renVs, rn, okVs, okV]) rfl rfl (fun r h' n' ⟨e1, e2, e3⟩ => ?_)
        subst e1 e2 e3
        conv => cbv
        refine callF_frame (rclass_lx k R' N C' B' hC' hB' hln hR9' hok' cv hcv) [(0, 2), (1, 3), (2, 4)] rfl (by simp [hmapOk, nget, hget, renB, okB, renV, renVs, rn, okVs, okV]) rfl rfl (fun r h' n' ⟨e1, e2, e3⟩ => ?_)
        subst e1 e2 e3
        conv => cbv
        refine Br.mk (fun g => ?_) (fun g => ?_)
        case refine_1 =>
          have gf : False := g rfl
          cases gf
        conv => cbv
        refine LoopF.mk (fun km s => ∃ m : Int, s = ⟨.p (.int .i64 (.sym N)) :: .p (.vsl (.sym k1) true L1) :: (undefs 3 ++ .ptr 0 (.lit 0) :: .undef :: .ptr 2 (.lit 0) :: .undef :: .p (.int .i64 (.sym i)) :: (undefs 8 ++ .p (.int .i64 (.sym k)) :: .p (.int .i64 (.sym m)) :: undefs 125)), [(0, .mix [.sl 1 58 2 (.lit 0) (.sym N)]), (1, .pure true L'), (2, .mix [.sl 3 3 1 (.lit 0) (.sym N), .sl 4 54 8 (.lit 0) (.sym N)]), (3, .pure true C'), (4, .pure true B')], 5⟩ ∧ -1 ≤ m ∧ m ≤ 9 ∧ km = (9 - m).toNat) 10 _
          (Re.of [(0, 0), (1, 1), (2, 2), (3, 3), (4, 4)] [] (by first | exact Nat.zero_le _ | exact Nat.le_refl _ | decide | (dsimp only; decide)) rfl rfl (by (try (conv => cbv)); (repeat' (first | exact trivial | rfl | exact SEq.mk rfl | (exact SEq.mk (by first | assumption | (symm; assumption))) | (simp only [I.val]; done) | (simp only [I.val]; omega) | omega | assumption | (refine And.intro ?_ ?_) | exact Or.inl rfl | exact Or.inr (by assumption) | exact List.Mem.head _ | exact List.Mem.tail _ (List.Mem.head _) | exact ⟨_, rfl⟩ | exact ⟨_, rfl, Or.inl rfl⟩ | (refine ⟨_, rfl, Or.inr ?_⟩; (try (conv => cbv))) | (simp only [I.val] at *; first | omega | (subst_vars; rfl) | simp_all) | (refine Or.inr ?_; (try (conv => cbv)))))) (by (try (conv => cbv)); (repeat' (first | exact trivial | rfl | exact SEq.mk rfl | (exact SEq.mk (by first | assumption | (symm; assumption))) | (simp only [I.val]; done) | (simp only [I.val]; omega) | omega | assumption | (refine And.intro ?_ ?_) | exact Or.inl rfl | exact Or.inr (by assumption) | exact List.Mem.head _ | exact List.Mem.tail _ (List.Mem.head _) | exact ⟨_, rfl⟩ | exact ⟨_, rfl, Or.inl rfl⟩ | (refine ⟨_, rfl, Or.inr ?_⟩; (try (conv => cbv))) | (simp only [I.val] at *; first | omega | (subst_vars; rfl) | simp_all) | (refine Or.inr ?_; (try (conv => cbv))))))) ⟨-1, rfl, by omega, by omega, by omega⟩ ?_
        rintro km s ⟨m, rfl, hm0, hm1, hkm⟩
        conv => cbv
        refine Br.mk (fun gm => ?_) (fun gm => ?_)
        · have gm : m ≤ 8 := gm
          obtain ⟨km', rfl⟩ : ∃ k', km = k' + 1 := ⟨km - 1, by omega⟩
          conv => cbv
          refine callF_frame (usedF_lx k m R' N L' hL' hln hR9' hok') [(0, 0), (1, 1)] rfl (by simp [hmapOk, nget, hget, renB, okB, renV, renVs, rn, okVs, okV]) rfl rfl (fun r h' n' hrr => ?_)
          obtain ⟨b1, e1, e2, e3, hb1⟩ := hrr
          subst e1 e2 e3
          conv => cbv
          refine callF_frame (rused_lx k m R' N C' B' hC' hB' hln hR9' hok') [(0, 2), (1, 3), (2, 4)] rfl (by simp [hmapOk, nget, hget, renB, okB, renV, renVs, rn, okVs, okV]) rfl rfl (fun r h' n' hrr => ?_)
          obtain ⟨b2, e1, e2, e3, hb2⟩ := hrr
          obtain rfl : b1 = b2 := Bool.eq_iff_iff.2 (hb1.trans hb2.symm)
          subst e1 e2 e3
          cases b1 with
          | true =>
            conv => cbv
            refine Fit.mk (by show (-9223372036854775808 : Int) ≤ m + 1; omega) (by show m + 1 ≤ 9223372036854775807; omega) fun m2 hm2 => ?_
            have hm2 : m2 = m + 1 := hm2
            conv => cbv
            refine Again.mk km' _ (Nat.lt_succ_self _) (Re.of [(0, 0), (1, 1), (2, 2), (3, 3), (4, 4)] [] (by first | exact Nat.zero_le _ | exact Nat.le_refl _ | decide | (dsimp only; decide)) rfl rfl (by (try (conv => cbv)); (repeat' (first | exact trivial | rfl | exact SEq.mk rfl | (exact SEq.mk (by first | assumption | (symm; assumption))) | (simp only [I.val]; done) | (simp only [I.val]; omega) | omega | assumption | (refine And.intro ?_ ?_) | exact Or.inl rfl | exact Or.inr (by assumption) | exact List.Mem.head _ | exact List.Mem.tail _ (List.Mem.head _) | exact ⟨_, rfl⟩ | exact ⟨_, rfl, Or.inl rfl⟩ | (refine ⟨_, rfl, Or.inr ?_⟩; (try (conv => cbv))) | (simp only [I.val] at *; first | omega | (subst_vars; rfl) | simp_all) | (refine Or.inr ?_; (try (conv => cbv)))))) (by (try (conv => cbv)); (repeat' (first | exact trivial | rfl | exact SEq.mk rfl | (exact SEq.mk (by first | assumption | (symm; assumption))) | (simp only [I.val]; done) | (simp only [I.val]; omega) | omega | assumption | (refine And.intro ?_ ?_) | exact Or.inl rfl | exact Or.inr (by assumption) | exact List.Mem.head _ | exact List.Mem.tail _ (List.Mem.head _) | exact ⟨_, rfl⟩ | exact ⟨_, rfl, Or.inl rfl⟩ | (refine ⟨_, rfl, Or.inr ?_⟩; (try (conv => cbv))) | (simp only [I.val] at *; first | omega | (subst_vars; rfl) | simp_all) | (refine Or.inr ?_; (try (conv => cbv))))))) ⟨m2, rfl, by omega, by omega, by omega⟩
          | false =>
            conv => cbv
            refine Fit.mk (by show (-9223372036854775808 : Int) ≤ m + 1; omega) (by show m + 1 ≤ 9223372036854775807; omega) fun m2 hm2 => ?_
            have hm2 : m2 = m + 1 := hm2
            conv => cbv
            refine Again.mk km' _ (Nat.lt_succ_self _) (Re.of [(0, 0), (1, 1), (2, 2), (3, 3), (4, 4)] [] (by first | exact Nat.zero_le _ | exact Nat.le_refl _ | decide | (dsimp only; decide)) rfl rfl (by (try (conv => cbv)); (repeat' (first | exact trivial | rfl | exact SEq.mk rfl | (exact SEq.mk (by first | assumption | (symm; assumption))) | (simp only [I.val]; done) | (simp only [I.val]; omega) | omega | assumption | (refine And.intro ?_ ?_) | exact Or.inl rfl | exact Or.inr (by assumption) | exact List.Mem.head _ | exact List.Mem.tail _ (List.Mem.head _) | exact ⟨_, rfl⟩ | exact ⟨_, rfl, Or.inl rfl⟩ | (refine ⟨_, rfl, Or.inr ?_⟩; (try (conv => cbv))) | (simp only [I.val] at *; first | omega | (subst_vars; rfl) | simp_all) | (refine Or.inr ?_; (try (conv => cbv)))))) (by (try (conv => cbv)); (repeat' (first | exact trivial | rfl | exact SEq.mk rfl | (exact SEq.mk (by first | assumption | (symm; assumption))) | (simp only [I.val]; done) | (simp only [I.val]; omega) | omega | assumption | (refine And.intro ?_ ?_) | exact Or.inl rfl | exact Or.inr (by assumption) | exact List.Mem.head _ | exact List.Mem.tail _ (List.Mem.head _) | exact ⟨_, rfl⟩ | exact ⟨_, rfl, Or.inl rfl⟩ | (refine ⟨_, rfl, Or.inr ?_⟩; (try (conv => cbv))) | (simp only [I.val] at *; first | omega | (subst_vars; rfl) | simp_all) | (refine Or.inr ?_; (try (conv => cbv))))))) ⟨m2, rfl, by omega, by omega, by omega⟩
        · have gm : ¬ m ≤ 8 := gm
          conv => cbv
          refine Fit.mk (by show (-9223372036854775808 : Int) ≤ k + 1; omega) (by show k + 1 ≤ 9223372036854775807; omega) fun k2 hk2 => ?_
          have hk2 : k2 = k + 1 := hk2
          conv => cbv
          refine Again.mk kk' _ (Nat.lt_succ_self _) (Re.of [(0, 0), (1, 1), (2, 2), (3, 3), (4, 4)] [] (by first | exact Nat.zero_le _ | exact Nat.le_refl _ | decide | (dsimp only; decide)) rfl rfl (by (try (conv => cbv)); (repeat' (first | exact trivial | rfl | exact SEq.mk rfl | (exact SEq.mk (by first | assumption | (symm; assumption))) | (simp only [I.val]; done) | (simp only [I.val]; omega) | omega | assumption | (refine And.intro ?_ ?_) | exact Or.inl rfl | exact Or.inr (by assumption) | exact List.Mem.head _ | exact List.Mem.tail _ (List.Mem.head _) | exact ⟨_, rfl⟩ | exact ⟨_, rfl, Or.inl rfl⟩ | (refine ⟨_, rfl, Or.inr ?_⟩; (try (conv => cbv))) | (simp only [I.val] at *; first | omega | (subst_vars; rfl) | simp_all) | (refine Or.inr ?_; (try (conv => cbv)))))) (by (try (conv => cbv)); (repeat' (first | exact trivial | rfl | exact SEq.mk rfl | (exact SEq.mk (by first | assumption | (symm; assumption))) | (simp only [I.val]; done) | (simp only [I.val]; omega) | omega | assumption | (refine And.intro ?_ ?_) | exact Or.inl rfl | exact Or.inr (by assumption) | exact List.Mem.head _ | exact List.Mem.tail _ (List.Mem.head _) | exact ⟨_, rfl⟩ | exact ⟨_, rfl, Or.inl rfl⟩ | (refine ⟨_, rfl, Or.inr ?_⟩; (try (conv => cbv))) | (simp only [I.val] at *; first | omega | (subst_vars; rfl) | simp_all) | (refine Or.inr ?_; (try (conv => cbv))))))) ⟨k2, rfl, by omega, by omega, by omega⟩
      · have gn : ¬ k ≤ N := gn
        conv => cbv
        refine Fit.mk (by show (-9223372036854775808 : Int) ≤ i + 1; omega) (by show i + 1 ≤ 9223372036854775807; omega) fun i2 hi2 => ?_
        have hi2 : i2 = i + 1 := hi2
        conv => cbv
        refine Again.mk k' _ (Nat.lt_succ_self _) (Re.of [(0, 0), (1, 1), (2, 2), (3, 3), (4, 4)] [] (by first | exact Nat.zero_le _ | exact Nat.le_refl _ | decide | (dsimp only; decide)) rfl rfl (by (try (conv => cbv)); (repeat' (first | exact trivial | rfl | exact SEq.mk rfl | (exact SEq.mk (by first | assumption | (symm; assumption))) | (simp only [I.val]; done) | (simp only [I.val]; omega) | omega | assumption | (refine And.intro ?_ ?_) | exact Or.inl rfl | exact Or.inr (by assumption) | exact List.Mem.head _ | exact List.Mem.tail _ (List.Mem.head _) | exact ⟨_, rfl⟩ | exact ⟨_, rfl, Or.inl rfl⟩ | (refine ⟨_, rfl, Or.inr ?_⟩; (try (conv => cbv))) | (simp only [I.val] at *; first | omega | (subst_vars; rfl) | simp_all) | (refine Or.inr ?_; (try (conv => cbv)))))) (by (try (conv => cbv)); (repeat' (first | exact trivial | rfl | exact SEq.mk rfl | (exact SEq.mk (by first | assumption | (symm; assumption))) | (simp only [I.val]; done) | (simp only [I.val]; omega) | omega | assumption | (refine And.intro ?_ ?_) | exact Or.inl rfl | exact Or.inr (by assumption) | exact List.Mem.head _ | exact List.Mem.tail _ (List.Mem.head _) | exact ⟨_, rfl⟩ | exact ⟨_, rfl, Or.inl rfl⟩ | (refine ⟨_, rfl, Or.inr ?_⟩; (try (conv => cbv))) | (simp only [I.val] at *; first | omega | (subst_vars; rfl) | simp_all) | (refine Or.inr ?_; (try (conv => cbv))))))) ⟨i2, L', C', B', R', rfl, hok', hln, hL', hC', hB', by omega, by omega, by omega⟩
    | false =>
      obtain ⟨v, hv⟩ : ∃ v, v = wsum R' := ⟨_, rfl⟩
      have hR9' : R'.length ≤ 1000 := by omega
      have hln : N = R'.length := by rw [hl', ← hl]
      have hm8 : ∀ e ∈ R', e.2.length ≤ 8 := fun e he => (hok' e he).1
      conv => cbv
      refine callF_frame (wordsS_lx R' N L' hL' hln hR9' hm8 v hv) [(0, 0), (1, 1)] rfl (by simp [hmapOk, nget, hget, renB, okB, renV, renVs, rn, okVs, okV]) rfl rfl (fun r h' n' ⟨e1, e2, e3⟩ => ?_)
      subst e1 e2 e3
      conv => cbv
      refine callF_frame (rwords_lx R' N C' B' hC' hB' hln hR9' hok' v hv) [(0, 2), (1, 3), (2, 4)] rfl (by simp [hmapOk, nget, hget, renB, okB, renV, renVs, rn, okVs, okV]) rfl rfl (fun r h' n' ⟨e1, e2, e3⟩ => ?_)
      subst e1 e2 e3
      conv => cbv
      refine Br.mk (fun g => ?_) (fun g => ?_)
      case refine_1 =>
        have gf : False := g rfl
        cases gf
      conv => cbv
      refine callF_frame (lenS_lx N L') [(0, 0), (1, 1)] rfl (by simp [hmapOk, nget, hget, renB, okB, renV, renVs, rn, okVs, okV]) rfl rfl (fun r h' n' ⟨e1, e2, e3⟩ => ?_)
      subst e1 e2 e3
      conv => cbv
      refine Br.mk (fun g => ?_) (fun g => ?_)
      case refine_1 =>
        have gf : False := g rfl
        cases gf
      conv => cbv
      refine LoopF.mk (fun kk s => ∃ k : Int, s = ⟨.p (.int .i64 (.sym N)) :: .p (.vsl (.sym k1) true L1) :: (undefs 3 ++ .ptr 0 (.lit 0) :: .undef :: .ptr 2 (.lit 0) :: .undef :: .p (.int .i64 (.sym i)) :: (undefs 8 ++ .p (.int .i64 (.sym k)) :: undefs 126)), [(0, .mix [.sl 1 58 2 (.lit 0) (.sym N)]), (1, .pure true L'), (2, .mix [.sl 3 3 1 (.lit 0) (.sym N), .sl 4 54 8 (.lit 0) (.sym N)]), (3, .pure true C'), (4, .pure true B')], 5⟩ ∧ -1 ≤ k ∧ k ≤ N + 1 ∧ kk = (N + 1 - k).toNat) (N + 2).toNat _
        (Re.of [(0, 0), (1, 1), (2, 2), (3, 3), (4, 4)] [] (by first | exact Nat.zero_le _ | exact Nat.le_refl _ | decide | (dsimp only; decide)) rfl rfl (by (try (conv => cbv)); (repeat' (first | exact trivial | rfl | exact SEq.mk rfl | (exact SEq.mk (by first | assumption | (symm; assumption))) | (simp only [I.val]; done) | (simp only [I.val]; omega) | omega | assumption | (refine And.intro ?_ ?_) | exact Or.inl rfl | exact Or.inr (by assumption) | exact List.Mem.head _ | exact List.Mem.tail _ (List.Mem.head _) | exact ⟨_, rfl⟩ | exact ⟨_, rfl, Or.inl rfl⟩ | (refine ⟨_, rfl, Or.inr ?_⟩; (try (conv => cbv))) | (simp only [I.val] at *; first | omega | (subst_vars; rfl) | simp_all) | (refine Or.inr ?_; (try (conv => cbv)))))) (by (try (conv => cbv)); (repeat' (first | exact trivial | rfl | exact SEq.mk rfl | (exact SEq.mk (by first | assumption | (symm; assumption))) | (simp only [I.val]; done) | (simp only [I.val]; omega) | omega | assumption | (refine And.intro ?_ ?_) | exact Or.inl rfl | exact Or.inr (by assumption) | exact List.Mem.head _ | exact List.Mem.tail _ (List.Mem.head _) | exact ⟨_, rfl⟩ | exact ⟨_, rfl, Or.inl rfl⟩ | (refine ⟨_, rfl, Or.inr ?_⟩; (try (conv => cbv))) | (simp only [I.val] at *; first | omega | (subst_vars; rfl) | simp_all) | (refine Or.inr ?_; (try (conv => cbv))))))) ⟨-1, rfl, by omega, by omega, by omega⟩ ?_
      rintro kk s ⟨k, rfl, hk0, hk1, hkk⟩
      conv => cbv
      refine Br.mk (fun gn => ?_) (fun gn => ?_)
      · have gn : k ≤ N := gn
        obtain ⟨kk', rfl⟩ : ∃ k', kk = k' + 1 := ⟨kk - 1, by omega⟩
        obtain ⟨cv, hcv⟩ : ∃ cv, cv = classAt R' k := ⟨_, rfl⟩
        conv => cbv
        refine callF_frame (classF_lx k R' N L' hL' hln hR9' hok' cv hcv) [(0, 0), (1, 1)] rfl (by simp [hmapOk, nget, hget, renB, okB, renV, renVs, rn, okVs, okV]) rfl rfl (fun r h' n' ⟨e1, e2, e3⟩ => ?_)
        subst e1 e2 e3
        conv => cbv
        refine callF_frame (rclass_lx k R' N C' B' hC' hB' hln hR9' hok' cv hcv) [(0, 2), (1, 3), (2, 4)] rfl (by simp [hmapOk, nget, hget, renB, okB, renV, renVs, rn, okVs, okV]) rfl rfl (fun r h' n' ⟨e1, e2, e3⟩ => ?_)
        subst e1 e2 e3
        conv => cbv
        refine Br.mk (fun g => ?_) (fun g => ?_)
        case refine_1 =>
          have gf : False := g rfl
          cases gf
        conv => cbv
        refine LoopF.mk (fun km s => ∃ m : Int, s = ⟨.p (.int .i64 (.sym N)) :: .p (.vsl (.sym k1) true L1) :: (undefs 3 ++ .ptr 0 (.lit 0) :: .undef :: .ptr 2 (.lit 0) :: .undef :: .p (.int .i64 (.sym i)) :: (undefs 8 ++ .p (.int .i64 (.sym k)) :: .p (.int .i64 (.sym m)) :: undefs 125)), [(0, .mix [.sl 1 58 2 (.lit 0) (.sym N)]), (1, .pure true L'), (2, .mix [.sl 3 3 1 (.lit 0) (.sym N), .sl 4 54 8 (.lit 0) (.sym N)]), (3, .pure true C'), (4, .pure true B')], 5⟩ ∧ -1 ≤ m ∧ m ≤ 9 ∧ km = (9 - m).toNat) 10 _
          (Re.of [(0, 0), (1, 1), (2, 2), (3, 3), (4, 4)] [] (by first | exact Nat.zero_le _ | exact Nat.le_refl _ | decide | (dsimp only; decide)) rfl rfl (by (try (conv => cbv)); (repeat' (first | exact trivial | rfl | exact SEq.mk rfl | (exact SEq.mk (by first | assumption | (symm; assumption))) | (simp only [I.val]; done) | (simp only [I.val]; omega) | omega | assumption | (refine And.intro ?_ ?_) | exact Or.inl rfl | exact Or.inr (by assumption) | exact List.Mem.head _ | exact List.Mem.tail _ (List.Mem.head _) | exact ⟨_, rfl⟩ | exact ⟨_, rfl, Or.inl rfl⟩ | (refine ⟨_, rfl, Or.inr ?_⟩; (try (conv => cbv))) | (simp only [I.val] at *; first | omega | (subst_vars; rfl) | simp_all) | (refine Or.inr ?_; (try (conv => cbv)))))) (by (try (conv => cbv)); (repeat' (first | exact trivial | rfl | exact SEq.mk rfl | (exact SEq.mk (by first | assumption | (symm; assumption))) | (simp only [I.val]; done) | (simp only [I.val]; omega) | omega | assumption | (refine And.intro ?_ ?_) | exact Or.inl rfl | exact Or.inr (by assumption) | exact List.Mem.head _ | exact List.Mem.tail _ (List.Mem.head _) | exact ⟨_, rfl⟩ | exact ⟨_, rfl, Or.inl rfl⟩ | (refine ⟨_, rfl, Or.inr ?_⟩; (try (conv => cbv))) | (simp only [I.val] at *; first | omega | (subst_vars; rfl) | simp_all) | (refine Or.inr ?_; (try (conv => cbv))))))) ⟨-1, rfl, by omega, by omega, by omega⟩ ?_
        rintro km s ⟨m, rfl, hm0, hm1, hkm⟩
        conv => cbv
        refine Br.mk (fun gm => ?_) (fun gm => ?_)
        · have gm : m ≤ 8 := gm
          obtain ⟨km', rfl⟩ : ∃ k', km = k' + 1 := ⟨km - 1, by omega⟩
          conv => cbv
          refine callF_frame (usedF_lx k m R' N L' hL' hln hR9' hok') [(0, 0), (1, 1)] rfl (by simp [hmapOk, nget, hget, renB, okB, renV, renVs, rn, okVs, okV]) rfl rfl (fun r h' n' hrr => ?_)
          obtain ⟨b1, e1, e2, e3, hb1⟩ := hrr
          subst e1 e2 e3
          conv => cbv
          refine callF_frame (rused_lx k m R' N C' B' hC' hB' hln hR9' hok') [(0, 2), (1, 3), (2, 4)] rfl (by simp [hmapOk, nget, hget, renB, okB, renV, renVs, rn, okVs, okV]) rfl rfl (fun r h' n' hrr => ?_)
          obtain ⟨b2, e1, e2, e3, hb2⟩ := hrr
          obtain rfl : b1 = b2 := Bool.eq_iff_iff.2 (hb1.trans hb2.symm)
          subst e1 e2 e3
          cases b1 with
          | true =>
            conv => cbv
            refine Fit.mk (by show (-9223372036854775808 : Int) ≤ m + 1; omega) (by show m + 1 ≤ 9223372036854775807; omega) fun m2 hm2 => ?_
            have hm2 : m2 = m + 1 := hm2
            conv => cbv
            refine Again.mk km' _ (Nat.lt_succ_self _) (Re.of [(0, 0), (1, 1), (2, 2), (3, 3), (4, 4)] [] (by first | exact Nat.zero_le _ | exact Nat.le_refl _ | decide | (dsimp only; decide)) rfl rfl (by (try (conv => cbv)); (repeat' (first | exact trivial | rfl | exact SEq.mk rfl | (exact SEq.mk (by first | assumption | (symm; assumption))) | (simp only [I.val]; done) | (simp only [I.val]; omega) | omega | assumption | (refine And.intro ?_ ?_) | exact Or.inl rfl | exact Or.inr (by assumption) | exact List.Mem.head _ | exact List.Mem.tail _ (List.Mem.head _) | exact ⟨_, rfl⟩ | exact ⟨_, rfl, Or.inl rfl⟩ | (refine ⟨_, rfl, Or.inr ?_⟩; (try (conv => cbv))) | (simp only [I.val] at *; first | omega | (subst_vars; rfl) | simp_all) | (refine Or.inr ?_; (try (conv => cbv)))))) (by (try (conv => cbv)); (repeat' (first | exact trivial | rfl | exact SEq.mk rfl | (exact SEq.mk (by first | assumption | (symm; assumption))) | (simp only [I.val]; done) | (simp only [I.val]; omega) | omega | assumption | (refine And.intro ?_ ?_) | exact Or.inl rfl | exact Or.inr (by assumption) | exact List.Mem.head _ | exact List.Mem.tail _ (List.Mem.head _) | exact ⟨_, rfl⟩ | exact ⟨_, rfl, Or.inl rfl⟩ | (refine ⟨_, rfl, Or.inr ?_⟩; (try (conv => cbv))) | (simp only [I.val] at *; first | omega | (subst_vars; rfl) | simp_all) | (refine Or.inr ?_; (try (conv => cbv))))))) ⟨m2, rfl, by omega, by omega, by omega⟩
          | false =>
            conv => cbv
            refine Fit.mk (by show (-9223372036854775808 : Int) ≤ m + 1; omega) (by show m + 1 ≤ 9223372036854775807; omega) fun m2 hm2 => ?_
            have hm2 : m2 = m + 1 := hm2
            conv => cbv
            refine Again.mk km' _ (Nat.lt_succ_self _) (Re.of [(0, 0), (1, 1), (2, 2), (3, 3), (4, 4)] [] (by first | exact Nat.zero_le _ | exact Nat.le_refl _ | decide | (dsimp only; decide)) rfl rfl (by (try (conv => cbv)); (repeat' (first | exact trivial | rfl | exact SEq.mk rfl | (exact SEq.mk (by first | assumption | (symm; assumption))) | (simp only [I.val]; done) | (simp only [I.val]; omega) | omega | assumption | (refine And.intro ?_ ?_) | exact Or.inl rfl | exact Or.inr (by assumption) | exact List.Mem.head _ | exact List.Mem.tail _ (List.Mem.head _) | exact ⟨_, rfl⟩ | exact ⟨_, rfl, Or.inl rfl⟩ | (refine ⟨_, rfl, Or.inr ?_⟩; (try (conv => cbv))) | (simp only [I.val] at *; first | omega | (subst_vars; rfl) | simp_all) | (refine Or.inr ?_; (try (conv => cbv)))))) (by (try (conv => cbv)); (repeat' (first | exact trivial | rfl | exact SEq.mk rfl | (exact SEq.mk (by first | assumption | (symm; assumption))) | (simp only [I.val]; done) | (simp only [I.val]; omega) | omega | assumption | (refine And.intro ?_ ?_) | exact Or.inl rfl | exact Or.inr (by assumption) | exact List.Mem.head _ | exact List.Mem.tail _ (List.Mem.head _) | exact ⟨_, rfl⟩ | exact ⟨_, rfl, Or.inl rfl⟩ | (refine ⟨_, rfl, Or.inr ?_⟩; (try (conv => cbv))) | (simp only [I.val] at *; first | omega | (subst_vars; rfl) | simp_all) | (refine Or.inr ?_; (try (conv => cbv))))))) ⟨m2, rfl, by omega, by omega, by omega⟩
        · have gm : ¬ m ≤ 8 := gm
          conv => cbv
          refine Fit.mk (by show (-9223372036854775808 : Int) ≤ k + 1; omega) (by show k + 1 ≤ 9223372036854775807; omega) fun k2 hk2 => ?_
          have hk2 : k2 = k + 1 := hk2
          conv => cbv
          refine Again.mk kk' _ (Nat.lt_succ_self _) (Re.of [(0, 0), (1, 1), (2, 2), (3, 3), (4, 4)] [] (by first | exact Nat.zero_le _ | exact Nat.le_refl _ | decide | (dsimp only; decide)) rfl rfl (by (try (conv => cbv)); (repeat' (first | exact trivial | rfl | exact SEq.mk rfl | (exact SEq.mk (by first | assumption | (symm; assumption))) | (simp only [I.val]; done) | (simp only [I.val]; omega) | omega | assumption | (refine And.intro ?_ ?_) | exact Or.inl rfl | exact Or.inr (by assumption) | exact List.Mem.head _ | exact List.Mem.tail _ (List.Mem.head _) | exact ⟨_, rfl⟩ | exact ⟨_, rfl, Or.inl rfl⟩ | (refine ⟨_, rfl, Or.inr ?_⟩; (try (conv => cbv))) | (simp only [I.val] at *; first | omega | (subst_vars; rfl) | simp_all) | (refine Or.inr ?_; (try (conv => cbv)))))) (by (try (conv => cbv)); (repeat' (first | exact trivial | rfl | exact SEq.mk rfl | (exact SEq.mk (by first | assumption | (symm; assumption))) | (simp only [I.val]; done) | (simp only [I.val]; omega) | omega | assumption | (refine And.intro ?_ ?_) | exact Or.inl rfl | exact Or.inr (by assumption) | exact List.Mem.head _ | exact List.Mem.tail _ (List.Mem.head _) | exact ⟨_, rfl⟩ | exact ⟨_, rfl, Or.inl rfl⟩ | (refine ⟨_, rfl, Or.inr ?_⟩; (try (conv => cbv))) | (simp only [I.val] at *; first | omega | (subst_vars; rfl) | simp_all) | (refine Or.inr ?_; (try (conv => cbv))))))) ⟨k2, rfl, by omega, by omega, by omega⟩
      · have gn : ¬ k ≤ N := gn
        conv => cbv
        refine Fit.mk (by show (-9223372036854775808 : Int) ≤ i + 1; omega) (by show i + 1 ≤ 9223372036854775807; omega) fun i2 hi2 => ?_
        have hi2 : i2 = i + 1 := hi2
        conv => cbv
        refine Again.mk k' _ (Nat.lt_succ_self _) (Re.of [(0, 0), (1, 1), (2, 2), (3, 3), (4, 4)] [] (by first | exact Nat.zero_le _ | exact Nat.le_refl _ | decide | (dsimp only; decide)) rfl rfl (by (try (conv => cbv)); (repeat' (first | exact trivial | rfl | exact SEq.mk rfl | (exact SEq.mk (by first | assumption | (symm; assumption))) | (simp only [I.val]; done) | (simp only [I.val]; omega) | omega | assumption | (refine And.intro ?_ ?_) | exact Or.inl rfl | exact Or.inr (by assumption) | exact List.Mem.head _ | exact List.Mem.tail _ (List.Mem.head _) | exact ⟨_, rfl⟩ | exact ⟨_, rfl, Or.inl rfl⟩ | (refine ⟨_, rfl, Or.inr ?_⟩; (try (conv => cbv))) | (simp only [I.val] at *; first | omega | (subst_vars; rfl) | simp_all) | (refine Or.inr ?_; (try (conv => cbv)))))) (by (try (conv => cbv)); (repeat' (first | exact trivial | rfl | exact SEq.mk rfl | (exact SEq.mk (by first | assumption | (symm; assumption))) | (simp only [I.val]; done) | (simp only [I.val]; omega) | omega | assumption | (refine And.intro ?_ ?_) | exact Or.inl rfl | exact Or.inr (by assumption) | exact List.Mem.head _ | exact List.Mem.tail _ (List.Mem.head _) | exact ⟨_, rfl⟩ | exact ⟨_, rfl, Or.inl rfl⟩ | (refine ⟨_, rfl, Or.inr ?_⟩; (try (conv => cbv))) | (simp only [I.val] at *; first | omega | (subst_vars; rfl) | simp_all) | (refine Or.inr ?_; (try (conv => cbv))))))) ⟨i2, L', C', B', R', rfl, hok', hln, hL', hC', hB', by omega, by omega, by omega⟩
end Go.Proofs.Ytocliihimbggjaa
