/-
  Laws of layer 26.
-/
import Derived.Test.YtongaoioaafjnaaDoorTd
namespace Go.Proofs.YtongaoioaafjnaaDoor
open Go Go.LX
set_option maxRecDepth 100000
set_option linter.unusedVariables false
set_option linter.unusedSimpArgs false

set_option maxHeartbeats 4000000 in
theorem traceParts_law (m n : Int) (A B : List Ev) (la lb : List PV) (hm : m = A.length) (ha : la = evs A) (hA : ∀ e ∈ A, evOk e) (hn : n = B.length) (hb : lb = evs B) (hB : ∀ e ∈ B, evOk e) (o : Unit → Obj) (ho : IsPow o) :
    CallF (fun _ => Tryd.prog) 3 [.p (.vsl (.sym m) true la), .p (.vsl (.sym n) true lb)] [(0, .fix 0 o)] 1 (fun r _ _ => r = .p (.bool true)) := by
  have hal : la.length = 4 * A.length := by rw [ha, evs_length]
  have hbl : lb.length = 4 * B.length := by rw [hb, evs_length]
  refine callF_of_body tok Tryd.func3 (by kernel_rfl) rfl rfl rfl ?_; conv => cbv
  refine Br.mk (fun g1 => ?_) (fun g1 => ?_)
  · conv => cbv
    refine callF_frame (awake26_lx o ho) [(0, 0)] rfl (by simp [hmapOk, nget, hget, renB, okB]) rfl rfl (fun r h' n' ⟨e1, e2, e3⟩ => ?_)
    subst e1 e2 e3
    conv => cbv
    refine RetF.mk [.p (.bool true)] [] 1 (Re.of [] [] (by first | exact Nat.zero_le _ | exact Nat.le_refl _ | decide | (dsimp only; decide)) rfl rfl (by (try (conv => cbv)); (repeat' (first | exact trivial | rfl | exact SEq.mk rfl | (exact SEq.mk (by first | assumption | (symm; assumption))) | (simp only [I.val]; done) | (simp only [I.val]; omega) | omega | assumption | (refine And.intro ?_ ?_) | exact Or.inl rfl | exact Or.inr (by assumption) | exact List.Mem.head _ | exact List.Mem.tail _ (List.Mem.head _) | exact ⟨_, rfl⟩ | exact ⟨_, rfl, Or.inl rfl⟩ | (refine ⟨_, rfl, Or.inr ?_⟩; (try (conv => cbv))) | (simp only [I.val] at *; first | omega | (subst_vars; rfl) | simp_all) | (refine Or.inr ?_; (try (conv => cbv)))))) (by (try (conv => cbv)); (repeat' (first | exact trivial | rfl | exact SEq.mk rfl | (exact SEq.mk (by first | assumption | (symm; assumption))) | (simp only [I.val]; done) | (simp only [I.val]; omega) | omega | assumption | (refine And.intro ?_ ?_) | exact Or.inl rfl | exact Or.inr (by assumption) | exact List.Mem.head _ | exact List.Mem.tail _ (List.Mem.head _) | exact ⟨_, rfl⟩ | exact ⟨_, rfl, Or.inl rfl⟩ | (refine ⟨_, rfl, Or.inr ?_⟩; (try (conv => cbv))) | (simp only [I.val] at *; first | omega | (subst_vars; rfl) | simp_all) | (refine Or.inr ?_; (try (conv => cbv))))))) rfl rfl
  · have g1 : ¬ 100 < m := g1
    conv => cbv
    refine Br.mk (fun g2 => ?_) (fun g2 => ?_)
    · conv => cbv
      refine callF_frame (awake26_lx o ho) [(0, 0)] rfl (by simp [hmapOk, nget, hget, renB, okB]) rfl rfl (fun r h' n' ⟨e1, e2, e3⟩ => ?_)
      subst e1 e2 e3
      conv => cbv
      refine RetF.mk [.p (.bool true)] [] 1 (Re.of [] [] (by first | exact Nat.zero_le _ | exact Nat.le_refl _ | decide | (dsimp only; decide)) rfl rfl (by (try (conv => cbv)); (repeat' (first | exact trivial | rfl | exact SEq.mk rfl | (exact SEq.mk (by first | assumption | (symm; assumption))) | (simp only [I.val]; done) | (simp only [I.val]; omega) | omega | assumption | (refine And.intro ?_ ?_) | exact Or.inl rfl | exact Or.inr (by assumption) | exact List.Mem.head _ | exact List.Mem.tail _ (List.Mem.head _) | exact ⟨_, rfl⟩ | exact ⟨_, rfl, Or.inl rfl⟩ | (refine ⟨_, rfl, Or.inr ?_⟩; (try (conv => cbv))) | (simp only [I.val] at *; first | omega | (subst_vars; rfl) | simp_all) | (refine Or.inr ?_; (try (conv => cbv)))))) (by (try (conv => cbv)); (repeat' (first | exact trivial | rfl | exact SEq.mk rfl | (exact SEq.mk (by first | assumption | (symm; assumption))) | (simp only [I.val]; done) | (simp only [I.val]; omega) | omega | assumption | (refine And.intro ?_ ?_) | exact Or.inl rfl | exact Or.inr (by assumption) | exact List.Mem.head _ | exact List.Mem.tail _ (List.Mem.head _) | exact ⟨_, rfl⟩ | exact ⟨_, rfl, Or.inl rfl⟩ | (refine ⟨_, rfl, Or.inr ?_⟩; (try (conv => cbv))) | (simp only [I.val] at *; first | omega | (subst_vars; rfl) | simp_all) | (refine Or.inr ?_; (try (conv => cbv))))))) rfl rfl
    · have g2 : ¬ 100 < n := g2
      conv => cbv
      refine Need.mk (by rw [hal]; show ((4 * A.length : Nat) : Int) = m * 4; omega) ?_
      conv => cbv
      refine Need.mk ⟨by show m * 32 ≤ 140737488355328; omega, by show m ≤ 9223372036854775807; omega⟩ ?_
      conv => cbv
      refine Need.mk (by rw [hbl]; show ((4 * B.length : Nat) : Int) = n * 4; omega) ?_
      conv => cbv
      refine Room.new ⟨by rw [hal]; show ((4 * A.length : Nat) : Int) = m * 4; omega, by show (m + n) * 32 ≤ 140737488355328; omega, by show m + n ≤ 9223372036854775807; omega⟩ ?_
      conv => cbv
      refine Upd.mk fun M hM => ?_
      have hM : M = la ++ lb := hM
      conv => cbv
      refine Sum.mk fun k hk => ?_
      have hk : k = m + n := hk
      have p1 : M = evs (A ++ B) := by rw [hM, ha, hb, evs_append]
      have p2 : k = (A ++ B).length := by rw [List.length_append]; show k = ((A.length + B.length : Nat) : Int); omega
      have p3 : ∀ e ∈ A ++ B, evOk e := fun e he => (List.mem_append.1 he).elim (hA e) (hB e)
      have p4 : (A ++ B).length ≤ 1000 := by omega
      obtain ⟨VA, hVA⟩ : ∃ F, F = A.filter vis := ⟨_, rfl⟩
      obtain ⟨VB, hVB⟩ : ∃ F, F = B.filter vis := ⟨_, rfl⟩
      have hV : VA ++ VB = (A ++ B).filter vis := by rw [List.filter_append, hVA, hVB]
      have hVok : ∀ e ∈ VA ++ VB, evOk e := fun e he => p3 e (by rw [hV] at he; exact (List.mem_filter.1 he).1)
      have hVV : VA ++ VB = (VA ++ VB).filter vis := by rw [hV, List.filter_filter]; simp
      have hVl : (VA ++ VB).length ≤ 1000 := by rw [hV]; exact Nat.le_trans (List.length_filter_le _ _) p4
      conv => cbv
      refine callF_lendF (visible_lx (A ++ B) (VA ++ VB) hV k M p1 p2 p3 p4 o ho) [(0, 0)] rfl (by simp [fixOn, hget]) (by simp [allFix, isFix, nget]) (by simp [lends, lendV, hget, I.val, pvle]) (fun r h' n' ⟨j, M, e1, e2, e3, hM, _⟩ => by subst e1 e2 hM; exact ⟨trivial, flat1 (evs_flat _)⟩) (fun r h' n' ⟨j1, M1, e1, e2, e3, hM1, hj1⟩ => ?_)
      subst e1 e2 e3
      conv => cbv
      refine callF_frame (awake26_lx o ho) [(0, 0)] rfl (by simp [hmapOk, nget, hget, renB, okB]) rfl rfl (fun r h' n' ⟨e1, e2, e3⟩ => ?_)
      subst e1 e2 e3
      conv => cbv
      obtain ⟨ZA, hZA⟩ : ∃ Z, Z = txt A := ⟨_, rfl⟩
      obtain ⟨ZB, hZB⟩ : ∃ Z, Z = txt B := ⟨_, rfl⟩
      have hZ : ZA ++ ZB = txt (A ++ B) := by rw [txt_app, hZA, hZB]
      have hAl : A.length ≤ 1000 := by omega
      have hBl : B.length ≤ 1000 := by omega
      refine callF_lendF (text_lx (A ++ B) (ZA ++ ZB) hZ k M p1 p2 p3 p4 o ho) [(0, 0)] rfl (by simp [fixOn, hget]) (by simp [allFix, isFix, nget]) (by simp [lends, lendV, hget, I.val, pvle]) (fun r h' n' ⟨⟨y, e1, _⟩, e2, e3⟩ => by subst e1 e2; exact ⟨trivial, trivial, trivial⟩) (fun r h' n' ⟨⟨y, e1, hy⟩, e2, e3⟩ => ?_)
      subst e1 e2 e3
      conv => cbv
      refine callF_frame (text_lx A ZA hZA m la ha hm hA hAl o ho) [(0, 0)] rfl (by simp [hmapOk, nget, hget, renB, okB]) rfl rfl (fun r h' n' ⟨⟨ya, e1, hya⟩, e2, e3⟩ => ?_)
      subst e1 e2 e3
      conv => cbv
      refine callF_frame (text_lx B ZB hZB n lb hb hn hB hBl o ho) [(0, 0)] rfl (by simp [hmapOk, nget, hget, renB, okB]) rfl rfl (fun r h' n' ⟨⟨yb, e1, hyb⟩, e2, e3⟩ => ?_)
      subst e1 e2 e3
      have hyal : ya.size ≤ 100000 := by
        have := txt_len A hA
        rw [hya, mk_size, hZA]; omega
      have hybl : yb.size ≤ 100000 := by
        have := txt_len B hB
        rw [hyb, mk_size, hZB]; omega
      conv => cbv
      refine Need.mk (by show ya.size + yb.size ≤ 9223372036854775807; omega) ?_
      refine Str.mk fun t ht => ?_
      have ht : t = ya ++ yb := ht
      have hyt : y = t := by
        rw [hy, ht, hya, hyb]
        apply ByteArray.ext
        apply Array.ext'
        simp [ByteArray.data_append]
      conv => cbv
      refine Br.mk (fun g => ?_) (fun g => ?_)
      case refine_2 =>
        have gf : False := g hyt
        cases gf
      conv => cbv
      refine callF_frame (visible_lx A VA hVA m la ha hm hA hAl o ho) [(0, 0)] rfl (by simp [hmapOk, nget, hget, renB, okB]) rfl rfl (fun r h' n' ⟨j2, M2, e1, e2, e3, hM2, hj2⟩ => ?_)
      subst e1 e2 e3
      conv => cbv
      refine callF_frame (visible_lx B VB hVB n lb hb hn hB hBl o ho) [(0, 0)] rfl (by simp [hmapOk, nget, hget, renB, okB]) rfl rfl (fun r h' n' ⟨j3, M3, e1, e2, e3, hM3, hj3⟩ => ?_)
      subst e1 e2 e3
      have hVAl : VA.length ≤ 1000 := by rw [hVA]; exact Nat.le_trans (List.length_filter_le _ _) hAl
      have hVBl : VB.length ≤ 1000 := by rw [hVB]; exact Nat.le_trans (List.length_filter_le _ _) hBl
      conv => cbv
      refine Room.new (by rw [hM3, evs_length]; show ((4 * VB.length : Nat) : Int) = j3 * 4; omega) ?_
      conv => cbv
      refine Room.new ⟨by rw [hM2, evs_length]; show ((4 * VA.length : Nat) : Int) = j2 * 4; omega, by show (j2 + j3) * 32 ≤ 140737488355328; omega, by show j2 + j3 ≤ 9223372036854775807; omega⟩ ?_
      conv => cbv
      refine Upd.mk fun M4 hM4 => ?_
      have hM4 : M4 = M2 ++ M3 := hM4
      have hM4 : M4 = evs (VA ++ VB) := by rw [hM4, hM2, hM3, evs_append]
      conv => cbv
      refine Sum.mk fun j4 hj4 => ?_
      have hj4 : j4 = j2 + j3 := hj4
      have hj4 : j4 = (VA ++ VB).length := by rw [List.length_append]; show j4 = ((VA.length + VB.length : Nat) : Int); omega
      conv => cbv
      refine callF_lend (plainEv_lx (VA ++ VB) (VA ++ VB) j1 j4 M1 M4 hj1 hj4 hM1 (pre_of hM4) (by omega)) (by simp [lends, lendV, hget, I.val, pvle]) (fun r h' n' ⟨⟨b, e1, _⟩, e2, e3⟩ => by subst e1 e2; exact ⟨trivial, trivial⟩) (fun r h' n' ⟨⟨b, e1, hb9⟩, e2, e3⟩ => ?_)
      subst e1 e2 e3
      obtain rfl : b = true := hb9.2 rfl
      conv => cbv
      refine callF_lendF (visible_lx (VA ++ VB) (VA ++ VB) hVV j1 M1 hM1 hj1 hVok hVl o ho) [(0, 0)] rfl (by simp [fixOn, hget]) (by simp [allFix, isFix, nget]) (by simp [lends, lendV, hget, I.val, pvle]) (fun r h' n' ⟨j, M, e1, e2, e3, hM, _⟩ => by subst e1 e2 hM; exact ⟨trivial, flat1 (evs_flat _)⟩) (fun r h' n' ⟨j5, M5, e1, e2, e3, hM5, hj5⟩ => ?_)
      subst e1 e2 e3
      conv => cbv
      refine callF_lend (plainEv_lx (VA ++ VB) (VA ++ VB) j5 j1 M5 M1 hj5 hj1 hM5 (pre_of hM1) (by omega)) (by simp [lends, lendV, hget, I.val, pvle]) (fun r h' n' ⟨⟨b, e1, _⟩, e2, e3⟩ => by subst e1 e2; exact ⟨trivial, trivial⟩) (fun r h' n' ⟨⟨b, e1, hb8⟩, e2, e3⟩ => ?_)
      subst e1 e2 e3
      obtain rfl : b = true := hb8.2 rfl
      conv => cbv
      have hG0 : ([] : List Int) = gone (VA ++ VB) := by
        unfold gone
        rw [hV, List.filter_filter, List.filter_eq_nil_iff.2, List.map_nil]
        intro e he
        simp only [vis, Bool.and_eq_true, decide_eq_true_eq]
        exact fun h => h.2 (.inl h.1)
      refine callF_lendF (reclaimed_lx (VA ++ VB) [] hG0 j1 M1 hM1 hj1 hVok hVl o ho) [(0, 0)] rfl (by simp [fixOn, hget]) (by simp [allFix, isFix, nget]) (by simp [lends, lendV, hget, I.val, pvle]) (fun r h' n' ⟨j, M, e1, e2, e3, hM, _⟩ => by subst e1 e2 hM; exact ⟨trivial, flat1 (gors_flat _)⟩) (fun r h' n' ⟨j6, M6, e1, e2, e3, hM6, hj6⟩ => ?_)
      subst e1 e2 e3
      have hj6 : j6 = 0 := hj6
      conv => cbv
      refine Br.mk (fun g => ?_) (fun g => ?_)
      case refine_2 =>
        have gf : False := g (show j6 = 0 by first | exact hj6 | omega)
        cases gf
      conv => cbv
      obtain ⟨GA, hGA⟩ : ∃ G, G = gone A := ⟨_, rfl⟩
      obtain ⟨GB, hGB⟩ : ∃ G, G = gone B := ⟨_, rfl⟩
      have hG : GA ++ GB = gone (A ++ B) := by rw [hGA, hGB]; unfold gone; rw [List.filter_append, List.map_append]
      refine callF_lendF (reclaimed_lx (A ++ B) (GA ++ GB) hG k M p1 p2 p3 p4 o ho) [(0, 0)] rfl (by simp [fixOn, hget]) (by simp [allFix, isFix, nget]) (by simp [lends, lendV, hget, I.val, pvle]) (fun r h' n' ⟨j, M, e1, e2, e3, hM, _⟩ => by subst e1 e2 hM; exact ⟨trivial, flat1 (gors_flat _)⟩) (fun r h' n' ⟨j7, M7, e1, e2, e3, hM7, hj7⟩ => ?_)
      subst e1 e2 e3
      conv => cbv
      refine callF_frame (reclaimed_lx A GA hGA m la ha hm hA hAl o ho) [(0, 0)] rfl (by simp [hmapOk, nget, hget, renB, okB]) rfl rfl (fun r h' n' ⟨j8, M8, e1, e2, e3, hM8, hj8⟩ => ?_)
      subst e1 e2 e3
      conv => cbv
      refine callF_frame (reclaimed_lx B GB hGB n lb hb hn hB hBl o ho) [(0, 0)] rfl (by simp [hmapOk, nget, hget, renB, okB]) rfl rfl (fun r h' n' ⟨j9, M9, e1, e2, e3, hM9, hj9⟩ => ?_)
      subst e1 e2 e3
      conv => cbv
      have hga := gone_len A
      have hgb := gone_len B
      rw [← hGA] at hga
      rw [← hGB] at hgb
      refine Fit.mk (by show (-9223372036854775808 : Int) ≤ j8 + j9; omega) (by show j8 + j9 ≤ 9223372036854775807; omega) fun q hq => ?_
      have hq : q = j8 + j9 := hq
      have hj7 : j7 = j8 + j9 := by rw [hj7, hj8, hj9, List.length_append, Int.natCast_add]
      conv => cbv
      refine Br.mk (fun g => ?_) (fun g => ?_)
      case refine_2 =>
        have gf : False := g (show j7 = q by first | exact (by omega) | omega)
        cases gf
      conv => cbv
      refine RetF.mk [.p (.bool true)] [] 1 (Re.of [] [] (by first | exact Nat.zero_le _ | exact Nat.le_refl _ | decide | (dsimp only; decide)) rfl rfl (by (try (conv => cbv)); (repeat' (first | exact trivial | rfl | exact SEq.mk rfl | (exact SEq.mk (by first | assumption | (symm; assumption))) | (simp only [I.val]; done) | (simp only [I.val]; omega) | omega | assumption | (refine And.intro ?_ ?_) | exact Or.inl rfl | exact Or.inr (by assumption) | exact List.Mem.head _ | exact List.Mem.tail _ (List.Mem.head _) | exact ⟨_, rfl⟩ | exact ⟨_, rfl, Or.inl rfl⟩ | (refine ⟨_, rfl, Or.inr ?_⟩; (try (conv => cbv))) | (simp only [I.val] at *; first | omega | (subst_vars; rfl) | simp_all) | (refine Or.inr ?_; (try (conv => cbv)))))) (by (try (conv => cbv)); (repeat' (first | exact trivial | rfl | exact SEq.mk rfl | (exact SEq.mk (by first | assumption | (symm; assumption))) | (simp only [I.val]; done) | (simp only [I.val]; omega) | omega | assumption | (refine And.intro ?_ ?_) | exact Or.inl rfl | exact Or.inr (by assumption) | exact List.Mem.head _ | exact List.Mem.tail _ (List.Mem.head _) | exact ⟨_, rfl⟩ | exact ⟨_, rfl, Or.inl rfl⟩ | (refine ⟨_, rfl, Or.inr ?_⟩; (try (conv => cbv))) | (simp only [I.val] at *; first | omega | (subst_vars; rfl) | simp_all) | (refine Or.inr ?_; (try (conv => cbv))))))) rfl rfl
end Go.Proofs.YtongaoioaafjnaaDoor
