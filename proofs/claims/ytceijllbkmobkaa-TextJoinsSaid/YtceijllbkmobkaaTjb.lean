/-
  Layer 1: a text is parted.
-/
import Derived.Test.YtceijllbkmobkaaTja
namespace Go.Proofs.Ytceijllbkmobkaa
open Go Go.LX
set_option maxRecDepth 100000
set_option linter.unusedVariables false
set_option linter.unusedSimpArgs false

theorem step10 (ls : List (List UInt8)) (cur : List UInt8) : partStep (ls, cur) 10 = (if cur = [] then ls else ls ++ [cur], []) := by rw [partStep, if_pos rfl]
theorem step32 (ls : List (List UInt8)) (cur : List UInt8) : partStep (ls, cur) 32 = (ls, cur) := by rw [partStep, if_neg (by decide), if_pos rfl]
theorem step_else (ls : List (List UInt8)) (cur : List UInt8) (c : UInt8) (h1 : c ≠ 10) (h2 : c ≠ 32) : partStep (ls, cur) c = (ls, cur ++ [c]) := by rw [partStep, if_neg h1, if_neg h2]
set_option maxHeartbeats 4000000 in
theorem parted_lx (bl : List UInt8) (z : ByteArray) (k : Int) (hz : z = bytesOfL bl) (hg : Good8 bl) (hlen : bl.length ≤ 2000) (hk : k = (closed (partsOf bl)).length) : CallF (fun _ => Try.prog) 8 [.p (.str fun _ => z)] [] 0
    (fun r h n' => ∃ L' : List PV, r = .sl 0 9 1 (.lit 0) (.sym k) ∧ h = [(0, .pure true L')] ∧ n' = 1 ∧ L' = spv (closed (partsOf bl))) := by
  obtain ⟨N, hN⟩ : ∃ N : Int, N = bl.length := ⟨_, rfl⟩
  have hzs : (z.size : Int) = N := by rw [hz, bol_size, hN]
  have hlow : ∀ c ∈ bl, c.toNat < 128 := fun c hc => by have := hg c hc; omega
  obtain ⟨cl, hcl⟩ : ∃ cl : List UInt8 → Int, ∀ l, cl l = l.length := ⟨_, fun _ => rfl⟩
  obtain ⟨ll, hll⟩ : ∃ ll : List (List UInt8) → Int, ∀ l, ll l = l.length := ⟨_, fun _ => rfl⟩
  have cl0 : cl [] = 0 := by rw [hcl]; rfl
  have ll0 : ll [] = 0 := by rw [hll]; rfl
  have s0 : partsOf (bl.take (0 : Int).toNat) = ([], []) := rfl
  have b0 : bytesPV (bytesOfL []) = [] := rfl
  refine callF_of_body tok Try.func8 (by kernel_rfl) rfl rfl rfl ?_; conv => cbv
  refine LoopF.mk (fun kk s => ∃ (pos j q : Int) (M LL : List PV) (ls : List (List UInt8)) (cur : List UInt8), s = ⟨.p (.str fun _ => z) :: (undefs 2 ++ .sl 3 9 1 (.lit 0) (.sym j) :: .ptr 0 (.lit 0) :: (undefs 2 ++ .p (.str fun _ => z) :: .ptr 1 (.lit 0) :: undefs 17)), [(1, .iter (fun _ => z) (.sym pos)), (0, .bld 40 [.sl 2 5 1 (.lit 0) (.sym q)]), (2, .pure true M), (3, .pure true LL)], 4⟩ ∧ partsOf (bl.take pos.toNat) = (ls, cur) ∧ M = bytesPV (bytesOfL cur) ∧ q = cl cur ∧ LL = spv ls ∧ j = ll ls ∧ 0 ≤ pos ∧ pos ≤ N ∧ kk = (N - pos).toNat) N.toNat _
    (Re.of [(0, 0), (1, 1)] [2, 3] (by first | exact Nat.zero_le _ | exact Nat.le_refl _ | decide | (dsimp only; decide)) rfl rfl (by (try (conv => cbv)); (repeat' (first | exact trivial | rfl | exact SEq.mk rfl | (exact SEq.mk (by first | assumption | (symm; assumption))) | (simp only [I.val]; done) | (simp only [I.val]; omega) | omega | assumption | (refine And.intro ?_ ?_) | exact Or.inl rfl | exact Or.inr (by assumption) | exact List.Mem.head _ | exact List.Mem.tail _ (List.Mem.head _) | exact ⟨_, rfl⟩ | exact ⟨_, rfl, Or.inl rfl⟩ | (refine ⟨_, rfl, Or.inr ?_⟩; (try (conv => cbv))) | (simp only [I.val] at *; first | omega | (subst_vars; rfl) | simp_all) | (refine Or.inr ?_; (try (conv => cbv)))))) (by (try (conv => cbv)); (repeat' (first | exact trivial | rfl | exact SEq.mk rfl | (exact SEq.mk (by first | assumption | (symm; assumption))) | (simp only [I.val]; done) | (simp only [I.val]; omega) | omega | assumption | (refine And.intro ?_ ?_) | exact Or.inl rfl | exact Or.inr (by assumption) | exact List.Mem.head _ | exact List.Mem.tail _ (List.Mem.head _) | exact ⟨_, rfl⟩ | exact ⟨_, rfl, Or.inl rfl⟩ | (refine ⟨_, rfl, Or.inr ?_⟩; (try (conv => cbv))) | (simp only [I.val] at *; first | omega | (subst_vars; rfl) | simp_all) | (refine Or.inr ?_; (try (conv => cbv))))))) ⟨0, 0, 0, [], [], [], [], rfl, s0, b0.symm, cl0.symm, rfl, ll0.symm, by omega, by omega, by omega⟩ ?_
  clear s0 b0
  rintro kk s ⟨pos, j, q, M, LL, ls, cur, rfl, hst, hM, hq, hLL, hj, h0, h1, hkk⟩
  have hle := parts_le (bl.take pos.toNat)
  rw [hst] at hle
  have htl : (bl.take pos.toNat).length ≤ 2000 := by rw [List.length_take]; omega
  have hls2 : ls.length ≤ 2000 := by dsimp only at hle; omega
  have hcu2 : cur.length ≤ 2000 := by dsimp only at hle; omega
  clear hle htl
  obtain ⟨y, hy⟩ : ∃ y, y = bytesOfL cur := ⟨_, rfl⟩
  have hM2 : M = bytesPV y := by rw [hM, hy]
  have hq2 : q = y.size := by rw [hq, hcl, hy, bol_size]
  have hys : y.size ≤ 2000 := by rw [hy, bol_size]; exact hcu2
  have hjl : (LL.length : Int) = j := by rw [hLL, spv_length, hj, hll]
  have hjb : j ≤ 100000 := by rw [hj, hll]; omega
  conv => cbv
  by_cases hend : pos = N
  · have hfull : bl.take pos.toNat = bl := List.take_of_length_le (by omega)
    rw [hfull] at hst
    refine NextS.over (by show (z.size : Int) ≤ pos; omega) ?_
    conv => cbv
    refine callF_frame (string_lx q M y hM2 hq2) [(0, 0), (1, 2)] rfl (by simp [hmapOk, nget, hget, renB, okB, renV, renVs, rn, okVs, okV]) rfl rfl (fun r h' n' ⟨e1, e2, e3⟩ => ?_)
    subst e1 e2 e3
    conv => cbv
    by_cases hc0 : cur = []
    · have hcl2 : closed (partsOf bl) = ls := by rw [hst, closed, if_pos hc0]
      have hkj : j = k := by rw [hk, hcl2, hj, hll]
      have hy0 : y = ⟨#[]⟩ := by rw [hy]; exact (bol_nil cur).2 hc0
      refine callF_frame (withLine_none j LL y hy0) [(0, 3)] rfl (by simp [hmapOk, nget, hget, renB, okB, renV, renVs, rn, okVs, okV]) rfl rfl (fun r h' n' ⟨e1, e2, e3⟩ => ?_)
      subst e1 e2 e3
      conv => cbv
      refine RetF.mk [.sl 0 9 1 (.lit 0) (.sym k)] [(0, .pure true LL)] 1 (Re.of [(3, 0)] [] (by first | exact Nat.zero_le _ | exact Nat.le_refl _ | decide | (dsimp only; decide)) rfl rfl (by (try (conv => cbv)); (repeat' (first | exact trivial | rfl | exact SEq.mk rfl | (exact SEq.mk (by first | assumption | (symm; assumption))) | (simp only [I.val]; done) | (simp only [I.val]; omega) | omega | assumption | (refine And.intro ?_ ?_) | exact Or.inl rfl | exact Or.inr (by assumption) | exact List.Mem.head _ | exact List.Mem.tail _ (List.Mem.head _) | exact ⟨_, rfl⟩ | exact ⟨_, rfl, Or.inl rfl⟩ | (refine ⟨_, rfl, Or.inr ?_⟩; (try (conv => cbv))) | (simp only [I.val] at *; first | omega | (subst_vars; rfl) | simp_all) | (refine Or.inr ?_; (try (conv => cbv)))))) (by (try (conv => cbv)); (repeat' (first | exact trivial | rfl | exact SEq.mk rfl | (exact SEq.mk (by first | assumption | (symm; assumption))) | (simp only [I.val]; done) | (simp only [I.val]; omega) | omega | assumption | (refine And.intro ?_ ?_) | exact Or.inl rfl | exact Or.inr (by assumption) | exact List.Mem.head _ | exact List.Mem.tail _ (List.Mem.head _) | exact ⟨_, rfl⟩ | exact ⟨_, rfl, Or.inl rfl⟩ | (refine ⟨_, rfl, Or.inr ?_⟩; (try (conv => cbv))) | (simp only [I.val] at *; first | omega | (subst_vars; rfl) | simp_all) | (refine Or.inr ?_; (try (conv => cbv))))))) rfl ⟨LL, rfl, rfl, rfl, by rw [hLL, hcl2]⟩
    · have hcl2 : closed (partsOf bl) = ls ++ [cur] := by rw [hst, closed, if_neg hc0]
      have hkj : k = j + 1 := by rw [hk, hcl2, hj, hll, List.length_append]; rfl
      have hy0 : ¬ y = ⟨#[]⟩ := by rw [hy]; exact fun h => hc0 ((bol_nil cur).1 h)
      obtain ⟨L9, hL9⟩ : ∃ L9, L9 = LL ++ [.str fun _ => y] := ⟨_, rfl⟩
      have hL9s : L9 = spv (closed (partsOf bl)) := by rw [hL9, hLL, hcl2, hy, spv_app]
      refine callF_frame (withLine_some j k LL L9 y hy0 hjl hjb hkj hL9) [(0, 3)] rfl (by simp [hmapOk, nget, hget, renB, okB, renV, renVs, rn, okVs, okV]) rfl rfl (fun r h' n' ⟨e1, e2, e3⟩ => ?_)
      subst e1 e2 e3
      conv => cbv
      refine RetF.mk [.sl 0 9 1 (.lit 0) (.sym k)] [(0, .pure true L9)] 1 (Re.of [(4, 0)] [] (by first | exact Nat.zero_le _ | exact Nat.le_refl _ | decide | (dsimp only; decide)) rfl rfl (by (try (conv => cbv)); (repeat' (first | exact trivial | rfl | exact SEq.mk rfl | (exact SEq.mk (by first | assumption | (symm; assumption))) | (simp only [I.val]; done) | (simp only [I.val]; omega) | omega | assumption | (refine And.intro ?_ ?_) | exact Or.inl rfl | exact Or.inr (by assumption) | exact List.Mem.head _ | exact List.Mem.tail _ (List.Mem.head _) | exact ⟨_, rfl⟩ | exact ⟨_, rfl, Or.inl rfl⟩ | (refine ⟨_, rfl, Or.inr ?_⟩; (try (conv => cbv))) | (simp only [I.val] at *; first | omega | (subst_vars; rfl) | simp_all) | (refine Or.inr ?_; (try (conv => cbv)))))) (by (try (conv => cbv)); (repeat' (first | exact trivial | rfl | exact SEq.mk rfl | (exact SEq.mk (by first | assumption | (symm; assumption))) | (simp only [I.val]; done) | (simp only [I.val]; omega) | omega | assumption | (refine And.intro ?_ ?_) | exact Or.inl rfl | exact Or.inr (by assumption) | exact List.Mem.head _ | exact List.Mem.tail _ (List.Mem.head _) | exact ⟨_, rfl⟩ | exact ⟨_, rfl, Or.inl rfl⟩ | (refine ⟨_, rfl, Or.inr ?_⟩; (try (conv => cbv))) | (simp only [I.val] at *; first | omega | (subst_vars; rfl) | simp_all) | (refine Or.inr ?_; (try (conv => cbv))))))) rfl ⟨L9, rfl, rfl, rfl, hL9s⟩
  · obtain ⟨c, hc⟩ : ∃ c, bl[pos.toNat]? = some c := ⟨_, List.getElem?_eq_getElem (by omega)⟩
    have hd := dec_at bl hlow pos.toNat c hc
    have hcg := hg c (List.mem_of_getElem? hc)
    obtain ⟨k', rfl⟩ : ∃ k', kk = k' + 1 := ⟨kk - 1, by omega⟩
    refine NextS.more (by show pos < (z.size : Int); omega) ?_
    intro r p' hr hp
    have hr : r = (c.toNat : Int) := by
      have : r = ((Utf8.decode z pos.toNat).1 : Int) := hr
      rw [this, hz, bytesOfL, hd]
    have hp : p' = pos + 1 := by
      have : p' = pos + ((Utf8.decode z pos.toNat).2 : Int) := hp
      rw [this, hz, bytesOfL, hd]; rfl
    have hnext : partsOf (bl.take p'.toNat) = partStep (ls, cur) c := by
      rw [show p'.toNat = pos.toNat + 1 by omega, List.take_add_one, hc, ← hst]
      exact parts_snoc _ _
    conv => cbv
    refine Br.mk (fun g => ?_) (fun g => ?_)
    · have g : r = 10 := g
      have hc10 : c = 10 := UInt8.toNat_inj.1 (by show c.toNat = 10; omega)
      rw [hc10, step10] at hnext
      conv => cbv
      refine callF_frame (string_lx q M y hM2 hq2) [(0, 0), (1, 2)] rfl (by simp [hmapOk, nget, hget, renB, okB, renV, renVs, rn, okVs, okV]) rfl rfl (fun r h' n' ⟨e1, e2, e3⟩ => ?_)
      subst e1 e2 e3
      conv => cbv
      by_cases hc0 : cur = []
      · have hy0 : y = ⟨#[]⟩ := by rw [hy]; exact (bol_nil cur).2 hc0
        rw [if_pos hc0] at hnext
        refine callF_frame (withLine_none j LL y hy0) [(0, 3)] rfl (by simp [hmapOk, nget, hget, renB, okB, renV, renVs, rn, okVs, okV]) rfl rfl (fun r h' n' ⟨e1, e2, e3⟩ => ?_)
        subst e1 e2 e3
        conv => cbv
        refine callF_frame (reset_lx q M) [(0, 0)] rfl (by simp [hmapOk, nget, hget, renB, okB, renV, renVs, rn, okVs, okV]) rfl rfl (fun r h' n' ⟨e1, e2, e3⟩ => ?_)
        subst e1 e2 e3
        conv => cbv
        refine Again.mk k' _ (Nat.lt_succ_self _) (Re.of [(0, 0), (1, 1), (3, 3)] [2] (by first | exact Nat.zero_le _ | exact Nat.le_refl _ | decide | (dsimp only; decide)) rfl rfl (by (try (conv => cbv)); (repeat' (first | exact trivial | rfl | exact SEq.mk rfl | (exact SEq.mk (by first | assumption | (symm; assumption))) | (simp only [I.val]; done) | (simp only [I.val]; omega) | omega | assumption | (refine And.intro ?_ ?_) | exact Or.inl rfl | exact Or.inr (by assumption) | exact List.Mem.head _ | exact List.Mem.tail _ (List.Mem.head _) | exact ⟨_, rfl⟩ | exact ⟨_, rfl, Or.inl rfl⟩ | (refine ⟨_, rfl, Or.inr ?_⟩; (try (conv => cbv))) | (simp only [I.val] at *; first | omega | (subst_vars; rfl) | simp_all) | (refine Or.inr ?_; (try (conv => cbv)))))) (by (try (conv => cbv)); (repeat' (first | exact trivial | rfl | exact SEq.mk rfl | (exact SEq.mk (by first | assumption | (symm; assumption))) | (simp only [I.val]; done) | (simp only [I.val]; omega) | omega | assumption | (refine And.intro ?_ ?_) | exact Or.inl rfl | exact Or.inr (by assumption) | exact List.Mem.head _ | exact List.Mem.tail _ (List.Mem.head _) | exact ⟨_, rfl⟩ | exact ⟨_, rfl, Or.inl rfl⟩ | (refine ⟨_, rfl, Or.inr ?_⟩; (try (conv => cbv))) | (simp only [I.val] at *; first | omega | (subst_vars; rfl) | simp_all) | (refine Or.inr ?_; (try (conv => cbv))))))) ⟨p', j, 0, [], LL, ls, [], rfl, hnext, rfl, cl0.symm, hLL, hj, by omega, by omega, by omega⟩
      · have hy0 : ¬ y = ⟨#[]⟩ := by rw [hy]; exact fun h => hc0 ((bol_nil cur).1 h)
        rw [if_neg hc0] at hnext
        obtain ⟨L9, hL9⟩ : ∃ L9, L9 = LL ++ [.str fun _ => y] := ⟨_, rfl⟩
        have hL9s : L9 = spv (ls ++ [cur]) := by rw [hL9, hLL, hy, spv_app]
        obtain ⟨j9, hj9⟩ : ∃ j9, j9 = j + 1 := ⟨_, rfl⟩
        have hj9l : j9 = ll (ls ++ [cur]) := by rw [hj9, hj, hll, hll, List.length_append]; rfl
        refine callF_frame (withLine_some j j9 LL L9 y hy0 hjl hjb hj9 hL9) [(0, 3)] rfl (by simp [hmapOk, nget, hget, renB, okB, renV, renVs, rn, okVs, okV]) rfl rfl (fun r h' n' ⟨e1, e2, e3⟩ => ?_)
        subst e1 e2 e3
        conv => cbv
        refine callF_frame (reset_lx q M) [(0, 0)] rfl (by simp [hmapOk, nget, hget, renB, okB, renV, renVs, rn, okVs, okV]) rfl rfl (fun r h' n' ⟨e1, e2, e3⟩ => ?_)
        subst e1 e2 e3
        conv => cbv
        refine Again.mk k' _ (Nat.lt_succ_self _) (Re.of [(0, 0), (1, 1), (4, 3)] [2] (by first | exact Nat.zero_le _ | exact Nat.le_refl _ | decide | (dsimp only; decide)) rfl rfl (by (try (conv => cbv)); (repeat' (first | exact trivial | rfl | exact SEq.mk rfl | (exact SEq.mk (by first | assumption | (symm; assumption))) | (simp only [I.val]; done) | (simp only [I.val]; omega) | omega | assumption | (refine And.intro ?_ ?_) | exact Or.inl rfl | exact Or.inr (by assumption) | exact List.Mem.head _ | exact List.Mem.tail _ (List.Mem.head _) | exact ⟨_, rfl⟩ | exact ⟨_, rfl, Or.inl rfl⟩ | (refine ⟨_, rfl, Or.inr ?_⟩; (try (conv => cbv))) | (simp only [I.val] at *; first | omega | (subst_vars; rfl) | simp_all) | (refine Or.inr ?_; (try (conv => cbv)))))) (by (try (conv => cbv)); (repeat' (first | exact trivial | rfl | exact SEq.mk rfl | (exact SEq.mk (by first | assumption | (symm; assumption))) | (simp only [I.val]; done) | (simp only [I.val]; omega) | omega | assumption | (refine And.intro ?_ ?_) | exact Or.inl rfl | exact Or.inr (by assumption) | exact List.Mem.head _ | exact List.Mem.tail _ (List.Mem.head _) | exact ⟨_, rfl⟩ | exact ⟨_, rfl, Or.inl rfl⟩ | (refine ⟨_, rfl, Or.inr ?_⟩; (try (conv => cbv))) | (simp only [I.val] at *; first | omega | (subst_vars; rfl) | simp_all) | (refine Or.inr ?_; (try (conv => cbv))))))) ⟨p', j9, 0, [], L9, ls ++ [cur], [], rfl, hnext, rfl, cl0.symm, hL9s, hj9l, by omega, by omega, by omega⟩
    · have g : ¬ r = 10 := g
      conv => cbv
      refine Br.mk (fun g2 => ?_) (fun g2 => ?_)
      · have g2 : r = 32 := g2
        have hc32 : c = 32 := UInt8.toNat_inj.1 (by show c.toNat = 32; omega)
        rw [hc32, step32] at hnext
        conv => cbv
        refine Again.mk k' _ (Nat.lt_succ_self _) (Re.of [(0, 0), (1, 1), (2, 2), (3, 3)] [] (by first | exact Nat.zero_le _ | exact Nat.le_refl _ | decide | (dsimp only; decide)) rfl rfl (by (try (conv => cbv)); (repeat' (first | exact trivial | rfl | exact SEq.mk rfl | (exact SEq.mk (by first | assumption | (symm; assumption))) | (simp only [I.val]; done) | (simp only [I.val]; omega) | omega | assumption | (refine And.intro ?_ ?_) | exact Or.inl rfl | exact Or.inr (by assumption) | exact List.Mem.head _ | exact List.Mem.tail _ (List.Mem.head _) | exact ⟨_, rfl⟩ | exact ⟨_, rfl, Or.inl rfl⟩ | (refine ⟨_, rfl, Or.inr ?_⟩; (try (conv => cbv))) | (simp only [I.val] at *; first | omega | (subst_vars; rfl) | simp_all) | (refine Or.inr ?_; (try (conv => cbv)))))) (by (try (conv => cbv)); (repeat' (first | exact trivial | rfl | exact SEq.mk rfl | (exact SEq.mk (by first | assumption | (symm; assumption))) | (simp only [I.val]; done) | (simp only [I.val]; omega) | omega | assumption | (refine And.intro ?_ ?_) | exact Or.inl rfl | exact Or.inr (by assumption) | exact List.Mem.head _ | exact List.Mem.tail _ (List.Mem.head _) | exact ⟨_, rfl⟩ | exact ⟨_, rfl, Or.inl rfl⟩ | (refine ⟨_, rfl, Or.inr ?_⟩; (try (conv => cbv))) | (simp only [I.val] at *; first | omega | (subst_vars; rfl) | simp_all) | (refine Or.inr ?_; (try (conv => cbv))))))) ⟨p', j, q, M, LL, ls, cur, rfl, hnext, hM, hq, hLL, hj, by omega, by omega, by omega⟩
      · have g2 : ¬ r = 32 := g2
        rw [step_else ls cur c (by rintro rfl; exact g (by rw [hr]; rfl)) (by rintro rfl; exact g2 (by rw [hr]; rfl))] at hnext
        conv => cbv
        refine callF_frame (writeRune_lx q r M y hM2 hq2 (by omega) (by omega) (by omega)) [(0, 0), (1, 2)] rfl (by simp [hmapOk, nget, hget, renB, okB, renV, renVs, rn, okVs, okV]) rfl rfl (fun r h' n' ⟨m2, k2, L2, e1, e2, e3, hL2, hk2⟩ => ?_)
        subst e1 e2 e3
        conv => cbv
        have hch : r.toNat.toUInt8 = c := by rw [hr, Int.toNat_natCast]; exact UInt8.ofNat_toNat
        have hyc : y ++ ⟨#[c]⟩ = bytesOfL (cur ++ [c]) := by rw [hy, bol_app]
        rw [hch, hyc] at hL2 hk2
        have hk3 : k2 = cl (cur ++ [c]) := by rw [hk2, bol_size, hcl]
        refine Again.mk k' _ (Nat.lt_succ_self _) (Re.of [(0, 0), (1, 1), (4, 2), (3, 3)] [] (by first | exact Nat.zero_le _ | exact Nat.le_refl _ | decide | (dsimp only; decide)) rfl rfl (by (try (conv => cbv)); (repeat' (first | exact trivial | rfl | exact SEq.mk rfl | (exact SEq.mk (by first | assumption | (symm; assumption))) | (simp only [I.val]; done) | (simp only [I.val]; omega) | omega | assumption | (refine And.intro ?_ ?_) | exact Or.inl rfl | exact Or.inr (by assumption) | exact List.Mem.head _ | exact List.Mem.tail _ (List.Mem.head _) | exact ⟨_, rfl⟩ | exact ⟨_, rfl, Or.inl rfl⟩ | (refine ⟨_, rfl, Or.inr ?_⟩; (try (conv => cbv))) | (simp only [I.val] at *; first | omega | (subst_vars; rfl) | simp_all) | (refine Or.inr ?_; (try (conv => cbv)))))) (by (try (conv => cbv)); (repeat' (first | exact trivial | rfl | exact SEq.mk rfl | (exact SEq.mk (by first | assumption | (symm; assumption))) | (simp only [I.val]; done) | (simp only [I.val]; omega) | omega | assumption | (refine And.intro ?_ ?_) | exact Or.inl rfl | exact Or.inr (by assumption) | exact List.Mem.head _ | exact List.Mem.tail _ (List.Mem.head _) | exact ⟨_, rfl⟩ | exact ⟨_, rfl, Or.inl rfl⟩ | (refine ⟨_, rfl, Or.inr ?_⟩; (try (conv => cbv))) | (simp only [I.val] at *; first | omega | (subst_vars; rfl) | simp_all) | (refine Or.inr ?_; (try (conv => cbv))))))) ⟨p', j, k2, L2, LL, ls, cur ++ [c], rfl, hnext, hL2, hk3, hLL, hj, by omega, by omega, by omega⟩
end Go.Proofs.Ytceijllbkmobkaa
