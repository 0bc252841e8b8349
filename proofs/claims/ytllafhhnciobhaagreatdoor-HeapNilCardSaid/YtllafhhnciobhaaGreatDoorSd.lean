/-
  Layer 6: what is given back.
-/
import Derived.Test.YtllafhhnciobhaaGreatDoorSc

namespace Go.Proofs.YtllafhhnciobhaaGreatDoor

open Go Go.LX
set_option maxRecDepth 100000
set_option linter.unusedVariables false
set_option linter.unusedSimpArgs false

theorem used_no_lx (R : List Rw) (n i j d : Int) (m : List Bool) (L : List PV) (hL : L = rpv R) (hn : n = R.length) (hi0 : 0 ≤ i) (hi : R[i.toNat]? = some (d, m)) (hm : m.length ≤ 8) (hj : 0 ≤ j → m[j.toNat]? ≠ some true) : CallF (fun _ => Tryz.prog) 58 [.ptr 0 (.lit 0), .p (.int .i64 (.sym i)), .p (.int .i64 (.sym j))] [(0, .mix [.sl 1 101 2 (.lit 0) (.sym n)]), (1, .pure true L)] 2
    (fun r h n' => r = .p (.bool false) ∧ h = [(0, .mix [.sl 1 101 2 (.lit 0) (.sym n)]), (1, .pure true L)] ∧ n' = 2) := by
  have hiR : i.toNat < R.length := (List.getElem?_eq_some_iff.1 hi).1
  obtain ⟨y, hy⟩ : ∃ y : ByteArray, y = ⟨(mkB m).toArray⟩ := ⟨_, rfl⟩
  obtain ⟨c1, c2⟩ := rpv_get R i.toNat _ hi
  dsimp only at c1 c2
  rw [← hL] at c1 c2
  rw [← hy] at c2
  refine callF_of_body tok Tryz.func58 (by kernel_rfl) rfl rfl rfl ?_; conv => cbv
  refine callF_frame (has_lx n i L hi0 (by omega)) [(0, 0), (1, 1)] rfl (by simp [hmapOk, nget, hget, renB, okB, renV, renVs, rn, okVs, okV]) rfl rfl (fun r h' n' ⟨e1, e2, e3⟩ => ?_)
  subst e1 e2 e3
  conv => cbv
  refine Need.mk ⟨hi0, by show i < n; omega⟩ ?_
  conv => cbv
  refine Sum.mk fun w hw => ?_
  have hw : w = i * 2 := hw
  conv => cbv
  refine Sum.mk fun a ha => ?_
  have ha : a = w + 1 := ha
  conv => cbv
  refine Cell.at a _ c2 (by simp [I.val]) (by omega) ?_
  conv => cbv
  obtain ⟨N, hN⟩ : ∃ N : Int, N = m.length := ⟨_, rfl⟩
  have hys : (y.size : Int) = N := by rw [hy, mk_size, mkB_length, hN]
  refine LoopF.mk (fun k s => ∃ pos : Int, s = ⟨.ptr 0 (.lit 0) :: .p (.int .i64 (.sym i)) :: .p (.int .i64 (.sym j)) :: (undefs 18 ++ .ptr 2 (.lit 0) :: undefs 9), [(2, .iter (fun _ => y) (.sym pos)), (0, .mix [.sl 1 101 2 (.lit 0) (.sym n)]), (1, .pure true L)], 3⟩ ∧ 0 ≤ pos ∧ pos ≤ N ∧ (j < 0 ∨ pos ≤ j) ∧ k = (N - pos).toNat) N.toNat _
    (Re.of [(0, 0), (1, 1), (2, 2)] [] (by first | exact Nat.zero_le _ | exact Nat.le_refl _ | decide | (dsimp only; decide)) rfl rfl (by (try (conv => cbv)); (repeat' (first | exact trivial | rfl | exact SEq.mk rfl | (exact SEq.mk (by first | assumption | (symm; assumption))) | (simp only [I.val]; done) | (simp only [I.val]; omega) | omega | assumption | (refine And.intro ?_ ?_) | exact Or.inl rfl | exact Or.inr (by assumption) | exact List.Mem.head _ | exact List.Mem.tail _ (List.Mem.head _) | exact ⟨_, rfl⟩ | exact ⟨_, rfl, Or.inl rfl⟩ | (refine ⟨_, rfl, Or.inr ?_⟩; (try (conv => cbv))) | (simp only [I.val] at *; first | omega | (subst_vars; rfl) | simp_all) | (refine Or.inr ?_; (try (conv => cbv)))))) (by (try (conv => cbv)); (repeat' (first | exact trivial | rfl | exact SEq.mk rfl | (exact SEq.mk (by first | assumption | (symm; assumption))) | (simp only [I.val]; done) | (simp only [I.val]; omega) | omega | assumption | (refine And.intro ?_ ?_) | exact Or.inl rfl | exact Or.inr (by assumption) | exact List.Mem.head _ | exact List.Mem.tail _ (List.Mem.head _) | exact ⟨_, rfl⟩ | exact ⟨_, rfl, Or.inl rfl⟩ | (refine ⟨_, rfl, Or.inr ?_⟩; (try (conv => cbv))) | (simp only [I.val] at *; first | omega | (subst_vars; rfl) | simp_all) | (refine Or.inr ?_; (try (conv => cbv))))))) ⟨0, rfl, by omega, by omega, by omega, by omega⟩ ?_
  rintro k s ⟨pos, rfl, h0, h1, hpj, hk⟩
  conv => cbv
  by_cases hend : pos = N
  · refine NextS.over (by show (y.size : Int) ≤ pos; omega) ?_
    conv => cbv
    refine RetF.mk [.p (.bool false)] [(0, .mix [.sl 1 101 2 (.lit 0) (.sym n)]), (1, .pure true L)] 2 (Re.of [(0, 0), (1, 1)] [] (by first | exact Nat.zero_le _ | exact Nat.le_refl _ | decide | (dsimp only; decide)) rfl rfl (by (try (conv => cbv)); (repeat' (first | exact trivial | rfl | exact SEq.mk rfl | (exact SEq.mk (by first | assumption | (symm; assumption))) | (simp only [I.val]; done) | (simp only [I.val]; omega) | omega | assumption | (refine And.intro ?_ ?_) | exact Or.inl rfl | exact Or.inr (by assumption) | exact List.Mem.head _ | exact List.Mem.tail _ (List.Mem.head _) | exact ⟨_, rfl⟩ | exact ⟨_, rfl, Or.inl rfl⟩ | (refine ⟨_, rfl, Or.inr ?_⟩; (try (conv => cbv))) | (simp only [I.val] at *; first | omega | (subst_vars; rfl) | simp_all) | (refine Or.inr ?_; (try (conv => cbv)))))) (by (try (conv => cbv)); (repeat' (first | exact trivial | rfl | exact SEq.mk rfl | (exact SEq.mk (by first | assumption | (symm; assumption))) | (simp only [I.val]; done) | (simp only [I.val]; omega) | omega | assumption | (refine And.intro ?_ ?_) | exact Or.inl rfl | exact Or.inr (by assumption) | exact List.Mem.head _ | exact List.Mem.tail _ (List.Mem.head _) | exact ⟨_, rfl⟩ | exact ⟨_, rfl, Or.inl rfl⟩ | (refine ⟨_, rfl, Or.inr ?_⟩; (try (conv => cbv))) | (simp only [I.val] at *; first | omega | (subst_vars; rfl) | simp_all) | (refine Or.inr ?_; (try (conv => cbv))))))) rfl ⟨rfl, rfl, rfl⟩
  · obtain ⟨x, hb⟩ : ∃ x, m[pos.toNat]? = some x := ⟨_, List.getElem?_eq_getElem (by omega)⟩
    have hx : (mkB m)[pos.toNat]? = some (if x then 120 else 46) := by rw [mkB, List.getElem?_map, hb]; rfl
    have hd := dec_at (mkB m) (mkB_low m) pos.toNat _ hx
    rw [← hy] at hd
    obtain ⟨k', rfl⟩ : ∃ k', k = k' + 1 := ⟨k - 1, by omega⟩
    refine NextS.more (by show pos < (y.size : Int); omega) ?_
    intro r p' hr hp
    have hr : r = (if x then 120 else 46) := by
      have : r = ((Utf8.decode y pos.toNat).1 : Int) := hr
      rw [this, hd]; cases x <;> rfl
    have hp : p' = pos + 1 := by
      have : p' = pos + ((Utf8.decode y pos.toNat).2 : Int) := hp
      rw [this, hd]; rfl
    conv => cbv
    refine Br.mk (fun g => ?_) (fun g => ?_)
    · have g : pos = j := g
      have hxb : x = false := by
        cases x with
        | false => rfl
        | true => exact absurd (by rw [← g]; exact hb) (hj (by omega))
      conv => cbv
      refine Br.mk (fun g2 => ?_) (fun g2 => ?_)
      · have g2 : r = 120 := g2
        have gf : False := by rw [hxb] at hr; simp at hr; omega
        cases gf
      · have g2 : ¬ r = 120 := g2
        conv => cbv
        refine RetF.mk [.p (.bool false)] [(0, .mix [.sl 1 101 2 (.lit 0) (.sym n)]), (1, .pure true L)] 2 (Re.of [(0, 0), (1, 1)] [] (by first | exact Nat.zero_le _ | exact Nat.le_refl _ | decide | (dsimp only; decide)) rfl rfl (by (try (conv => cbv)); (repeat' (first | exact trivial | rfl | exact SEq.mk rfl | (exact SEq.mk (by first | assumption | (symm; assumption))) | (simp only [I.val]; done) | (simp only [I.val]; omega) | omega | assumption | (refine And.intro ?_ ?_) | exact Or.inl rfl | exact Or.inr (by assumption) | exact List.Mem.head _ | exact List.Mem.tail _ (List.Mem.head _) | exact ⟨_, rfl⟩ | exact ⟨_, rfl, Or.inl rfl⟩ | (refine ⟨_, rfl, Or.inr ?_⟩; (try (conv => cbv))) | (simp only [I.val] at *; first | omega | (subst_vars; rfl) | simp_all) | (refine Or.inr ?_; (try (conv => cbv)))))) (by (try (conv => cbv)); (repeat' (first | exact trivial | rfl | exact SEq.mk rfl | (exact SEq.mk (by first | assumption | (symm; assumption))) | (simp only [I.val]; done) | (simp only [I.val]; omega) | omega | assumption | (refine And.intro ?_ ?_) | exact Or.inl rfl | exact Or.inr (by assumption) | exact List.Mem.head _ | exact List.Mem.tail _ (List.Mem.head _) | exact ⟨_, rfl⟩ | exact ⟨_, rfl, Or.inl rfl⟩ | (refine ⟨_, rfl, Or.inr ?_⟩; (try (conv => cbv))) | (simp only [I.val] at *; first | omega | (subst_vars; rfl) | simp_all) | (refine Or.inr ?_; (try (conv => cbv))))))) rfl ⟨rfl, rfl, rfl⟩
    · have g : ¬ pos = j := g
      conv => cbv
      refine Again.mk k' _ (Nat.lt_succ_self _) (Re.of [(0, 0), (1, 1), (2, 2)] [] (by first | exact Nat.zero_le _ | exact Nat.le_refl _ | decide | (dsimp only; decide)) rfl rfl (by (try (conv => cbv)); (repeat' (first | exact trivial | rfl | exact SEq.mk rfl | (exact SEq.mk (by first | assumption | (symm; assumption))) | (simp only [I.val]; done) | (simp only [I.val]; omega) | omega | assumption | (refine And.intro ?_ ?_) | exact Or.inl rfl | exact Or.inr (by assumption) | exact List.Mem.head _ | exact List.Mem.tail _ (List.Mem.head _) | exact ⟨_, rfl⟩ | exact ⟨_, rfl, Or.inl rfl⟩ | (refine ⟨_, rfl, Or.inr ?_⟩; (try (conv => cbv))) | (simp only [I.val] at *; first | omega | (subst_vars; rfl) | simp_all) | (refine Or.inr ?_; (try (conv => cbv)))))) (by (try (conv => cbv)); (repeat' (first | exact trivial | rfl | exact SEq.mk rfl | (exact SEq.mk (by first | assumption | (symm; assumption))) | (simp only [I.val]; done) | (simp only [I.val]; omega) | omega | assumption | (refine And.intro ?_ ?_) | exact Or.inl rfl | exact Or.inr (by assumption) | exact List.Mem.head _ | exact List.Mem.tail _ (List.Mem.head _) | exact ⟨_, rfl⟩ | exact ⟨_, rfl, Or.inl rfl⟩ | (refine ⟨_, rfl, Or.inr ?_⟩; (try (conv => cbv))) | (simp only [I.val] at *; first | omega | (subst_vars; rfl) | simp_all) | (refine Or.inr ?_; (try (conv => cbv))))))) ⟨p', rfl, by omega, by omega, by omega, by omega⟩
theorem free_no_lx (R : List Rw) (n i j d : Int) (m : List Bool) (L : List PV) (hL : L = rpv R) (hn : n = R.length) (hi0 : 0 ≤ i) (hi : R[i.toNat]? = some (d, m)) (hm : m.length ≤ 8) (hj : 0 ≤ j → m[j.toNat]? ≠ some true) : CallF (fun _ => Tryz.prog) 105 [.ptr 0 (.lit 0), .p (.int .i64 (.sym i)), .p (.int .i64 (.sym j))] [(0, .mix [.sl 1 101 2 (.lit 0) (.sym n)]), (1, .pure true L)] 2
    (fun r h n' => r = .p (.bool false) ∧ h = [(0, .mix [.sl 1 101 2 (.lit 0) (.sym n)]), (1, .pure true L)] ∧ n' = 2) := by
  refine callF_of_body tok Tryz.func105 (by kernel_rfl) rfl rfl rfl ?_; conv => cbv
  refine callF_frame (used_no_lx R n i j d m L hL hn hi0 hi hm hj) [(0, 0), (1, 1)] rfl (by simp [hmapOk, nget, hget, renB, okB, renV, renVs, rn, okVs, okV]) rfl rfl (fun r h' n' ⟨e1, e2, e3⟩ => ?_)
  subst e1 e2 e3
  conv => cbv
  refine RetF.mk [.p (.bool false)] [(0, .mix [.sl 1 101 2 (.lit 0) (.sym n)]), (1, .pure true L)] 2 (Re.of [(0, 0), (1, 1)] [] (by first | exact Nat.zero_le _ | exact Nat.le_refl _ | decide | (dsimp only; decide)) rfl rfl (by (try (conv => cbv)); (repeat' (first | exact trivial | rfl | exact SEq.mk rfl | (exact SEq.mk (by first | assumption | (symm; assumption))) | (simp only [I.val]; done) | (simp only [I.val]; omega) | omega | assumption | (refine And.intro ?_ ?_) | exact Or.inl rfl | exact Or.inr (by assumption) | exact List.Mem.head _ | exact List.Mem.tail _ (List.Mem.head _) | exact ⟨_, rfl⟩ | exact ⟨_, rfl, Or.inl rfl⟩ | (refine ⟨_, rfl, Or.inr ?_⟩; (try (conv => cbv))) | (simp only [I.val] at *; first | omega | (subst_vars; rfl) | simp_all) | (refine Or.inr ?_; (try (conv => cbv)))))) (by (try (conv => cbv)); (repeat' (first | exact trivial | rfl | exact SEq.mk rfl | (exact SEq.mk (by first | assumption | (symm; assumption))) | (simp only [I.val]; done) | (simp only [I.val]; omega) | omega | assumption | (refine And.intro ?_ ?_) | exact Or.inl rfl | exact Or.inr (by assumption) | exact List.Mem.head _ | exact List.Mem.tail _ (List.Mem.head _) | exact ⟨_, rfl⟩ | exact ⟨_, rfl, Or.inl rfl⟩ | (refine ⟨_, rfl, Or.inr ?_⟩; (try (conv => cbv))) | (simp only [I.val] at *; first | omega | (subst_vars; rfl) | simp_all) | (refine Or.inr ?_; (try (conv => cbv))))))) rfl ⟨rfl, rfl, rfl⟩
theorem pvles_self : ∀ l : List PV, pvles l l
  | [] => trivial
  | x :: l => ⟨pvle_refl x, pvles_self l⟩
theorem rpv_upd0 : ∀ (R : List Rw) (i : Nat), i < R.length → pvles (updL (rpv R) (2 * i) [.int .i64 (.lit 0), .str fun _ => ⟨#[]⟩]) (rpv (R.set i (0, [])))
  | [], i, h => by simp at h
  | (c, l) :: R, 0, _ => ⟨by simp [pvle, I.val], SEq.mk rfl, pvles_self _⟩
  | (c, l) :: R, i + 1, h => by
    have ih := rpv_upd0 R i (by simpa using h)
    exact ⟨pvle_refl _, pvle_refl _, ih⟩
/-- A slot given back: the last one leaves a row of nothing. -/
def freed (R : List Rw) (i : Nat) (d : Int) (m : List Bool) : List Rw := R.set i (if m.count true = 0 then (0, []) else (d, m))
set_option maxHeartbeats 2000000 in
theorem free_lx (R R' : List Rw) (n i j d : Int) (m : List Bool) (L : List PV) (hL : L = rpv R) (hn : n = R.length) (hR : R.length ≤ 1000) (hi0 : 0 ≤ i) (hi : R[i.toNat]? = some (d, m)) (hm : m.length ≤ 8) (hj0 : 0 ≤ j) (hj : m[j.toNat]? = some true) (hR' : R' = freed R i.toNat d (m.set j.toNat false)) :
    CallF (fun _ => Tryz.prog) 105 [.ptr 0 (.lit 0), .p (.int .i64 (.sym i)), .p (.int .i64 (.sym j))] [(0, .mix [.sl 1 101 2 (.lit 0) (.sym n)]), (1, .pure true L)] 2
      (fun r h n' => ∃ L' : List PV, r = .p (.bool true) ∧ h = [(0, .mix [.sl 1 101 2 (.lit 0) (.sym n)]), (1, .pure true L')] ∧ n' = 2 ∧ L' = rpv R') := by
  have hiR : i.toNat < R.length := (List.getElem?_eq_some_iff.1 hi).1
  obtain ⟨m2, hm2⟩ : ∃ m2, m2 = m.set j.toNat false := ⟨_, rfl⟩
  have hm2l : m2.length ≤ 8 := by rw [hm2, List.length_set]; exact hm
  obtain ⟨R2, hR2⟩ : ∃ R2, R2 = R.set i.toNat (d, m2) := ⟨_, rfl⟩
  have hR2i : R2[i.toNat]? = some (d, m2) := by rw [hR2, List.getElem?_set_self hiR]
  have hR2l : R2.length = R.length := by rw [hR2, List.length_set]
  obtain ⟨y, hy⟩ : ∃ y : ByteArray, y = ⟨(mkB m2).toArray⟩ := ⟨_, rfl⟩
  refine callF_of_body tok Tryz.func105 (by kernel_rfl) rfl rfl rfl ?_; conv => cbv
  refine callF_frame (used_lx R n i j d m L hL hn hi0 hi true hj0 hj) [(0, 0), (1, 1)] rfl (by simp [hmapOk, nget, hget, renB, okB, renV, renVs, rn, okVs, okV]) rfl rfl (fun r h' n' ⟨e1, e2, e3⟩ => ?_)
  subst e1 e2 e3
  conv => cbv
  refine CallF.le (args0 := [.ptr 0 (.lit 0), .p (.int .i64 (.sym i)), .p (.int .i64 (.sym j)), .p (.int .i32 (.sym 46))]) (callF_frame (mark_lx R n i j 46 d m L hL hn hi0 hi hm hR false rfl) [(0, 0), (1, 1)] rfl (by simp [hmapOk, nget, hget, renB, okB, renV, renVs, rn, okVs, okV]) rfl rfl (fun r h' n' hrr => ?_)) (by simp [ales, ale, pvle, I.val])
  obtain ⟨L2, e1, e2, e3, hL2⟩ := hrr
  rw [if_pos hj0, ← hm2, ← hR2] at hL2
  subst e1 e2 e3
  obtain ⟨c1, c2⟩ := rpv_get R2 i.toNat _ hR2i
  dsimp only at c1 c2
  rw [← hL2] at c1 c2
  rw [← hy] at c2
  have hL2l : L2.length = 2 * R.length := by rw [hL2, rpv_length, hR2l]
  conv => cbv
  refine Need.mk ⟨hi0, by show i < n; omega⟩ ?_
  conv => cbv
  refine Sum.mk fun w hw => ?_
  have hw : w = i * 2 := hw
  conv => cbv
  refine Sum.mk fun a ha => ?_
  have ha : a = w + 1 := ha
  conv => cbv
  refine Cell.at a _ c2 (by simp [I.val]) (by omega) ?_
  conv => cbv
  refine callF_val (countUsed_lx m2 y hy (by omega)) (by simp [ales, ale, renVs, renV, pvle_refl]) rfl (fun r ⟨v, hr, _⟩ => by subst hr; rfl) (fun r hrr => ?_)
  obtain ⟨u, hr, hu⟩ := hrr
  subst hr
  conv => cbv
  refine Br.mk (fun g => ?_) (fun g => ?_)
  · have g : u = 0 := g
    have hq : R' = R2.set i.toNat (0, []) := by
      rw [hR', freed, ← hm2, if_pos (by omega), hR2, List.set_set]
    obtain ⟨L9, hL9⟩ : ∃ L9, L9 = rpv R' := ⟨_, rfl⟩
    conv => cbv
    refine Need.mk ⟨hi0, by show i < n; omega⟩ ?_
    conv => cbv
    refine Sum.mk fun w2 hw2 => ?_
    have hw2 : w2 = i * 2 := hw2
    conv => cbv
    refine Need.mk (by show w2 + ((2 : Nat) : Int) ≤ (L2.length : Int); omega) ?_
    conv => cbv
    refine Upd.mk fun L3 hL3 => ?_
    have hL3 : L3 = updL L2 w2.toNat [.int .i64 (.lit 0), .str fun _ => ⟨#[]⟩] := hL3
    have hle : pvles L3 L9 := by
      rw [hL3, hL2, hL9, hq, show w2.toNat = 2 * i.toNat by omega]
      exact rpv_upd0 R2 i.toNat (by omega)
    clear hL3
    unfold pvles at hle
    conv => cbv
    refine RetF.mk [.p (.bool true)] [(0, .mix [.sl 1 101 2 (.lit 0) (.sym n)]), (1, .pure true L9)] 2 (Re.of [(0, 0), (1, 1)] [] (by first | exact Nat.zero_le _ | exact Nat.le_refl _ | decide | (dsimp only; decide)) rfl rfl (by (try (conv => cbv)); (repeat' (first | exact trivial | rfl | exact SEq.mk rfl | (exact SEq.mk (by first | assumption | (symm; assumption))) | (simp only [I.val]; done) | (simp only [I.val]; omega) | omega | assumption | (refine And.intro ?_ ?_) | exact Or.inl rfl | exact Or.inr (by assumption) | exact List.Mem.head _ | exact List.Mem.tail _ (List.Mem.head _) | exact ⟨_, rfl⟩ | exact ⟨_, rfl, Or.inl rfl⟩ | (refine ⟨_, rfl, Or.inr ?_⟩; (try (conv => cbv))) | (simp only [I.val] at *; first | omega | (subst_vars; rfl) | simp_all) | (refine Or.inr ?_; (try (conv => cbv)))))) (by (try (conv => cbv)); (repeat' (first | exact trivial | rfl | exact SEq.mk rfl | (exact SEq.mk (by first | assumption | (symm; assumption))) | (simp only [I.val]; done) | (simp only [I.val]; omega) | omega | assumption | (refine And.intro ?_ ?_) | exact Or.inl rfl | exact Or.inr (by assumption) | exact List.Mem.head _ | exact List.Mem.tail _ (List.Mem.head _) | exact ⟨_, rfl⟩ | exact ⟨_, rfl, Or.inl rfl⟩ | (refine ⟨_, rfl, Or.inr ?_⟩; (try (conv => cbv))) | (simp only [I.val] at *; first | omega | (subst_vars; rfl) | simp_all) | (refine Or.inr ?_; (try (conv => cbv))))))) rfl ⟨L9, rfl, rfl, rfl, hL9⟩
  · have g : ¬ u = 0 := g
    have hq : R' = R2 := by rw [hR', freed, ← hm2, if_neg (by omega), hR2]
    rw [← hq] at hL2
    conv => cbv
    refine RetF.mk [.p (.bool true)] [(0, .mix [.sl 1 101 2 (.lit 0) (.sym n)]), (1, .pure true L2)] 2 (Re.of [(0, 0), (1, 1)] [] (by first | exact Nat.zero_le _ | exact Nat.le_refl _ | decide | (dsimp only; decide)) rfl rfl (by (try (conv => cbv)); (repeat' (first | exact trivial | rfl | exact SEq.mk rfl | (exact SEq.mk (by first | assumption | (symm; assumption))) | (simp only [I.val]; done) | (simp only [I.val]; omega) | omega | assumption | (refine And.intro ?_ ?_) | exact Or.inl rfl | exact Or.inr (by assumption) | exact List.Mem.head _ | exact List.Mem.tail _ (List.Mem.head _) | exact ⟨_, rfl⟩ | exact ⟨_, rfl, Or.inl rfl⟩ | (refine ⟨_, rfl, Or.inr ?_⟩; (try (conv => cbv))) | (simp only [I.val] at *; first | omega | (subst_vars; rfl) | simp_all) | (refine Or.inr ?_; (try (conv => cbv)))))) (by (try (conv => cbv)); (repeat' (first | exact trivial | rfl | exact SEq.mk rfl | (exact SEq.mk (by first | assumption | (symm; assumption))) | (simp only [I.val]; done) | (simp only [I.val]; omega) | omega | assumption | (refine And.intro ?_ ?_) | exact Or.inl rfl | exact Or.inr (by assumption) | exact List.Mem.head _ | exact List.Mem.tail _ (List.Mem.head _) | exact ⟨_, rfl⟩ | exact ⟨_, rfl, Or.inl rfl⟩ | (refine ⟨_, rfl, Or.inr ?_⟩; (try (conv => cbv))) | (simp only [I.val] at *; first | omega | (subst_vars; rfl) | simp_all) | (refine Or.inr ?_; (try (conv => cbv))))))) rfl ⟨L2, rfl, rfl, rfl, hL2⟩
theorem class_none_lx (R : List Rw) (n i d : Int) (L : List PV) (hL : L = rpv R) (hn : n = R.length) (hi0 : 0 ≤ i) (hi : R[i.toNat]? = some (d, [])) : CallF (fun _ => Tryz.prog) 56 [.ptr 0 (.lit 0), .p (.int .i64 (.sym i))] [(0, .mix [.sl 1 101 2 (.lit 0) (.sym n)]), (1, .pure true L)] 2
    (fun r h n' => (∃ v : Int, r = .p (.int .i64 (.sym v)) ∧ v = -1) ∧ h = [(0, .mix [.sl 1 101 2 (.lit 0) (.sym n)]), (1, .pure true L)] ∧ n' = 2) := by
  have hiR : i.toNat < R.length := (List.getElem?_eq_some_iff.1 hi).1
  obtain ⟨y, hy⟩ : ∃ y : ByteArray, y = ⟨(mkB []).toArray⟩ := ⟨_, rfl⟩
  obtain ⟨c1, c2⟩ := rpv_get R i.toNat _ hi
  dsimp only at c1 c2
  rw [← hL] at c1 c2
  rw [← hy] at c2
  have hyn : y = ⟨#[]⟩ := hy
  refine callF_of_body tok Tryz.func56 (by kernel_rfl) rfl rfl rfl ?_; conv => cbv
  refine callF_frame (has_lx n i L hi0 (by omega)) [(0, 0), (1, 1)] rfl (by simp [hmapOk, nget, hget, renB, okB, renV, renVs, rn, okVs, okV]) rfl rfl (fun r h' n' ⟨e1, e2, e3⟩ => ?_)
  subst e1 e2 e3
  conv => cbv
  refine Need.mk ⟨hi0, by show i < n; omega⟩ ?_
  conv => cbv
  refine Sum.mk fun w hw => ?_
  have hw : w = i * 2 := hw
  conv => cbv
  refine Sum.mk fun a ha => ?_
  have ha : a = w + 1 := ha
  conv => cbv
  refine Cell.at a _ c2 (by simp [I.val]) (by omega) ?_
  conv => cbv
  refine Br.mk (fun g => ?_) (fun g => ?_)
  case refine_2 =>
    have gf : False := g hyn
    cases gf
  conv => cbv
  refine RetF.mk [.p (.int .i64 (.sym (-1)))] [(0, .mix [.sl 1 101 2 (.lit 0) (.sym n)]), (1, .pure true L)] 2 (Re.of [(0, 0), (1, 1)] [] (by first | exact Nat.zero_le _ | exact Nat.le_refl _ | decide | (dsimp only; decide)) rfl rfl (by (try (conv => cbv)); (repeat' (first | exact trivial | rfl | exact SEq.mk rfl | (exact SEq.mk (by first | assumption | (symm; assumption))) | (simp only [I.val]; done) | (simp only [I.val]; omega) | omega | assumption | (refine And.intro ?_ ?_) | exact Or.inl rfl | exact Or.inr (by assumption) | exact List.Mem.head _ | exact List.Mem.tail _ (List.Mem.head _) | exact ⟨_, rfl⟩ | exact ⟨_, rfl, Or.inl rfl⟩ | (refine ⟨_, rfl, Or.inr ?_⟩; (try (conv => cbv))) | (simp only [I.val] at *; first | omega | (subst_vars; rfl) | simp_all) | (refine Or.inr ?_; (try (conv => cbv)))))) (by (try (conv => cbv)); (repeat' (first | exact trivial | rfl | exact SEq.mk rfl | (exact SEq.mk (by first | assumption | (symm; assumption))) | (simp only [I.val]; done) | (simp only [I.val]; omega) | omega | assumption | (refine And.intro ?_ ?_) | exact Or.inl rfl | exact Or.inr (by assumption) | exact List.Mem.head _ | exact List.Mem.tail _ (List.Mem.head _) | exact ⟨_, rfl⟩ | exact ⟨_, rfl, Or.inl rfl⟩ | (refine ⟨_, rfl, Or.inr ?_⟩; (try (conv => cbv))) | (simp only [I.val] at *; first | omega | (subst_vars; rfl) | simp_all) | (refine Or.inr ?_; (try (conv => cbv))))))) rfl ⟨⟨-1, rfl, rfl⟩, rfl, rfl⟩
end Go.Proofs.YtllafhhnciobhaaGreatDoor
