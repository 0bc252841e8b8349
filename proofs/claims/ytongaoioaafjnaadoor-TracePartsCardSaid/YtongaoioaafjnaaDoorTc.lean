/-
  Package trace: Visible, Reclaimed, Text.
-/
import Derived.Test.YtongaoioaafjnaaDoorTb
namespace Go.Proofs.YtongaoioaafjnaaDoor
open Go Go.LX
set_option maxRecDepth 100000
set_option linter.unusedVariables false
set_option linter.unusedSimpArgs false

/-- The events that are seen. -/
def vis (e : Ev) : Bool := decide (¬ (e.1 = 3 ∨ e.1 = 4))
set_option maxHeartbeats 4000000 in
theorem visible_lx (E F : List Ev) (hF : F = E.filter vis) (m : Int) (L : List PV) (hL : L = evs E) (hm : m = E.length) (hE : ∀ e ∈ E, evOk e) (hl : E.length ≤ 1000) (o : Unit → Obj) (ho : IsPow o) :
    CallF (fun _ => Tryd.prog) 6 [.p (.vsl (.sym m) true L)] [(0, .fix 0 o)] 1
      (fun r h n => ∃ (j : Int) (M : List PV), r = .sl 1 28 4 (.lit 0) (.sym j) ∧ h = [(1, .pure true M), (0, .fix 0 o)] ∧ n = 2 ∧ M = evs F ∧ j = F.length) := by
  obtain ⟨f, hf⟩ : ∃ f : Nat → List Ev, ∀ i, f i = (E.take i).filter vis := ⟨_, fun _ => rfl⟩
  refine callF_of_body tok Tryd.func6 (by kernel_rfl) rfl rfl rfl ?_; conv => cbv
  refine LoopF.mk (fun d s => ∃ (i j : Int) (M : List PV), s = ⟨.p (.vsl (.sym m) true L) :: .undef :: .undef :: .sl 1 28 4 (.lit 0) (.sym j) :: (undefs 4 ++ .p (.vsl (.sym m) true L) :: .p (.int .i64 (.sym m)) :: .p (.int .i64 (.sym i)) :: undefs 17), [(1, .pure true M), (0, .fix 0 o)], 2⟩ ∧ 0 ≤ i ∧ i ≤ m ∧ M = evs (f i.toNat) ∧ j = (f i.toNat).length ∧ d = (m - i).toNat) m.toNat _
    (Re.of [(0, 0)] [1] (by first | exact Nat.zero_le _ | exact Nat.le_refl _ | decide | (dsimp only; decide)) rfl rfl (by (try (conv => cbv)); (repeat' (first | exact trivial | rfl | exact SEq.mk rfl | (exact SEq.mk (by first | assumption | (symm; assumption))) | (simp only [I.val]; done) | (simp only [I.val]; omega) | omega | assumption | (refine And.intro ?_ ?_) | exact Or.inl rfl | exact Or.inr (by assumption) | exact List.Mem.head _ | exact List.Mem.tail _ (List.Mem.head _) | exact ⟨_, rfl⟩ | exact ⟨_, rfl, Or.inl rfl⟩ | (refine ⟨_, rfl, Or.inr ?_⟩; (try (conv => cbv))) | (simp only [I.val] at *; first | omega | (subst_vars; rfl) | simp_all) | (refine Or.inr ?_; (try (conv => cbv)))))) (by (try (conv => cbv)); (repeat' (first | exact trivial | rfl | exact SEq.mk rfl | (exact SEq.mk (by first | assumption | (symm; assumption))) | (simp only [I.val]; done) | (simp only [I.val]; omega) | omega | assumption | (refine And.intro ?_ ?_) | exact Or.inl rfl | exact Or.inr (by assumption) | exact List.Mem.head _ | exact List.Mem.tail _ (List.Mem.head _) | exact ⟨_, rfl⟩ | exact ⟨_, rfl, Or.inl rfl⟩ | (refine ⟨_, rfl, Or.inr ?_⟩; (try (conv => cbv))) | (simp only [I.val] at *; first | omega | (subst_vars; rfl) | simp_all) | (refine Or.inr ?_; (try (conv => cbv))))))) ⟨0, 0, [], rfl, by omega, by omega, by rw [hf]; rfl, by rw [hf]; rfl, by omega⟩ ?_
  rintro d s ⟨i, j, M, rfl, h0, h1, hM, hj, hd⟩
  rw [hf] at hM hj
  have hfl : ((E.take i.toNat).filter vis).length ≤ 1000 := Nat.le_trans (List.length_filter_le _ _) (by rw [List.length_take]; omega)
  conv => cbv
  refine Br.mk (fun gi => ?_) (fun gi => ?_)
  · have gi : i < m := gi
    obtain ⟨⟨k, g, v, c⟩, hx⟩ : ∃ x, E[i.toNat]? = some x := ⟨_, List.getElem?_eq_getElem (by omega)⟩
    obtain ⟨c1, c2, c3, c4⟩ := evs_get E i.toNat _ hx
    rw [← hL] at c1 c2 c3 c4
    dsimp only at c1 c2 c3 c4
    have he8 := hE _ (List.mem_of_getElem? hx)
    obtain ⟨d', rfl⟩ : ∃ d', d = d' + 1 := ⟨d - 1, by omega⟩
    conv => cbv
    refine Need.mk ⟨h0, gi⟩ ?_
    conv => cbv
    refine Sum.mk fun z hz => ?_
    have hz2 : z = 4 * i := by have : z = i * 4 := hz; omega
    clear hz
    conv => cbv
    refine Cell.at (z + 0) _ c1 rfl (by omega) ?_
    conv => cbv
    refine Cell.at (z + 1) _ c2 rfl (by omega) ?_
    conv => cbv
    refine Cell.at (z + 2) _ c3 rfl (by omega) ?_
    conv => cbv
    refine Cell.at (z + 3) _ c4 rfl (by omega) ?_
    conv => cbv
    refine callF_frame (look_lx k g v c he8 o ho) [(0, 0)] rfl (by simp [hmapOk, nget, hget, renB, okB]) rfl rfl (fun r h' n' ⟨hr, e2, e3⟩ => ?_)
    subst e2 e3
    have htk : E.take (i.toNat + 1) = E.take i.toNat ++ [(k, g, v, c)] := by rw [List.take_add_one, hx]; rfl
    have shown : vis (k, g, v, c) = true → evs ((E.take (i.toNat + 1)).filter vis) = M ++ [.int .i64 (.sym k), .int .i64 (.sym g), .int .i64 (.sym v), .bool c] ∧ ((E.take (i.toNat + 1)).filter vis).length = ((E.take i.toNat).filter vis).length + 1 := by
      intro h
      rw [htk, List.filter_append, List.filter_cons_of_pos h, List.filter_nil, evs_append, hM, List.length_append]
      exact ⟨rfl, rfl⟩
    have hidden : vis (k, g, v, c) = false → (E.take (i.toNat + 1)).filter vis = (E.take i.toNat).filter vis := by
      intro h
      rw [htk, List.filter_append, List.filter_cons_of_neg (by rw [h]; decide), List.filter_nil, List.append_nil]
    cases hr with
    | shown z1 hs _ =>
      have hv : vis (k, g, v, c) = true := by
        have hs : k = 1 ∨ k = 2 ∨ k = 5 := hs
        simp only [vis, decide_eq_true_eq]; omega
      obtain ⟨hh, hh2⟩ := shown hv
      conv => cbv
      refine Room.new rfl ?_
      conv => cbv
      refine Room.new ⟨by rw [hM, evs_length]; show ((4 * ((E.take i.toNat).filter vis).length : Nat) : Int) = j * 4; omega, by show (j + 1) * 32 ≤ 140737488355328; omega, by show j + 1 ≤ 9223372036854775807; omega⟩ ?_
      conv => cbv
      refine Upd.mk fun M2 hM2 => ?_
      have hM2 : M2 = M ++ [.int .i64 (.sym k), .int .i64 (.sym g), .int .i64 (.sym v), .bool c] := hM2
      conv => cbv
      refine Sum.mk fun j2 hj2 => ?_
      have hj2 : j2 = j + 1 := hj2
      conv => cbv
      refine Fit.mk (by show (-9223372036854775808 : Int) ≤ i + 1; omega) (by show i + 1 ≤ 9223372036854775807; omega) fun i2 hi2 => ?_
      have hi2 : i2 = i + 1 := hi2
      have hi3 : i2.toNat = i.toNat + 1 := by omega
      have p1 : M2 = evs (f i2.toNat) := by rw [hf, hi3, hh]; exact hM2
      have p2 : j2 = (f i2.toNat).length := by rw [hf, hi3, hh2]; omega
      conv => cbv
      refine Again.mk d' _ (Nat.lt_succ_self _) (Re.of [(0, 0), (5, 1)] [] (by first | exact Nat.zero_le _ | exact Nat.le_refl _ | decide | (dsimp only; decide)) rfl rfl (by (try (conv => cbv)); (repeat' (first | exact trivial | rfl | exact SEq.mk rfl | (exact SEq.mk (by first | assumption | (symm; assumption))) | (simp only [I.val]; done) | (simp only [I.val]; omega) | omega | assumption | (refine And.intro ?_ ?_) | exact Or.inl rfl | exact Or.inr (by assumption) | exact List.Mem.head _ | exact List.Mem.tail _ (List.Mem.head _) | exact ⟨_, rfl⟩ | exact ⟨_, rfl, Or.inl rfl⟩ | (refine ⟨_, rfl, Or.inr ?_⟩; (try (conv => cbv))) | (simp only [I.val] at *; first | omega | (subst_vars; rfl) | simp_all) | (refine Or.inr ?_; (try (conv => cbv)))))) (by (try (conv => cbv)); (repeat' (first | exact trivial | rfl | exact SEq.mk rfl | (exact SEq.mk (by first | assumption | (symm; assumption))) | (simp only [I.val]; done) | (simp only [I.val]; omega) | omega | assumption | (refine And.intro ?_ ?_) | exact Or.inl rfl | exact Or.inr (by assumption) | exact List.Mem.head _ | exact List.Mem.tail _ (List.Mem.head _) | exact ⟨_, rfl⟩ | exact ⟨_, rfl, Or.inl rfl⟩ | (refine ⟨_, rfl, Or.inr ?_⟩; (try (conv => cbv))) | (simp only [I.val] at *; first | omega | (subst_vars; rfl) | simp_all) | (refine Or.inr ?_; (try (conv => cbv))))))) ⟨i2, j2, M2, rfl, by omega, by omega, p1, p2, by omega⟩
    | hid z1 b1 hs _ _ =>
      have hv : vis (k, g, v, c) = false := by
        have hs : k = 3 ∨ k = 4 := hs
        simp only [vis, decide_eq_false_iff_not, Classical.not_not]; exact hs
      have hh := hidden hv
      conv => cbv
      refine Fit.mk (by show (-9223372036854775808 : Int) ≤ i + 1; omega) (by show i + 1 ≤ 9223372036854775807; omega) fun i2 hi2 => ?_
      have hi2 : i2 = i + 1 := hi2
      have hi3 : i2.toNat = i.toNat + 1 := by omega
      have p1 : M = evs (f i2.toNat) := by rw [hf, hi3, hh]; exact hM
      have p2 : j = (f i2.toNat).length := by rw [hf, hi3, hh]; exact hj
      conv => cbv
      refine Again.mk d' _ (Nat.lt_succ_self _) (Re.of [(0, 0), (1, 1)] [] (by first | exact Nat.zero_le _ | exact Nat.le_refl _ | decide | (dsimp only; decide)) rfl rfl (by (try (conv => cbv)); (repeat' (first | exact trivial | rfl | exact SEq.mk rfl | (exact SEq.mk (by first | assumption | (symm; assumption))) | (simp only [I.val]; done) | (simp only [I.val]; omega) | omega | assumption | (refine And.intro ?_ ?_) | exact Or.inl rfl | exact Or.inr (by assumption) | exact List.Mem.head _ | exact List.Mem.tail _ (List.Mem.head _) | exact ⟨_, rfl⟩ | exact ⟨_, rfl, Or.inl rfl⟩ | (refine ⟨_, rfl, Or.inr ?_⟩; (try (conv => cbv))) | (simp only [I.val] at *; first | omega | (subst_vars; rfl) | simp_all) | (refine Or.inr ?_; (try (conv => cbv)))))) (by (try (conv => cbv)); (repeat' (first | exact trivial | rfl | exact SEq.mk rfl | (exact SEq.mk (by first | assumption | (symm; assumption))) | (simp only [I.val]; done) | (simp only [I.val]; omega) | omega | assumption | (refine And.intro ?_ ?_) | exact Or.inl rfl | exact Or.inr (by assumption) | exact List.Mem.head _ | exact List.Mem.tail _ (List.Mem.head _) | exact ⟨_, rfl⟩ | exact ⟨_, rfl, Or.inl rfl⟩ | (refine ⟨_, rfl, Or.inr ?_⟩; (try (conv => cbv))) | (simp only [I.val] at *; first | omega | (subst_vars; rfl) | simp_all) | (refine Or.inr ?_; (try (conv => cbv))))))) ⟨i2, j, M, rfl, by omega, by omega, p1, p2, by omega⟩
    | nothing hs hs2 =>
      have hv : vis (k, g, v, c) = true := by
        have hs2 : ¬ (k = 3 ∨ k = 4) := hs2
        simp only [vis, decide_eq_true_eq]; exact hs2
      obtain ⟨hh, hh2⟩ := shown hv
      conv => cbv
      refine Room.new rfl ?_
      conv => cbv
      refine Room.new ⟨by rw [hM, evs_length]; show ((4 * ((E.take i.toNat).filter vis).length : Nat) : Int) = j * 4; omega, by show (j + 1) * 32 ≤ 140737488355328; omega, by show j + 1 ≤ 9223372036854775807; omega⟩ ?_
      conv => cbv
      refine Upd.mk fun M2 hM2 => ?_
      have hM2 : M2 = M ++ [.int .i64 (.sym k), .int .i64 (.sym g), .int .i64 (.sym v), .bool c] := hM2
      conv => cbv
      refine Sum.mk fun j2 hj2 => ?_
      have hj2 : j2 = j + 1 := hj2
      conv => cbv
      refine Fit.mk (by show (-9223372036854775808 : Int) ≤ i + 1; omega) (by show i + 1 ≤ 9223372036854775807; omega) fun i2 hi2 => ?_
      have hi2 : i2 = i + 1 := hi2
      have hi3 : i2.toNat = i.toNat + 1 := by omega
      have p1 : M2 = evs (f i2.toNat) := by rw [hf, hi3, hh]; exact hM2
      have p2 : j2 = (f i2.toNat).length := by rw [hf, hi3, hh2]; omega
      conv => cbv
      refine Again.mk d' _ (Nat.lt_succ_self _) (Re.of [(0, 0), (5, 1)] [] (by first | exact Nat.zero_le _ | exact Nat.le_refl _ | decide | (dsimp only; decide)) rfl rfl (by (try (conv => cbv)); (repeat' (first | exact trivial | rfl | exact SEq.mk rfl | (exact SEq.mk (by first | assumption | (symm; assumption))) | (simp only [I.val]; done) | (simp only [I.val]; omega) | omega | assumption | (refine And.intro ?_ ?_) | exact Or.inl rfl | exact Or.inr (by assumption) | exact List.Mem.head _ | exact List.Mem.tail _ (List.Mem.head _) | exact ⟨_, rfl⟩ | exact ⟨_, rfl, Or.inl rfl⟩ | (refine ⟨_, rfl, Or.inr ?_⟩; (try (conv => cbv))) | (simp only [I.val] at *; first | omega | (subst_vars; rfl) | simp_all) | (refine Or.inr ?_; (try (conv => cbv)))))) (by (try (conv => cbv)); (repeat' (first | exact trivial | rfl | exact SEq.mk rfl | (exact SEq.mk (by first | assumption | (symm; assumption))) | (simp only [I.val]; done) | (simp only [I.val]; omega) | omega | assumption | (refine And.intro ?_ ?_) | exact Or.inl rfl | exact Or.inr (by assumption) | exact List.Mem.head _ | exact List.Mem.tail _ (List.Mem.head _) | exact ⟨_, rfl⟩ | exact ⟨_, rfl, Or.inl rfl⟩ | (refine ⟨_, rfl, Or.inr ?_⟩; (try (conv => cbv))) | (simp only [I.val] at *; first | omega | (subst_vars; rfl) | simp_all) | (refine Or.inr ?_; (try (conv => cbv))))))) ⟨i2, j2, M2, rfl, by omega, by omega, p1, p2, by omega⟩
  · have gi : ¬ i < m := gi
    have hend : E.take i.toNat = E := List.take_of_length_le (by omega)
    rw [hend, ← hF] at hM hj
    conv => cbv
    refine RetF.mk [.sl 1 28 4 (.lit 0) (.sym j)] [(1, .pure true M), (0, .fix 0 o)] 2 (Re.of [(0, 0), (1, 1)] [] (by first | exact Nat.zero_le _ | exact Nat.le_refl _ | decide | (dsimp only; decide)) rfl rfl (by (try (conv => cbv)); (repeat' (first | exact trivial | rfl | exact SEq.mk rfl | (exact SEq.mk (by first | assumption | (symm; assumption))) | (simp only [I.val]; done) | (simp only [I.val]; omega) | omega | assumption | (refine And.intro ?_ ?_) | exact Or.inl rfl | exact Or.inr (by assumption) | exact List.Mem.head _ | exact List.Mem.tail _ (List.Mem.head _) | exact ⟨_, rfl⟩ | exact ⟨_, rfl, Or.inl rfl⟩ | (refine ⟨_, rfl, Or.inr ?_⟩; (try (conv => cbv))) | (simp only [I.val] at *; first | omega | (subst_vars; rfl) | simp_all) | (refine Or.inr ?_; (try (conv => cbv)))))) (by (try (conv => cbv)); (repeat' (first | exact trivial | rfl | exact SEq.mk rfl | (exact SEq.mk (by first | assumption | (symm; assumption))) | (simp only [I.val]; done) | (simp only [I.val]; omega) | omega | assumption | (refine And.intro ?_ ?_) | exact Or.inl rfl | exact Or.inr (by assumption) | exact List.Mem.head _ | exact List.Mem.tail _ (List.Mem.head _) | exact ⟨_, rfl⟩ | exact ⟨_, rfl, Or.inl rfl⟩ | (refine ⟨_, rfl, Or.inr ?_⟩; (try (conv => cbv))) | (simp only [I.val] at *; first | omega | (subst_vars; rfl) | simp_all) | (refine Or.inr ?_; (try (conv => cbv))))))) rfl ⟨j, M, rfl, rfl, rfl, hM, hj⟩
/-- Who was taken away. -/
def gone (E : List Ev) : List Int := (E.filter fun e => decide (e.1 = 3)).map fun e => e.2.1
def gors (A : List Int) : List PV := A.map fun a => .int .i64 (.sym a)
theorem gone_app (A : List Ev) (e : Ev) : gone (A ++ [e]) = gone A ++ (if e.1 = 3 then [e.2.1] else []) := by
  unfold gone
  rw [List.filter_append, List.map_append]
  by_cases h : e.1 = 3
  · rw [if_pos h, List.filter_cons_of_pos (by simpa using h)]; rfl
  · rw [if_neg h, List.filter_cons_of_neg (by simpa using h)]; rfl
theorem gone_len (A : List Ev) : (gone A).length ≤ A.length := by
  unfold gone; rw [List.length_map]; exact List.length_filter_le _ _
set_option maxHeartbeats 4000000 in
theorem reclaimed_lx (E : List Ev) (G : List Int) (hG : G = gone E) (m : Int) (L : List PV) (hL : L = evs E) (hm : m = E.length) (hE : ∀ e ∈ E, evOk e) (hl : E.length ≤ 1000) (o : Unit → Obj) (ho : IsPow o) :
    CallF (fun _ => Tryd.prog) 9 [.p (.vsl (.sym m) true L)] [(0, .fix 0 o)] 1
      (fun r h n => ∃ (j : Int) (M : List PV), r = .sl 1 3 1 (.lit 0) (.sym j) ∧ h = [(1, .pure true M), (0, .fix 0 o)] ∧ n = 2 ∧ M = gors G ∧ j = G.length) := by
  obtain ⟨f, hf⟩ : ∃ f : Nat → List Int, ∀ i, f i = gone (E.take i) := ⟨_, fun _ => rfl⟩
  refine callF_of_body tok Tryd.func9 (by kernel_rfl) rfl rfl rfl ?_; conv => cbv
  refine LoopF.mk (fun d s => ∃ (i j : Int) (M : List PV), s = ⟨.p (.vsl (.sym m) true L) :: .undef :: .undef :: .sl 1 3 1 (.lit 0) (.sym j) :: (undefs 4 ++ .p (.vsl (.sym m) true L) :: .p (.int .i64 (.sym m)) :: .p (.int .i64 (.sym i)) :: undefs 21), [(1, .pure true M), (0, .fix 0 o)], 2⟩ ∧ 0 ≤ i ∧ i ≤ m ∧ M = gors (f i.toNat) ∧ j = (f i.toNat).length ∧ d = (m - i).toNat) m.toNat _
    (Re.of [(0, 0)] [1] (by first | exact Nat.zero_le _ | exact Nat.le_refl _ | decide | (dsimp only; decide)) rfl rfl (by (try (conv => cbv)); (repeat' (first | exact trivial | rfl | exact SEq.mk rfl | (exact SEq.mk (by first | assumption | (symm; assumption))) | (simp only [I.val]; done) | (simp only [I.val]; omega) | omega | assumption | (refine And.intro ?_ ?_) | exact Or.inl rfl | exact Or.inr (by assumption) | exact List.Mem.head _ | exact List.Mem.tail _ (List.Mem.head _) | exact ⟨_, rfl⟩ | exact ⟨_, rfl, Or.inl rfl⟩ | (refine ⟨_, rfl, Or.inr ?_⟩; (try (conv => cbv))) | (simp only [I.val] at *; first | omega | (subst_vars; rfl) | simp_all) | (refine Or.inr ?_; (try (conv => cbv)))))) (by (try (conv => cbv)); (repeat' (first | exact trivial | rfl | exact SEq.mk rfl | (exact SEq.mk (by first | assumption | (symm; assumption))) | (simp only [I.val]; done) | (simp only [I.val]; omega) | omega | assumption | (refine And.intro ?_ ?_) | exact Or.inl rfl | exact Or.inr (by assumption) | exact List.Mem.head _ | exact List.Mem.tail _ (List.Mem.head _) | exact ⟨_, rfl⟩ | exact ⟨_, rfl, Or.inl rfl⟩ | (refine ⟨_, rfl, Or.inr ?_⟩; (try (conv => cbv))) | (simp only [I.val] at *; first | omega | (subst_vars; rfl) | simp_all) | (refine Or.inr ?_; (try (conv => cbv))))))) ⟨0, 0, [], rfl, by omega, by omega, by rw [hf]; rfl, by rw [hf]; rfl, by omega⟩ ?_
  rintro d s ⟨i, j, M, rfl, h0, h1, hM, hj, hd⟩
  rw [hf] at hM hj
  have hfl : (gone (E.take i.toNat)).length ≤ 1000 := Nat.le_trans (gone_len _) (by rw [List.length_take]; omega)
  conv => cbv
  refine Br.mk (fun gi => ?_) (fun gi => ?_)
  · have gi : i < m := gi
    obtain ⟨⟨k, g, v, c⟩, hx⟩ : ∃ x, E[i.toNat]? = some x := ⟨_, List.getElem?_eq_getElem (by omega)⟩
    obtain ⟨c1, c2, c3, c4⟩ := evs_get E i.toNat _ hx
    rw [← hL] at c1 c2 c3 c4
    dsimp only at c1 c2 c3 c4
    have he8 := hE _ (List.mem_of_getElem? hx)
    obtain ⟨d', rfl⟩ : ∃ d', d = d' + 1 := ⟨d - 1, by omega⟩
    conv => cbv
    refine Need.mk ⟨h0, gi⟩ ?_
    conv => cbv
    refine Sum.mk fun z hz => ?_
    have hz2 : z = 4 * i := by have : z = i * 4 := hz; omega
    clear hz
    conv => cbv
    refine Cell.at (z + 0) _ c1 rfl (by omega) ?_
    conv => cbv
    refine Cell.at (z + 1) _ c2 rfl (by omega) ?_
    conv => cbv
    refine Cell.at (z + 2) _ c3 rfl (by omega) ?_
    conv => cbv
    refine Cell.at (z + 3) _ c4 rfl (by omega) ?_
    conv => cbv
    refine callF_frame (look_lx k g v c he8 o ho) [(0, 0)] rfl (by simp [hmapOk, nget, hget, renB, okB]) rfl rfl (fun r h' n' ⟨hr, e2, e3⟩ => ?_)
    subst e2 e3
    have htk : E.take (i.toNat + 1) = E.take i.toNat ++ [(k, g, v, c)] := by rw [List.take_add_one, hx]; rfl
    have other : ¬ k = 3 → gone (E.take (i.toNat + 1)) = gone (E.take i.toNat) := fun h => by
      rw [htk, gone_app, if_neg (show ¬ k = 3 from h), List.append_nil]
    have one : k = 3 → gone (E.take (i.toNat + 1)) = gone (E.take i.toNat) ++ [g] := fun h => by
      rw [htk, gone_app, if_pos (show k = 3 from h)]
    cases hr with
    | shown z1 hs _ =>
      have hh := other (by have hs : k = 1 ∨ k = 2 ∨ k = 5 := hs; omega)
      conv => cbv
      refine Fit.mk (by show (-9223372036854775808 : Int) ≤ i + 1; omega) (by show i + 1 ≤ 9223372036854775807; omega) fun i2 hi2 => ?_
      have hi2 : i2 = i + 1 := hi2
      have hi3 : i2.toNat = i.toNat + 1 := by omega
      have p1 : M = gors (f i2.toNat) := by rw [hf, hi3, hh]; exact hM
      have p2 : j = (f i2.toNat).length := by rw [hf, hi3, hh]; exact hj
      conv => cbv
      refine Again.mk d' _ (Nat.lt_succ_self _) (Re.of [(0, 0), (1, 1)] [] (by first | exact Nat.zero_le _ | exact Nat.le_refl _ | decide | (dsimp only; decide)) rfl rfl (by (try (conv => cbv)); (repeat' (first | exact trivial | rfl | exact SEq.mk rfl | (exact SEq.mk (by first | assumption | (symm; assumption))) | (simp only [I.val]; done) | (simp only [I.val]; omega) | omega | assumption | (refine And.intro ?_ ?_) | exact Or.inl rfl | exact Or.inr (by assumption) | exact List.Mem.head _ | exact List.Mem.tail _ (List.Mem.head _) | exact ⟨_, rfl⟩ | exact ⟨_, rfl, Or.inl rfl⟩ | (refine ⟨_, rfl, Or.inr ?_⟩; (try (conv => cbv))) | (simp only [I.val] at *; first | omega | (subst_vars; rfl) | simp_all) | (refine Or.inr ?_; (try (conv => cbv)))))) (by (try (conv => cbv)); (repeat' (first | exact trivial | rfl | exact SEq.mk rfl | (exact SEq.mk (by first | assumption | (symm; assumption))) | (simp only [I.val]; done) | (simp only [I.val]; omega) | omega | assumption | (refine And.intro ?_ ?_) | exact Or.inl rfl | exact Or.inr (by assumption) | exact List.Mem.head _ | exact List.Mem.tail _ (List.Mem.head _) | exact ⟨_, rfl⟩ | exact ⟨_, rfl, Or.inl rfl⟩ | (refine ⟨_, rfl, Or.inr ?_⟩; (try (conv => cbv))) | (simp only [I.val] at *; first | omega | (subst_vars; rfl) | simp_all) | (refine Or.inr ?_; (try (conv => cbv))))))) ⟨i2, j, M, rfl, by omega, by omega, p1, p2, by omega⟩
    | hid z1 b1 hs _ hb1 =>
      cases b1 with
      | true =>
        have hh := one (hb1.1 rfl)
        conv => cbv
        refine Room.new rfl ?_
        conv => cbv
        refine Room.new ⟨by rw [hM, gors, List.length_map]; show (((gone (E.take i.toNat)).length : Nat) : Int) = j * 1; omega, by show (j + 1) * 8 ≤ 140737488355328; omega, by show j + 1 ≤ 9223372036854775807; omega⟩ ?_
        conv => cbv
        refine Upd.mk fun M2 hM2 => ?_
        have hM2 : M2 = M ++ [.int .i64 (.sym g)] := hM2
        conv => cbv
        refine Sum.mk fun j2 hj2 => ?_
        have hj2 : j2 = j + 1 := hj2
        conv => cbv
        refine Fit.mk (by show (-9223372036854775808 : Int) ≤ i + 1; omega) (by show i + 1 ≤ 9223372036854775807; omega) fun i2 hi2 => ?_
        have hi2 : i2 = i + 1 := hi2
        have hi3 : i2.toNat = i.toNat + 1 := by omega
        have p1 : M2 = gors (f i2.toNat) := by rw [hf, hi3, hh, hM2, hM, gors, gors, List.map_append]; rfl
        have p2 : j2 = (f i2.toNat).length := by rw [hf, hi3, hh, List.length_append]; show j2 = (((gone (E.take i.toNat)).length + 1 : Nat) : Int); omega
        conv => cbv
        refine Again.mk d' _ (Nat.lt_succ_self _) (Re.of [(0, 0), (5, 1)] [] (by first | exact Nat.zero_le _ | exact Nat.le_refl _ | decide | (dsimp only; decide)) rfl rfl (by (try (conv => cbv)); (repeat' (first | exact trivial | rfl | exact SEq.mk rfl | (exact SEq.mk (by first | assumption | (symm; assumption))) | (simp only [I.val]; done) | (simp only [I.val]; omega) | omega | assumption | (refine And.intro ?_ ?_) | exact Or.inl rfl | exact Or.inr (by assumption) | exact List.Mem.head _ | exact List.Mem.tail _ (List.Mem.head _) | exact ⟨_, rfl⟩ | exact ⟨_, rfl, Or.inl rfl⟩ | (refine ⟨_, rfl, Or.inr ?_⟩; (try (conv => cbv))) | (simp only [I.val] at *; first | omega | (subst_vars; rfl) | simp_all) | (refine Or.inr ?_; (try (conv => cbv)))))) (by (try (conv => cbv)); (repeat' (first | exact trivial | rfl | exact SEq.mk rfl | (exact SEq.mk (by first | assumption | (symm; assumption))) | (simp only [I.val]; done) | (simp only [I.val]; omega) | omega | assumption | (refine And.intro ?_ ?_) | exact Or.inl rfl | exact Or.inr (by assumption) | exact List.Mem.head _ | exact List.Mem.tail _ (List.Mem.head _) | exact ⟨_, rfl⟩ | exact ⟨_, rfl, Or.inl rfl⟩ | (refine ⟨_, rfl, Or.inr ?_⟩; (try (conv => cbv))) | (simp only [I.val] at *; first | omega | (subst_vars; rfl) | simp_all) | (refine Or.inr ?_; (try (conv => cbv))))))) ⟨i2, j2, M2, rfl, by omega, by omega, p1, p2, by omega⟩
      | false =>
        have hh := other (fun h => by have := hb1.2 h; cases this)
        conv => cbv
        refine Fit.mk (by show (-9223372036854775808 : Int) ≤ i + 1; omega) (by show i + 1 ≤ 9223372036854775807; omega) fun i2 hi2 => ?_
        have hi2 : i2 = i + 1 := hi2
        have hi3 : i2.toNat = i.toNat + 1 := by omega
        have p1 : M = gors (f i2.toNat) := by rw [hf, hi3, hh]; exact hM
        have p2 : j = (f i2.toNat).length := by rw [hf, hi3, hh]; exact hj
        conv => cbv
        refine Again.mk d' _ (Nat.lt_succ_self _) (Re.of [(0, 0), (1, 1)] [] (by first | exact Nat.zero_le _ | exact Nat.le_refl _ | decide | (dsimp only; decide)) rfl rfl (by (try (conv => cbv)); (repeat' (first | exact trivial | rfl | exact SEq.mk rfl | (exact SEq.mk (by first | assumption | (symm; assumption))) | (simp only [I.val]; done) | (simp only [I.val]; omega) | omega | assumption | (refine And.intro ?_ ?_) | exact Or.inl rfl | exact Or.inr (by assumption) | exact List.Mem.head _ | exact List.Mem.tail _ (List.Mem.head _) | exact ⟨_, rfl⟩ | exact ⟨_, rfl, Or.inl rfl⟩ | (refine ⟨_, rfl, Or.inr ?_⟩; (try (conv => cbv))) | (simp only [I.val] at *; first | omega | (subst_vars; rfl) | simp_all) | (refine Or.inr ?_; (try (conv => cbv)))))) (by (try (conv => cbv)); (repeat' (first | exact trivial | rfl | exact SEq.mk rfl | (exact SEq.mk (by first | assumption | (symm; assumption))) | (simp only [I.val]; done) | (simp only [I.val]; omega) | omega | assumption | (refine And.intro ?_ ?_) | exact Or.inl rfl | exact Or.inr (by assumption) | exact List.Mem.head _ | exact List.Mem.tail _ (List.Mem.head _) | exact ⟨_, rfl⟩ | exact ⟨_, rfl, Or.inl rfl⟩ | (refine ⟨_, rfl, Or.inr ?_⟩; (try (conv => cbv))) | (simp only [I.val] at *; first | omega | (subst_vars; rfl) | simp_all) | (refine Or.inr ?_; (try (conv => cbv))))))) ⟨i2, j, M, rfl, by omega, by omega, p1, p2, by omega⟩
    | nothing hs hs2 =>
      have hh := other (fun h => hs2 (.inl h))
      conv => cbv
      refine Fit.mk (by show (-9223372036854775808 : Int) ≤ i + 1; omega) (by show i + 1 ≤ 9223372036854775807; omega) fun i2 hi2 => ?_
      have hi2 : i2 = i + 1 := hi2
      have hi3 : i2.toNat = i.toNat + 1 := by omega
      have p1 : M = gors (f i2.toNat) := by rw [hf, hi3, hh]; exact hM
      have p2 : j = (f i2.toNat).length := by rw [hf, hi3, hh]; exact hj
      conv => cbv
      refine Again.mk d' _ (Nat.lt_succ_self _) (Re.of [(0, 0), (1, 1)] [] (by first | exact Nat.zero_le _ | exact Nat.le_refl _ | decide | (dsimp only; decide)) rfl rfl (by (try (conv => cbv)); (repeat' (first | exact trivial | rfl | exact SEq.mk rfl | (exact SEq.mk (by first | assumption | (symm; assumption))) | (simp only [I.val]; done) | (simp only [I.val]; omega) | omega | assumption | (refine And.intro ?_ ?_) | exact Or.inl rfl | exact Or.inr (by assumption) | exact List.Mem.head _ | exact List.Mem.tail _ (List.Mem.head _) | exact ⟨_, rfl⟩ | exact ⟨_, rfl, Or.inl rfl⟩ | (refine ⟨_, rfl, Or.inr ?_⟩; (try (conv => cbv))) | (simp only [I.val] at *; first | omega | (subst_vars; rfl) | simp_all) | (refine Or.inr ?_; (try (conv => cbv)))))) (by (try (conv => cbv)); (repeat' (first | exact trivial | rfl | exact SEq.mk rfl | (exact SEq.mk (by first | assumption | (symm; assumption))) | (simp only [I.val]; done) | (simp only [I.val]; omega) | omega | assumption | (refine And.intro ?_ ?_) | exact Or.inl rfl | exact Or.inr (by assumption) | exact List.Mem.head _ | exact List.Mem.tail _ (List.Mem.head _) | exact ⟨_, rfl⟩ | exact ⟨_, rfl, Or.inl rfl⟩ | (refine ⟨_, rfl, Or.inr ?_⟩; (try (conv => cbv))) | (simp only [I.val] at *; first | omega | (subst_vars; rfl) | simp_all) | (refine Or.inr ?_; (try (conv => cbv))))))) ⟨i2, j, M, rfl, by omega, by omega, p1, p2, by omega⟩
  · have gi : ¬ i < m := gi
    have hend : E.take i.toNat = E := List.take_of_length_le (by omega)
    rw [hend, ← hG] at hM hj
    conv => cbv
    refine RetF.mk [.sl 1 3 1 (.lit 0) (.sym j)] [(1, .pure true M), (0, .fix 0 o)] 2 (Re.of [(0, 0), (1, 1)] [] (by first | exact Nat.zero_le _ | exact Nat.le_refl _ | decide | (dsimp only; decide)) rfl rfl (by (try (conv => cbv)); (repeat' (first | exact trivial | rfl | exact SEq.mk rfl | (exact SEq.mk (by first | assumption | (symm; assumption))) | (simp only [I.val]; done) | (simp only [I.val]; omega) | omega | assumption | (refine And.intro ?_ ?_) | exact Or.inl rfl | exact Or.inr (by assumption) | exact List.Mem.head _ | exact List.Mem.tail _ (List.Mem.head _) | exact ⟨_, rfl⟩ | exact ⟨_, rfl, Or.inl rfl⟩ | (refine ⟨_, rfl, Or.inr ?_⟩; (try (conv => cbv))) | (simp only [I.val] at *; first | omega | (subst_vars; rfl) | simp_all) | (refine Or.inr ?_; (try (conv => cbv)))))) (by (try (conv => cbv)); (repeat' (first | exact trivial | rfl | exact SEq.mk rfl | (exact SEq.mk (by first | assumption | (symm; assumption))) | (simp only [I.val]; done) | (simp only [I.val]; omega) | omega | assumption | (refine And.intro ?_ ?_) | exact Or.inl rfl | exact Or.inr (by assumption) | exact List.Mem.head _ | exact List.Mem.tail _ (List.Mem.head _) | exact ⟨_, rfl⟩ | exact ⟨_, rfl, Or.inl rfl⟩ | (refine ⟨_, rfl, Or.inr ?_⟩; (try (conv => cbv))) | (simp only [I.val] at *; first | omega | (subst_vars; rfl) | simp_all) | (refine Or.inr ?_; (try (conv => cbv))))))) rfl ⟨j, M, rfl, rfl, rfl, hM, hj⟩
/-- The text of events. -/
def txt1 (e : Ev) : List UInt8 := if e.1 = 1 ∨ e.1 = 2 ∨ e.1 = 5 ∨ e.1 = 3 ∨ e.1 = 4 then line e ++ [10] else []
def txt (E : List Ev) : List UInt8 := E.flatMap txt1
theorem txt_app (A B : List Ev) : txt (A ++ B) = txt A ++ txt B := List.flatMap_append
theorem line_len (e : Ev) (he : evOk e) : (line e).length ≤ 60 := by
  obtain ⟨k, g, v, f⟩ := e
  obtain ⟨_, hg, hv⟩ := he
  have h1 := Lib.itoa_length_le g hg.1 hg.2
  have h2 := Lib.itoa_length_le v hv.1 hv.2
  have h3 : (if f then ([42] : List UInt8) else Lib.itoa v).length ≤ 21 := by cases f <;> simp <;> omega
  unfold line
  simp only
  split
  · simp only [List.length_append, List.length_cons, List.length_nil]; omega
  · split
    · simp only [List.length_append, List.length_cons, List.length_nil]; omega
    · split
      · simp only [List.length_append, List.length_cons, List.length_nil]; omega
      · split
        · simp only [List.length_append, List.length_cons, List.length_nil]; omega
        · split
          · simp only [List.length_append, List.length_cons, List.length_nil]; omega
          · simp
theorem txt_len : ∀ (E : List Ev), (∀ e ∈ E, evOk e) → (txt E).length ≤ 61 * E.length
  | [], _ => by simp [txt]
  | e :: E, h => by
    have h1 := txt_len E fun x hx => h x (List.mem_cons_of_mem _ hx)
    have h2 := line_len e (h e List.mem_cons_self)
    have h3 : (txt1 e).length ≤ 61 := by
      unfold txt1; split
      · rw [List.length_append]; simp; omega
      · simp
    rw [show txt (e :: E) = txt1 e ++ txt E from rfl, List.length_append, List.length_cons]; omega
set_option maxHeartbeats 4000000 in
theorem text_lx (E : List Ev) (Z : List UInt8) (hZ : Z = txt E) (m : Int) (L : List PV) (hL : L = evs E) (hm : m = E.length) (hE : ∀ e ∈ E, evOk e) (hl : E.length ≤ 1000) (o : Unit → Obj) (ho : IsPow o) :
    CallF (fun _ => Tryd.prog) 7 [.p (.vsl (.sym m) true L)] [(0, .fix 0 o)] 1
      (fun r h n => (∃ z : ByteArray, r = .p (.str fun _ => z) ∧ z = ⟨Z.toArray⟩) ∧ h = [(0, .fix 0 o)] ∧ n = 1) := by
  obtain ⟨f, hf⟩ : ∃ f : Nat → List UInt8, ∀ i, f i = txt (E.take i) := ⟨_, fun _ => rfl⟩
  refine callF_of_body tok Tryd.func7 (by kernel_rfl) rfl rfl rfl ?_; conv => cbv
  refine LoopF.mk (fun d s => ∃ (i j : Int) (M : List PV) (y : ByteArray), s = ⟨.p (.vsl (.sym m) true L) :: .undef :: .undef :: .ptr 1 (.lit 0) :: (undefs 7 ++ .p (.vsl (.sym m) true L) :: .p (.int .i64 (.sym m)) :: .p (.int .i64 (.sym i)) :: undefs 27), [(1, .bld 41 [.sl 2 5 1 (.lit 0) (.sym j)]), (2, .pure true M), (0, .fix 0 o)], 3⟩ ∧ 0 ≤ i ∧ i ≤ m ∧ M = bytesPV y ∧ j = y.size ∧ y = ⟨(f i.toNat).toArray⟩ ∧ d = (m - i).toNat) m.toNat _
    (Re.of [(0, 0), (1, 1)] [2] (by first | exact Nat.zero_le _ | exact Nat.le_refl _ | decide | (dsimp only; decide)) rfl rfl (by (try (conv => cbv)); (repeat' (first | exact trivial | rfl | exact SEq.mk rfl | (exact SEq.mk (by first | assumption | (symm; assumption))) | (simp only [I.val]; done) | (simp only [I.val]; omega) | omega | assumption | (refine And.intro ?_ ?_) | exact Or.inl rfl | exact Or.inr (by assumption) | exact List.Mem.head _ | exact List.Mem.tail _ (List.Mem.head _) | exact ⟨_, rfl⟩ | exact ⟨_, rfl, Or.inl rfl⟩ | (refine ⟨_, rfl, Or.inr ?_⟩; (try (conv => cbv))) | (simp only [I.val] at *; first | omega | (subst_vars; rfl) | simp_all) | (refine Or.inr ?_; (try (conv => cbv)))))) (by (try (conv => cbv)); (repeat' (first | exact trivial | rfl | exact SEq.mk rfl | (exact SEq.mk (by first | assumption | (symm; assumption))) | (simp only [I.val]; done) | (simp only [I.val]; omega) | omega | assumption | (refine And.intro ?_ ?_) | exact Or.inl rfl | exact Or.inr (by assumption) | exact List.Mem.head _ | exact List.Mem.tail _ (List.Mem.head _) | exact ⟨_, rfl⟩ | exact ⟨_, rfl, Or.inl rfl⟩ | (refine ⟨_, rfl, Or.inr ?_⟩; (try (conv => cbv))) | (simp only [I.val] at *; first | omega | (subst_vars; rfl) | simp_all) | (refine Or.inr ?_; (try (conv => cbv))))))) ⟨0, 0, [], ⟨#[]⟩, rfl, by omega, by omega, rfl, rfl, by rw [hf]; rfl, by omega⟩ ?_
  rintro d s ⟨i, j, M, y, rfl, h0, h1, hM, hj, hy, hd⟩
  rw [hf] at hy
  have hfl := txt_len (E.take i.toNat) fun e he => hE e (List.mem_of_mem_take he)
  have htl : (E.take i.toNat).length ≤ 1000 := by rw [List.length_take]; omega
  have hys : y.size = (txt (E.take i.toNat)).length := by rw [hy, mk_size]
  conv => cbv
  refine Br.mk (fun gi => ?_) (fun gi => ?_)
  · have gi : i < m := gi
    obtain ⟨⟨k, g, v, c⟩, hx⟩ : ∃ x, E[i.toNat]? = some x := ⟨_, List.getElem?_eq_getElem (by omega)⟩
    obtain ⟨c1, c2, c3, c4⟩ := evs_get E i.toNat _ hx
    rw [← hL] at c1 c2 c3 c4
    dsimp only at c1 c2 c3 c4
    have he8 := hE _ (List.mem_of_getElem? hx)
    obtain ⟨d', rfl⟩ : ∃ d', d = d' + 1 := ⟨d - 1, by omega⟩
    conv => cbv
    refine Need.mk ⟨h0, gi⟩ ?_
    conv => cbv
    refine Sum.mk fun z hz => ?_
    have hz2 : z = 4 * i := by have : z = i * 4 := hz; omega
    clear hz
    conv => cbv
    refine Cell.at (z + 0) _ c1 rfl (by omega) ?_
    conv => cbv
    refine Cell.at (z + 1) _ c2 rfl (by omega) ?_
    conv => cbv
    refine Cell.at (z + 2) _ c3 rfl (by omega) ?_
    conv => cbv
    refine Cell.at (z + 3) _ c4 rfl (by omega) ?_
    conv => cbv
    refine callF_frame (look_lx k g v c he8 o ho) [(0, 0)] rfl (by simp [hmapOk, nget, hget, renB, okB]) rfl rfl (fun r h' n' ⟨hr, e2, e3⟩ => ?_)
    subst e2 e3
    have htk : E.take (i.toNat + 1) = E.take i.toNat ++ [(k, g, v, c)] := by rw [List.take_add_one, hx]; rfl
    have htx : txt (E.take (i.toNat + 1)) = txt (E.take i.toNat) ++ txt1 (k, g, v, c) := by rw [htk, txt_app]; simp [txt]
    have hll := line_len (k, g, v, c) he8
    cases hr with
    | shown z1 hs hz1 =>
      have hzs : z1.size = (line (k, g, v, c)).length := by rw [hz1, mk_size]
      have hone : txt1 (k, g, v, c) = line (k, g, v, c) ++ [10] := if_pos (by have hs : k = 1 ∨ k = 2 ∨ k = 5 := hs; show k = 1 ∨ k = 2 ∨ k = 5 ∨ k = 3 ∨ k = 4; omega)
      conv => cbv
      refine Need.mk (by first | omega | (show z1.size + 1 ≤ 9223372036854775807; omega)) ?_
      refine Str.mk fun t ht => ?_
      have ht : t = z1 ++ ⟨#[10]⟩ := ht
      have hts : t.size = z1.size + 1 := by rw [ht, ByteArray.size_append] <;> rfl
      conv => cbv
      refine callF_frame (writeString_lx j M y t hM hj (by omega)) [(0, 1), (1, 2)] rfl (by simp [hmapOk, nget, hget, renB, okB, renV, renVs, rn, okVs, okV]) rfl rfl (fun r h' n' ⟨m1, k1, L1, e1, e2, e3, hL1, hk1⟩ => ?_)
      subst e1 e2 e3
      conv => cbv
      refine Fit.mk (by show (-9223372036854775808 : Int) ≤ i + 1; omega) (by show i + 1 ≤ 9223372036854775807; omega) fun i2 hi2 => ?_
      have hi2 : i2 = i + 1 := hi2
      have hi3 : i2.toNat = i.toNat + 1 := by omega
      have p1 : y ++ t = ⟨(f i2.toNat).toArray⟩ := by
        rw [hf, hi3, htx, hone, hy, ht, hz1]
        apply ByteArray.ext
        apply Array.ext'
        simp [ByteArray.data_append]
      conv => cbv
      refine Again.mk d' _ (Nat.lt_succ_self _) (Re.of [(0, 0), (1, 1), (5, 2)] [] (by first | exact Nat.zero_le _ | exact Nat.le_refl _ | decide | (dsimp only; decide)) rfl rfl (by (try (conv => cbv)); (repeat' (first | exact trivial | rfl | exact SEq.mk rfl | (exact SEq.mk (by first | assumption | (symm; assumption))) | (simp only [I.val]; done) | (simp only [I.val]; omega) | omega | assumption | (refine And.intro ?_ ?_) | exact Or.inl rfl | exact Or.inr (by assumption) | exact List.Mem.head _ | exact List.Mem.tail _ (List.Mem.head _) | exact ⟨_, rfl⟩ | exact ⟨_, rfl, Or.inl rfl⟩ | (refine ⟨_, rfl, Or.inr ?_⟩; (try (conv => cbv))) | (simp only [I.val] at *; first | omega | (subst_vars; rfl) | simp_all) | (refine Or.inr ?_; (try (conv => cbv)))))) (by (try (conv => cbv)); (repeat' (first | exact trivial | rfl | exact SEq.mk rfl | (exact SEq.mk (by first | assumption | (symm; assumption))) | (simp only [I.val]; done) | (simp only [I.val]; omega) | omega | assumption | (refine And.intro ?_ ?_) | exact Or.inl rfl | exact Or.inr (by assumption) | exact List.Mem.head _ | exact List.Mem.tail _ (List.Mem.head _) | exact ⟨_, rfl⟩ | exact ⟨_, rfl, Or.inl rfl⟩ | (refine ⟨_, rfl, Or.inr ?_⟩; (try (conv => cbv))) | (simp only [I.val] at *; first | omega | (subst_vars; rfl) | simp_all) | (refine Or.inr ?_; (try (conv => cbv))))))) ⟨i2, k1, L1, y ++ t, rfl, by omega, by omega, hL1, hk1, p1, by omega⟩
    | hid z1 b1 hs hz1 hb1 =>
      have hzs : z1.size = (line (k, g, v, c)).length := by rw [hz1, mk_size]
      have hone : txt1 (k, g, v, c) = line (k, g, v, c) ++ [10] := if_pos (by have hs : k = 3 ∨ k = 4 := hs; show k = 1 ∨ k = 2 ∨ k = 5 ∨ k = 3 ∨ k = 4; omega)
      conv => cbv
      refine Need.mk (by first | omega | (show z1.size + 1 ≤ 9223372036854775807; omega)) ?_
      refine Str.mk fun t ht => ?_
      have ht : t = z1 ++ ⟨#[10]⟩ := ht
      have hts : t.size = z1.size + 1 := by rw [ht, ByteArray.size_append] <;> rfl
      conv => cbv
      refine callF_frame (writeString_lx j M y t hM hj (by omega)) [(0, 1), (1, 2)] rfl (by simp [hmapOk, nget, hget, renB, okB, renV, renVs, rn, okVs, okV]) rfl rfl (fun r h' n' ⟨m1, k1, L1, e1, e2, e3, hL1, hk1⟩ => ?_)
      subst e1 e2 e3
      conv => cbv
      refine Fit.mk (by show (-9223372036854775808 : Int) ≤ i + 1; omega) (by show i + 1 ≤ 9223372036854775807; omega) fun i2 hi2 => ?_
      have hi2 : i2 = i + 1 := hi2
      have hi3 : i2.toNat = i.toNat + 1 := by omega
      have p1 : y ++ t = ⟨(f i2.toNat).toArray⟩ := by
        rw [hf, hi3, htx, hone, hy, ht, hz1]
        apply ByteArray.ext
        apply Array.ext'
        simp [ByteArray.data_append]
      conv => cbv
      refine Again.mk d' _ (Nat.lt_succ_self _) (Re.of [(0, 0), (1, 1), (6, 2)] [] (by first | exact Nat.zero_le _ | exact Nat.le_refl _ | decide | (dsimp only; decide)) rfl rfl (by (try (conv => cbv)); (repeat' (first | exact trivial | rfl | exact SEq.mk rfl | (exact SEq.mk (by first | assumption | (symm; assumption))) | (simp only [I.val]; done) | (simp only [I.val]; omega) | omega | assumption | (refine And.intro ?_ ?_) | exact Or.inl rfl | exact Or.inr (by assumption) | exact List.Mem.head _ | exact List.Mem.tail _ (List.Mem.head _) | exact ⟨_, rfl⟩ | exact ⟨_, rfl, Or.inl rfl⟩ | (refine ⟨_, rfl, Or.inr ?_⟩; (try (conv => cbv))) | (simp only [I.val] at *; first | omega | (subst_vars; rfl) | simp_all) | (refine Or.inr ?_; (try (conv => cbv)))))) (by (try (conv => cbv)); (repeat' (first | exact trivial | rfl | exact SEq.mk rfl | (exact SEq.mk (by first | assumption | (symm; assumption))) | (simp only [I.val]; done) | (simp only [I.val]; omega) | omega | assumption | (refine And.intro ?_ ?_) | exact Or.inl rfl | exact Or.inr (by assumption) | exact List.Mem.head _ | exact List.Mem.tail _ (List.Mem.head _) | exact ⟨_, rfl⟩ | exact ⟨_, rfl, Or.inl rfl⟩ | (refine ⟨_, rfl, Or.inr ?_⟩; (try (conv => cbv))) | (simp only [I.val] at *; first | omega | (subst_vars; rfl) | simp_all) | (refine Or.inr ?_; (try (conv => cbv))))))) ⟨i2, k1, L1, y ++ t, rfl, by omega, by omega, hL1, hk1, p1, by omega⟩
    | nothing hs hs2 =>
      have hone : txt1 (k, g, v, c) = [] := if_neg (by have hs : ¬ (k = 1 ∨ k = 2 ∨ k = 5) := hs; have hs2 : ¬ (k = 3 ∨ k = 4) := hs2; show ¬ (k = 1 ∨ k = 2 ∨ k = 5 ∨ k = 3 ∨ k = 4); omega)
      conv => cbv
      refine Fit.mk (by show (-9223372036854775808 : Int) ≤ i + 1; omega) (by show i + 1 ≤ 9223372036854775807; omega) fun i2 hi2 => ?_
      have hi2 : i2 = i + 1 := hi2
      have hi3 : i2.toNat = i.toNat + 1 := by omega
      have p1 : y = ⟨(f i2.toNat).toArray⟩ := by rw [hf, hi3, htx, hone, List.append_nil]; exact hy
      conv => cbv
      refine Again.mk d' _ (Nat.lt_succ_self _) (Re.of [(0, 0), (1, 1), (2, 2)] [] (by first | exact Nat.zero_le _ | exact Nat.le_refl _ | decide | (dsimp only; decide)) rfl rfl (by (try (conv => cbv)); (repeat' (first | exact trivial | rfl | exact SEq.mk rfl | (exact SEq.mk (by first | assumption | (symm; assumption))) | (simp only [I.val]; done) | (simp only [I.val]; omega) | omega | assumption | (refine And.intro ?_ ?_) | exact Or.inl rfl | exact Or.inr (by assumption) | exact List.Mem.head _ | exact List.Mem.tail _ (List.Mem.head _) | exact ⟨_, rfl⟩ | exact ⟨_, rfl, Or.inl rfl⟩ | (refine ⟨_, rfl, Or.inr ?_⟩; (try (conv => cbv))) | (simp only [I.val] at *; first | omega | (subst_vars; rfl) | simp_all) | (refine Or.inr ?_; (try (conv => cbv)))))) (by (try (conv => cbv)); (repeat' (first | exact trivial | rfl | exact SEq.mk rfl | (exact SEq.mk (by first | assumption | (symm; assumption))) | (simp only [I.val]; done) | (simp only [I.val]; omega) | omega | assumption | (refine And.intro ?_ ?_) | exact Or.inl rfl | exact Or.inr (by assumption) | exact List.Mem.head _ | exact List.Mem.tail _ (List.Mem.head _) | exact ⟨_, rfl⟩ | exact ⟨_, rfl, Or.inl rfl⟩ | (refine ⟨_, rfl, Or.inr ?_⟩; (try (conv => cbv))) | (simp only [I.val] at *; first | omega | (subst_vars; rfl) | simp_all) | (refine Or.inr ?_; (try (conv => cbv))))))) ⟨i2, j, M, y, rfl, by omega, by omega, hM, hj, p1, by omega⟩
  · have gi : ¬ i < m := gi
    have hend : E.take i.toNat = E := List.take_of_length_le (by omega)
    rw [hend, ← hZ] at hy
    conv => cbv
    refine callF_frame (string_lx j M y hM hj) [(0, 1), (1, 2)] rfl (by simp [hmapOk, nget, hget, renB, okB, renV, renVs, rn, okVs, okV]) rfl rfl (fun r h' n' ⟨e1, e2, e3⟩ => ?_)
    subst e1 e2 e3
    conv => cbv
    refine RetF.mk [.p (.str fun _ => y)] [(0, .fix 0 o)] 1 (Re.of [(0, 0)] [] (by first | exact Nat.zero_le _ | exact Nat.le_refl _ | decide | (dsimp only; decide)) rfl rfl (by (try (conv => cbv)); (repeat' (first | exact trivial | rfl | exact SEq.mk rfl | (exact SEq.mk (by first | assumption | (symm; assumption))) | (simp only [I.val]; done) | (simp only [I.val]; omega) | omega | assumption | (refine And.intro ?_ ?_) | exact Or.inl rfl | exact Or.inr (by assumption) | exact List.Mem.head _ | exact List.Mem.tail _ (List.Mem.head _) | exact ⟨_, rfl⟩ | exact ⟨_, rfl, Or.inl rfl⟩ | (refine ⟨_, rfl, Or.inr ?_⟩; (try (conv => cbv))) | (simp only [I.val] at *; first | omega | (subst_vars; rfl) | simp_all) | (refine Or.inr ?_; (try (conv => cbv)))))) (by (try (conv => cbv)); (repeat' (first | exact trivial | rfl | exact SEq.mk rfl | (exact SEq.mk (by first | assumption | (symm; assumption))) | (simp only [I.val]; done) | (simp only [I.val]; omega) | omega | assumption | (refine And.intro ?_ ?_) | exact Or.inl rfl | exact Or.inr (by assumption) | exact List.Mem.head _ | exact List.Mem.tail _ (List.Mem.head _) | exact ⟨_, rfl⟩ | exact ⟨_, rfl, Or.inl rfl⟩ | (refine ⟨_, rfl, Or.inr ?_⟩; (try (conv => cbv))) | (simp only [I.val] at *; first | omega | (subst_vars; rfl) | simp_all) | (refine Or.inr ?_; (try (conv => cbv))))))) rfl ⟨⟨y, rfl, hy⟩, rfl, rfl⟩
end Go.Proofs.YtongaoioaafjnaaDoor
