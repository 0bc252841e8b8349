/-
  Layer 6: the rows of the reference.
-/
import Derived.Test.YtllafhhnciobhaaGreatDoorSh
namespace Go.Proofs.YtllafhhnciobhaaGreatDoor

open Go Go.LX
set_option maxRecDepth 100000
set_option linter.unusedVariables false
set_option linter.unusedSimpArgs false

theorem set_same {α : Type} {l : List α} {i : Nat} {x : α} (h : l[i]? = some x) : l.set i x = l := by
  apply List.ext_getElem?
  intro j
  by_cases e : i = j
  · subst e
    rw [List.getElem?_set_self (List.getElem?_eq_some_iff.1 h).1, h]
  · rw [List.getElem?_set_ne e]
/-- Rows as they may be. -/
def ROk (R : List Rw) : Prop := ∀ e ∈ R, e.2.length ≤ 8 ∧ (e.2 ≠ [] → slotsOf e.1 ≠ 0 ∧ e.2.length = slotsOf e.1)
def okAt (m : List Bool) (k : Nat) : Bool := decide (m[k]? = some true)
def flags (m : List Bool) : List PV := (List.range 8).map fun k => .bool (okAt m k)
def cpv (R : List Rw) : List PV := R.map fun e => .int .i64 (.sym (clsOf e))
def bpv : List Rw → List PV
  | [] => []
  | e :: R => flags e.2 ++ bpv R
theorem flags_length (m : List Bool) : (flags m).length = 8 := by simp [flags]
theorem flags_get {m : List Bool} {k : Nat} (h : k < 8) : (flags m)[k]? = some (.bool (okAt m k)) := by
  rw [flags, List.getElem?_map, List.getElem?_range h]; rfl
theorem cpv_length (R : List Rw) : (cpv R).length = R.length := List.length_map _
theorem cpv_get {R : List Rw} {q : Nat} {e : Rw} (h : R[q]? = some e) : (cpv R)[q]? = some (.int .i64 (.sym (clsOf e))) := by rw [cpv, List.getElem?_map, h]; rfl
theorem bpv_length : ∀ R : List Rw, (bpv R).length = 8 * R.length
  | [] => rfl
  | e :: R => by rw [bpv, List.length_append, flags_length, bpv_length R, List.length_cons]; omega
theorem bpv_get : ∀ {R : List Rw} {q : Nat} {e : Rw} {k : Nat}, R[q]? = some e → k < 8 → (bpv R)[8 * q + k]? = some (.bool (okAt e.2 k))
  | [], q, e, k, h, _ => by simp at h
  | x :: R, 0, e, k, h, hk => by
    have h : x = e := Option.some.inj h
    subst h
    rw [bpv, List.getElem?_append_left (by rw [flags_length]; omega)]
    simpa using flags_get (m := x.2) hk
  | x :: R, q + 1, e, k, h, hk => by
    rw [bpv, List.getElem?_append_right (by rw [flags_length]; omega), flags_length, show 8 * (q + 1) + k - 8 = 8 * q + k by omega]
    exact bpv_get (by simpa using h) hk
theorem bpv_set : ∀ {R : List Rw} {q : Nat} {e : Rw} (e' : Rw) {k : Nat} {v : Bool}, R[q]? = some e → k < 8 → flags e'.2 = (flags e.2).set k (.bool v) → (bpv R).set (8 * q + k) (.bool v) = bpv (R.set q e')
  | [], q, e, e', k, v, h, _, _ => by simp at h
  | x :: R, 0, e, e', k, v, h, hk, hf => by
    have h : x = e := Option.some.inj h
    subst h
    rw [bpv, List.set_cons_zero, bpv, List.set_append_left _ _ (by rw [flags_length]; omega), hf]
    simp
  | x :: R, q + 1, e, e', k, v, h, hk, hf => by
    rw [bpv, List.set_cons_succ, bpv, List.set_append_right _ _ (by rw [flags_length]; omega), flags_length, show 8 * (q + 1) + k - 8 = 8 * q + k by omega, bpv_set e' (by simpa using h) hk hf]
theorem bpv_same {R : List Rw} {q : Nat} {e : Rw} (e' : Rw) (h : R[q]? = some e) (hf : flags e'.2 = flags e.2) : bpv R = bpv (R.set q e') := by
  have h0 := bpv_set (v := okAt e.2 0) e' h (by decide : 0 < 8) (by
    rw [hf]
    have h1 := flags_get (m := e.2) (by decide : 0 < 8)
    exact (set_same h1).symm)
  rw [← h0]
  exact (set_same (bpv_get h (by decide : 0 < 8))).symm
theorem flags_set {m m' : List Bool} {k : Nat} {v : Bool} (hk : k < 8) (h1 : okAt m' k = v) (h2 : ∀ j, j ≠ k → okAt m' j = okAt m j) : flags m' = (flags m).set k (.bool v) := by
  apply List.ext_getElem?
  intro j
  by_cases hj : j < 8
  · rw [flags_get hj]
    by_cases e : k = j
    · subst e
      rw [List.getElem?_set_self (by rw [flags_length]; exact hj), h1]
    · rw [List.getElem?_set_ne e, flags_get hj, h2 j (fun h => e h.symm)]
  · rw [List.getElem?_eq_none (by rw [flags_length]; omega), List.getElem?_eq_none (by rw [List.length_set, flags_length]; omega)]
theorem okAt_set {m : List Bool} {k : Nat} {v : Bool} (hk : k < m.length) : okAt (m.set k v) k = v ∧ ∀ j, j ≠ k → okAt (m.set k v) j = okAt m j := by
  constructor
  · unfold okAt
    rw [List.getElem?_set_self hk]
    cases v <;> rfl
  · intro j hj
    unfold okAt
    rw [List.getElem?_set_ne (fun h => hj h.symm)]
theorem okAt_nil (k : Nat) : okAt [] k = false := by simp [okAt]
theorem cpv_set {R : List Rw} {q : Nat} (e' : Rw) {c : Int} (h : clsOf e' = c) : (cpv R).set q (.int .i64 (.sym c)) = cpv (R.set q e') := by
  rw [cpv, cpv, List.map_set, h]
theorem cpv_same {R : List Rw} {q : Nat} {e : Rw} (e' : Rw) (hq : R[q]? = some e) (h : clsOf e' = clsOf e) : cpv R = cpv (R.set q e') := by
  rw [← cpv_set e' h]
  exact (set_same (cpv_get hq)).symm
/-- Is a slot used? -/
def UsedAt (R : List Rw) (i j : Int) : Prop := ∃ e : Rw, 0 ≤ i ∧ R[i.toNat]? = some e ∧ 0 ≤ j ∧ e.2[j.toNat]? = some true
def classAt (R : List Rw) (i : Int) : Int := if 0 ≤ i then ((R[i.toNat]?).map clsOf).getD (-1) else -1
theorem rused_lx (i j : Int) (R : List Rw) (n : Int) (C B : List PV) (hC : C = cpv R) (hB : B = bpv R) (hn : n = R.length) (hR : R.length ≤ 1000) (hok : ROk R) : CallF (fun _ => Tryz.prog) 89 [.ptr 0 (.lit 0), .p (.int .i64 (.sym i)), .p (.int .i64 (.sym j))] [(0, .mix [.sl 1 3 1 (.lit 0) (.sym n), .sl 2 120 8 (.lit 0) (.sym n)]), (1, .pure true C), (2, .pure true B)] 3
    (fun r h n' => ∃ b : Bool, r = .p (.bool b) ∧ h = [(0, .mix [.sl 1 3 1 (.lit 0) (.sym n), .sl 2 120 8 (.lit 0) (.sym n)]), (1, .pure true C), (2, .pure true B)] ∧ n' = 3 ∧ (b = true ↔ UsedAt R i j)) := by
  refine callF_of_body tok Tryz.func89 (by kernel_rfl) rfl rfl rfl ?_; conv => cbv
  have hBl : B.length = 8 * R.length := by rw [hB, bpv_length]
  refine Br.mk (fun g1 => ?_) (fun g1 => ?_)
  case refine_2 =>
    have g1 : ¬ 0 ≤ i := g1
    have hno : ¬ UsedAt R i j := fun ⟨e, h, _⟩ => g1 h
    conv => cbv
    refine RetF.mk [.p (.bool false)] [(0, .mix [.sl 1 3 1 (.lit 0) (.sym n), .sl 2 120 8 (.lit 0) (.sym n)]), (1, .pure true C), (2, .pure true B)] 3 (Re.of [(0, 0), (1, 1), (2, 2)] [] (by first | exact Nat.zero_le _ | exact Nat.le_refl _ | decide | (dsimp only; decide)) rfl rfl (by (try (conv => cbv)); (repeat' (first | exact trivial | rfl | exact SEq.mk rfl | (exact SEq.mk (by first | assumption | (symm; assumption))) | (simp only [I.val]; done) | (simp only [I.val]; omega) | omega | assumption | (refine And.intro ?_ ?_) | exact Or.inl rfl | exact Or.inr (by assumption) | exact List.Mem.head _ | exact List.Mem.tail _ (List.Mem.head _) | exact ⟨_, rfl⟩ | exact ⟨_, rfl, Or.inl rfl⟩ | (refine ⟨_, rfl, Or.inr ?_⟩; (try (conv => cbv))) | (simp only [I.val] at *; first | omega | (subst_vars; rfl) | simp_all) | (refine Or.inr ?_; (try (conv => cbv)))))) (by (try (conv => cbv)); (repeat' (first | exact trivial | rfl | exact SEq.mk rfl | (exact SEq.mk (by first | assumption | (symm; assumption))) | (simp only [I.val]; done) | (simp only [I.val]; omega) | omega | assumption | (refine And.intro ?_ ?_) | exact Or.inl rfl | exact Or.inr (by assumption) | exact List.Mem.head _ | exact List.Mem.tail _ (List.Mem.head _) | exact ⟨_, rfl⟩ | exact ⟨_, rfl, Or.inl rfl⟩ | (refine ⟨_, rfl, Or.inr ?_⟩; (try (conv => cbv))) | (simp only [I.val] at *; first | omega | (subst_vars; rfl) | simp_all) | (refine Or.inr ?_; (try (conv => cbv))))))) rfl ⟨false, rfl, rfl, rfl, by simp [hno]⟩
  have g1 : 0 ≤ i := g1
  conv => cbv
  refine Br.mk (fun g2 => ?_) (fun g2 => ?_)
  case refine_2 =>
    have g2 : ¬ i < n := g2
    have hno : ¬ UsedAt R i j := fun ⟨e, _, he, _⟩ => by have := (List.getElem?_eq_some_iff.1 he).1; omega
    conv => cbv
    refine RetF.mk [.p (.bool false)] [(0, .mix [.sl 1 3 1 (.lit 0) (.sym n), .sl 2 120 8 (.lit 0) (.sym n)]), (1, .pure true C), (2, .pure true B)] 3 (Re.of [(0, 0), (1, 1), (2, 2)] [] (by first | exact Nat.zero_le _ | exact Nat.le_refl _ | decide | (dsimp only; decide)) rfl rfl (by (try (conv => cbv)); (repeat' (first | exact trivial | rfl | exact SEq.mk rfl | (exact SEq.mk (by first | assumption | (symm; assumption))) | (simp only [I.val]; done) | (simp only [I.val]; omega) | omega | assumption | (refine And.intro ?_ ?_) | exact Or.inl rfl | exact Or.inr (by assumption) | exact List.Mem.head _ | exact List.Mem.tail _ (List.Mem.head _) | exact ⟨_, rfl⟩ | exact ⟨_, rfl, Or.inl rfl⟩ | (refine ⟨_, rfl, Or.inr ?_⟩; (try (conv => cbv))) | (simp only [I.val] at *; first | omega | (subst_vars; rfl) | simp_all) | (refine Or.inr ?_; (try (conv => cbv)))))) (by (try (conv => cbv)); (repeat' (first | exact trivial | rfl | exact SEq.mk rfl | (exact SEq.mk (by first | assumption | (symm; assumption))) | (simp only [I.val]; done) | (simp only [I.val]; omega) | omega | assumption | (refine And.intro ?_ ?_) | exact Or.inl rfl | exact Or.inr (by assumption) | exact List.Mem.head _ | exact List.Mem.tail _ (List.Mem.head _) | exact ⟨_, rfl⟩ | exact ⟨_, rfl, Or.inl rfl⟩ | (refine ⟨_, rfl, Or.inr ?_⟩; (try (conv => cbv))) | (simp only [I.val] at *; first | omega | (subst_vars; rfl) | simp_all) | (refine Or.inr ?_; (try (conv => cbv))))))) rfl ⟨false, rfl, rfl, rfl, by simp [hno]⟩
  have g2 : i < n := g2
  conv => cbv
  refine Br.mk (fun g3 => ?_) (fun g3 => ?_)
  case refine_2 =>
    have g3 : ¬ 0 ≤ j := g3
    have hno : ¬ UsedAt R i j := fun ⟨e, _, _, h, _⟩ => g3 h
    conv => cbv
    refine RetF.mk [.p (.bool false)] [(0, .mix [.sl 1 3 1 (.lit 0) (.sym n), .sl 2 120 8 (.lit 0) (.sym n)]), (1, .pure true C), (2, .pure true B)] 3 (Re.of [(0, 0), (1, 1), (2, 2)] [] (by first | exact Nat.zero_le _ | exact Nat.le_refl _ | decide | (dsimp only; decide)) rfl rfl (by (try (conv => cbv)); (repeat' (first | exact trivial | rfl | exact SEq.mk rfl | (exact SEq.mk (by first | assumption | (symm; assumption))) | (simp only [I.val]; done) | (simp only [I.val]; omega) | omega | assumption | (refine And.intro ?_ ?_) | exact Or.inl rfl | exact Or.inr (by assumption) | exact List.Mem.head _ | exact List.Mem.tail _ (List.Mem.head _) | exact ⟨_, rfl⟩ | exact ⟨_, rfl, Or.inl rfl⟩ | (refine ⟨_, rfl, Or.inr ?_⟩; (try (conv => cbv))) | (simp only [I.val] at *; first | omega | (subst_vars; rfl) | simp_all) | (refine Or.inr ?_; (try (conv => cbv)))))) (by (try (conv => cbv)); (repeat' (first | exact trivial | rfl | exact SEq.mk rfl | (exact SEq.mk (by first | assumption | (symm; assumption))) | (simp only [I.val]; done) | (simp only [I.val]; omega) | omega | assumption | (refine And.intro ?_ ?_) | exact Or.inl rfl | exact Or.inr (by assumption) | exact List.Mem.head _ | exact List.Mem.tail _ (List.Mem.head _) | exact ⟨_, rfl⟩ | exact ⟨_, rfl, Or.inl rfl⟩ | (refine ⟨_, rfl, Or.inr ?_⟩; (try (conv => cbv))) | (simp only [I.val] at *; first | omega | (subst_vars; rfl) | simp_all) | (refine Or.inr ?_; (try (conv => cbv))))))) rfl ⟨false, rfl, rfl, rfl, by simp [hno]⟩
  have g3 : 0 ≤ j := g3
  conv => cbv
  refine Br.mk (fun g4 => ?_) (fun g4 => ?_)
  case refine_2 =>
    have g4 : ¬ j < 8 := g4
    have hno : ¬ UsedAt R i j := fun ⟨e, _, he, _, h⟩ => by
      have := (List.getElem?_eq_some_iff.1 h).1
      have := (hok e (List.mem_of_getElem? he)).1
      omega
    conv => cbv
    refine RetF.mk [.p (.bool false)] [(0, .mix [.sl 1 3 1 (.lit 0) (.sym n), .sl 2 120 8 (.lit 0) (.sym n)]), (1, .pure true C), (2, .pure true B)] 3 (Re.of [(0, 0), (1, 1), (2, 2)] [] (by first | exact Nat.zero_le _ | exact Nat.le_refl _ | decide | (dsimp only; decide)) rfl rfl (by (try (conv => cbv)); (repeat' (first | exact trivial | rfl | exact SEq.mk rfl | (exact SEq.mk (by first | assumption | (symm; assumption))) | (simp only [I.val]; done) | (simp only [I.val]; omega) | omega | assumption | (refine And.intro ?_ ?_) | exact Or.inl rfl | exact Or.inr (by assumption) | exact List.Mem.head _ | exact List.Mem.tail _ (List.Mem.head _) | exact ⟨_, rfl⟩ | exact ⟨_, rfl, Or.inl rfl⟩ | (refine ⟨_, rfl, Or.inr ?_⟩; (try (conv => cbv))) | (simp only [I.val] at *; first | omega | (subst_vars; rfl) | simp_all) | (refine Or.inr ?_; (try (conv => cbv)))))) (by (try (conv => cbv)); (repeat' (first | exact trivial | rfl | exact SEq.mk rfl | (exact SEq.mk (by first | assumption | (symm; assumption))) | (simp only [I.val]; done) | (simp only [I.val]; omega) | omega | assumption | (refine And.intro ?_ ?_) | exact Or.inl rfl | exact Or.inr (by assumption) | exact List.Mem.head _ | exact List.Mem.tail _ (List.Mem.head _) | exact ⟨_, rfl⟩ | exact ⟨_, rfl, Or.inl rfl⟩ | (refine ⟨_, rfl, Or.inr ?_⟩; (try (conv => cbv))) | (simp only [I.val] at *; first | omega | (subst_vars; rfl) | simp_all) | (refine Or.inr ?_; (try (conv => cbv))))))) rfl ⟨false, rfl, rfl, rfl, by simp [hno]⟩
  have g4 : j < 8 := g4
  obtain ⟨e, he⟩ : ∃ e, R[i.toNat]? = some e := ⟨_, List.getElem?_eq_getElem (by omega)⟩
  have hc := bpv_get (k := j.toNat) he (by omega)
  rw [← hB] at hc
  obtain ⟨b, hb⟩ : ∃ b, b = okAt e.2 j.toNat := ⟨_, rfl⟩
  have hbi : b = true ↔ UsedAt R i j := by
    rw [hb, okAt, decide_eq_true_eq]
    constructor
    · intro h; exact ⟨e, g1, he, g3, h⟩
    · rintro ⟨e', _, he', _, h⟩
      rw [he] at he'; cases he'; exact h
  rw [← hb] at hc
  conv => cbv
  refine Need.mk ⟨g1, by show i < n; omega⟩ ?_
  conv => cbv
  refine Sum.mk fun a ha => ?_
  have ha : a = i * 8 := ha
  conv => cbv
  refine Need.mk ⟨g3, by show j < ((8 : Nat) : Int); omega⟩ ?_
  conv => cbv
  refine Sum.mk fun a2 ha2 => ?_
  have ha2 : a2 = a + j := ha2
  conv => cbv
  refine Cell.at a2 _ hc (by simp [I.val]) (by omega) ?_
  conv => cbv
  refine RetF.mk [.p (.bool b)] [(0, .mix [.sl 1 3 1 (.lit 0) (.sym n), .sl 2 120 8 (.lit 0) (.sym n)]), (1, .pure true C), (2, .pure true B)] 3 (Re.of [(0, 0), (1, 1), (2, 2)] [] (by first | exact Nat.zero_le _ | exact Nat.le_refl _ | decide | (dsimp only; decide)) rfl rfl (by (try (conv => cbv)); (repeat' (first | exact trivial | rfl | exact SEq.mk rfl | (exact SEq.mk (by first | assumption | (symm; assumption))) | (simp only [I.val]; done) | (simp only [I.val]; omega) | omega | assumption | (refine And.intro ?_ ?_) | exact Or.inl rfl | exact Or.inr (by assumption) | exact List.Mem.head _ | exact List.Mem.tail _ (List.Mem.head _) | exact ⟨_, rfl⟩ | exact ⟨_, rfl, Or.inl rfl⟩ | (refine ⟨_, rfl, Or.inr ?_⟩; (try (conv => cbv))) | (simp only [I.val] at *; first | omega | (subst_vars; rfl) | simp_all) | (refine Or.inr ?_; (try (conv => cbv)))))) (by (try (conv => cbv)); (repeat' (first | exact trivial | rfl | exact SEq.mk rfl | (exact SEq.mk (by first | assumption | (symm; assumption))) | (simp only [I.val]; done) | (simp only [I.val]; omega) | omega | assumption | (refine And.intro ?_ ?_) | exact Or.inl rfl | exact Or.inr (by assumption) | exact List.Mem.head _ | exact List.Mem.tail _ (List.Mem.head _) | exact ⟨_, rfl⟩ | exact ⟨_, rfl, Or.inl rfl⟩ | (refine ⟨_, rfl, Or.inr ?_⟩; (try (conv => cbv))) | (simp only [I.val] at *; first | omega | (subst_vars; rfl) | simp_all) | (refine Or.inr ?_; (try (conv => cbv))))))) rfl ⟨b, rfl, rfl, rfl, hbi⟩
end Go.Proofs.YtllafhhnciobhaaGreatDoor
/-
  Layer 6: what the reference does.
-/
namespace Go.Proofs.YtllafhhnciobhaaGreatDoor

open Go Go.LX
set_option maxRecDepth 100000
set_option linter.unusedVariables false
set_option linter.unusedSimpArgs false

theorem pvles_set6 : ∀ (L M : List PV) (j : Nat) (u v : PV), pvles L M → pvle u v → pvles (L.set j u) (M.set j v)
  | [], [], _, _, _, _, _ => trivial
  | x :: L, y :: M, 0, u, v, h, k => ⟨k, h.2⟩
  | x :: L, y :: M, j + 1, u, v, h, k => ⟨h.1, pvles_set6 L M j u v h.2 k⟩
theorem okAt_get {m : List Bool} {k : Nat} {b : Bool} (h : m[k]? = some b) : okAt m k = b := by
  unfold okAt; rw [h]; cases b <;> rfl
theorem cnt0 {m : List Bool} (h8 : m.length ≤ 8) : (∀ k, k < 8 → okAt m k = false) ↔ m.count true = 0 := by
  rw [List.count_eq_zero]
  constructor
  · intro h hm
    obtain ⟨k, hk⟩ := List.getElem?_of_mem hm
    have hkl := (List.getElem?_eq_some_iff.1 hk).1
    have := h k (by omega)
    rw [okAt_get hk] at this
    cases this
  · intro h k _
    unfold okAt
    rw [decide_eq_false_iff_not]
    exact fun hk => h (List.mem_of_getElem? hk)
/-- What becomes of rows to which a slot is given back. -/
inductive Freed6 (R : List Rw) (i j : Int) : Bool → List Rw → Prop
  | no (h : ¬ UsedAt R i j) : Freed6 R i j false R
  | yes (e : Rw) (h0 : 0 ≤ i) (he : R[i.toNat]? = some e) (h1 : 0 ≤ j) (hs : e.2[j.toNat]? = some true) : Freed6 R i j true (freed R i.toNat e.1 (e.2.set j.toNat false))
set_option maxHeartbeats 4000000 in
theorem rfree_lx (i j : Int) (R : List Rw) (n : Int) (C B : List PV) (hC : C = cpv R) (hB : B = bpv R) (hn : n = R.length) (hR : R.length ≤ 1000) (hok : ROk R) : CallF (fun _ => Tryz.prog) 112 [.ptr 0 (.lit 0), .p (.int .i64 (.sym i)), .p (.int .i64 (.sym j))] [(0, .mix [.sl 1 3 1 (.lit 0) (.sym n), .sl 2 120 8 (.lit 0) (.sym n)]), (1, .pure true C), (2, .pure true B)] 3
    (fun r h n' => ∃ (b : Bool) (R' : List Rw) (C' B' : List PV), r = .p (.bool b) ∧ h = [(0, .mix [.sl 1 3 1 (.lit 0) (.sym n), .sl 2 120 8 (.lit 0) (.sym n)]), (1, .pure true C'), (2, .pure true B')] ∧ n' = 3 ∧ C' = cpv R' ∧ B' = bpv R' ∧ Freed6 R i j b R') := by
  have hBl : B.length = 8 * R.length := by rw [hB, bpv_length]
  have hCl : C.length = R.length := by rw [hC, cpv_length]
  by_cases hu : UsedAt R i j
  case neg =>
    refine callF_of_body tok Tryz.func112 (by kernel_rfl) rfl rfl rfl ?_; conv => cbv
    refine callF_frame (rused_lx i j R n C B hC hB hn hR hok) [(0, 0), (1, 1), (2, 2)] rfl (by simp [hmapOk, nget, hget, renB, okB, renV, renVs, rn, okVs, okV]) rfl rfl (fun r h' n' hrr => ?_)
    obtain ⟨b, e1, e2, e3, hb⟩ := hrr
    obtain rfl : b = false := by
      cases b with
      | false => rfl
      | true => exact absurd (hb.1 rfl) hu
    subst e1 e2 e3
    conv => cbv
    refine RetF.mk [.p (.bool false)] [(0, .mix [.sl 1 3 1 (.lit 0) (.sym n), .sl 2 120 8 (.lit 0) (.sym n)]), (1, .pure true C), (2, .pure true B)] 3 (Re.of [(0, 0), (1, 1), (2, 2)] [] (by first | exact Nat.zero_le _ | exact Nat.le_refl _ | decide | (dsimp only; decide)) rfl rfl (by (try (conv => cbv)); (repeat' (first | exact trivial | rfl | exact SEq.mk rfl | (exact SEq.mk (by first | assumption | (symm; assumption))) | (simp only [I.val]; done) | (simp only [I.val]; omega) | omega | assumption | (refine And.intro ?_ ?_) | exact Or.inl rfl | exact Or.inr (by assumption) | exact List.Mem.head _ | exact List.Mem.tail _ (List.Mem.head _) | exact ⟨_, rfl⟩ | exact ⟨_, rfl, Or.inl rfl⟩ | (refine ⟨_, rfl, Or.inr ?_⟩; (try (conv => cbv))) | (simp only [I.val] at *; first | omega | (subst_vars; rfl) | simp_all) | (refine Or.inr ?_; (try (conv => cbv)))))) (by (try (conv => cbv)); (repeat' (first | exact trivial | rfl | exact SEq.mk rfl | (exact SEq.mk (by first | assumption | (symm; assumption))) | (simp only [I.val]; done) | (simp only [I.val]; omega) | omega | assumption | (refine And.intro ?_ ?_) | exact Or.inl rfl | exact Or.inr (by assumption) | exact List.Mem.head _ | exact List.Mem.tail _ (List.Mem.head _) | exact ⟨_, rfl⟩ | exact ⟨_, rfl, Or.inl rfl⟩ | (refine ⟨_, rfl, Or.inr ?_⟩; (try (conv => cbv))) | (simp only [I.val] at *; first | omega | (subst_vars; rfl) | simp_all) | (refine Or.inr ?_; (try (conv => cbv))))))) rfl ⟨false, R, C, B, rfl, rfl, rfl, hC, hB, .no hu⟩
  case pos =>
    obtain ⟨e, h0, he, h1, hs⟩ := hu
    have hir := (List.getElem?_eq_some_iff.1 he).1
    have hjm := (List.getElem?_eq_some_iff.1 hs).1
    have hm8 := (hok e (List.mem_of_getElem? he)).1
    obtain ⟨m2, hm2⟩ : ∃ m2, m2 = e.2.set j.toNat false := ⟨_, rfl⟩
    have hfl : flags m2 = (flags e.2).set j.toNat (.bool false) := by
      obtain ⟨q1, q2⟩ := okAt_set (v := false) hjm
      rw [hm2]; exact flags_set (by omega) q1 q2
    obtain ⟨R2, hR2⟩ : ∃ R2, R2 = R.set i.toNat (e.1, m2) := ⟨_, rfl⟩
    have hR2i : R2[i.toNat]? = some (e.1, m2) := by rw [hR2, List.getElem?_set_self hir]
    have hB2 := bpv_set (v := false) (e.1, m2) he (show j.toNat < 8 by omega) hfl
    rw [← hR2, ← hB] at hB2
    have hne : e.2 ≠ [] := by intro e0; rw [e0] at hs; simp at hs
    obtain ⟨g, hg⟩ : ∃ g : Nat → Bool, ∀ k, g k = okAt m2 k := ⟨_, fun _ => rfl⟩
    have hcell : ∀ k, k < 8 → (bpv R2)[8 * i.toNat + k]? = some (.bool (g k)) := fun k hk => by rw [hg]; exact bpv_get hR2i hk
    have hused : UsedAt R i j := ⟨e, h0, he, h1, hs⟩
    refine callF_of_body tok Tryz.func112 (by kernel_rfl) rfl rfl rfl ?_; conv => cbv
    refine callF_frame (rused_lx i j R n C B hC hB hn hR hok) [(0, 0), (1, 1), (2, 2)] rfl (by simp [hmapOk, nget, hget, renB, okB, renV, renVs, rn, okVs, okV]) rfl rfl (fun r h' n' hrr => ?_)
    obtain ⟨b, e1, e2, e3, hb⟩ := hrr
    obtain rfl : b = true := hb.2 hused
    subst e1 e2 e3
    conv => cbv
    refine Need.mk ⟨h0, by show i < n; omega⟩ ?_
    conv => cbv
    refine Sum.mk fun a ha => ?_
    have ha : a = i * 8 := ha
    conv => cbv
    refine Need.mk ⟨h1, by show j < ((8 : Nat) : Int); omega⟩ ?_
    conv => cbv
    refine Sum.mk fun a2 ha2 => ?_
    have ha2 : a2 = a + j := ha2
    conv => cbv
    refine Need.mk (by show a2 + ((1 : Nat) : Int) ≤ (B.length : Int); omega) ?_
    conv => cbv
    refine Upd.mk fun B1 hB1 => ?_
    have hB1 : B1 = B.set a2.toNat (.bool false) := hB1
    have hB1 : B1 = bpv R2 := by rw [hB1, show a2.toNat = 8 * i.toNat + j.toNat by omega, hB2]
    have hcell1 : ∀ k, k < 8 → B1[8 * i.toNat + k]? = some (.bool (g k)) := fun k hk => by rw [hB1]; exact hcell k hk
    conv => cbv
    refine Need.mk ⟨h0, by show i < n; omega⟩ ?_
    conv => cbv
    refine Sum.mk fun a3 ha3 => ?_
    have ha3 : a3 = i * 8 := ha3
    conv => cbv
    refine Cell.at (a3 + 0) _ (hcell1 0 (by decide)) rfl (by omega) ?_
    conv => cbv
    refine Cell.at (a3 + 1) _ (hcell1 1 (by decide)) rfl (by omega) ?_
    conv => cbv
    refine Cell.at (a3 + 2) _ (hcell1 2 (by decide)) rfl (by omega) ?_
    conv => cbv
    refine Cell.at (a3 + 3) _ (hcell1 3 (by decide)) rfl (by omega) ?_
    conv => cbv
    refine Cell.at (a3 + 4) _ (hcell1 4 (by decide)) rfl (by omega) ?_
    conv => cbv
    refine Cell.at (a3 + 5) _ (hcell1 5 (by decide)) rfl (by omega) ?_
    conv => cbv
    refine Cell.at (a3 + 6) _ (hcell1 6 (by decide)) rfl (by omega) ?_
    conv => cbv
    refine Cell.at (a3 + 7) _ (hcell1 7 (by decide)) rfl (by omega) ?_
    conv => cbv
    have hm2l : m2.length = e.2.length := by rw [hm2, List.length_set]
    refine AggEq.mk (by kernel_rfl) (fun geq => ?_) (fun geq => ?_)
    · have hall : ∀ k, k < 8 → okAt m2 k = false := by
        simp only [eqLs] at geq
        obtain ⟨q0, q1, q2, q3, q4, q5, q6, q7, _⟩ := geq
        intro k hk
        rw [← hg]
        have : k = 0 ∨ k = 1 ∨ k = 2 ∨ k = 3 ∨ k = 4 ∨ k = 5 ∨ k = 6 ∨ k = 7 := by omega
        rcases this with e | e | e | e | e | e | e | e <;> (subst e; assumption)
      have hcnt := (cnt0 (by omega)).1 hall
      have hF : Freed6 R i j true (R.set i.toNat (0, [])) := by
        have := Freed6.yes (R := R) e h0 he h1 hs
        rwa [← hm2, freed, if_pos hcnt] at this
      have hfl0 : flags ([] : List Bool) = flags m2 := by
        unfold flags
        refine List.map_congr_left fun k hk => ?_
        rw [hall k (List.mem_range.1 hk), okAt_nil]
      have hB9 : B1 = bpv (R.set i.toNat (0, [])) := by
        rw [hB1, bpv_same (0, []) hR2i hfl0, hR2, List.set_set]
      obtain ⟨C9, hC9⟩ : ∃ C9, C9 = cpv (R.set i.toNat (0, [])) := ⟨_, rfl⟩
      conv => cbv
      refine Need.mk ⟨h0, by show i < n; omega⟩ ?_
      conv => cbv
      refine Need.mk (by show i + ((1 : Nat) : Int) ≤ (C.length : Int); omega) ?_
      conv => cbv
      refine Upd.mk fun C1 hC1 => ?_
      have hle : pvles C1 C9 := by
        have hC1 : C1 = C.set i.toNat (.int .i64 (.lit (-1))) := hC1
        rw [hC1, hC9, hC, ← cpv_set (R := R) (q := i.toNat) (c := -1) (0, []) rfl]
        exact pvles_set6 _ _ _ _ _ (pvles_self _) (by simp [pvle, I.val])
      clear hC1
      unfold pvles at hle
      conv => cbv
      refine RetF.mk [.p (.bool true)] [(0, .mix [.sl 1 3 1 (.lit 0) (.sym n), .sl 2 120 8 (.lit 0) (.sym n)]), (1, .pure true C9), (2, .pure true B1)] 3 (Re.of [(0, 0), (1, 1), (2, 2)] [] (by first | exact Nat.zero_le _ | exact Nat.le_refl _ | decide | (dsimp only; decide)) rfl rfl (by (try (conv => cbv)); (repeat' (first | exact trivial | rfl | exact SEq.mk rfl | (exact SEq.mk (by first | assumption | (symm; assumption))) | (simp only [I.val]; done) | (simp only [I.val]; omega) | omega | assumption | (refine And.intro ?_ ?_) | exact Or.inl rfl | exact Or.inr (by assumption) | exact List.Mem.head _ | exact List.Mem.tail _ (List.Mem.head _) | exact ⟨_, rfl⟩ | exact ⟨_, rfl, Or.inl rfl⟩ | (refine ⟨_, rfl, Or.inr ?_⟩; (try (conv => cbv))) | (simp only [I.val] at *; first | omega | (subst_vars; rfl) | simp_all) | (refine Or.inr ?_; (try (conv => cbv)))))) (by (try (conv => cbv)); (repeat' (first | exact trivial | rfl | exact SEq.mk rfl | (exact SEq.mk (by first | assumption | (symm; assumption))) | (simp only [I.val]; done) | (simp only [I.val]; omega) | omega | assumption | (refine And.intro ?_ ?_) | exact Or.inl rfl | exact Or.inr (by assumption) | exact List.Mem.head _ | exact List.Mem.tail _ (List.Mem.head _) | exact ⟨_, rfl⟩ | exact ⟨_, rfl, Or.inl rfl⟩ | (refine ⟨_, rfl, Or.inr ?_⟩; (try (conv => cbv))) | (simp only [I.val] at *; first | omega | (subst_vars; rfl) | simp_all) | (refine Or.inr ?_; (try (conv => cbv))))))) rfl ⟨true, _, C9, B1, rfl, rfl, rfl, hC9, hB9, hF⟩
    · have hcnt : ¬ m2.count true = 0 := by
        intro hc
        have hall := (cnt0 (show m2.length ≤ 8 by omega)).2 hc
        refine geq ?_
        simp only [eqLs]
        simp only [hg]
        exact ⟨hall 0 (by decide), hall 1 (by decide), hall 2 (by decide), hall 3 (by decide), hall 4 (by decide), hall 5 (by decide), hall 6 (by decide), hall 7 (by decide), trivial⟩
      have hF : Freed6 R i j true R2 := by
        have := Freed6.yes (R := R) e h0 he h1 hs
        rwa [← hm2, freed, if_neg hcnt, ← hR2] at this
      have hm2n : m2 ≠ [] := by intro e0; rw [e0] at hm2l; exact hne (List.length_eq_zero_iff.1 hm2l.symm)
      have hC2 : C = cpv R2 := by
        rw [hC, hR2]
        refine cpv_same (e.1, m2) he ?_
        rw [clsOf, clsOf, if_neg hm2n, if_neg hne]
      conv => cbv
      refine RetF.mk [.p (.bool true)] [(0, .mix [.sl 1 3 1 (.lit 0) (.sym n), .sl 2 120 8 (.lit 0) (.sym n)]), (1, .pure true C), (2, .pure true B1)] 3 (Re.of [(0, 0), (1, 1), (2, 2)] [] (by first | exact Nat.zero_le _ | exact Nat.le_refl _ | decide | (dsimp only; decide)) rfl rfl (by (try (conv => cbv)); (repeat' (first | exact trivial | rfl | exact SEq.mk rfl | (exact SEq.mk (by first | assumption | (symm; assumption))) | (simp only [I.val]; done) | (simp only [I.val]; omega) | omega | assumption | (refine And.intro ?_ ?_) | exact Or.inl rfl | exact Or.inr (by assumption) | exact List.Mem.head _ | exact List.Mem.tail _ (List.Mem.head _) | exact ⟨_, rfl⟩ | exact ⟨_, rfl, Or.inl rfl⟩ | (refine ⟨_, rfl, Or.inr ?_⟩; (try (conv => cbv))) | (simp only [I.val] at *; first | omega | (subst_vars; rfl) | simp_all) | (refine Or.inr ?_; (try (conv => cbv)))))) (by (try (conv => cbv)); (repeat' (first | exact trivial | rfl | exact SEq.mk rfl | (exact SEq.mk (by first | assumption | (symm; assumption))) | (simp only [I.val]; done) | (simp only [I.val]; omega) | omega | assumption | (refine And.intro ?_ ?_) | exact Or.inl rfl | exact Or.inr (by assumption) | exact List.Mem.head _ | exact List.Mem.tail _ (List.Mem.head _) | exact ⟨_, rfl⟩ | exact ⟨_, rfl, Or.inl rfl⟩ | (refine ⟨_, rfl, Or.inr ?_⟩; (try (conv => cbv))) | (simp only [I.val] at *; first | omega | (subst_vars; rfl) | simp_all) | (refine Or.inr ?_; (try (conv => cbv))))))) rfl ⟨true, R2, C, B1, rfl, rfl, rfl, hC2, hB1, hF⟩
theorem slots_le6 (c : Int) : slotsOf c ≤ 8 := by
  unfold slotsOf; split
  · omega
  · split
    · omega
    · split
      · omega
      · split <;> omega
def wsum (R : List Rw) : Int := (R.map fun e => (e.2.count true : Int) * wordsOf e.1).sum
theorem take_ok {m : List Bool} {k : Nat} : ((m.take (k + 1)).count true : Int) = (m.take k).count true + if okAt m k then 1 else 0 := by
  rw [List.take_add_one, List.count_append]
  unfold okAt
  cases h : m[k]? with
  | none => simp
  | some b => cases b <;> simp
end Go.Proofs.YtllafhhnciobhaaGreatDoor
