/-
  Layer 6: the rows of the reference.
-/
import Derived.Test.YtocliihimbggjaaSh
namespace Go.Proofs.Ytocliihimbggjaa
open Go Go.LX
set_option maxRecDepth 100000
set_option linter.unusedVariables false
set_option linter.unusedSimpArgs false

theorem set_same {α : Type} {l : List α} {i : Nat} {x : α} (h : l[i]? = some x) : l.set i x = l := by
  apply List.ext_getElem?
  intro j
  by_cases e : i = j
  · subst e
    rw [List.getElem?_set_self (List.getElem?_eq_some_iff.1 h).1, h]
  · rw [List.getElem?_set_ne e]
/-- Rows as they may be. -/
def ROk (R : List Rw) : Prop := ∀ e ∈ R, e.2.length ≤ 8 ∧ (e.2 ≠ [] → slotsOf e.1 ≠ 0 ∧ e.2.length = slotsOf e.1)
def okAt (m : List Bool) (k : Nat) : Bool := decide (m[k]? = some true)
def flags (m : List Bool) : List PV := (List.range 8).map fun k => .bool (okAt m k)
def cpv (R : List Rw) : List PV := R.map fun e => .int .i64 (.sym (clsOf e))
def bpv : List Rw → List PV
  | [] => []
  | e :: R => flags e.2 ++ bpv R
theorem flags_length (m : List Bool) : (flags m).length = 8 := by simp [flags]
theorem flags_get {m : List Bool} {k : Nat} (h : k < 8) : (flags m)[k]? = some (.bool (okAt m k)) := by
  rw [flags, List.getElem?_map, List.getElem?_range h]; rfl
theorem cpv_length (R : List Rw) : (cpv R).length = R.length := List.length_map _
theorem cpv_get {R : List Rw} {q : Nat} {e : Rw} (h : R[q]? = some e) : (cpv R)[q]? = some (.int .i64 (.sym (clsOf e))) := by rw [cpv, List.getElem?_map, h]; rfl
theorem bpv_length : ∀ R : List Rw, (bpv R).length = 8 * R.length
  | [] => rfl
  | e :: R => by rw [bpv, List.length_append, flags_length, bpv_length R, List.length_cons]; omega
theorem bpv_get : ∀ {R : List Rw} {q : Nat} {e : Rw} {k : Nat}, R[q]? = some e → k < 8 → (bpv R)[8 * q + k]? = some (.bool (okAt e.2 k))
  | [], q, e, k, h, _ => by simp at h
  | x :: R, 0, e, k, h, hk => by
    have h : x = e := Option.some.inj h
    subst h
    rw [bpv, List.getElem?_append_left (by rw [flags_length]; omega)]
    simpa using flags_get (m := x.2) hk
  | x :: R, q + 1, e, k, h, hk => by
    rw [bpv, List.getElem?_append_right (by rw [flags_length]; omega), flags_length, show 8 * (q + 1) + k - 8 = 8 * q + k by omega]
    exact bpv_get (by simpa using h) hk
theorem bpv_set : ∀ {R : List Rw} {q : Nat} {e : Rw} (e' : Rw) {k : Nat} {v : Bool}, R[q]? = some e → k < 8 → flags e'.2 = (flags e.2).set k (.bool v) → (bpv R).set (8 * q + k) (.bool v) = bpv (R.set q e')
  | [], q, e, e', k, v, h, _, _ => by simp at h
  | x :: R, 0, e, e', k, v, h, hk, hf => by
    have h : x = e := Option.some.inj h
    subst h
    rw [bpv, List.set_cons_zero, bpv, List.set_append_left _ _ (by rw [flags_length]; omega), hf]
    simp
  | x :: R, q + 1, e, e', k, v, h, hk, hf => by
    rw [bpv, List.set_cons_succ, bpv, List.set_append_right _ _ (by rw [flags_length]; omega), flags_length, show 8 * (q + 1) + k - 8 = 8 * q + k by omega, bpv_set e' (by simpa using h) hk hf]
theorem bpv_same {R : List Rw} {q : Nat} {e : Rw} (e' : Rw) (h : R[q]? = some e) (hf : flags e'.2 = flags e.2) : bpv R = bpv (R.set q e') := by
  have h0 := bpv_set (v := okAt e.2 0) e' h (by decide : 0 < 8) (by
    rw [hf]
    have h1 := flags_get (m := e.2) (by decide : 0 < 8)
    exact (set_same h1).symm)
  rw [← h0]
  exact (set_same (bpv_get h (by decide : 0 < 8))).symm
theorem flags_set {m m' : List Bool} {k : Nat} {v : Bool} (hk : k < 8) (h1 : okAt m' k = v) (h2 : ∀ j, j ≠ k → okAt m' j = okAt m j) : flags m' = (flags m).set k (.bool v) := by
  apply List.ext_getElem?
  intro j
  by_cases hj : j < 8
  · rw [flags_get hj]
    by_cases e : k = j
    · subst e
      rw [List.getElem?_set_self (by rw [flags_length]; exact hj), h1]
    · rw [List.getElem?_set_ne e, flags_get hj, h2 j (fun h => e h.symm)]
  · rw [List.getElem?_eq_none (by rw [flags_length]; omega), List.getElem?_eq_none (by rw [List.length_set, flags_length]; omega)]
theorem okAt_set {m : List Bool} {k : Nat} {v : Bool} (hk : k < m.length) : okAt (m.set k v) k = v ∧ ∀ j, j ≠ k → okAt (m.set k v) j = okAt m j := by
  constructor
  · unfold okAt
    rw [List.getElem?_set_self hk]
    cases v <;> rfl
  · intro j hj
    unfold okAt
    rw [List.getElem?_set_ne (fun h => hj h.symm)]
theorem okAt_nil (k : Nat) : okAt [] k = false := by simp [okAt]
theorem cpv_set {R : List Rw} {q : Nat} (e' : Rw) {c : Int} (h : clsOf e' = c) : (cpv R).set q (.int .i64 (.sym c)) = cpv (R.set q e') := by
  rw [cpv, cpv, List.map_set, h]
theorem cpv_same {R : List Rw} {q : Nat} {e : Rw} (e' : Rw) (hq : R[q]? = some e) (h : clsOf e' = clsOf e) : cpv R = cpv (R.set q e') := by
  rw [← cpv_set e' h]
  exact (set_same (cpv_get hq)).symm
/-- Is a slot used? -/
def UsedAt (R : List Rw) (i j : Int) : Prop := ∃ e : Rw, 0 ≤ i ∧ R[i.toNat]? = some e ∧ 0 ≤ j ∧ e.2[j.toNat]? = some true
def classAt (R : List Rw) (i : Int) : Int := if 0 ≤ i then ((R[i.toNat]?).map clsOf).getD (-1) else -1
theorem rused_lx (i j : Int) (R : List Rw) (n : Int) (C B : List PV) (hC : C = cpv R) (hB : B = bpv R) (hn : n = R.length) (hR : R.length ≤ 1000) (hok : ROk R) : CallF (fun _ => Try.prog) 20 [.ptr 0 (.lit 0), .p (.int .i64 (.sym i)), .p (.int .i64 (.sym j))] [(0, .mix [.sl 1 3 1 (.lit 0) (.sym n), .sl 2 54 8 (.lit 0) (.sym n)]), (1, .pure true C), (2, .pure true B)] 3
    (fun r h n' => ∃ b : Bool, r = .p (.bool b) ∧ h = [(0, .mix [.sl 1 3 1 (.lit 0) (.sym n), .sl 2 54 8 (.lit 0) (.sym n)]), (1, .pure true C), (2, .pure true B)] ∧ n' = 3 ∧ (b = true ↔ UsedAt R i j)) := by
  refine callF_of_body tok Try.func20 (by kernel_rfl) rfl rfl rfl ?_; conv => cbv
  have hBl : B.length = 8 * R.length := by rw [hB, bpv_length]
  refine Br.mk (fun g1 => ?_) (fun g1 => ?_)
  case refine_2 =>
    have g1 : ¬ 0 ≤ i := g1
    have hno : ¬ UsedAt R i j := fun ⟨e, h, _⟩ => g1 h
    conv => cbv
    refine RetF.mk [.p (.bool false)] [(0, .mix [.sl 1 3 1 (.lit 0) (.sym n), .sl 2 54 8 (.lit 0) (.sym n)]), (1, .pure true C), (2, .pure true B)] 3 (Re.of [(0, 0), (1, 1), (2, 2)] [] (by first | exact Nat.zero_le _ | exact Nat.le_refl _ | decide | (dsimp only; decide)) rfl rfl (by (try (conv => cbv)); (repeat' (first | exact trivial | rfl | exact SEq.mk rfl | (exact SEq.mk (by first | assumption | (symm; assumption))) | (simp only [I.val]; done) | (simp only [I.val]; omega) | omega | assumption | (refine And.intro ?_ ?_) | exact Or.inl rfl | exact Or.inr (by assumption) | exact List.Mem.head _ | exact List.Mem.tail _ (List.Mem.head _) | exact ⟨_, rfl⟩ | exact ⟨_, rfl, Or.inl rfl⟩ | (refine ⟨_, rfl, Or.inr ?_⟩; (try (conv => cbv))) | (simp only [I.val] at *; first | omega | (subst_vars; rfl) | simp_all) | (refine Or.inr ?_; (try (conv => cbv)))))) (by (try (conv => cbv)); (repeat' (first | exact trivial | rfl | exact SEq.mk rfl | (exact SEq.mk (by first | assumption | (symm; assumption))) | (simp only [I.val]; done) | (simp only [I.val]; omega) | omega | assumption | (refine And.intro ?_ ?_) | exact Or.inl rfl | exact Or.inr (by assumption) | exact List.Mem.head _ | exact List.Mem.tail _ (List.Mem.head _) | exact ⟨_, rfl⟩ | exact ⟨_, rfl, Or.inl rfl⟩ | (refine ⟨_, rfl, Or.inr ?_⟩; (try (conv => cbv))) | (simp only [I.val] at *; first | omega | (subst_vars; rfl) | simp_all) | (refine Or.inr ?_; (try (conv => cbv))))))) rfl ⟨false, rfl, rfl, rfl, by simp [hno]⟩
  have g1 : 0 ≤ i := g1
  conv => cbv
  refine Br.mk (fun g2 => ?_) (fun g2 => ?_)
  case refine_2 =>
    have g2 : ¬ i < n := g2
    have hno : ¬ UsedAt R i j := fun ⟨e, _, he, _⟩ => by have := (List.getElem?_eq_some_iff.1 he).1; omega
    conv => cbv
    refine RetF.mk [.p (.bool false)] [(0, .mix [.sl 1 3 1 (.lit 0) (.sym n), .sl 2 54 8 (.lit 0) (.sym n)]), (1, .pure true C), (2, .pure true B)] 3 (Re.of [(0, 0), (1, 1), (2, 2)] [] (by first | exact Nat.zero_le _ | exact Nat.le_refl _ | decide | (dsimp only; decide)) rfl rfl (by (try (conv => cbv)); (repeat' (first | exact trivial | rfl | exact SEq.mk rfl | (exact SEq.mk (by first | assumption | (symm; assumption))) | (simp only [I.val]; done) | (simp only [I.val]; omega) | omega | assumption | (refine And.intro ?_ ?_) | exact Or.inl rfl | exact Or.inr (by assumption) | exact List.Mem.head _ | exact List.Mem.tail _ (List.Mem.head _) | exact ⟨_, rfl⟩ | exact ⟨_, rfl, Or.inl rfl⟩ | (refine ⟨_, rfl, Or.inr ?_⟩; (try (conv => cbv))) | (simp only [I.val] at *; first | omega | (subst_vars; rfl) | simp_all) | (refine Or.inr ?_; (try (conv => cbv)))))) (by (try (conv => cbv)); (repeat' (first | exact trivial | rfl | exact SEq.mk rfl | (exact SEq.mk (by first | assumption | (symm; assumption))) | (simp only [I.val]; done) | (simp only [I.val]; omega) | omega | assumption | (refine And.intro ?_ ?_) | exact Or.inl rfl | exact Or.inr (by assumption) | exact List.Mem.head _ | exact List.Mem.tail _ (List.Mem.head _) | exact ⟨_, rfl⟩ | exact ⟨_, rfl, Or.inl rfl⟩ | (refine ⟨_, rfl, Or.inr ?_⟩; (try (conv => cbv))) | (simp only [I.val] at *; first | omega | (subst_vars; rfl) | simp_all) | (refine Or.inr ?_; (try (conv => cbv))))))) rfl ⟨false, rfl, rfl, rfl, by simp [hno]⟩
  have g2 : i < n := g2
  conv => cbv
  refine Br.mk (fun g3 => ?_) (fun g3 => ?_)
  case refine_2 =>
    have g3 : ¬ 0 ≤ j := g3
    have hno : ¬ UsedAt R i j := fun ⟨e, _, _, h, _⟩ => g3 h
    conv => cbv
    refine RetF.mk [.p (.bool false)] [(0, .mix [.sl 1 3 1 (.lit 0) (.sym n), .sl 2 54 8 (.lit 0) (.sym n)]), (1, .pure true C), (2, .pure true B)] 3 (Re.of [(0, 0), (1, 1), (2, 2)] [] (by first | exact Nat.zero_le _ | exact Nat.le_refl _ | decide | (dsimp only; decide)) rfl rfl (by (try (conv => cbv)); (repeat' (first | exact trivial | rfl | exact SEq.mk rfl | (exact SEq.mk (by first | assumption | (symm; assumption))) | (simp only [I.val]; done) | (simp only [I.val]; omega) | omega | assumption | (refine And.intro ?_ ?_) | exact Or.inl rfl | exact Or.inr (by assumption) | exact List.Mem.head _ | exact List.Mem.tail _ (List.Mem.head _) | exact ⟨_, rfl⟩ | exact ⟨_, rfl, Or.inl rfl⟩ | (refine ⟨_, rfl, Or.inr ?_⟩; (try (conv => cbv))) | (simp only [I.val] at *; first | omega | (subst_vars; rfl) | simp_all) | (refine Or.inr ?_; (try (conv => cbv)))))) (by (try (conv => cbv)); (repeat' (first | exact trivial | rfl | exact SEq.mk rfl | (exact SEq.mk (by first | assumption | (symm; assumption))) | (simp only [I.val]; done) | (simp only [I.val]; omega) | omega | assumption | (refine And.intro ?_ ?_) | exact Or.inl rfl | exact Or.inr (by assumption) | exact List.Mem.head _ | exact List.Mem.tail _ (List.Mem.head _) | exact ⟨_, rfl⟩ | exact ⟨_, rfl, Or.inl rfl⟩ | (refine ⟨_, rfl, Or.inr ?_⟩; (try (conv => cbv))) | (simp only [I.val] at *; first | omega | (subst_vars; rfl) | simp_all) | (refine Or.inr ?_; (try (conv => cbv))))))) rfl ⟨false, rfl, rfl, rfl, by simp [hno]⟩
  have g3 : 0 ≤ j := g3
  conv => cbv
  refine Br.mk (fun g4 => ?_) (fun g4 => ?_)
  case refine_2 =>
    have g4 : ¬ j < 8 := g4
    have hno : ¬ UsedAt R i j := fun ⟨e, _, he, _, h⟩ => by
      have := (List.getElem?_eq_some_iff.1 h).1
      have := (hok e (List.mem_of_getElem? he)).1
      omega
    conv => cbv
    refine RetF.mk [.p (.bool false)] [(0, .mix [.sl 1 3 1 (.lit 0) (.sym n), .sl 2 54 8 (.lit 0) (.sym n)]), (1, .pure true C), (2, .pure true B)] 3 (Re.of [(0, 0), (1, 1), (2, 2)] [] (by first | exact Nat.zero_le _ | exact Nat.le_refl _ | decide | (dsimp only; decide)) rfl rfl (by (try (conv => cbv)); (repeat' (first | exact trivial | rfl | exact SEq.mk rfl | (exact SEq.mk (by first | assumption | (symm; assumption))) | (simp only [I.val]; done) | (simp only [I.val]; omega) | omega | assumption | (refine And.intro ?_ ?_) | exact Or.inl rfl | exact Or.inr (by assumption) | exact List.Mem.head _ | exact List.Mem.tail _ (List.Mem.head _) | exact ⟨_, rfl⟩ | exact ⟨_, rfl, Or.inl rfl⟩ | (refine ⟨_, rfl, Or.inr ?_⟩; (try (conv => cbv))) | (simp only [I.val] at *; first | omega | (subst_vars; rfl) | simp_all) | (refine Or.inr ?_; (try (conv => cbv)))))) (by (try (conv => cbv)); (repeat' (first | exact trivial | rfl | exact SEq.mk rfl | (exact SEq.mk (by first | assumption | (symm; assumption))) | (simp only [I.val]; done) | (simp only [I.val]; omega) | omega | assumption | (refine And.intro ?_ ?_) | exact Or.inl rfl | exact Or.inr (by assumption) | exact List.Mem.head _ | exact List.Mem.tail _ (List.Mem.head _) | exact ⟨_, rfl⟩ | exact ⟨_, rfl, Or.inl rfl⟩ | (refine ⟨_, rfl, Or.inr ?_⟩; (try (conv => cbv))) | (simp only [I.val] at *; first | omega | (subst_vars; rfl) | simp_all) | (refine Or.inr ?_; (try (conv => cbv))))))) rfl ⟨false, rfl, rfl, rfl, by simp [hno]⟩
  have g4 : j < 8 := g4
  obtain ⟨e, he⟩ : ∃ e, R[i.toNat]? = some e := ⟨_, List.getElem?_eq_getElem (by omega)⟩
  have hc := bpv_get (k := j.toNat) he (by omega)
  rw [← hB] at hc
  obtain ⟨b, hb⟩ : ∃ b, b = okAt e.2 j.toNat := ⟨_, rfl⟩
  have hbi : b = true ↔ UsedAt R i j := by
    rw [hb, okAt, decide_eq_true_eq]
    constructor
    · intro h; exact ⟨e, g1, he, g3, h⟩
    · rintro ⟨e', _, he', _, h⟩
      rw [he] at he'; cases he'; exact h
  rw [← hb] at hc
  conv => cbv
  refine Need.mk ⟨g1, by show i < n; omega⟩ ?_
  conv => cbv
  refine Sum.mk fun a ha => ?_
  have ha : a = i * 8 := ha
  conv => cbv
  refine Need.mk ⟨g3, by show j < ((8 : Nat) : Int); omega⟩ ?_
  conv => cbv
  refine Sum.mk fun a2 ha2 => ?_
  have ha2 : a2 = a + j := ha2
  conv => cbv
  refine Cell.at a2 _ hc (by simp [I.val]) (by omega) ?_
  conv => cbv
  refine RetF.mk [.p (.bool b)] [(0, .mix [.sl 1 3 1 (.lit 0) (.sym n), .sl 2 54 8 (.lit 0) (.sym n)]), (1, .pure true C), (2, .pure true B)] 3 (Re.of [(0, 0), (1, 1), (2, 2)] [] (by first | exact Nat.zero_le _ | exact Nat.le_refl _ | decide | (dsimp only; decide)) rfl rfl (by (try (conv => cbv)); (repeat' (first | exact trivial | rfl | exact SEq.mk rfl | (exact SEq.mk (by first | assumption | (symm; assumption))) | (simp only [I.val]; done) | (simp only [I.val]; omega) | omega | assumption | (refine And.intro ?_ ?_) | exact Or.inl rfl | exact Or.inr (by assumption) | exact List.Mem.head _ | exact List.Mem.tail _ (List.Mem.head _) | exact ⟨_, rfl⟩ | exact ⟨_, rfl, Or.inl rfl⟩ | (refine ⟨_, rfl, Or.inr ?_⟩; (try (conv => cbv))) | (simp only [I.val] at *; first | omega | (subst_vars; rfl) | simp_all) | (refine Or.inr ?_; (try (conv => cbv)))))) (by (try (conv => cbv)); (repeat' (first | exact trivial | rfl | exact SEq.mk rfl | (exact SEq.mk (by first | assumption | (symm; assumption))) | (simp only [I.val]; done) | (simp only [I.val]; omega) | omega | assumption | (refine And.intro ?_ ?_) | exact Or.inl rfl | exact Or.inr (by assumption) | exact List.Mem.head _ | exact List.Mem.tail _ (List.Mem.head _) | exact ⟨_, rfl⟩ | exact ⟨_, rfl, Or.inl rfl⟩ | (refine ⟨_, rfl, Or.inr ?_⟩; (try (conv => cbv))) | (simp only [I.val] at *; first | omega | (subst_vars; rfl) | simp_all) | (refine Or.inr ?_; (try (conv => cbv))))))) rfl ⟨b, rfl, rfl, rfl, hbi⟩
theorem rclass_lx (i : Int) (R : List Rw) (n : Int) (C B : List PV) (hC : C = cpv R) (hB : B = bpv R) (hn : n = R.length) (hR : R.length ≤ 1000) (hok : ROk R) (v : Int) (hv : v = classAt R i) : CallF (fun _ => Try.prog) 18 [.ptr 0 (.lit 0), .p (.int .i64 (.sym i))] [(0, .mix [.sl 1 3 1 (.lit 0) (.sym n), .sl 2 54 8 (.lit 0) (.sym n)]), (1, .pure true C), (2, .pure true B)] 3
    (fun r h n' => r = .p (.int .i64 (.sym v)) ∧ h = [(0, .mix [.sl 1 3 1 (.lit 0) (.sym n), .sl 2 54 8 (.lit 0) (.sym n)]), (1, .pure true C), (2, .pure true B)] ∧ n' = 3) := by
  refine callF_of_body tok Try.func18 (by kernel_rfl) rfl rfl rfl ?_; conv => cbv
  refine Br.mk (fun g => ?_) (fun g => ?_)
  · have g : i < 0 := g
    have hv1 : v = -1 := by rw [hv, classAt, if_neg (by omega)]
    conv => cbv
    refine RetF.mk [.p (.int .i64 (.sym v))] [(0, .mix [.sl 1 3 1 (.lit 0) (.sym n), .sl 2 54 8 (.lit 0) (.sym n)]), (1, .pure true C), (2, .pure true B)] 3 (Re.of [(0, 0), (1, 1), (2, 2)] [] (by first | exact Nat.zero_le _ | exact Nat.le_refl _ | decide | (dsimp only; decide)) rfl rfl (by (try (conv => cbv)); (repeat' (first | exact trivial | rfl | exact SEq.mk rfl | (exact SEq.mk (by first | assumption | (symm; assumption))) | (simp only [I.val]; done) | (simp only [I.val]; omega) | omega | assumption | (refine And.intro ?_ ?_) | exact Or.inl rfl | exact Or.inr (by assumption) | exact List.Mem.head _ | exact List.Mem.tail _ (List.Mem.head _) | exact ⟨_, rfl⟩ | exact ⟨_, rfl, Or.inl rfl⟩ | (refine ⟨_, rfl, Or.inr ?_⟩; (try (conv => cbv))) | (simp only [I.val] at *; first | omega | (subst_vars; rfl) | simp_all) | (refine Or.inr ?_; (try (conv => cbv)))))) (by (try (conv => cbv)); (repeat' (first | exact trivial | rfl | exact SEq.mk rfl | (exact SEq.mk (by first | assumption | (symm; assumption))) | (simp only [I.val]; done) | (simp only [I.val]; omega) | omega | assumption | (refine And.intro ?_ ?_) | exact Or.inl rfl | exact Or.inr (by assumption) | exact List.Mem.head _ | exact List.Mem.tail _ (List.Mem.head _) | exact ⟨_, rfl⟩ | exact ⟨_, rfl, Or.inl rfl⟩ | (refine ⟨_, rfl, Or.inr ?_⟩; (try (conv => cbv))) | (simp only [I.val] at *; first | omega | (subst_vars; rfl) | simp_all) | (refine Or.inr ?_; (try (conv => cbv))))))) rfl ⟨rfl, rfl, rfl⟩
  have g : ¬ i < 0 := g
  conv => cbv
  refine Br.mk (fun g2 => ?_) (fun g2 => ?_)
  · have g2 : n ≤ i := g2
    have hv1 : v = -1 := by rw [hv, classAt, if_pos (by omega), List.getElem?_eq_none (by omega)]; rfl
    conv => cbv
    refine RetF.mk [.p (.int .i64 (.sym v))] [(0, .mix [.sl 1 3 1 (.lit 0) (.sym n), .sl 2 54 8 (.lit 0) (.sym n)]), (1, .pure true C), (2, .pure true B)] 3 (Re.of [(0, 0), (1, 1), (2, 2)] [] (by first | exact Nat.zero_le _ | exact Nat.le_refl _ | decide | (dsimp only; decide)) rfl rfl (by (try (conv => cbv)); (repeat' (first | exact trivial | rfl | exact SEq.mk rfl | (exact SEq.mk (by first | assumption | (symm; assumption))) | (simp only [I.val]; done) | (simp only [I.val]; omega) | omega | assumption | (refine And.intro ?_ ?_) | exact Or.inl rfl | exact Or.inr (by assumption) | exact List.Mem.head _ | exact List.Mem.tail _ (List.Mem.head _) | exact ⟨_, rfl⟩ | exact ⟨_, rfl, Or.inl rfl⟩ | (refine ⟨_, rfl, Or.inr ?_⟩; (try (conv => cbv))) | (simp only [I.val] at *; first | omega | (subst_vars; rfl) | simp_all) | (refine Or.inr ?_; (try (conv => cbv)))))) (by (try (conv => cbv)); (repeat' (first | exact trivial | rfl | exact SEq.mk rfl | (exact SEq.mk (by first | assumption | (symm; assumption))) | (simp only [I.val]; done) | (simp only [I.val]; omega) | omega | assumption | (refine And.intro ?_ ?_) | exact Or.inl rfl | exact Or.inr (by assumption) | exact List.Mem.head _ | exact List.Mem.tail _ (List.Mem.head _) | exact ⟨_, rfl⟩ | exact ⟨_, rfl, Or.inl rfl⟩ | (refine ⟨_, rfl, Or.inr ?_⟩; (try (conv => cbv))) | (simp only [I.val] at *; first | omega | (subst_vars; rfl) | simp_all) | (refine Or.inr ?_; (try (conv => cbv))))))) rfl ⟨rfl, rfl, rfl⟩
  have g2 : ¬ n ≤ i := g2
  obtain ⟨e, he⟩ : ∃ e, R[i.toNat]? = some e := ⟨_, List.getElem?_eq_getElem (by omega)⟩
  have hv1 : v = clsOf e := by rw [hv, classAt, if_pos (by omega), he]; rfl
  have hc := cpv_get he
  rw [← hC, ← hv1] at hc
  conv => cbv
  refine Need.mk ⟨by show 0 ≤ i; omega, by show i < n; omega⟩ ?_
  conv => cbv
  refine Cell.at i _ hc (by simp [I.val]) rfl ?_
  conv => cbv
  refine RetF.mk [.p (.int .i64 (.sym v))] [(0, .mix [.sl 1 3 1 (.lit 0) (.sym n), .sl 2 54 8 (.lit 0) (.sym n)]), (1, .pure true C), (2, .pure true B)] 3 (Re.of [(0, 0), (1, 1), (2, 2)] [] (by first | exact Nat.zero_le _ | exact Nat.le_refl _ | decide | (dsimp only; decide)) rfl rfl (by (try (conv => cbv)); (repeat' (first | exact trivial | rfl | exact SEq.mk rfl | (exact SEq.mk (by first | assumption | (symm; assumption))) | (simp only [I.val]; done) | (simp only [I.val]; omega) | omega | assumption | (refine And.intro ?_ ?_) | exact Or.inl rfl | exact Or.inr (by assumption) | exact List.Mem.head _ | exact List.Mem.tail _ (List.Mem.head _) | exact ⟨_, rfl⟩ | exact ⟨_, rfl, Or.inl rfl⟩ | (refine ⟨_, rfl, Or.inr ?_⟩; (try (conv => cbv))) | (simp only [I.val] at *; first | omega | (subst_vars; rfl) | simp_all) | (refine Or.inr ?_; (try (conv => cbv)))))) (by (try (conv => cbv)); (repeat' (first | exact trivial | rfl | exact SEq.mk rfl | (exact SEq.mk (by first | assumption | (symm; assumption))) | (simp only [I.val]; done) | (simp only [I.val]; omega) | omega | assumption | (refine And.intro ?_ ?_) | exact Or.inl rfl | exact Or.inr (by assumption) | exact List.Mem.head _ | exact List.Mem.tail _ (List.Mem.head _) | exact ⟨_, rfl⟩ | exact ⟨_, rfl, Or.inl rfl⟩ | (refine ⟨_, rfl, Or.inr ?_⟩; (try (conv => cbv))) | (simp only [I.val] at *; first | omega | (subst_vars; rfl) | simp_all) | (refine Or.inr ?_; (try (conv => cbv))))))) rfl ⟨rfl, rfl, rfl⟩
end Go.Proofs.Ytocliihimbggjaa
