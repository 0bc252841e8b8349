/-
  Layer 7: kinds, lengths, words.
-/
import Derived.Test.YtlakoemonbadiaaAb
namespace Go.Proofs.Ytlakoemonbadiaa
open Go Go.LX
set_option maxRecDepth 100000
set_option linter.unusedVariables false
set_option linter.unusedSimpArgs false

/-- An object, and how many words its slot has. -/
inductive ObjAt (R : List Rw) (at_ w : Int) : Prop
  | mk (q s : Nat) (e : Rw) (he : R[q]? = some e) (hs : e.2[s]? = some true) (hat : at_ = 32 * q + s * wordsOf e.1) (hw : w = wordsOf e.1)
theorem isObj_iff {R : List Rw} {at_ : Int} : IsObj R at_ ↔ ∃ w, ObjAt R at_ w := by
  constructor
  · rintro ⟨q, s, e, h1, h2, h3⟩; exact ⟨_, q, s, e, h1, h2, h3, rfl⟩
  · rintro ⟨w, q, s, e, h1, h2, h3, h4⟩; exact ⟨q, s, e, h1, h2, h3⟩
theorem ObjAt.facts {R : List Rw} (hR : RowsOk R) {a w : Int} (h : ObjAt R a w) : 0 ≤ a ∧ a + w ≤ 32 * R.length ∧ (w = 4 ∨ w = 8 ∨ w = 16 ∨ w = 32) ∧ ∃ k : Int, a = k * w := by
  obtain ⟨q, s, e, he, hs, hat, hw⟩ := h
  have hne : e.2 ≠ [] := by intro e0; rw [e0] at hs; simp at hs
  obtain ⟨_, hok⟩ := hR e (List.mem_of_getElem? he)
  obtain ⟨h1, h2, _⟩ := hok hne
  have hsl : s < slotsOf e.1 := by have := (List.getElem?_eq_some_iff.1 hs).1; omega
  have h3 := slots_words h1 hsl
  have h4 := wordsOf_cases e.1
  have h5 : 0 ≤ (s : Int) * wordsOf e.1 := Int.mul_nonneg (by omega) (wordsOf_bd _).1
  have hq := (List.getElem?_eq_some_iff.1 he).1
  rw [← hw] at h1 h3 h4 h5 hat
  refine ⟨by omega, by omega, by omega, ?_⟩
  rcases h4 with h4 | h4 | h4 | h4 | h4
  · exact absurd h4 h1
  · exact ⟨8 * q + s, by rw [hat, h4]; omega⟩
  · exact ⟨4 * q + s, by rw [hat, h4]; omega⟩
  · exact ⟨2 * q + s, by rw [hat, h4]; omega⟩
  · exact ⟨q + s, by rw [hat, h4]; omega⟩
theorem ObjAt.apart {R : List Rw} (hR : RowsOk R) {a w b v : Int} (h : ObjAt R a w) (k : ObjAt R b v) : (a = b ∧ w = v) ∨ a + w ≤ b ∨ b + v ≤ a := by
  obtain ⟨q, s, e, he, hs, hat, hw⟩ := h
  obtain ⟨q', s', e', he', hs', hat', hw'⟩ := k
  have hne : e.2 ≠ [] := by intro e0; rw [e0] at hs; simp at hs
  have hne' : e'.2 ≠ [] := by intro e0; rw [e0] at hs'; simp at hs'
  obtain ⟨_, hok⟩ := hR e (List.mem_of_getElem? he)
  obtain ⟨_, hok'⟩ := hR e' (List.mem_of_getElem? he')
  obtain ⟨h1, h2, _⟩ := hok hne
  obtain ⟨h1', h2', _⟩ := hok' hne'
  have hsl : s < slotsOf e.1 := by have := (List.getElem?_eq_some_iff.1 hs).1; omega
  have hsl' : s' < slotsOf e'.1 := by have := (List.getElem?_eq_some_iff.1 hs').1; omega
  have h3 := slots_words h1 hsl
  have h3' := slots_words h1' hsl'
  have h5 : 0 ≤ (s : Int) * wordsOf e.1 := Int.mul_nonneg (by omega) (wordsOf_bd _).1
  have h5' : 0 ≤ (s' : Int) * wordsOf e'.1 := Int.mul_nonneg (by omega) (wordsOf_bd _).1
  rcases Nat.lt_trichotomy q q' with hq | hq | hq
  · exact .inr (.inl (by omega))
  · subst hq
    rw [he] at he'
    cases he'
    have h6 := wordsOf_cases e.1
    rcases Nat.lt_trichotomy s s' with hss | hss | hss
    · have : (s : Int) * wordsOf e.1 + wordsOf e.1 ≤ s' * wordsOf e.1 := by
        have := Int.mul_le_mul_of_nonneg_right (show (s : Int) + 1 ≤ s' by omega) (show 0 ≤ wordsOf e.1 by omega)
        rw [Int.add_mul, Int.one_mul] at this; exact this
      exact .inr (.inl (by omega))
    · subst hss; exact .inl ⟨by omega, by omega⟩
    · have : (s' : Int) * wordsOf e.1 + wordsOf e.1 ≤ s * wordsOf e.1 := by
        have := Int.mul_le_mul_of_nonneg_right (show (s' : Int) + 1 ≤ s by omega) (show 0 ≤ wordsOf e.1 by omega)
        rw [Int.add_mul, Int.one_mul] at this; exact this
      exact .inr (.inr (by omega))
  · exact .inr (.inr (by omega))
/-- An arena as it may be. -/
structure AOk (R : List Rw) (ws : List Int) : Prop where
  rows : RowsOk R
  len : (ws.length : Int) = 32 * R.length
  bd : ∀ x ∈ ws, -9223372036854775808 ≤ x ∧ x ≤ 9223372036854775807
  hdr : ∀ a w, ObjAt R a w → ∃ k l : Int, ws[a.toNat]? = some (k + 16 * l) ∧ 0 ≤ k ∧ k < 16 ∧ 0 ≤ l ∧ l < w
theorem hdr_of {k l : Int} (h0 : 0 ≤ k) (h1 : k < 16) (h2 : 0 ≤ l) : Int.tmod (k + 16 * l) 16 = k ∧ Int.tdiv (k + 16 * l) 16 = l := by
  rw [Int.tmod_eq_emod_of_nonneg (by omega), Int.tdiv_eq_ediv_of_nonneg (by omega)]
  omega
/-- The object at a place: its kind and its length. -/
inductive Kept (R : List Rw) (ws : List Int) (at_ : Int) : Int → Int → Prop
  | mk (k l w : Int) (h : ObjAt R at_ w) (hx : ws[at_.toNat]? = some (k + 16 * l)) (h0 : 0 ≤ k) (h1 : k < 16) (h2 : 0 ≤ l) (h3 : l < w) : Kept R ws at_ k l
theorem Kept.of {R : List Rw} {ws : List Int} (hA : AOk R ws) {a : Int} (h : IsObj R a) : ∃ k l, Kept R ws a k l := by
  obtain ⟨w, hw⟩ := isObj_iff.1 h
  obtain ⟨k, l, h1, h2, h3, h4, h5⟩ := hA.hdr a w hw
  exact ⟨k, l, .mk k l w hw h1 h2 h3 h4 h5⟩
/-- What is seen at a place, told by the object there. -/
inductive Seen (R : List Rw) (ws : List Int) (at_ : Int) : LV → Prop
  | no (h : ¬ IsObj R at_) : Seen R ws at_ (.iface 83 (.agg []))
  | is (k l : Int) (h : Kept R ws at_ k l) : Seen R ws at_ (.iface 68 (.agg [.p (.int .i64 (.sym k)), .p (.int .i64 (.sym l))]))
theorem seen {R : List Rw} {ws : List Int} (hA : AOk R ws) {a : Int} {r : LV} (h : Looked R ws a r) : Seen R ws a r := by
  cases h with
  | no h => exact .no h
  | is x k l h h0 hx hk hl =>
    obtain ⟨k', l', h'⟩ := Kept.of hA h
    have h'' := h'
    obtain ⟨w, h1, h2, h3, h4, h5, h6⟩ := h'
    rw [hx] at h2
    have h2 : x = k' + 16 * l' := Option.some.inj h2
    have := hdr_of h3 h4 h5
    rw [h2, this.1] at hk
    rw [h2, this.2] at hl
    rw [hk, hl]
    exact .is k' l' h''
theorem see_lx (R : List Rw) (ws : List Int) (n at_ W : Int) (L D : List PV) (hL : L = rpv R) (hD : D = ipv ws) (hn : n = R.length) (hR : R.length ≤ 1000) (hA : AOk R ws) (hW : W = 32 * n) : CallF (fun _ => Try.prog) 50 [.ptr 0 (.lit 0), .p (.int .i64 (.sym at_))] [(0, .mix [.ptr 1 (.lit 0), .sl 3 3 1 (.lit 0) (.sym W)]), (1, .mix [.sl 2 79 2 (.lit 0) (.sym n)]), (2, .pure true L), (3, .pure true D)] 4
    (fun r h n' => Seen R ws at_ r ∧ h = [(0, .mix [.ptr 1 (.lit 0), .sl 3 3 1 (.lit 0) (.sym W)]), (1, .mix [.sl 2 79 2 (.lit 0) (.sym n)]), (2, .pure true L), (3, .pure true D)] ∧ n' = 4) :=
  (look_lx R ws n at_ W L D hL hD hn hR hA.rows hW (by rw [hA.len]; omega) hA.bd).mono fun r h n' ⟨h1, h2, h3⟩ => ⟨seen hA h1, h2, h3⟩
inductive KindR (R : List Rw) (ws : List Int) (at_ : Int) : Int → Prop
  | no (h : ¬ IsObj R at_) : KindR R ws at_ 0
  | is (k l : Int) (h : Kept R ws at_ k l) : KindR R ws at_ k
inductive LenR (R : List Rw) (ws : List Int) (at_ : Int) : Int → Prop
  | no (h : ¬ IsObj R at_) : LenR R ws at_ 0
  | is (k l : Int) (h : Kept R ws at_ k l) : LenR R ws at_ l
theorem kind_lx (R : List Rw) (ws : List Int) (n at_ W : Int) (L D : List PV) (hL : L = rpv R) (hD : D = ipv ws) (hn : n = R.length) (hR : R.length ≤ 1000) (hA : AOk R ws) (hW : W = 32 * n) : CallF (fun _ => Try.prog) 22 [.ptr 0 (.lit 0), .p (.int .i64 (.sym at_))] [(0, .mix [.ptr 1 (.lit 0), .sl 3 3 1 (.lit 0) (.sym W)]), (1, .mix [.sl 2 79 2 (.lit 0) (.sym n)]), (2, .pure true L), (3, .pure true D)] 4
    (fun r h n' => ∃ v : Int, r = .p (.int .i64 (.sym v)) ∧ h = [(0, .mix [.ptr 1 (.lit 0), .sl 3 3 1 (.lit 0) (.sym W)]), (1, .mix [.sl 2 79 2 (.lit 0) (.sym n)]), (2, .pure true L), (3, .pure true D)] ∧ n' = 4 ∧ KindR R ws at_ v) := by
  refine callF_of_body tok Try.func22 (by kernel_rfl) rfl rfl rfl ?_; conv => cbv
  refine callF_frame (see_lx R ws n at_ W L D hL hD hn hR hA hW) [(0, 0), (1, 1), (2, 2), (3, 3)] rfl (by simp [hmapOk, nget, hget, renB, okB, renV, renVs, rn, okVs, okV]) rfl rfl (fun r h' n' hrr => ?_)
  obtain ⟨hS, e2, e3⟩ := hrr
  subst e2 e3
  cases hS with
  | no hno =>
    conv => cbv
    refine RetF.mk [.p (.int .i64 (.sym 0))] [(0, .mix [.ptr 1 (.lit 0), .sl 3 3 1 (.lit 0) (.sym W)]), (1, .mix [.sl 2 79 2 (.lit 0) (.sym n)]), (2, .pure true L), (3, .pure true D)] 4 (Re.of [(0, 0), (1, 1), (2, 2), (3, 3)] [] (by first | exact Nat.zero_le _ | exact Nat.le_refl _ | decide | (dsimp only; decide)) rfl rfl (by (try (conv => cbv)); (repeat' (first | exact trivial | rfl | exact SEq.mk rfl | (exact SEq.mk (by first | assumption | (symm; assumption))) | (simp only [I.val]; done) | (simp only [I.val]; omega) | omega | assumption | (refine And.intro ?_ ?_) | exact Or.inl rfl | exact Or.inr (by assumption) | exact List.Mem.head _ | exact List.Mem.tail _ (List.Mem.head _) | exact ⟨_, rfl⟩ | exact ⟨_, rfl, Or.inl rfl⟩ | (refine ⟨_, rfl, Or.inr ?_⟩; (try (conv => cbv))) | (simp only [I.val] at *; first | omega | (subst_vars; rfl) | simp_all) | (refine Or.inr ?_; (try (conv => cbv)))))) (by (try (conv => cbv)); (repeat' (first | exact trivial | rfl | exact SEq.mk rfl | (exact SEq.mk (by first | assumption | (symm; assumption))) | (simp only [I.val]; done) | (simp only [I.val]; omega) | omega | assumption | (refine And.intro ?_ ?_) | exact Or.inl rfl | exact Or.inr (by assumption) | exact List.Mem.head _ | exact List.Mem.tail _ (List.Mem.head _) | exact ⟨_, rfl⟩ | exact ⟨_, rfl, Or.inl rfl⟩ | (refine ⟨_, rfl, Or.inr ?_⟩; (try (conv => cbv))) | (simp only [I.val] at *; first | omega | (subst_vars; rfl) | simp_all) | (refine Or.inr ?_; (try (conv => cbv))))))) rfl ⟨0, rfl, rfl, rfl, .no hno⟩
  | is k l hk =>
    conv => cbv
    refine RetF.mk [.p (.int .i64 (.sym k))] [(0, .mix [.ptr 1 (.lit 0), .sl 3 3 1 (.lit 0) (.sym W)]), (1, .mix [.sl 2 79 2 (.lit 0) (.sym n)]), (2, .pure true L), (3, .pure true D)] 4 (Re.of [(0, 0), (1, 1), (2, 2), (3, 3)] [] (by first | exact Nat.zero_le _ | exact Nat.le_refl _ | decide | (dsimp only; decide)) rfl rfl (by (try (conv => cbv)); (repeat' (first | exact trivial | rfl | exact SEq.mk rfl | (exact SEq.mk (by first | assumption | (symm; assumption))) | (simp only [I.val]; done) | (simp only [I.val]; omega) | omega | assumption | (refine And.intro ?_ ?_) | exact Or.inl rfl | exact Or.inr (by assumption) | exact List.Mem.head _ | exact List.Mem.tail _ (List.Mem.head _) | exact ⟨_, rfl⟩ | exact ⟨_, rfl, Or.inl rfl⟩ | (refine ⟨_, rfl, Or.inr ?_⟩; (try (conv => cbv))) | (simp only [I.val] at *; first | omega | (subst_vars; rfl) | simp_all) | (refine Or.inr ?_; (try (conv => cbv)))))) (by (try (conv => cbv)); (repeat' (first | exact trivial | rfl | exact SEq.mk rfl | (exact SEq.mk (by first | assumption | (symm; assumption))) | (simp only [I.val]; done) | (simp only [I.val]; omega) | omega | assumption | (refine And.intro ?_ ?_) | exact Or.inl rfl | exact Or.inr (by assumption) | exact List.Mem.head _ | exact List.Mem.tail _ (List.Mem.head _) | exact ⟨_, rfl⟩ | exact ⟨_, rfl, Or.inl rfl⟩ | (refine ⟨_, rfl, Or.inr ?_⟩; (try (conv => cbv))) | (simp only [I.val] at *; first | omega | (subst_vars; rfl) | simp_all) | (refine Or.inr ?_; (try (conv => cbv))))))) rfl ⟨k, rfl, rfl, rfl, .is k l hk⟩
theorem len_lx (R : List Rw) (ws : List Int) (n at_ W : Int) (L D : List PV) (hL : L = rpv R) (hD : D = ipv ws) (hn : n = R.length) (hR : R.length ≤ 1000) (hA : AOk R ws) (hW : W = 32 * n) : CallF (fun _ => Try.prog) 24 [.ptr 0 (.lit 0), .p (.int .i64 (.sym at_))] [(0, .mix [.ptr 1 (.lit 0), .sl 3 3 1 (.lit 0) (.sym W)]), (1, .mix [.sl 2 79 2 (.lit 0) (.sym n)]), (2, .pure true L), (3, .pure true D)] 4
    (fun r h n' => ∃ v : Int, r = .p (.int .i64 (.sym v)) ∧ h = [(0, .mix [.ptr 1 (.lit 0), .sl 3 3 1 (.lit 0) (.sym W)]), (1, .mix [.sl 2 79 2 (.lit 0) (.sym n)]), (2, .pure true L), (3, .pure true D)] ∧ n' = 4 ∧ LenR R ws at_ v) := by
  refine callF_of_body tok Try.func24 (by kernel_rfl) rfl rfl rfl ?_; conv => cbv
  refine callF_frame (see_lx R ws n at_ W L D hL hD hn hR hA hW) [(0, 0), (1, 1), (2, 2), (3, 3)] rfl (by simp [hmapOk, nget, hget, renB, okB, renV, renVs, rn, okVs, okV]) rfl rfl (fun r h' n' hrr => ?_)
  obtain ⟨hS, e2, e3⟩ := hrr
  subst e2 e3
  cases hS with
  | no hno =>
    conv => cbv
    refine RetF.mk [.p (.int .i64 (.sym 0))] [(0, .mix [.ptr 1 (.lit 0), .sl 3 3 1 (.lit 0) (.sym W)]), (1, .mix [.sl 2 79 2 (.lit 0) (.sym n)]), (2, .pure true L), (3, .pure true D)] 4 (Re.of [(0, 0), (1, 1), (2, 2), (3, 3)] [] (by first | exact Nat.zero_le _ | exact Nat.le_refl _ | decide | (dsimp only; decide)) rfl rfl (by (try (conv => cbv)); (repeat' (first | exact trivial | rfl | exact SEq.mk rfl | (exact SEq.mk (by first | assumption | (symm; assumption))) | (simp only [I.val]; done) | (simp only [I.val]; omega) | omega | assumption | (refine And.intro ?_ ?_) | exact Or.inl rfl | exact Or.inr (by assumption) | exact List.Mem.head _ | exact List.Mem.tail _ (List.Mem.head _) | exact ⟨_, rfl⟩ | exact ⟨_, rfl, Or.inl rfl⟩ | (refine ⟨_, rfl, Or.inr ?_⟩; (try (conv => cbv))) | (simp only [I.val] at *; first | omega | (subst_vars; rfl) | simp_all) | (refine Or.inr ?_; (try (conv => cbv)))))) (by (try (conv => cbv)); (repeat' (first | exact trivial | rfl | exact SEq.mk rfl | (exact SEq.mk (by first | assumption | (symm; assumption))) | (simp only [I.val]; done) | (simp only [I.val]; omega) | omega | assumption | (refine And.intro ?_ ?_) | exact Or.inl rfl | exact Or.inr (by assumption) | exact List.Mem.head _ | exact List.Mem.tail _ (List.Mem.head _) | exact ⟨_, rfl⟩ | exact ⟨_, rfl, Or.inl rfl⟩ | (refine ⟨_, rfl, Or.inr ?_⟩; (try (conv => cbv))) | (simp only [I.val] at *; first | omega | (subst_vars; rfl) | simp_all) | (refine Or.inr ?_; (try (conv => cbv))))))) rfl ⟨0, rfl, rfl, rfl, .no hno⟩
  | is k l hk =>
    conv => cbv
    refine RetF.mk [.p (.int .i64 (.sym l))] [(0, .mix [.ptr 1 (.lit 0), .sl 3 3 1 (.lit 0) (.sym W)]), (1, .mix [.sl 2 79 2 (.lit 0) (.sym n)]), (2, .pure true L), (3, .pure true D)] 4 (Re.of [(0, 0), (1, 1), (2, 2), (3, 3)] [] (by first | exact Nat.zero_le _ | exact Nat.le_refl _ | decide | (dsimp only; decide)) rfl rfl (by (try (conv => cbv)); (repeat' (first | exact trivial | rfl | exact SEq.mk rfl | (exact SEq.mk (by first | assumption | (symm; assumption))) | (simp only [I.val]; done) | (simp only [I.val]; omega) | omega | assumption | (refine And.intro ?_ ?_) | exact Or.inl rfl | exact Or.inr (by assumption) | exact List.Mem.head _ | exact List.Mem.tail _ (List.Mem.head _) | exact ⟨_, rfl⟩ | exact ⟨_, rfl, Or.inl rfl⟩ | (refine ⟨_, rfl, Or.inr ?_⟩; (try (conv => cbv))) | (simp only [I.val] at *; first | omega | (subst_vars; rfl) | simp_all) | (refine Or.inr ?_; (try (conv => cbv)))))) (by (try (conv => cbv)); (repeat' (first | exact trivial | rfl | exact SEq.mk rfl | (exact SEq.mk (by first | assumption | (symm; assumption))) | (simp only [I.val]; done) | (simp only [I.val]; omega) | omega | assumption | (refine And.intro ?_ ?_) | exact Or.inl rfl | exact Or.inr (by assumption) | exact List.Mem.head _ | exact List.Mem.tail _ (List.Mem.head _) | exact ⟨_, rfl⟩ | exact ⟨_, rfl, Or.inl rfl⟩ | (refine ⟨_, rfl, Or.inr ?_⟩; (try (conv => cbv))) | (simp only [I.val] at *; first | omega | (subst_vars; rfl) | simp_all) | (refine Or.inr ?_; (try (conv => cbv))))))) rfl ⟨l, rfl, rfl, rfl, .is k l hk⟩
inductive Judged (R : List Rw) (ws : List Int) (at_ i : Int) : Int → Prop
  | none (h : ¬ IsObj R at_) : Judged R ws at_ i 8
  | arg (k l : Int) (h : Kept R ws at_ k l) (hi : ¬ (0 ≤ i ∧ i < l)) : Judged R ws at_ i 1
  | ok (k l : Int) (h : Kept R ws at_ k l) (hi : 0 ≤ i ∧ i < l) : Judged R ws at_ i 0
theorem judge_lx (i : Int) (R : List Rw) (ws : List Int) (n at_ W : Int) (L D : List PV) (hL : L = rpv R) (hD : D = ipv ws) (hn : n = R.length) (hR : R.length ≤ 1000) (hA : AOk R ws) (hW : W = 32 * n) : CallF (fun _ => Try.prog) 36 [.ptr 0 (.lit 0), .p (.int .i64 (.sym at_)), .p (.int .i64 (.sym i))] [(0, .mix [.ptr 1 (.lit 0), .sl 3 3 1 (.lit 0) (.sym W)]), (1, .mix [.sl 2 79 2 (.lit 0) (.sym n)]), (2, .pure true L), (3, .pure true D)] 4
    (fun r h n' => ∃ v : Int, r = .p (.int .i64 (.sym v)) ∧ h = [(0, .mix [.ptr 1 (.lit 0), .sl 3 3 1 (.lit 0) (.sym W)]), (1, .mix [.sl 2 79 2 (.lit 0) (.sym n)]), (2, .pure true L), (3, .pure true D)] ∧ n' = 4 ∧ Judged R ws at_ i v) := by
  refine callF_of_body tok Try.func36 (by kernel_rfl) rfl rfl rfl ?_; conv => cbv
  refine callF_frame (see_lx R ws n at_ W L D hL hD hn hR hA hW) [(0, 0), (1, 1), (2, 2), (3, 3)] rfl (by simp [hmapOk, nget, hget, renB, okB, renV, renVs, rn, okVs, okV]) rfl rfl (fun r h' n' hrr => ?_)
  obtain ⟨hS, e2, e3⟩ := hrr
  subst e2 e3
  cases hS with
  | no hno =>
    conv => cbv
    refine RetF.mk [.p (.int .i64 (.sym 8))] [(0, .mix [.ptr 1 (.lit 0), .sl 3 3 1 (.lit 0) (.sym W)]), (1, .mix [.sl 2 79 2 (.lit 0) (.sym n)]), (2, .pure true L), (3, .pure true D)] 4 (Re.of [(0, 0), (1, 1), (2, 2), (3, 3)] [] (by first | exact Nat.zero_le _ | exact Nat.le_refl _ | decide | (dsimp only; decide)) rfl rfl (by (try (conv => cbv)); (repeat' (first | exact trivial | rfl | exact SEq.mk rfl | (exact SEq.mk (by first | assumption | (symm; assumption))) | (simp only [I.val]; done) | (simp only [I.val]; omega) | omega | assumption | (refine And.intro ?_ ?_) | exact Or.inl rfl | exact Or.inr (by assumption) | exact List.Mem.head _ | exact List.Mem.tail _ (List.Mem.head _) | exact ⟨_, rfl⟩ | exact ⟨_, rfl, Or.inl rfl⟩ | (refine ⟨_, rfl, Or.inr ?_⟩; (try (conv => cbv))) | (simp only [I.val] at *; first | omega | (subst_vars; rfl) | simp_all) | (refine Or.inr ?_; (try (conv => cbv)))))) (by (try (conv => cbv)); (repeat' (first | exact trivial | rfl | exact SEq.mk rfl | (exact SEq.mk (by first | assumption | (symm; assumption))) | (simp only [I.val]; done) | (simp only [I.val]; omega) | omega | assumption | (refine And.intro ?_ ?_) | exact Or.inl rfl | exact Or.inr (by assumption) | exact List.Mem.head _ | exact List.Mem.tail _ (List.Mem.head _) | exact ⟨_, rfl⟩ | exact ⟨_, rfl, Or.inl rfl⟩ | (refine ⟨_, rfl, Or.inr ?_⟩; (try (conv => cbv))) | (simp only [I.val] at *; first | omega | (subst_vars; rfl) | simp_all) | (refine Or.inr ?_; (try (conv => cbv))))))) rfl ⟨8, rfl, rfl, rfl, .none hno⟩
  | is k l hk =>
    conv => cbv
    refine Br.mk (fun g => ?_) (fun g => ?_)
    · have g : i < 0 := g
      conv => cbv
      refine RetF.mk [.p (.int .i64 (.sym 1))] [(0, .mix [.ptr 1 (.lit 0), .sl 3 3 1 (.lit 0) (.sym W)]), (1, .mix [.sl 2 79 2 (.lit 0) (.sym n)]), (2, .pure true L), (3, .pure true D)] 4 (Re.of [(0, 0), (1, 1), (2, 2), (3, 3)] [] (by first | exact Nat.zero_le _ | exact Nat.le_refl _ | decide | (dsimp only; decide)) rfl rfl (by (try (conv => cbv)); (repeat' (first | exact trivial | rfl | exact SEq.mk rfl | (exact SEq.mk (by first | assumption | (symm; assumption))) | (simp only [I.val]; done) | (simp only [I.val]; omega) | omega | assumption | (refine And.intro ?_ ?_) | exact Or.inl rfl | exact Or.inr (by assumption) | exact List.Mem.head _ | exact List.Mem.tail _ (List.Mem.head _) | exact ⟨_, rfl⟩ | exact ⟨_, rfl, Or.inl rfl⟩ | (refine ⟨_, rfl, Or.inr ?_⟩; (try (conv => cbv))) | (simp only [I.val] at *; first | omega | (subst_vars; rfl) | simp_all) | (refine Or.inr ?_; (try (conv => cbv)))))) (by (try (conv => cbv)); (repeat' (first | exact trivial | rfl | exact SEq.mk rfl | (exact SEq.mk (by first | assumption | (symm; assumption))) | (simp only [I.val]; done) | (simp only [I.val]; omega) | omega | assumption | (refine And.intro ?_ ?_) | exact Or.inl rfl | exact Or.inr (by assumption) | exact List.Mem.head _ | exact List.Mem.tail _ (List.Mem.head _) | exact ⟨_, rfl⟩ | exact ⟨_, rfl, Or.inl rfl⟩ | (refine ⟨_, rfl, Or.inr ?_⟩; (try (conv => cbv))) | (simp only [I.val] at *; first | omega | (subst_vars; rfl) | simp_all) | (refine Or.inr ?_; (try (conv => cbv))))))) rfl ⟨1, rfl, rfl, rfl, .arg k l hk (by omega)⟩
    have g : ¬ i < 0 := g
    conv => cbv
    refine Br.mk (fun g => ?_) (fun g => ?_)
    · have g : l ≤ i := g
      conv => cbv
      refine RetF.mk [.p (.int .i64 (.sym 1))] [(0, .mix [.ptr 1 (.lit 0), .sl 3 3 1 (.lit 0) (.sym W)]), (1, .mix [.sl 2 79 2 (.lit 0) (.sym n)]), (2, .pure true L), (3, .pure true D)] 4 (Re.of [(0, 0), (1, 1), (2, 2), (3, 3)] [] (by first | exact Nat.zero_le _ | exact Nat.le_refl _ | decide | (dsimp only; decide)) rfl rfl (by (try (conv => cbv)); (repeat' (first | exact trivial | rfl | exact SEq.mk rfl | (exact SEq.mk (by first | assumption | (symm; assumption))) | (simp only [I.val]; done) | (simp only [I.val]; omega) | omega | assumption | (refine And.intro ?_ ?_) | exact Or.inl rfl | exact Or.inr (by assumption) | exact List.Mem.head _ | exact List.Mem.tail _ (List.Mem.head _) | exact ⟨_, rfl⟩ | exact ⟨_, rfl, Or.inl rfl⟩ | (refine ⟨_, rfl, Or.inr ?_⟩; (try (conv => cbv))) | (simp only [I.val] at *; first | omega | (subst_vars; rfl) | simp_all) | (refine Or.inr ?_; (try (conv => cbv)))))) (by (try (conv => cbv)); (repeat' (first | exact trivial | rfl | exact SEq.mk rfl | (exact SEq.mk (by first | assumption | (symm; assumption))) | (simp only [I.val]; done) | (simp only [I.val]; omega) | omega | assumption | (refine And.intro ?_ ?_) | exact Or.inl rfl | exact Or.inr (by assumption) | exact List.Mem.head _ | exact List.Mem.tail _ (List.Mem.head _) | exact ⟨_, rfl⟩ | exact ⟨_, rfl, Or.inl rfl⟩ | (refine ⟨_, rfl, Or.inr ?_⟩; (try (conv => cbv))) | (simp only [I.val] at *; first | omega | (subst_vars; rfl) | simp_all) | (refine Or.inr ?_; (try (conv => cbv))))))) rfl ⟨1, rfl, rfl, rfl, .arg k l hk (by omega)⟩
    · have g : ¬ l ≤ i := g
      conv => cbv
      refine RetF.mk [.p (.int .i64 (.sym 0))] [(0, .mix [.ptr 1 (.lit 0), .sl 3 3 1 (.lit 0) (.sym W)]), (1, .mix [.sl 2 79 2 (.lit 0) (.sym n)]), (2, .pure true L), (3, .pure true D)] 4 (Re.of [(0, 0), (1, 1), (2, 2), (3, 3)] [] (by first | exact Nat.zero_le _ | exact Nat.le_refl _ | decide | (dsimp only; decide)) rfl rfl (by (try (conv => cbv)); (repeat' (first | exact trivial | rfl | exact SEq.mk rfl | (exact SEq.mk (by first | assumption | (symm; assumption))) | (simp only [I.val]; done) | (simp only [I.val]; omega) | omega | assumption | (refine And.intro ?_ ?_) | exact Or.inl rfl | exact Or.inr (by assumption) | exact List.Mem.head _ | exact List.Mem.tail _ (List.Mem.head _) | exact ⟨_, rfl⟩ | exact ⟨_, rfl, Or.inl rfl⟩ | (refine ⟨_, rfl, Or.inr ?_⟩; (try (conv => cbv))) | (simp only [I.val] at *; first | omega | (subst_vars; rfl) | simp_all) | (refine Or.inr ?_; (try (conv => cbv)))))) (by (try (conv => cbv)); (repeat' (first | exact trivial | rfl | exact SEq.mk rfl | (exact SEq.mk (by first | assumption | (symm; assumption))) | (simp only [I.val]; done) | (simp only [I.val]; omega) | omega | assumption | (refine And.intro ?_ ?_) | exact Or.inl rfl | exact Or.inr (by assumption) | exact List.Mem.head _ | exact List.Mem.tail _ (List.Mem.head _) | exact ⟨_, rfl⟩ | exact ⟨_, rfl, Or.inl rfl⟩ | (refine ⟨_, rfl, Or.inr ?_⟩; (try (conv => cbv))) | (simp only [I.val] at *; first | omega | (subst_vars; rfl) | simp_all) | (refine Or.inr ?_; (try (conv => cbv))))))) rfl ⟨0, rfl, rfl, rfl, .ok k l hk (by omega)⟩
inductive Loaded (R : List Rw) (ws : List Int) (at_ i : Int) : Int → Int → Prop
  | none (h : ¬ IsObj R at_) : Loaded R ws at_ i 0 8
  | arg (k l : Int) (h : Kept R ws at_ k l) (hi : ¬ (0 ≤ i ∧ i < l)) : Loaded R ws at_ i 0 1
  | ok (k l x : Int) (h : Kept R ws at_ k l) (hi : 0 ≤ i ∧ i < l) (hx : ws[(at_ + 1 + i).toNat]? = some x) : Loaded R ws at_ i x 0
theorem Kept.bounds {R : List Rw} {ws : List Int} (hA : AOk R ws) {a k l : Int} (h : Kept R ws a k l) : 0 ≤ a ∧ 0 ≤ l ∧ a + 1 + l ≤ 32 * R.length ∧ l < 32 := by
  obtain ⟨w, h1, _, _, _, h2, h3⟩ := h
  obtain ⟨h4, h5, h6, _⟩ := h1.facts hA.rows
  omega
set_option maxHeartbeats 2000000 in
theorem load_lx (i : Int) (R : List Rw) (ws : List Int) (n at_ W : Int) (L D : List PV) (hL : L = rpv R) (hD : D = ipv ws) (hn : n = R.length) (hR : R.length ≤ 1000) (hA : AOk R ws) (hW : W = 32 * n) : CallF (fun _ => Try.prog) 26 [.ptr 0 (.lit 0), .p (.int .i64 (.sym at_)), .p (.int .i64 (.sym i))] [(0, .mix [.ptr 1 (.lit 0), .sl 3 3 1 (.lit 0) (.sym W)]), (1, .mix [.sl 2 79 2 (.lit 0) (.sym n)]), (2, .pure true L), (3, .pure true D)] 4
    (fun r h n' => ∃ x e : Int, r = .tup [.p (.int .i64 (.sym x)), .p (.int .i64 (.sym e))] ∧ h = [(0, .mix [.ptr 1 (.lit 0), .sl 3 3 1 (.lit 0) (.sym W)]), (1, .mix [.sl 2 79 2 (.lit 0) (.sym n)]), (2, .pure true L), (3, .pure true D)] ∧ n' = 4 ∧ Loaded R ws at_ i x e) := by
  have hlen := hA.len
  refine callF_of_body tok Try.func26 (by kernel_rfl) rfl rfl rfl ?_; conv => cbv
  refine callF_frame (judge_lx i R ws n at_ W L D hL hD hn hR hA hW) [(0, 0), (1, 1), (2, 2), (3, 3)] rfl (by simp [hmapOk, nget, hget, renB, okB, renV, renVs, rn, okVs, okV]) rfl rfl (fun r h' n' hrr => ?_)
  obtain ⟨v, e1, e2, e3, hJ⟩ := hrr
  subst e1 e2 e3
  cases hJ with
  | none hno =>
    conv => cbv
    refine Br.mk (fun g => ?_) (fun g => ?_)
    case refine_2 =>
      have gf : False := g (by decide)
      cases gf
    conv => cbv
    refine RetF.mk [.p (.int .i64 (.sym 0)), .p (.int .i64 (.sym 8))] [(0, .mix [.ptr 1 (.lit 0), .sl 3 3 1 (.lit 0) (.sym W)]), (1, .mix [.sl 2 79 2 (.lit 0) (.sym n)]), (2, .pure true L), (3, .pure true D)] 4 (Re.of [(0, 0), (1, 1), (2, 2), (3, 3)] [] (by first | exact Nat.zero_le _ | exact Nat.le_refl _ | decide | (dsimp only; decide)) rfl rfl (by (try (conv => cbv)); (repeat' (first | exact trivial | rfl | exact SEq.mk rfl | (exact SEq.mk (by first | assumption | (symm; assumption))) | (simp only [I.val]; done) | (simp only [I.val]; omega) | omega | assumption | (refine And.intro ?_ ?_) | exact Or.inl rfl | exact Or.inr (by assumption) | exact List.Mem.head _ | exact List.Mem.tail _ (List.Mem.head _) | exact ⟨_, rfl⟩ | exact ⟨_, rfl, Or.inl rfl⟩ | (refine ⟨_, rfl, Or.inr ?_⟩; (try (conv => cbv))) | (simp only [I.val] at *; first | omega | (subst_vars; rfl) | simp_all) | (refine Or.inr ?_; (try (conv => cbv)))))) (by (try (conv => cbv)); (repeat' (first | exact trivial | rfl | exact SEq.mk rfl | (exact SEq.mk (by first | assumption | (symm; assumption))) | (simp only [I.val]; done) | (simp only [I.val]; omega) | omega | assumption | (refine And.intro ?_ ?_) | exact Or.inl rfl | exact Or.inr (by assumption) | exact List.Mem.head _ | exact List.Mem.tail _ (List.Mem.head _) | exact ⟨_, rfl⟩ | exact ⟨_, rfl, Or.inl rfl⟩ | (refine ⟨_, rfl, Or.inr ?_⟩; (try (conv => cbv))) | (simp only [I.val] at *; first | omega | (subst_vars; rfl) | simp_all) | (refine Or.inr ?_; (try (conv => cbv))))))) rfl ⟨0, 8, rfl, rfl, rfl, .none hno⟩
  | arg k l hk hi =>
    conv => cbv
    refine Br.mk (fun g => ?_) (fun g => ?_)
    case refine_2 =>
      have gf : False := g (by decide)
      cases gf
    conv => cbv
    refine RetF.mk [.p (.int .i64 (.sym 0)), .p (.int .i64 (.sym 1))] [(0, .mix [.ptr 1 (.lit 0), .sl 3 3 1 (.lit 0) (.sym W)]), (1, .mix [.sl 2 79 2 (.lit 0) (.sym n)]), (2, .pure true L), (3, .pure true D)] 4 (Re.of [(0, 0), (1, 1), (2, 2), (3, 3)] [] (by first | exact Nat.zero_le _ | exact Nat.le_refl _ | decide | (dsimp only; decide)) rfl rfl (by (try (conv => cbv)); (repeat' (first | exact trivial | rfl | exact SEq.mk rfl | (exact SEq.mk (by first | assumption | (symm; assumption))) | (simp only [I.val]; done) | (simp only [I.val]; omega) | omega | assumption | (refine And.intro ?_ ?_) | exact Or.inl rfl | exact Or.inr (by assumption) | exact List.Mem.head _ | exact List.Mem.tail _ (List.Mem.head _) | exact ⟨_, rfl⟩ | exact ⟨_, rfl, Or.inl rfl⟩ | (refine ⟨_, rfl, Or.inr ?_⟩; (try (conv => cbv))) | (simp only [I.val] at *; first | omega | (subst_vars; rfl) | simp_all) | (refine Or.inr ?_; (try (conv => cbv)))))) (by (try (conv => cbv)); (repeat' (first | exact trivial | rfl | exact SEq.mk rfl | (exact SEq.mk (by first | assumption | (symm; assumption))) | (simp only [I.val]; done) | (simp only [I.val]; omega) | omega | assumption | (refine And.intro ?_ ?_) | exact Or.inl rfl | exact Or.inr (by assumption) | exact List.Mem.head _ | exact List.Mem.tail _ (List.Mem.head _) | exact ⟨_, rfl⟩ | exact ⟨_, rfl, Or.inl rfl⟩ | (refine ⟨_, rfl, Or.inr ?_⟩; (try (conv => cbv))) | (simp only [I.val] at *; first | omega | (subst_vars; rfl) | simp_all) | (refine Or.inr ?_; (try (conv => cbv))))))) rfl ⟨0, 1, rfl, rfl, rfl, .arg k l hk hi⟩
  | ok k l hk hi =>
    conv => cbv
    refine Br.mk (fun g => ?_) (fun g => ?_)
    case refine_1 =>
      have gf : False := g rfl
      cases gf
    conv => cbv
    have hb := hk.bounds hA
    obtain ⟨x, hx⟩ : ∃ x, ws[(at_ + 1 + i).toNat]? = some x := ⟨_, List.getElem?_eq_getElem (by omega)⟩
    have hc := ipv_get hx
    rw [← hD] at hc
    refine Fit.mk (by show (-9223372036854775808 : Int) ≤ at_ + 1; omega) (by show at_ + 1 ≤ 9223372036854775807; omega) fun a1 ha1 => ?_
    have ha1 : a1 = at_ + 1 := ha1
    conv => cbv
    refine Fit.mk (by show (-9223372036854775808 : Int) ≤ a1 + i; omega) (by show a1 + i ≤ 9223372036854775807; omega) fun a2 ha2 => ?_
    have ha2 : a2 = a1 + i := ha2
    have ha2 : a2 = at_ + 1 + i := by omega
    conv => cbv
    refine Need.mk ⟨by show 0 ≤ a2; omega, by show a2 < W; omega⟩ ?_
    conv => cbv
    refine Cell.at a2 _ hc (by simp [I.val]) (by omega) ?_
    conv => cbv
    refine RetF.mk [.p (.int .i64 (.sym x)), .p (.int .i64 (.sym 0))] [(0, .mix [.ptr 1 (.lit 0), .sl 3 3 1 (.lit 0) (.sym W)]), (1, .mix [.sl 2 79 2 (.lit 0) (.sym n)]), (2, .pure true L), (3, .pure true D)] 4 (Re.of [(0, 0), (1, 1), (2, 2), (3, 3)] [] (by first | exact Nat.zero_le _ | exact Nat.le_refl _ | decide | (dsimp only; decide)) rfl rfl (by (try (conv => cbv)); (repeat' (first | exact trivial | rfl | exact SEq.mk rfl | (exact SEq.mk (by first | assumption | (symm; assumption))) | (simp only [I.val]; done) | (simp only [I.val]; omega) | omega | assumption | (refine And.intro ?_ ?_) | exact Or.inl rfl | exact Or.inr (by assumption) | exact List.Mem.head _ | exact List.Mem.tail _ (List.Mem.head _) | exact ⟨_, rfl⟩ | exact ⟨_, rfl, Or.inl rfl⟩ | (refine ⟨_, rfl, Or.inr ?_⟩; (try (conv => cbv))) | (simp only [I.val] at *; first | omega | (subst_vars; rfl) | simp_all) | (refine Or.inr ?_; (try (conv => cbv)))))) (by (try (conv => cbv)); (repeat' (first | exact trivial | rfl | exact SEq.mk rfl | (exact SEq.mk (by first | assumption | (symm; assumption))) | (simp only [I.val]; done) | (simp only [I.val]; omega) | omega | assumption | (refine And.intro ?_ ?_) | exact Or.inl rfl | exact Or.inr (by assumption) | exact List.Mem.head _ | exact List.Mem.tail _ (List.Mem.head _) | exact ⟨_, rfl⟩ | exact ⟨_, rfl, Or.inl rfl⟩ | (refine ⟨_, rfl, Or.inr ?_⟩; (try (conv => cbv))) | (simp only [I.val] at *; first | omega | (subst_vars; rfl) | simp_all) | (refine Or.inr ?_; (try (conv => cbv))))))) rfl ⟨x, 0, rfl, rfl, rfl, .ok k l x hk hi hx⟩
theorem updL_ipv (ws : List Int) (j : Nat) (x : Int) : updL (ipv ws) j [.int .i64 (.sym x)] = ipv (ws.set j x) := by
  show (ipv ws).set j _ = _
  rw [ipv, ipv, List.map_set]
inductive Stored (R : List Rw) (ws : List Int) (at_ i x : Int) : Int → List Int → Prop
  | none (h : ¬ IsObj R at_) : Stored R ws at_ i x 8 ws
  | arg (k l : Int) (h : Kept R ws at_ k l) (hi : ¬ (0 ≤ i ∧ i < l)) : Stored R ws at_ i x 1 ws
  | ok (k l : Int) (h : Kept R ws at_ k l) (hi : 0 ≤ i ∧ i < l) : Stored R ws at_ i x 0 (ws.set (at_ + 1 + i).toNat x)
set_option maxHeartbeats 2000000 in
theorem store_lx (i x : Int) (R : List Rw) (ws : List Int) (n at_ W : Int) (L D : List PV) (hL : L = rpv R) (hD : D = ipv ws) (hn : n = R.length) (hR : R.length ≤ 1000) (hA : AOk R ws) (hW : W = 32 * n) : CallF (fun _ => Try.prog) 13 [.ptr 0 (.lit 0), .p (.int .i64 (.sym at_)), .p (.int .i64 (.sym i)), .p (.int .i64 (.sym x))] [(0, .mix [.ptr 1 (.lit 0), .sl 3 3 1 (.lit 0) (.sym W)]), (1, .mix [.sl 2 79 2 (.lit 0) (.sym n)]), (2, .pure true L), (3, .pure true D)] 4
    (fun r h n' => ∃ (e : Int) (ws' : List Int) (D' : List PV), r = .p (.int .i64 (.sym e)) ∧ h = [(0, .mix [.ptr 1 (.lit 0), .sl 3 3 1 (.lit 0) (.sym W)]), (1, .mix [.sl 2 79 2 (.lit 0) (.sym n)]), (2, .pure true L), (3, .pure true D')] ∧ n' = 4 ∧ D' = ipv ws' ∧ Stored R ws at_ i x e ws') := by
  have hlen := hA.len
  have hDl : D.length = ws.length := by rw [hD, ipv_length]
  refine callF_of_body tok Try.func13 (by kernel_rfl) rfl rfl rfl ?_; conv => cbv
  refine callF_frame (judge_lx i R ws n at_ W L D hL hD hn hR hA hW) [(0, 0), (1, 1), (2, 2), (3, 3)] rfl (by simp [hmapOk, nget, hget, renB, okB, renV, renVs, rn, okVs, okV]) rfl rfl (fun r h' n' hrr => ?_)
  obtain ⟨v, e1, e2, e3, hJ⟩ := hrr
  subst e1 e2 e3
  cases hJ with
  | none hno =>
    conv => cbv
    refine Br.mk (fun g => ?_) (fun g => ?_)
    case refine_2 =>
      have gf : False := g (by decide)
      cases gf
    conv => cbv
    refine RetF.mk [.p (.int .i64 (.sym 8))] [(0, .mix [.ptr 1 (.lit 0), .sl 3 3 1 (.lit 0) (.sym W)]), (1, .mix [.sl 2 79 2 (.lit 0) (.sym n)]), (2, .pure true L), (3, .pure true D)] 4 (Re.of [(0, 0), (1, 1), (2, 2), (3, 3)] [] (by first | exact Nat.zero_le _ | exact Nat.le_refl _ | decide | (dsimp only; decide)) rfl rfl (by (try (conv => cbv)); (repeat' (first | exact trivial | rfl | exact SEq.mk rfl | (exact SEq.mk (by first | assumption | (symm; assumption))) | (simp only [I.val]; done) | (simp only [I.val]; omega) | omega | assumption | (refine And.intro ?_ ?_) | exact Or.inl rfl | exact Or.inr (by assumption) | exact List.Mem.head _ | exact List.Mem.tail _ (List.Mem.head _) | exact ⟨_, rfl⟩ | exact ⟨_, rfl, Or.inl rfl⟩ | (refine ⟨_, rfl, Or.inr ?_⟩; (try (conv => cbv))) | (simp only [I.val] at *; first | omega | (subst_vars; rfl) | simp_all) | (refine Or.inr ?_; (try (conv => cbv)))))) (by (try (conv => cbv)); (repeat' (first | exact trivial | rfl | exact SEq.mk rfl | (exact SEq.mk (by first | assumption | (symm; assumption))) | (simp only [I.val]; done) | (simp only [I.val]; omega) | omega | assumption | (refine And.intro ?_ ?_) | exact Or.inl rfl | exact Or.inr (by assumption) | exact List.Mem.head _ | exact List.Mem.tail _ (List.Mem.head _) | exact ⟨_, rfl⟩ | exact ⟨_, rfl, Or.inl rfl⟩ | (refine ⟨_, rfl, Or.inr ?_⟩; (try (conv => cbv))) | (simp only [I.val] at *; first | omega | (subst_vars; rfl) | simp_all) | (refine Or.inr ?_; (try (conv => cbv))))))) rfl ⟨8, ws, D, rfl, rfl, rfl, hD, .none hno⟩
  | arg k l hk hi =>
    conv => cbv
    refine Br.mk (fun g => ?_) (fun g => ?_)
    case refine_2 =>
      have gf : False := g (by decide)
      cases gf
    conv => cbv
    refine RetF.mk [.p (.int .i64 (.sym 1))] [(0, .mix [.ptr 1 (.lit 0), .sl 3 3 1 (.lit 0) (.sym W)]), (1, .mix [.sl 2 79 2 (.lit 0) (.sym n)]), (2, .pure true L), (3, .pure true D)] 4 (Re.of [(0, 0), (1, 1), (2, 2), (3, 3)] [] (by first | exact Nat.zero_le _ | exact Nat.le_refl _ | decide | (dsimp only; decide)) rfl rfl (by (try (conv => cbv)); (repeat' (first | exact trivial | rfl | exact SEq.mk rfl | (exact SEq.mk (by first | assumption | (symm; assumption))) | (simp only [I.val]; done) | (simp only [I.val]; omega) | omega | assumption | (refine And.intro ?_ ?_) | exact Or.inl rfl | exact Or.inr (by assumption) | exact List.Mem.head _ | exact List.Mem.tail _ (List.Mem.head _) | exact ⟨_, rfl⟩ | exact ⟨_, rfl, Or.inl rfl⟩ | (refine ⟨_, rfl, Or.inr ?_⟩; (try (conv => cbv))) | (simp only [I.val] at *; first | omega | (subst_vars; rfl) | simp_all) | (refine Or.inr ?_; (try (conv => cbv)))))) (by (try (conv => cbv)); (repeat' (first | exact trivial | rfl | exact SEq.mk rfl | (exact SEq.mk (by first | assumption | (symm; assumption))) | (simp only [I.val]; done) | (simp only [I.val]; omega) | omega | assumption | (refine And.intro ?_ ?_) | exact Or.inl rfl | exact Or.inr (by assumption) | exact List.Mem.head _ | exact List.Mem.tail _ (List.Mem.head _) | exact ⟨_, rfl⟩ | exact ⟨_, rfl, Or.inl rfl⟩ | (refine ⟨_, rfl, Or.inr ?_⟩; (try (conv => cbv))) | (simp only [I.val] at *; first | omega | (subst_vars; rfl) | simp_all) | (refine Or.inr ?_; (try (conv => cbv))))))) rfl ⟨1, ws, D, rfl, rfl, rfl, hD, .arg k l hk hi⟩
  | ok k l hk hi =>
    conv => cbv
    refine Br.mk (fun g => ?_) (fun g => ?_)
    case refine_1 =>
      have gf : False := g rfl
      cases gf
    conv => cbv
    have hb := hk.bounds hA
    refine Fit.mk (by show (-9223372036854775808 : Int) ≤ at_ + 1; omega) (by show at_ + 1 ≤ 9223372036854775807; omega) fun a1 ha1 => ?_
    have ha1 : a1 = at_ + 1 := ha1
    conv => cbv
    refine Fit.mk (by show (-9223372036854775808 : Int) ≤ a1 + i; omega) (by show a1 + i ≤ 9223372036854775807; omega) fun a2 ha2 => ?_
    have ha2 : a2 = a1 + i := ha2
    have ha2 : a2 = at_ + 1 + i := by omega
    conv => cbv
    refine Need.mk ⟨by show 0 ≤ a2; omega, by show a2 < W; omega⟩ ?_
    conv => cbv
    refine Need.mk (by show a2 + ((1 : Nat) : Int) ≤ (D.length : Int); omega) ?_
    conv => cbv
    refine Upd.mk fun D2 hD2 => ?_
    have hD2 : D2 = updL D a2.toNat [.int .i64 (.sym x)] := hD2
    have hD3 : D2 = ipv (ws.set (at_ + 1 + i).toNat x) := by rw [hD2, hD, updL_ipv, ha2]
    clear hD2
    conv => cbv
    refine RetF.mk [.p (.int .i64 (.sym 0))] [(0, .mix [.ptr 1 (.lit 0), .sl 3 3 1 (.lit 0) (.sym W)]), (1, .mix [.sl 2 79 2 (.lit 0) (.sym n)]), (2, .pure true L), (3, .pure true D2)] 4 (Re.of [(0, 0), (1, 1), (2, 2), (3, 3)] [] (by first | exact Nat.zero_le _ | exact Nat.le_refl _ | decide | (dsimp only; decide)) rfl rfl (by (try (conv => cbv)); (repeat' (first | exact trivial | rfl | exact SEq.mk rfl | (exact SEq.mk (by first | assumption | (symm; assumption))) | (simp only [I.val]; done) | (simp only [I.val]; omega) | omega | assumption | (refine And.intro ?_ ?_) | exact Or.inl rfl | exact Or.inr (by assumption) | exact List.Mem.head _ | exact List.Mem.tail _ (List.Mem.head _) | exact ⟨_, rfl⟩ | exact ⟨_, rfl, Or.inl rfl⟩ | (refine ⟨_, rfl, Or.inr ?_⟩; (try (conv => cbv))) | (simp only [I.val] at *; first | omega | (subst_vars; rfl) | simp_all) | (refine Or.inr ?_; (try (conv => cbv)))))) (by (try (conv => cbv)); (repeat' (first | exact trivial | rfl | exact SEq.mk rfl | (exact SEq.mk (by first | assumption | (symm; assumption))) | (simp only [I.val]; done) | (simp only [I.val]; omega) | omega | assumption | (refine And.intro ?_ ?_) | exact Or.inl rfl | exact Or.inr (by assumption) | exact List.Mem.head _ | exact List.Mem.tail _ (List.Mem.head _) | exact ⟨_, rfl⟩ | exact ⟨_, rfl, Or.inl rfl⟩ | (refine ⟨_, rfl, Or.inr ?_⟩; (try (conv => cbv))) | (simp only [I.val] at *; first | omega | (subst_vars; rfl) | simp_all) | (refine Or.inr ?_; (try (conv => cbv))))))) rfl ⟨0, _, D2, rfl, rfl, rfl, hD3, .ok k l hk hi⟩
end Go.Proofs.Ytlakoemonbadiaa
