/-
  Layer 7: what stands at a place.
-/
import Derived.Test.YtlakoemonbadiaaAa
namespace Go.Proofs.Ytlakoemonbadiaa
open Go Go.LX
set_option maxRecDepth 100000
set_option linter.unusedVariables false
set_option linter.unusedSimpArgs false

/-- The words of an arena, as cells. -/
def ipv (l : List Int) : List PV := l.map fun z => .int .i64 (.sym z)
theorem ipv_get {l : List Int} {i : Nat} {z : Int} (h : l[i]? = some z) : (ipv l)[i]? = some (.int .i64 (.sym z)) := by rw [ipv, List.getElem?_map, h]; rfl
theorem ipv_length (l : List Int) : (ipv l).length = l.length := List.length_map _
/-- Rows as they may be. -/
def RowsOk (R : List Rw) : Prop := ∀ e ∈ R, e.2.length ≤ 8 ∧ (e.2 ≠ [] → wordsOf e.1 ≠ 0 ∧ e.2.length = slotsOf e.1 ∧ true ∈ e.2)
/-- Is there an object at a place? -/
def IsObj (R : List Rw) (at_ : Int) : Prop := ∃ (q s : Nat) (e : Rw), R[q]? = some e ∧ e.2[s]? = some true ∧ at_ = 32 * q + s * wordsOf e.1
theorem slots_words {c : Int} {s : Nat} (h : wordsOf c ≠ 0) (hs : s < slotsOf c) : (s : Int) * wordsOf c + wordsOf c ≤ 32 := by
  unfold wordsOf at *
  unfold slotsOf at hs
  split at h
  · rw [if_pos (by assumption)] at hs ⊢; omega
  · split at h
    · rw [if_neg (by assumption), if_pos (by assumption)] at hs ⊢; omega
    · split at h
      · rw [if_neg (by assumption), if_neg (by assumption), if_pos (by assumption)] at hs ⊢; omega
      · split at h
        · rw [if_neg (by assumption), if_neg (by assumption), if_neg (by assumption), if_pos (by assumption)] at hs ⊢; omega
        · exact absurd rfl h
theorem obj_slot {R : List Rw} (hR : RowsOk R) {at_ : Int} {q s : Int} {b : Bool} (h : SlotAt R at_ q s b) : (b = true ∧ 0 ≤ q ∧ 0 ≤ s ∧ q < R.length ∧ 0 ≤ at_ ∧ at_ < 32 * R.length ∧ ∃ e : Rw, R[q.toNat]? = some e ∧ at_ = 32 * q + s * wordsOf e.1 ∧ (IsObj R at_ ↔ e.2[s.toNat]? = some true)) ∨ (b = false ∧ ¬ IsObj R at_) := by
  cases h with
  | no h =>
    refine .inr ⟨rfl, ?_⟩
    rintro ⟨q, s, e, he, hs, hat⟩
    have hne : e.2 ≠ [] := by intro e0; rw [e0] at hs; simp at hs
    have hcl : clsOf e = e.1 := if_neg hne
    obtain ⟨_, hok⟩ := hR e (List.mem_of_getElem? he)
    obtain ⟨h1, h2, _⟩ := hok hne
    have hsl : s < slotsOf e.1 := by have := (List.getElem?_eq_some_iff.1 hs).1; omega
    have := slots_words h1 hsl
    have := (wordsOf_bd e.1).1
    exact h q s e he (by rw [hcl]; exact h1) (by rw [hcl]; omega) (by rw [hcl]; exact hat)
  | is q s e he hs hlt hat =>
    have hne : e.2 ≠ [] := by intro e0; apply hs; rw [clsOf, if_pos e0]; rfl
    have hcl : clsOf e = e.1 := if_neg hne
    rw [hcl] at hs hlt hat
    have hq := (List.getElem?_eq_some_iff.1 he).1
    have h0 : 0 ≤ (s : Int) * wordsOf e.1 := Int.mul_nonneg (by omega) (wordsOf_bd _).1
    refine .inl ⟨rfl, by omega, by omega, by omega, by omega, by omega, e, by simpa using he, by simpa using hat, ?_⟩
    constructor
    · rintro ⟨q', s', e', he', hs', hat'⟩
      have hne' : e'.2 ≠ [] := by intro e0; rw [e0] at hs'; simp at hs'
      obtain ⟨_, hok⟩ := hR e' (List.mem_of_getElem? he')
      obtain ⟨h1, h2, _⟩ := hok hne'
      have hsl : s' < slotsOf e'.1 := by have := (List.getElem?_eq_some_iff.1 hs').1; omega
      have h3 := slots_words h1 hsl
      have h4 := (wordsOf_bd e'.1).1
      have h5 : 0 ≤ (s' : Int) * wordsOf e'.1 := Int.mul_nonneg (by omega) h4
      have h6 : q' = q := by omega
      subst h6
      rw [he] at he'
      cases he'
      have h7 : (s : Int) * wordsOf e.1 = s' * wordsOf e.1 := by omega
      have h8 := Int.eq_of_mul_eq_mul_right h1 h7
      rw [Int.toNat_natCast, show s = s' by omega]; exact hs'
    · intro h
      exact ⟨q, s, e, he, by simpa using h, hat⟩
/-- The slot at a place, and whether it is used. -/
inductive Slotted (R : List Rw) (at_ : Int) : Int → Int → Bool → Prop
  | no (q s : Int) (h : ¬ IsObj R at_) : Slotted R at_ q s false
  | off (q s : Int) (e : Rw) (hq0 : 0 ≤ q) (hs0 : 0 ≤ s) (he : R[q.toNat]? = some e) (hu : e.2[s.toNat]? ≠ some true) (h : ¬ IsObj R at_) : Slotted R at_ q s true
  | on (q s : Int) (e : Rw) (hq0 : 0 ≤ q) (hs0 : 0 ≤ s) (he : R[q.toNat]? = some e) (hu : e.2[s.toNat]? = some true) (h : IsObj R at_) (ha0 : 0 ≤ at_) (ha1 : at_ < 32 * R.length) (hat : at_ = 32 * q + s * wordsOf e.1) : Slotted R at_ q s true
theorem slotted {R : List Rw} (hR : RowsOk R) {at_ : Int} {q s : Int} {b : Bool} (h : SlotAt R at_ q s b) : Slotted R at_ q s b := by
  rcases obj_slot hR h with ⟨rfl, h1, h2, h3, h4, h5, e, h6, h7, h8⟩ | ⟨rfl, h1⟩
  · by_cases hu : e.2[s.toNat]? = some true
    · exact .on q s e h1 h2 h6 hu (h8.2 hu) h4 h5 h7
    · exact .off q s e h1 h2 h6 hu (fun h => hu (h8.1 h))
  · exact .no q s h1
theorem slotB_lx (R : List Rw) (n at_ W : Int) (L D : List PV) (hL : L = rpv R) (hn : n = R.length) (hR : R.length ≤ 1000) (hok : RowsOk R) (hW : W = 32 * n) : CallF (fun _ => Try.prog) 32 [.ptr 0 (.lit 0), .p (.int .i64 (.sym at_))] [(0, .mix [.ptr 1 (.lit 0), .sl 3 3 1 (.lit 0) (.sym W)]), (1, .mix [.sl 2 79 2 (.lit 0) (.sym n)]), (2, .pure true L), (3, .pure true D)] 4
    (fun r h n' => ∃ (q s : Int) (b : Bool), r = .tup [.p (.int .i64 (.sym q)), .p (.int .i64 (.sym s)), .p (.bool b)] ∧ h = [(0, .mix [.ptr 1 (.lit 0), .sl 3 3 1 (.lit 0) (.sym W)]), (1, .mix [.sl 2 79 2 (.lit 0) (.sym n)]), (2, .pure true L), (3, .pure true D)] ∧ n' = 4 ∧ Slotted R at_ q s b) :=
  (slotAt_lx R n at_ W L D hL hn hR hW).mono fun r h n' ⟨q, s, b, h1, h2, h3, h4⟩ => ⟨q, s, b, h1, h2, h3, slotted hok h4⟩
theorem tdiv16 (x : Int) (h : -9223372036854775808 ≤ x ∧ x ≤ 9223372036854775807) : -9223372036854775808 ≤ Int.tdiv x 16 ∧ Int.tdiv x 16 ≤ 9223372036854775807 := by
  rcases Int.le_total 0 x with h0 | h0
  · rw [Int.tdiv_eq_ediv_of_nonneg h0]; omega
  · have : Int.tdiv x 16 = -(Int.tdiv (-x) 16) := by rw [Int.neg_tdiv]; omega
    rw [this, Int.tdiv_eq_ediv_of_nonneg (by omega)]; omega
/-- What is seen at a place. -/
inductive Looked (R : List Rw) (ws : List Int) (at_ : Int) : LV → Prop
  | no (h : ¬ IsObj R at_) : Looked R ws at_ (.iface 83 (.agg []))
  | is (x k l : Int) (h : IsObj R at_) (h0 : 0 ≤ at_) (hx : ws[at_.toNat]? = some x) (hk : k = Int.tmod x 16) (hl : l = Int.tdiv x 16) : Looked R ws at_ (.iface 68 (.agg [.p (.int .i64 (.sym k)), .p (.int .i64 (.sym l))]))
set_option maxHeartbeats 2000000 in
theorem look_lx (R : List Rw) (ws : List Int) (n at_ W : Int) (L D : List PV) (hL : L = rpv R) (hD : D = ipv ws) (hn : n = R.length) (hR : R.length ≤ 1000) (hok : RowsOk R) (hW : W = 32 * n) (hws : (ws.length : Int) = W) (hwb : ∀ x ∈ ws, -9223372036854775808 ≤ x ∧ x ≤ 9223372036854775807) : CallF (fun _ => Try.prog) 50 [.ptr 0 (.lit 0), .p (.int .i64 (.sym at_))] [(0, .mix [.ptr 1 (.lit 0), .sl 3 3 1 (.lit 0) (.sym W)]), (1, .mix [.sl 2 79 2 (.lit 0) (.sym n)]), (2, .pure true L), (3, .pure true D)] 4
    (fun r h n' => Looked R ws at_ r ∧ h = [(0, .mix [.ptr 1 (.lit 0), .sl 3 3 1 (.lit 0) (.sym W)]), (1, .mix [.sl 2 79 2 (.lit 0) (.sym n)]), (2, .pure true L), (3, .pure true D)] ∧ n' = 4) := by
  refine callF_of_body tok Try.func50 (by kernel_rfl) rfl rfl rfl ?_; conv => cbv
  refine callF_frame (slotB_lx R n at_ W L D hL hn hR hok hW) [(0, 0), (1, 1), (2, 2), (3, 3)] rfl (by simp [hmapOk, nget, hget, renB, okB, renV, renVs, rn, okVs, okV]) rfl rfl (fun r h' n' hrr => ?_)
  obtain ⟨q, s, b, e1, e2, e3, hS⟩ := hrr
  subst e1 e2 e3
  cases hS with
  | no hno =>
    conv => cbv
    refine RetF.mk [.iface 83 (.agg [])] [(0, .mix [.ptr 1 (.lit 0), .sl 3 3 1 (.lit 0) (.sym W)]), (1, .mix [.sl 2 79 2 (.lit 0) (.sym n)]), (2, .pure true L), (3, .pure true D)] 4 (Re.of [(0, 0), (1, 1), (2, 2), (3, 3)] [] (by first | exact Nat.zero_le _ | exact Nat.le_refl _ | decide | (dsimp only; decide)) rfl rfl (by (try (conv => cbv)); (repeat' (first | exact trivial | rfl | exact SEq.mk rfl | (exact SEq.mk (by first | assumption | (symm; assumption))) | (simp only [I.val]; done) | (simp only [I.val]; omega) | omega | assumption | (refine And.intro ?_ ?_) | exact Or.inl rfl | exact Or.inr (by assumption) | exact List.Mem.head _ | exact List.Mem.tail _ (List.Mem.head _) | exact ⟨_, rfl⟩ | exact ⟨_, rfl, Or.inl rfl⟩ | (refine ⟨_, rfl, Or.inr ?_⟩; (try (conv => cbv))) | (simp only [I.val] at *; first | omega | (subst_vars; rfl) | simp_all) | (refine Or.inr ?_; (try (conv => cbv)))))) (by (try (conv => cbv)); (repeat' (first | exact trivial | rfl | exact SEq.mk rfl | (exact SEq.mk (by first | assumption | (symm; assumption))) | (simp only [I.val]; done) | (simp only [I.val]; omega) | omega | assumption | (refine And.intro ?_ ?_) | exact Or.inl rfl | exact Or.inr (by assumption) | exact List.Mem.head _ | exact List.Mem.tail _ (List.Mem.head _) | exact ⟨_, rfl⟩ | exact ⟨_, rfl, Or.inl rfl⟩ | (refine ⟨_, rfl, Or.inr ?_⟩; (try (conv => cbv))) | (simp only [I.val] at *; first | omega | (subst_vars; rfl) | simp_all) | (refine Or.inr ?_; (try (conv => cbv))))))) rfl ⟨.no hno, rfl, rfl⟩
  | off e hq0 hs0 he hu hno =>
    conv => cbv
    refine callF_frame (used_no_lx R n q s e.1 e.2 L hL hn hq0 he (hok e (List.mem_of_getElem? he)).1 (fun _ => hu)) [(0, 1), (1, 2)] rfl (by simp [hmapOk, nget, hget, renB, okB, renV, renVs, rn, okVs, okV]) rfl rfl (fun r h' n' ⟨e1, e2, e3⟩ => ?_)
    subst e1 e2 e3
    conv => cbv
    refine RetF.mk [.iface 83 (.agg [])] [(0, .mix [.ptr 1 (.lit 0), .sl 3 3 1 (.lit 0) (.sym W)]), (1, .mix [.sl 2 79 2 (.lit 0) (.sym n)]), (2, .pure true L), (3, .pure true D)] 4 (Re.of [(0, 0), (1, 1), (2, 2), (3, 3)] [] (by first | exact Nat.zero_le _ | exact Nat.le_refl _ | decide | (dsimp only; decide)) rfl rfl (by (try (conv => cbv)); (repeat' (first | exact trivial | rfl | exact SEq.mk rfl | (exact SEq.mk (by first | assumption | (symm; assumption))) | (simp only [I.val]; done) | (simp only [I.val]; omega) | omega | assumption | (refine And.intro ?_ ?_) | exact Or.inl rfl | exact Or.inr (by assumption) | exact List.Mem.head _ | exact List.Mem.tail _ (List.Mem.head _) | exact ⟨_, rfl⟩ | exact ⟨_, rfl, Or.inl rfl⟩ | (refine ⟨_, rfl, Or.inr ?_⟩; (try (conv => cbv))) | (simp only [I.val] at *; first | omega | (subst_vars; rfl) | simp_all) | (refine Or.inr ?_; (try (conv => cbv)))))) (by (try (conv => cbv)); (repeat' (first | exact trivial | rfl | exact SEq.mk rfl | (exact SEq.mk (by first | assumption | (symm; assumption))) | (simp only [I.val]; done) | (simp only [I.val]; omega) | omega | assumption | (refine And.intro ?_ ?_) | exact Or.inl rfl | exact Or.inr (by assumption) | exact List.Mem.head _ | exact List.Mem.tail _ (List.Mem.head _) | exact ⟨_, rfl⟩ | exact ⟨_, rfl, Or.inl rfl⟩ | (refine ⟨_, rfl, Or.inr ?_⟩; (try (conv => cbv))) | (simp only [I.val] at *; first | omega | (subst_vars; rfl) | simp_all) | (refine Or.inr ?_; (try (conv => cbv))))))) rfl ⟨.no hno, rfl, rfl⟩
  | on e hq0 hs0 he hu hobj ha0 ha1 hat =>
    conv => cbv
    refine callF_frame (used_lx R n q s e.1 e.2 L hL hn hq0 he true hs0 hu) [(0, 1), (1, 2)] rfl (by simp [hmapOk, nget, hget, renB, okB, renV, renVs, rn, okVs, okV]) rfl rfl (fun r h' n' ⟨e1, e2, e3⟩ => ?_)
    subst e1 e2 e3
    conv => cbv
    obtain ⟨x, hx⟩ : ∃ x, ws[at_.toNat]? = some x := ⟨_, List.getElem?_eq_getElem (by omega)⟩
    have hxb := hwb x (List.mem_of_getElem? hx)
    have hc := ipv_get hx
    rw [← hD] at hc
    refine draw_sound tok (by kernel_rfl) rfl (by kernel_rfl) ?_
    conv => cbv
    refine Need.mk ⟨ha0, by show at_ < W; omega⟩ ?_
    conv => cbv
    refine Cell.at at_ _ hc (by simp [I.val]) rfl ?_
    conv => cbv
    refine Sum.mk fun k hk => ?_
    have hk : k = Int.tmod x 16 := hk
    conv => cbv
    refine Need.mk ⟨ha0, by show at_ < W; omega⟩ ?_
    conv => cbv
    refine Cell.at at_ _ hc (by simp [I.val]) rfl ?_
    conv => cbv
    have hl16 := tdiv16 x hxb
    refine Fit.mk (by show (-9223372036854775808 : Int) ≤ Int.tdiv x 16; omega) (by show Int.tdiv x 16 ≤ 9223372036854775807; omega) fun l hl => ?_
    have hl : l = Int.tdiv x 16 := hl
    conv => cbv
    refine RetF.mk [.iface 68 (.agg [.p (.int .i64 (.sym k)), .p (.int .i64 (.sym l))])] [(0, .mix [.ptr 1 (.lit 0), .sl 3 3 1 (.lit 0) (.sym W)]), (1, .mix [.sl 2 79 2 (.lit 0) (.sym n)]), (2, .pure true L), (3, .pure true D)] 4 (Re.of [(0, 0), (1, 1), (2, 2), (3, 3)] [] (by first | exact Nat.zero_le _ | exact Nat.le_refl _ | decide | (dsimp only; decide)) rfl rfl (by (try (conv => cbv)); (repeat' (first | exact trivial | rfl | exact SEq.mk rfl | (exact SEq.mk (by first | assumption | (symm; assumption))) | (simp only [I.val]; done) | (simp only [I.val]; omega) | omega | assumption | (refine And.intro ?_ ?_) | exact Or.inl rfl | exact Or.inr (by assumption) | exact List.Mem.head _ | exact List.Mem.tail _ (List.Mem.head _) | exact ⟨_, rfl⟩ | exact ⟨_, rfl, Or.inl rfl⟩ | (refine ⟨_, rfl, Or.inr ?_⟩; (try (conv => cbv))) | (simp only [I.val] at *; first | omega | (subst_vars; rfl) | simp_all) | (refine Or.inr ?_; (try (conv => cbv)))))) (by (try (conv => cbv)); (repeat' (first | exact trivial | rfl | exact SEq.mk rfl | (exact SEq.mk (by first | assumption | (symm; assumption))) | (simp only [I.val]; done) | (simp only [I.val]; omega) | omega | assumption | (refine And.intro ?_ ?_) | exact Or.inl rfl | exact Or.inr (by assumption) | exact List.Mem.head _ | exact List.Mem.tail _ (List.Mem.head _) | exact ⟨_, rfl⟩ | exact ⟨_, rfl, Or.inl rfl⟩ | (refine ⟨_, rfl, Or.inr ?_⟩; (try (conv => cbv))) | (simp only [I.val] at *; first | omega | (subst_vars; rfl) | simp_all) | (refine Or.inr ?_; (try (conv => cbv))))))) rfl ⟨.is x k l hobj ha0 hx hk hl, rfl, rfl⟩
end Go.Proofs.Ytlakoemonbadiaa
