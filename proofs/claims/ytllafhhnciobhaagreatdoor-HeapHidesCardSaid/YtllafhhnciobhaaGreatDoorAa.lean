/-
  Layer 7: what is asked of the spans, and what is told of a place.
-/
import Derived.Test.YtllafhhnciobhaaGreatDoorSc
namespace Go.Proofs.YtllafhhnciobhaaGreatDoor

open Go Go.LX
set_option maxRecDepth 100000
set_option linter.unusedVariables false
set_option linter.unusedSimpArgs false

def ofN (n : Int) : Int := if n < 4 then 0 else if n < 8 then 1 else if n < 16 then 2 else 3
/-- The least class of n words. -/
inductive OfR (n : Int) : Int → Bool → Prop
  | yes (c : Int) (hc : c = ofN n) (h : 0 ≤ n ∧ n ≤ 31) : OfR n c true
  | no (h : ¬ (0 ≤ n ∧ n ≤ 31)) : OfR n 0 false
set_option maxHeartbeats 2000000 in
theorem of_lx (n : Int) : CallF (fun _ => Tryz.prog) 90 [.p (.int .i64 (.sym n))] [] 0 (fun r h m => ∃ (c : Int) (b : Bool), r = .tup [.p (.int .i64 (.sym c)), .p (.bool b)] ∧ h = [] ∧ m = 0 ∧ OfR n c b) := by
  refine callF_of_body tok Tryz.func90 (by kernel_rfl) rfl rfl rfl ?_; conv => cbv
  refine Br.mk (fun g => ?_) (fun g => ?_)
  · have g : n < 0 := g
    have q : OfR n 0 false := .no (by omega)
    conv => cbv
    refine RetF.mk [.p (.int .i64 (.sym 0)), .p (.bool false)] [] 0 (Re.at [] []) rfl ⟨0, false, rfl, rfl, rfl, q⟩
  · have g : ¬ n < 0 := g
    conv => cbv
    refine LoopF.mk (fun k s => ∃ pos : Int, s = ⟨.p (.int .i64 (.sym n)) :: (undefs 7 ++ .ptr 0 (.lit 0) :: undefs 9), [(0, .iter (fun _ => ⟨#[4, 8, 16, 32]⟩) (.sym pos))], 1⟩ ∧ 0 ≤ pos ∧ pos ≤ 4 ∧ (1 ≤ pos → 4 ≤ n) ∧ (2 ≤ pos → 8 ≤ n) ∧ (3 ≤ pos → 16 ≤ n) ∧ (4 ≤ pos → 32 ≤ n) ∧ k = (4 - pos).toNat) 4 _
      (Re.at [(0, 0)] []) ⟨0, rfl, by omega, by omega, by omega, by omega, by omega, by omega, by omega⟩ ?_
    rintro k s ⟨pos, rfl, h0, h4, q1, q2, q3, q4, hk⟩
    conv => cbv
    by_cases hend : pos = 4
    · have q : OfR n 0 false := .no (by omega)
      refine NextS.over (by show (4 : Int) ≤ pos; omega) ?_
      conv => cbv
      refine RetF.mk [.p (.int .i64 (.sym 0)), .p (.bool false)] [] 0 (Re.at [] []) rfl ⟨0, false, rfl, rfl, rfl, q⟩
    · obtain ⟨x, hx⟩ : ∃ x, ([4, 8, 16, 32] : List UInt8)[pos.toNat]? = some x := ⟨_, List.getElem?_eq_getElem (by simp; omega)⟩
      have hd := dec_at [4, 8, 16, 32] (by decide) pos.toNat x hx
      have hx4 : pos = 0 ∧ x.toNat = 4 ∨ pos = 1 ∧ x.toNat = 8 ∨ pos = 2 ∧ x.toNat = 16 ∨ pos = 3 ∧ x.toNat = 32 := by
        have : pos = 0 ∨ pos = 1 ∨ pos = 2 ∨ pos = 3 := by omega
        rcases this with e2 | e2 | e2 | e2 <;> (rw [e2] at hx; have hx := Option.some.inj hx; rw [← hx]; rw [e2]; decide)
      refine NextS.more (by show pos < (4 : Int); omega) ?_
      intro r p' hr hp
      have hr : r = (x.toNat : Int) := by
        have : r = ((Utf8.decode ⟨#[4, 8, 16, 32]⟩ pos.toNat).1 : Int) := hr
        rw [this, hd]
      have hp : p' = pos + 1 := by
        have : p' = pos + ((Utf8.decode ⟨#[4, 8, 16, 32]⟩ pos.toNat).2 : Int) := hp
        rw [this, hd]; rfl
      obtain ⟨k', rfl⟩ : ∃ k', k = k' + 1 := ⟨k - 1, by omega⟩
      conv => cbv
      refine Fit.mk (by show (-9223372036854775808 : Int) ≤ r; omega) (by show r ≤ 9223372036854775807; omega) fun q hq => ?_
      have hq : q = r := hq
      conv => cbv
      refine Br.mk (fun g => ?_) (fun g => ?_)
      · have g : n < q := g
        have hc : pos = ofN n := by
          unfold ofN
          rcases hx4 with ⟨e1, e2⟩ | ⟨e1, e2⟩ | ⟨e1, e2⟩ | ⟨e1, e2⟩
          · rw [if_pos (by omega)]; exact e1
          · rw [if_neg (by omega), if_pos (by omega)]; exact e1
          · rw [if_neg (by omega), if_neg (by omega), if_pos (by omega)]; exact e1
          · rw [if_neg (by omega), if_neg (by omega), if_neg (by omega)]; exact e1
        have qq : OfR n pos true := .yes pos hc (by omega)
        conv => cbv
        refine RetF.mk [.p (.int .i64 (.sym pos)), .p (.bool true)] [] 0 (Re.at [] []) rfl ⟨pos, true, rfl, rfl, rfl, qq⟩
      · have g : ¬ n < q := g
        conv => cbv
        refine Again.mk k' _ (Nat.lt_succ_self _) (Re.at [(0, 0)] []) ⟨p', rfl, by omega, by omega, by omega, by omega, by omega, by omega, by omega⟩
/-- The slot whose first word is at a place. -/
inductive SlotAt (R : List Rw) (at_ : Int) : Int → Int → Bool → Prop
  | no (h : ∀ (q s : Nat) (e : Rw), R[q]? = some e → wordsOf (clsOf e) ≠ 0 → (s : Int) * wordsOf (clsOf e) < 32 → at_ ≠ 32 * q + s * wordsOf (clsOf e)) : SlotAt R at_ 0 0 false
  | is (q s : Nat) (e : Rw) (he : R[q]? = some e) (hs : wordsOf (clsOf e) ≠ 0) (hlt : (s : Int) * wordsOf (clsOf e) < 32) (hat : at_ = 32 * q + s * wordsOf (clsOf e)) : SlotAt R at_ q s true
set_option maxHeartbeats 2000000 in
theorem slotAt_lx (R : List Rw) (n at_ W : Int) (L D : List PV) (hL : L = rpv R) (hn : n = R.length) (hR : R.length ≤ 1000) (hW : W = 32 * n) : CallF (fun _ => Tryz.prog) 80 [.ptr 0 (.lit 0), .p (.int .i64 (.sym at_))] [(0, .mix [.ptr 1 (.lit 0), .sl 3 3 1 (.lit 0) (.sym W)]), (1, .mix [.sl 2 101 2 (.lit 0) (.sym n)]), (2, .pure true L), (3, .pure true D)] 4
    (fun r h n' => ∃ (q s : Int) (b : Bool), r = .tup [.p (.int .i64 (.sym q)), .p (.int .i64 (.sym s)), .p (.bool b)] ∧ h = [(0, .mix [.ptr 1 (.lit 0), .sl 3 3 1 (.lit 0) (.sym W)]), (1, .mix [.sl 2 101 2 (.lit 0) (.sym n)]), (2, .pure true L), (3, .pure true D)] ∧ n' = 4 ∧ SlotAt R at_ q s b) := by
  refine callF_of_body tok Tryz.func80 (by kernel_rfl) rfl rfl rfl ?_; conv => cbv
  refine Br.mk (fun g => ?_) (fun g => ?_)
  · have g : at_ < 0 := g
    have qq : SlotAt R at_ 0 0 false := .no (fun q s e he hs hlt => by
      have : 0 ≤ (s : Int) * wordsOf (clsOf e) := Int.mul_nonneg (by omega) (wordsOf_bd _).1
      omega)
    conv => cbv
    refine RetF.mk [.p (.int .i64 (.sym 0)), .p (.int .i64 (.sym 0)), .p (.bool false)] [(0, .mix [.ptr 1 (.lit 0), .sl 3 3 1 (.lit 0) (.sym W)]), (1, .mix [.sl 2 101 2 (.lit 0) (.sym n)]), (2, .pure true L), (3, .pure true D)] 4 (Re.at [(0, 0), (1, 1), (2, 2), (3, 3)] []) rfl ⟨0, 0, false, rfl, rfl, rfl, qq⟩
  have g : ¬ at_ < 0 := g
  conv => cbv
  refine Br.mk (fun g2 => ?_) (fun g2 => ?_)
  · have g2 : W ≤ at_ := g2
    have qq : SlotAt R at_ 0 0 false := .no (fun q s e he hs hlt => by
      have := (List.getElem?_eq_some_iff.1 he).1
      omega)
    conv => cbv
    refine RetF.mk [.p (.int .i64 (.sym 0)), .p (.int .i64 (.sym 0)), .p (.bool false)] [(0, .mix [.ptr 1 (.lit 0), .sl 3 3 1 (.lit 0) (.sym W)]), (1, .mix [.sl 2 101 2 (.lit 0) (.sym n)]), (2, .pure true L), (3, .pure true D)] 4 (Re.at [(0, 0), (1, 1), (2, 2), (3, 3)] []) rfl ⟨0, 0, false, rfl, rfl, rfl, qq⟩
  have g2 : ¬ W ≤ at_ := g2
  conv => cbv
  have ht : Int.tdiv at_ 32 = at_ / 32 := Int.tdiv_eq_ediv_of_nonneg (by omega)
  refine Fit.mk (by show (-9223372036854775808 : Int) ≤ Int.tdiv at_ 32; omega) (by show Int.tdiv at_ 32 ≤ 9223372036854775807; omega) fun q hq => ?_
  have hq : q = at_ / 32 := (show q = Int.tdiv at_ 32 from hq).trans ht
  clear ht
  conv => cbv
  refine Sum.mk fun z hz => ?_
  have hz : z = at_ % 32 := (show z = Int.tmod at_ 32 from hz).trans (Int.tmod_eq_emod_of_nonneg (by omega))
  obtain ⟨e, he⟩ : ∃ e, R[q.toNat]? = some e := ⟨_, List.getElem?_eq_getElem (by omega)⟩
  obtain ⟨v, hv⟩ : ∃ v, v = clsOf e := ⟨_, rfl⟩
  obtain ⟨w, hw⟩ : ∃ w, w = wordsOf v := ⟨_, rfl⟩
  have hw5 := wordsOf_cases v
  rw [← hw] at hw5
  conv => cbv
  refine callF_frame (classA_lx R n q v e L hL hn (by omega) he hv) [(0, 1), (1, 2)] rfl (by simp [hmapOk, nget, hget, renB, okB, renV, renVs, rn, okVs, okV]) rfl rfl (fun r h' n' ⟨e1, e2, e3⟩ => ?_)
  subst e1 e2 e3
  conv => cbv
  refine callF_frame (words_lx v w hw) [] rfl trivial rfl rfl (fun r h' n' ⟨e1, e2, e3⟩ => ?_)
  subst e1 e2 e3
  conv => cbv
  refine Br.mk (fun g3 => ?_) (fun g3 => ?_)
  · have g3 : w = 0 := g3
    have qq : SlotAt R at_ 0 0 false := .no (fun q' s' e' he' hs' hlt' hat' => by
      have h0 : 0 ≤ (s' : Int) * wordsOf (clsOf e') := Int.mul_nonneg (by omega) (wordsOf_bd _).1
      have : q' = q.toNat := by omega
      subst this
      rw [he] at he'
      cases he'
      rw [← hv, ← hw] at hs'
      exact hs' g3)
    conv => cbv
    refine RetF.mk [.p (.int .i64 (.sym 0)), .p (.int .i64 (.sym 0)), .p (.bool false)] [(0, .mix [.ptr 1 (.lit 0), .sl 3 3 1 (.lit 0) (.sym W)]), (1, .mix [.sl 2 101 2 (.lit 0) (.sym n)]), (2, .pure true L), (3, .pure true D)] 4 (Re.at [(0, 0), (1, 1), (2, 2), (3, 3)] []) rfl ⟨0, 0, false, rfl, rfl, rfl, qq⟩
  have g3 : ¬ w = 0 := g3
  conv => cbv
  refine Need.mk g3 ?_
  conv => cbv
  refine Sum.mk fun y hy => ?_
  have hy : y = z % w := (show y = Int.tmod z w from hy).trans (Int.tmod_eq_emod_of_nonneg (by omega))
  conv => cbv
  refine Br.mk (fun g4 => ?_) (fun g4 => ?_)
  · have g4 : ¬ y = 0 := g4
    have qq : SlotAt R at_ 0 0 false := .no (fun q' s' e' he' hs' hlt' hat' => by
      have h0 : 0 ≤ (s' : Int) * wordsOf (clsOf e') := Int.mul_nonneg (by omega) (wordsOf_bd _).1
      have : q' = q.toNat := by omega
      subst this
      rw [he] at he'
      cases he'
      rw [← hv, ← hw] at hat' h0 hlt'
      have : z = s' * w := by omega
      rw [this, Int.mul_emod_left] at hy
      exact g4 hy)
    conv => cbv
    refine RetF.mk [.p (.int .i64 (.sym 0)), .p (.int .i64 (.sym 0)), .p (.bool false)] [(0, .mix [.ptr 1 (.lit 0), .sl 3 3 1 (.lit 0) (.sym W)]), (1, .mix [.sl 2 101 2 (.lit 0) (.sym n)]), (2, .pure true L), (3, .pure true D)] 4 (Re.at [(0, 0), (1, 1), (2, 2), (3, 3)] []) rfl ⟨0, 0, false, rfl, rfl, rfl, qq⟩
  have g4 : y = 0 := Classical.byContradiction g4
  have ht : Int.tdiv z w = z / w := Int.tdiv_eq_ediv_of_nonneg (by omega)
  have hwz : w * (z / w) + z % w = z := Int.mul_ediv_add_emod z w
  have hd0 : 0 ≤ z / w := Int.ediv_nonneg (by omega) (by omega)
  obtain ⟨sn, hsn⟩ : ∃ sn : Nat, (sn : Int) = z / w := ⟨(z / w).toNat, by omega⟩
  rw [← hsn] at hwz ht
  have hsb : (sn : Int) ≤ z := by
    have h1 : (1 : Int) * sn ≤ w * sn := Int.mul_le_mul_of_nonneg_right (by omega) (by omega)
    omega
  have qq : SlotAt R at_ q sn true := by
    have hqn : q = (q.toNat : Int) := by omega
    rw [hqn]
    have hmul : (sn : Int) * w = z := by rw [Int.mul_comm]; omega
    refine .is q.toNat sn e he ?_ ?_ ?_
    · rw [← hv, ← hw]; exact g3
    · rw [← hv, ← hw, hmul]; omega
    · rw [← hv, ← hw, hmul]; omega
  clear hwz hd0
  conv => cbv
  refine draw_sound tok (by kernel_rfl) rfl (by kernel_rfl) ?_
  conv => cbv
  refine Need.mk g3 ?_
  conv => cbv
  refine Fit.mk (by show (-9223372036854775808 : Int) ≤ Int.tdiv z w; omega) (by show Int.tdiv z w ≤ 9223372036854775807; omega) fun s0 hs0 => ?_
  have hs0 : s0 = sn := (show s0 = Int.tdiv z w from hs0).trans ht
  rw [← hs0] at qq
  conv => cbv
  refine RetF.mk [.p (.int .i64 (.sym q)), .p (.int .i64 (.sym s0)), .p (.bool true)] [(0, .mix [.ptr 1 (.lit 0), .sl 3 3 1 (.lit 0) (.sym W)]), (1, .mix [.sl 2 101 2 (.lit 0) (.sym n)]), (2, .pure true L), (3, .pure true D)] 4 (Re.at [(0, 0), (1, 1), (2, 2), (3, 3)] []) rfl ⟨q, s0, true, rfl, rfl, rfl, qq⟩
end Go.Proofs.YtllafhhnciobhaaGreatDoor
/-
  Layer 7: what stands at a place.
-/
namespace Go.Proofs.YtllafhhnciobhaaGreatDoor

open Go Go.LX
set_option maxRecDepth 100000
set_option linter.unusedVariables false
set_option linter.unusedSimpArgs false

/-- The words of an arena, as cells. -/
def ipv (l : List Int) : List PV := l.map fun z => .int .i64 (.sym z)
theorem ipv_get {l : List Int} {i : Nat} {z : Int} (h : l[i]? = some z) : (ipv l)[i]? = some (.int .i64 (.sym z)) := by rw [ipv, List.getElem?_map, h]; rfl
theorem ipv_length (l : List Int) : (ipv l).length = l.length := List.length_map _
/-- Rows as they may be. -/
def RowsOk (R : List Rw) : Prop := ∀ e ∈ R, e.2.length ≤ 8 ∧ (e.2 ≠ [] → wordsOf e.1 ≠ 0 ∧ e.2.length = slotsOf e.1 ∧ true ∈ e.2)
/-- Is there an object at a place? -/
def IsObj (R : List Rw) (at_ : Int) : Prop := ∃ (q s : Nat) (e : Rw), R[q]? = some e ∧ e.2[s]? = some true ∧ at_ = 32 * q + s * wordsOf e.1
theorem slots_words {c : Int} {s : Nat} (h : wordsOf c ≠ 0) (hs : s < slotsOf c) : (s : Int) * wordsOf c + wordsOf c ≤ 32 := by
  unfold wordsOf at *
  unfold slotsOf at hs
  split at h
  · rw [if_pos (by assumption)] at hs ⊢; omega
  · split at h
    · rw [if_neg (by assumption), if_pos (by assumption)] at hs ⊢; omega
    · split at h
      · rw [if_neg (by assumption), if_neg (by assumption), if_pos (by assumption)] at hs ⊢; omega
      · split at h
        · rw [if_neg (by assumption), if_neg (by assumption), if_neg (by assumption), if_pos (by assumption)] at hs ⊢; omega
        · exact absurd rfl h
theorem obj_slot {R : List Rw} (hR : RowsOk R) {at_ : Int} {q s : Int} {b : Bool} (h : SlotAt R at_ q s b) : (b = true ∧ 0 ≤ q ∧ 0 ≤ s ∧ q < R.length ∧ 0 ≤ at_ ∧ at_ < 32 * R.length ∧ ∃ e : Rw, R[q.toNat]? = some e ∧ at_ = 32 * q + s * wordsOf e.1 ∧ (IsObj R at_ ↔ e.2[s.toNat]? = some true)) ∨ (b = false ∧ ¬ IsObj R at_) := by
  cases h with
  | no h =>
    refine .inr ⟨rfl, ?_⟩
    rintro ⟨q, s, e, he, hs, hat⟩
    have hne : e.2 ≠ [] := by intro e0; rw [e0] at hs; simp at hs
    have hcl : clsOf e = e.1 := if_neg hne
    obtain ⟨_, hok⟩ := hR e (List.mem_of_getElem? he)
    obtain ⟨h1, h2, _⟩ := hok hne
    have hsl : s < slotsOf e.1 := by have := (List.getElem?_eq_some_iff.1 hs).1; omega
    have := slots_words h1 hsl
    have := (wordsOf_bd e.1).1
    exact h q s e he (by rw [hcl]; exact h1) (by rw [hcl]; omega) (by rw [hcl]; exact hat)
  | is q s e he hs hlt hat =>
    have hne : e.2 ≠ [] := by intro e0; apply hs; rw [clsOf, if_pos e0]; rfl
    have hcl : clsOf e = e.1 := if_neg hne
    rw [hcl] at hs hlt hat
    have hq := (List.getElem?_eq_some_iff.1 he).1
    have h0 : 0 ≤ (s : Int) * wordsOf e.1 := Int.mul_nonneg (by omega) (wordsOf_bd _).1
    refine .inl ⟨rfl, by omega, by omega, by omega, by omega, by omega, e, by simpa using he, by simpa using hat, ?_⟩
    constructor
    · rintro ⟨q', s', e', he', hs', hat'⟩
      have hne' : e'.2 ≠ [] := by intro e0; rw [e0] at hs'; simp at hs'
      obtain ⟨_, hok⟩ := hR e' (List.mem_of_getElem? he')
      obtain ⟨h1, h2, _⟩ := hok hne'
      have hsl : s' < slotsOf e'.1 := by have := (List.getElem?_eq_some_iff.1 hs').1; omega
      have h3 := slots_words h1 hsl
      have h4 := (wordsOf_bd e'.1).1
      have h5 : 0 ≤ (s' : Int) * wordsOf e'.1 := Int.mul_nonneg (by omega) h4
      have h6 : q' = q := by omega
      subst h6
      rw [he] at he'
      cases he'
      have h7 : (s : Int) * wordsOf e.1 = s' * wordsOf e.1 := by omega
      have h8 := Int.eq_of_mul_eq_mul_right h1 h7
      rw [Int.toNat_natCast, show s = s' by omega]; exact hs'
    · intro h
      exact ⟨q, s, e, he, by simpa using h, hat⟩
/-- The slot at a place, and whether it is used. -/
inductive Slotted (R : List Rw) (at_ : Int) : Int → Int → Bool → Prop
  | no (q s : Int) (h : ¬ IsObj R at_) : Slotted R at_ q s false
  | off (q s : Int) (e : Rw) (hq0 : 0 ≤ q) (hs0 : 0 ≤ s) (he : R[q.toNat]? = some e) (hu : e.2[s.toNat]? ≠ some true) (h : ¬ IsObj R at_) : Slotted R at_ q s true
  | on (q s : Int) (e : Rw) (hq0 : 0 ≤ q) (hs0 : 0 ≤ s) (he : R[q.toNat]? = some e) (hu : e.2[s.toNat]? = some true) (h : IsObj R at_) (ha0 : 0 ≤ at_) (ha1 : at_ < 32 * R.length) (hat : at_ = 32 * q + s * wordsOf e.1) : Slotted R at_ q s true
theorem slotted {R : List Rw} (hR : RowsOk R) {at_ : Int} {q s : Int} {b : Bool} (h : SlotAt R at_ q s b) : Slotted R at_ q s b := by
  rcases obj_slot hR h with ⟨rfl, h1, h2, h3, h4, h5, e, h6, h7, h8⟩ | ⟨rfl, h1⟩
  · by_cases hu : e.2[s.toNat]? = some true
    · exact .on q s e h1 h2 h6 hu (h8.2 hu) h4 h5 h7
    · exact .off q s e h1 h2 h6 hu (fun h => hu (h8.1 h))
  · exact .no q s h1
theorem slotB_lx (R : List Rw) (n at_ W : Int) (L D : List PV) (hL : L = rpv R) (hn : n = R.length) (hR : R.length ≤ 1000) (hok : RowsOk R) (hW : W = 32 * n) : CallF (fun _ => Tryz.prog) 80 [.ptr 0 (.lit 0), .p (.int .i64 (.sym at_))] [(0, .mix [.ptr 1 (.lit 0), .sl 3 3 1 (.lit 0) (.sym W)]), (1, .mix [.sl 2 101 2 (.lit 0) (.sym n)]), (2, .pure true L), (3, .pure true D)] 4
    (fun r h n' => ∃ (q s : Int) (b : Bool), r = .tup [.p (.int .i64 (.sym q)), .p (.int .i64 (.sym s)), .p (.bool b)] ∧ h = [(0, .mix [.ptr 1 (.lit 0), .sl 3 3 1 (.lit 0) (.sym W)]), (1, .mix [.sl 2 101 2 (.lit 0) (.sym n)]), (2, .pure true L), (3, .pure true D)] ∧ n' = 4 ∧ Slotted R at_ q s b) :=
  (slotAt_lx R n at_ W L D hL hn hR hW).mono fun r h n' ⟨q, s, b, h1, h2, h3, h4⟩ => ⟨q, s, b, h1, h2, h3, slotted hok h4⟩
theorem tdiv16 (x : Int) (h : -9223372036854775808 ≤ x ∧ x ≤ 9223372036854775807) : -9223372036854775808 ≤ Int.tdiv x 16 ∧ Int.tdiv x 16 ≤ 9223372036854775807 := by
  rcases Int.le_total 0 x with h0 | h0
  · rw [Int.tdiv_eq_ediv_of_nonneg h0]; omega
  · have : Int.tdiv x 16 = -(Int.tdiv (-x) 16) := by rw [Int.neg_tdiv]; omega
    rw [this, Int.tdiv_eq_ediv_of_nonneg (by omega)]; omega
/-- What is seen at a place. -/
inductive Looked (R : List Rw) (ws : List Int) (at_ : Int) : LV → Prop
  | no (h : ¬ IsObj R at_) : Looked R ws at_ (.iface 105 (.agg []))
  | is (x k l : Int) (h : IsObj R at_) (h0 : 0 ≤ at_) (hx : ws[at_.toNat]? = some x) (hk : k = Int.tmod x 16) (hl : l = Int.tdiv x 16) : Looked R ws at_ (.iface 86 (.agg [.p (.int .i64 (.sym k)), .p (.int .i64 (.sym l))]))
set_option maxHeartbeats 2000000 in
theorem look_lx (R : List Rw) (ws : List Int) (n at_ W : Int) (L D : List PV) (hL : L = rpv R) (hD : D = ipv ws) (hn : n = R.length) (hR : R.length ≤ 1000) (hok : RowsOk R) (hW : W = 32 * n) (hws : (ws.length : Int) = W) (hwb : ∀ x ∈ ws, -9223372036854775808 ≤ x ∧ x ≤ 9223372036854775807) : CallF (fun _ => Tryz.prog) 60 [.ptr 0 (.lit 0), .p (.int .i64 (.sym at_))] [(0, .mix [.ptr 1 (.lit 0), .sl 3 3 1 (.lit 0) (.sym W)]), (1, .mix [.sl 2 101 2 (.lit 0) (.sym n)]), (2, .pure true L), (3, .pure true D)] 4
    (fun r h n' => Looked R ws at_ r ∧ h = [(0, .mix [.ptr 1 (.lit 0), .sl 3 3 1 (.lit 0) (.sym W)]), (1, .mix [.sl 2 101 2 (.lit 0) (.sym n)]), (2, .pure true L), (3, .pure true D)] ∧ n' = 4) := by
  refine callF_of_body tok Tryz.func60 (by kernel_rfl) rfl rfl rfl ?_; conv => cbv
  refine callF_frame (slotB_lx R n at_ W L D hL hn hR hok hW) [(0, 0), (1, 1), (2, 2), (3, 3)] rfl (by simp [hmapOk, nget, hget, renB, okB, renV, renVs, rn, okVs, okV]) rfl rfl (fun r h' n' hrr => ?_)
  obtain ⟨q, s, b, e1, e2, e3, hS⟩ := hrr
  subst e1 e2 e3
  cases hS with
  | no hno =>
    conv => cbv
    refine RetF.mk [.iface 105 (.agg [])] [(0, .mix [.ptr 1 (.lit 0), .sl 3 3 1 (.lit 0) (.sym W)]), (1, .mix [.sl 2 101 2 (.lit 0) (.sym n)]), (2, .pure true L), (3, .pure true D)] 4 (Re.at [(0, 0), (1, 1), (2, 2), (3, 3)] []) rfl ⟨.no hno, rfl, rfl⟩
  | off e hq0 hs0 he hu hno =>
    conv => cbv
    refine callF_frame (used_no_lx R n q s e.1 e.2 L hL hn hq0 he (hok e (List.mem_of_getElem? he)).1 (fun _ => hu)) [(0, 1), (1, 2)] rfl (by simp [hmapOk, nget, hget, renB, okB, renV, renVs, rn, okVs, okV]) rfl rfl (fun r h' n' ⟨e1, e2, e3⟩ => ?_)
    subst e1 e2 e3
    conv => cbv
    refine RetF.mk [.iface 105 (.agg [])] [(0, .mix [.ptr 1 (.lit 0), .sl 3 3 1 (.lit 0) (.sym W)]), (1, .mix [.sl 2 101 2 (.lit 0) (.sym n)]), (2, .pure true L), (3, .pure true D)] 4 (Re.at [(0, 0), (1, 1), (2, 2), (3, 3)] []) rfl ⟨.no hno, rfl, rfl⟩
  | on e hq0 hs0 he hu hobj ha0 ha1 hat =>
    conv => cbv
    refine callF_frame (used_lx R n q s e.1 e.2 L hL hn hq0 he true hs0 hu) [(0, 1), (1, 2)] rfl (by simp [hmapOk, nget, hget, renB, okB, renV, renVs, rn, okVs, okV]) rfl rfl (fun r h' n' ⟨e1, e2, e3⟩ => ?_)
    subst e1 e2 e3
    conv => cbv
    obtain ⟨x, hx⟩ : ∃ x, ws[at_.toNat]? = some x := ⟨_, List.getElem?_eq_getElem (by omega)⟩
    have hxb := hwb x (List.mem_of_getElem? hx)
    have hc := ipv_get hx
    rw [← hD] at hc
    refine draw_sound tok (by kernel_rfl) rfl (by kernel_rfl) ?_
    conv => cbv
    refine Need.mk ⟨ha0, by show at_ < W; omega⟩ ?_
    conv => cbv
    refine Cell.at at_ _ hc (by simp [I.val]) rfl ?_
    conv => cbv
    refine Sum.mk fun k hk => ?_
    have hk : k = Int.tmod x 16 := hk
    conv => cbv
    refine Need.mk ⟨ha0, by show at_ < W; omega⟩ ?_
    conv => cbv
    refine Cell.at at_ _ hc (by simp [I.val]) rfl ?_
    conv => cbv
    have hl16 := tdiv16 x hxb
    refine Fit.mk (by show (-9223372036854775808 : Int) ≤ Int.tdiv x 16; omega) (by show Int.tdiv x 16 ≤ 9223372036854775807; omega) fun l hl => ?_
    have hl : l = Int.tdiv x 16 := hl
    conv => cbv
    refine RetF.mk [.iface 86 (.agg [.p (.int .i64 (.sym k)), .p (.int .i64 (.sym l))])] [(0, .mix [.ptr 1 (.lit 0), .sl 3 3 1 (.lit 0) (.sym W)]), (1, .mix [.sl 2 101 2 (.lit 0) (.sym n)]), (2, .pure true L), (3, .pure true D)] 4 (Re.at [(0, 0), (1, 1), (2, 2), (3, 3)] []) rfl ⟨.is x k l hobj ha0 hx hk hl, rfl, rfl⟩
end Go.Proofs.YtllafhhnciobhaaGreatDoor
/-
  Layer 7: kinds, lengths, words.
-/
namespace Go.Proofs.YtllafhhnciobhaaGreatDoor

open Go Go.LX
set_option maxRecDepth 100000
set_option linter.unusedVariables false
set_option linter.unusedSimpArgs false

/-- An object, and how many words its slot has. -/
inductive ObjAt (R : List Rw) (at_ w : Int) : Prop
  | mk (q s : Nat) (e : Rw) (he : R[q]? = some e) (hs : e.2[s]? = some true) (hat : at_ = 32 * q + s * wordsOf e.1) (hw : w = wordsOf e.1)
theorem isObj_iff {R : List Rw} {at_ : Int} : IsObj R at_ ↔ ∃ w, ObjAt R at_ w := by
  constructor
  · rintro ⟨q, s, e, h1, h2, h3⟩; exact ⟨_, q, s, e, h1, h2, h3, rfl⟩
  · rintro ⟨w, q, s, e, h1, h2, h3, h4⟩; exact ⟨q, s, e, h1, h2, h3⟩
theorem ObjAt.facts {R : List Rw} (hR : RowsOk R) {a w : Int} (h : ObjAt R a w) : 0 ≤ a ∧ a + w ≤ 32 * R.length ∧ (w = 4 ∨ w = 8 ∨ w = 16 ∨ w = 32) ∧ ∃ k : Int, a = k * w := by
  obtain ⟨q, s, e, he, hs, hat, hw⟩ := h
  have hne : e.2 ≠ [] := by intro e0; rw [e0] at hs; simp at hs
  obtain ⟨_, hok⟩ := hR e (List.mem_of_getElem? he)
  obtain ⟨h1, h2, _⟩ := hok hne
  have hsl : s < slotsOf e.1 := by have := (List.getElem?_eq_some_iff.1 hs).1; omega
  have h3 := slots_words h1 hsl
  have h4 := wordsOf_cases e.1
  have h5 : 0 ≤ (s : Int) * wordsOf e.1 := Int.mul_nonneg (by omega) (wordsOf_bd _).1
  have hq := (List.getElem?_eq_some_iff.1 he).1
  rw [← hw] at h1 h3 h4 h5 hat
  refine ⟨by omega, by omega, by omega, ?_⟩
  rcases h4 with h4 | h4 | h4 | h4 | h4
  · exact absurd h4 h1
  · exact ⟨8 * q + s, by rw [hat, h4]; omega⟩
  · exact ⟨4 * q + s, by rw [hat, h4]; omega⟩
  · exact ⟨2 * q + s, by rw [hat, h4]; omega⟩
  · exact ⟨q + s, by rw [hat, h4]; omega⟩
theorem ObjAt.apart {R : List Rw} (hR : RowsOk R) {a w b v : Int} (h : ObjAt R a w) (k : ObjAt R b v) : (a = b ∧ w = v) ∨ a + w ≤ b ∨ b + v ≤ a := by
  obtain ⟨q, s, e, he, hs, hat, hw⟩ := h
  obtain ⟨q', s', e', he', hs', hat', hw'⟩ := k
  have hne : e.2 ≠ [] := by intro e0; rw [e0] at hs; simp at hs
  have hne' : e'.2 ≠ [] := by intro e0; rw [e0] at hs'; simp at hs'
  obtain ⟨_, hok⟩ := hR e (List.mem_of_getElem? he)
  obtain ⟨_, hok'⟩ := hR e' (List.mem_of_getElem? he')
  obtain ⟨h1, h2, _⟩ := hok hne
  obtain ⟨h1', h2', _⟩ := hok' hne'
  have hsl : s < slotsOf e.1 := by have := (List.getElem?_eq_some_iff.1 hs).1; omega
  have hsl' : s' < slotsOf e'.1 := by have := (List.getElem?_eq_some_iff.1 hs').1; omega
  have h3 := slots_words h1 hsl
  have h3' := slots_words h1' hsl'
  have h5 : 0 ≤ (s : Int) * wordsOf e.1 := Int.mul_nonneg (by omega) (wordsOf_bd _).1
  have h5' : 0 ≤ (s' : Int) * wordsOf e'.1 := Int.mul_nonneg (by omega) (wordsOf_bd _).1
  rcases Nat.lt_trichotomy q q' with hq | hq | hq
  · exact .inr (.inl (by omega))
  · subst hq
    rw [he] at he'
    cases he'
    have h6 := wordsOf_cases e.1
    rcases Nat.lt_trichotomy s s' with hss | hss | hss
    · have : (s : Int) * wordsOf e.1 + wordsOf e.1 ≤ s' * wordsOf e.1 := by
        have := Int.mul_le_mul_of_nonneg_right (show (s : Int) + 1 ≤ s' by omega) (show 0 ≤ wordsOf e.1 by omega)
        rw [Int.add_mul, Int.one_mul] at this; exact this
      exact .inr (.inl (by omega))
    · subst hss; exact .inl ⟨by omega, by omega⟩
    · have : (s' : Int) * wordsOf e.1 + wordsOf e.1 ≤ s * wordsOf e.1 := by
        have := Int.mul_le_mul_of_nonneg_right (show (s' : Int) + 1 ≤ s by omega) (show 0 ≤ wordsOf e.1 by omega)
        rw [Int.add_mul, Int.one_mul] at this; exact this
      exact .inr (.inr (by omega))
  · exact .inr (.inr (by omega))
/-- An arena as it may be. -/
structure AOk (R : List Rw) (ws : List Int) : Prop where
  rows : RowsOk R
  len : (ws.length : Int) = 32 * R.length
  bd : ∀ x ∈ ws, -9223372036854775808 ≤ x ∧ x ≤ 9223372036854775807
  hdr : ∀ a w, ObjAt R a w → ∃ k l : Int, ws[a.toNat]? = some (k + 16 * l) ∧ 0 ≤ k ∧ k < 16 ∧ 0 ≤ l ∧ l < w
theorem hdr_of {k l : Int} (h0 : 0 ≤ k) (h1 : k < 16) (h2 : 0 ≤ l) : Int.tmod (k + 16 * l) 16 = k ∧ Int.tdiv (k + 16 * l) 16 = l := by
  rw [Int.tmod_eq_emod_of_nonneg (by omega), Int.tdiv_eq_ediv_of_nonneg (by omega)]
  omega
/-- The object at a place: its kind and its length. -/
inductive Kept (R : List Rw) (ws : List Int) (at_ : Int) : Int → Int → Prop
  | mk (k l w : Int) (h : ObjAt R at_ w) (hx : ws[at_.toNat]? = some (k + 16 * l)) (h0 : 0 ≤ k) (h1 : k < 16) (h2 : 0 ≤ l) (h3 : l < w) : Kept R ws at_ k l
theorem Kept.of {R : List Rw} {ws : List Int} (hA : AOk R ws) {a : Int} (h : IsObj R a) : ∃ k l, Kept R ws a k l := by
  obtain ⟨w, hw⟩ := isObj_iff.1 h
  obtain ⟨k, l, h1, h2, h3, h4, h5⟩ := hA.hdr a w hw
  exact ⟨k, l, .mk k l w hw h1 h2 h3 h4 h5⟩
/-- What is seen at a place, told by the object there. -/
inductive Seen (R : List Rw) (ws : List Int) (at_ : Int) : LV → Prop
  | no (h : ¬ IsObj R at_) : Seen R ws at_ (.iface 105 (.agg []))
  | is (k l : Int) (h : Kept R ws at_ k l) : Seen R ws at_ (.iface 86 (.agg [.p (.int .i64 (.sym k)), .p (.int .i64 (.sym l))]))
theorem seen {R : List Rw} {ws : List Int} (hA : AOk R ws) {a : Int} {r : LV} (h : Looked R ws a r) : Seen R ws a r := by
  cases h with
  | no h => exact .no h
  | is x k l h h0 hx hk hl =>
    obtain ⟨k', l', h'⟩ := Kept.of hA h
    have h'' := h'
    obtain ⟨w, h1, h2, h3, h4, h5, h6⟩ := h'
    rw [hx] at h2
    have h2 : x = k' + 16 * l' := Option.some.inj h2
    have := hdr_of h3 h4 h5
    rw [h2, this.1] at hk
    rw [h2, this.2] at hl
    rw [hk, hl]
    exact .is k' l' h''
theorem see_lx (R : List Rw) (ws : List Int) (n at_ W : Int) (L D : List PV) (hL : L = rpv R) (hD : D = ipv ws) (hn : n = R.length) (hR : R.length ≤ 1000) (hA : AOk R ws) (hW : W = 32 * n) : CallF (fun _ => Tryz.prog) 60 [.ptr 0 (.lit 0), .p (.int .i64 (.sym at_))] [(0, .mix [.ptr 1 (.lit 0), .sl 3 3 1 (.lit 0) (.sym W)]), (1, .mix [.sl 2 101 2 (.lit 0) (.sym n)]), (2, .pure true L), (3, .pure true D)] 4
    (fun r h n' => Seen R ws at_ r ∧ h = [(0, .mix [.ptr 1 (.lit 0), .sl 3 3 1 (.lit 0) (.sym W)]), (1, .mix [.sl 2 101 2 (.lit 0) (.sym n)]), (2, .pure true L), (3, .pure true D)] ∧ n' = 4) :=
  (look_lx R ws n at_ W L D hL hD hn hR hA.rows hW (by rw [hA.len]; omega) hA.bd).mono fun r h n' ⟨h1, h2, h3⟩ => ⟨seen hA h1, h2, h3⟩
inductive KindR (R : List Rw) (ws : List Int) (at_ : Int) : Int → Prop
  | no (h : ¬ IsObj R at_) : KindR R ws at_ 0
  | is (k l : Int) (h : Kept R ws at_ k l) : KindR R ws at_ k
inductive LenR (R : List Rw) (ws : List Int) (at_ : Int) : Int → Prop
  | no (h : ¬ IsObj R at_) : LenR R ws at_ 0
  | is (k l : Int) (h : Kept R ws at_ k l) : LenR R ws at_ l
theorem kind_lx (R : List Rw) (ws : List Int) (n at_ W : Int) (L D : List PV) (hL : L = rpv R) (hD : D = ipv ws) (hn : n = R.length) (hR : R.length ≤ 1000) (hA : AOk R ws) (hW : W = 32 * n) : CallF (fun _ => Tryz.prog) 24 [.ptr 0 (.lit 0), .p (.int .i64 (.sym at_))] [(0, .mix [.ptr 1 (.lit 0), .sl 3 3 1 (.lit 0) (.sym W)]), (1, .mix [.sl 2 101 2 (.lit 0) (.sym n)]), (2, .pure true L), (3, .pure true D)] 4
    (fun r h n' => ∃ v : Int, r = .p (.int .i64 (.sym v)) ∧ h = [(0, .mix [.ptr 1 (.lit 0), .sl 3 3 1 (.lit 0) (.sym W)]), (1, .mix [.sl 2 101 2 (.lit 0) (.sym n)]), (2, .pure true L), (3, .pure true D)] ∧ n' = 4 ∧ KindR R ws at_ v) := by
  refine callF_of_body tok Tryz.func24 (by kernel_rfl) rfl rfl rfl ?_; conv => cbv
  refine callF_frame (see_lx R ws n at_ W L D hL hD hn hR hA hW) [(0, 0), (1, 1), (2, 2), (3, 3)] rfl (by simp [hmapOk, nget, hget, renB, okB, renV, renVs, rn, okVs, okV]) rfl rfl (fun r h' n' hrr => ?_)
  obtain ⟨hS, e2, e3⟩ := hrr
  subst e2 e3
  cases hS with
  | no hno =>
    conv => cbv
    refine RetF.mk [.p (.int .i64 (.sym 0))] [(0, .mix [.ptr 1 (.lit 0), .sl 3 3 1 (.lit 0) (.sym W)]), (1, .mix [.sl 2 101 2 (.lit 0) (.sym n)]), (2, .pure true L), (3, .pure true D)] 4 (Re.at [(0, 0), (1, 1), (2, 2), (3, 3)] []) rfl ⟨0, rfl, rfl, rfl, .no hno⟩
  | is k l hk =>
    conv => cbv
    refine RetF.mk [.p (.int .i64 (.sym k))] [(0, .mix [.ptr 1 (.lit 0), .sl 3 3 1 (.lit 0) (.sym W)]), (1, .mix [.sl 2 101 2 (.lit 0) (.sym n)]), (2, .pure true L), (3, .pure true D)] 4 (Re.at [(0, 0), (1, 1), (2, 2), (3, 3)] []) rfl ⟨k, rfl, rfl, rfl, .is k l hk⟩
theorem len_lx (R : List Rw) (ws : List Int) (n at_ W : Int) (L D : List PV) (hL : L = rpv R) (hD : D = ipv ws) (hn : n = R.length) (hR : R.length ≤ 1000) (hA : AOk R ws) (hW : W = 32 * n) : CallF (fun _ => Tryz.prog) 19 [.ptr 0 (.lit 0), .p (.int .i64 (.sym at_))] [(0, .mix [.ptr 1 (.lit 0), .sl 3 3 1 (.lit 0) (.sym W)]), (1, .mix [.sl 2 101 2 (.lit 0) (.sym n)]), (2, .pure true L), (3, .pure true D)] 4
    (fun r h n' => ∃ v : Int, r = .p (.int .i64 (.sym v)) ∧ h = [(0, .mix [.ptr 1 (.lit 0), .sl 3 3 1 (.lit 0) (.sym W)]), (1, .mix [.sl 2 101 2 (.lit 0) (.sym n)]), (2, .pure true L), (3, .pure true D)] ∧ n' = 4 ∧ LenR R ws at_ v) := by
  refine callF_of_body tok Tryz.func19 (by kernel_rfl) rfl rfl rfl ?_; conv => cbv
  refine callF_frame (see_lx R ws n at_ W L D hL hD hn hR hA hW) [(0, 0), (1, 1), (2, 2), (3, 3)] rfl (by simp [hmapOk, nget, hget, renB, okB, renV, renVs, rn, okVs, okV]) rfl rfl (fun r h' n' hrr => ?_)
  obtain ⟨hS, e2, e3⟩ := hrr
  subst e2 e3
  cases hS with
  | no hno =>
    conv => cbv
    refine RetF.mk [.p (.int .i64 (.sym 0))] [(0, .mix [.ptr 1 (.lit 0), .sl 3 3 1 (.lit 0) (.sym W)]), (1, .mix [.sl 2 101 2 (.lit 0) (.sym n)]), (2, .pure true L), (3, .pure true D)] 4 (Re.at [(0, 0), (1, 1), (2, 2), (3, 3)] []) rfl ⟨0, rfl, rfl, rfl, .no hno⟩
  | is k l hk =>
    conv => cbv
    refine RetF.mk [.p (.int .i64 (.sym l))] [(0, .mix [.ptr 1 (.lit 0), .sl 3 3 1 (.lit 0) (.sym W)]), (1, .mix [.sl 2 101 2 (.lit 0) (.sym n)]), (2, .pure true L), (3, .pure true D)] 4 (Re.at [(0, 0), (1, 1), (2, 2), (3, 3)] []) rfl ⟨l, rfl, rfl, rfl, .is k l hk⟩
inductive Judged (R : List Rw) (ws : List Int) (at_ i : Int) : Int → Prop
  | none (h : ¬ IsObj R at_) : Judged R ws at_ i 8
  | arg (k l : Int) (h : Kept R ws at_ k l) (hi : ¬ (0 ≤ i ∧ i < l)) : Judged R ws at_ i 1
  | ok (k l : Int) (h : Kept R ws at_ k l) (hi : 0 ≤ i ∧ i < l) : Judged R ws at_ i 0
theorem judge_lx (i : Int) (R : List Rw) (ws : List Int) (n at_ W : Int) (L D : List PV) (hL : L = rpv R) (hD : D = ipv ws) (hn : n = R.length) (hR : R.length ≤ 1000) (hA : AOk R ws) (hW : W = 32 * n) : CallF (fun _ => Tryz.prog) 81 [.ptr 0 (.lit 0), .p (.int .i64 (.sym at_)), .p (.int .i64 (.sym i))] [(0, .mix [.ptr 1 (.lit 0), .sl 3 3 1 (.lit 0) (.sym W)]), (1, .mix [.sl 2 101 2 (.lit 0) (.sym n)]), (2, .pure true L), (3, .pure true D)] 4
    (fun r h n' => ∃ v : Int, r = .p (.int .i64 (.sym v)) ∧ h = [(0, .mix [.ptr 1 (.lit 0), .sl 3 3 1 (.lit 0) (.sym W)]), (1, .mix [.sl 2 101 2 (.lit 0) (.sym n)]), (2, .pure true L), (3, .pure true D)] ∧ n' = 4 ∧ Judged R ws at_ i v) := by
  refine callF_of_body tok Tryz.func81 (by kernel_rfl) rfl rfl rfl ?_; conv => cbv
  refine callF_frame (see_lx R ws n at_ W L D hL hD hn hR hA hW) [(0, 0), (1, 1), (2, 2), (3, 3)] rfl (by simp [hmapOk, nget, hget, renB, okB, renV, renVs, rn, okVs, okV]) rfl rfl (fun r h' n' hrr => ?_)
  obtain ⟨hS, e2, e3⟩ := hrr
  subst e2 e3
  cases hS with
  | no hno =>
    conv => cbv
    refine RetF.mk [.p (.int .i64 (.sym 8))] [(0, .mix [.ptr 1 (.lit 0), .sl 3 3 1 (.lit 0) (.sym W)]), (1, .mix [.sl 2 101 2 (.lit 0) (.sym n)]), (2, .pure true L), (3, .pure true D)] 4 (Re.at [(0, 0), (1, 1), (2, 2), (3, 3)] []) rfl ⟨8, rfl, rfl, rfl, .none hno⟩
  | is k l hk =>
    conv => cbv
    refine Br.mk (fun g => ?_) (fun g => ?_)
    · have g : i < 0 := g
      conv => cbv
      refine RetF.mk [.p (.int .i64 (.sym 1))] [(0, .mix [.ptr 1 (.lit 0), .sl 3 3 1 (.lit 0) (.sym W)]), (1, .mix [.sl 2 101 2 (.lit 0) (.sym n)]), (2, .pure true L), (3, .pure true D)] 4 (Re.at [(0, 0), (1, 1), (2, 2), (3, 3)] []) rfl ⟨1, rfl, rfl, rfl, .arg k l hk (by omega)⟩
    have g : ¬ i < 0 := g
    conv => cbv
    refine Br.mk (fun g => ?_) (fun g => ?_)
    · have g : l ≤ i := g
      conv => cbv
      refine RetF.mk [.p (.int .i64 (.sym 1))] [(0, .mix [.ptr 1 (.lit 0), .sl 3 3 1 (.lit 0) (.sym W)]), (1, .mix [.sl 2 101 2 (.lit 0) (.sym n)]), (2, .pure true L), (3, .pure true D)] 4 (Re.at [(0, 0), (1, 1), (2, 2), (3, 3)] []) rfl ⟨1, rfl, rfl, rfl, .arg k l hk (by omega)⟩
    · have g : ¬ l ≤ i := g
      conv => cbv
      refine RetF.mk [.p (.int .i64 (.sym 0))] [(0, .mix [.ptr 1 (.lit 0), .sl 3 3 1 (.lit 0) (.sym W)]), (1, .mix [.sl 2 101 2 (.lit 0) (.sym n)]), (2, .pure true L), (3, .pure true D)] 4 (Re.at [(0, 0), (1, 1), (2, 2), (3, 3)] []) rfl ⟨0, rfl, rfl, rfl, .ok k l hk (by omega)⟩
inductive Loaded (R : List Rw) (ws : List Int) (at_ i : Int) : Int → Int → Prop
  | none (h : ¬ IsObj R at_) : Loaded R ws at_ i 0 8
  | arg (k l : Int) (h : Kept R ws at_ k l) (hi : ¬ (0 ≤ i ∧ i < l)) : Loaded R ws at_ i 0 1
  | ok (k l x : Int) (h : Kept R ws at_ k l) (hi : 0 ≤ i ∧ i < l) (hx : ws[(at_ + 1 + i).toNat]? = some x) : Loaded R ws at_ i x 0
theorem Kept.bounds {R : List Rw} {ws : List Int} (hA : AOk R ws) {a k l : Int} (h : Kept R ws a k l) : 0 ≤ a ∧ 0 ≤ l ∧ a + 1 + l ≤ 32 * R.length ∧ l < 32 := by
  obtain ⟨w, h1, _, _, _, h2, h3⟩ := h
  obtain ⟨h4, h5, h6, _⟩ := h1.facts hA.rows
  omega
set_option maxHeartbeats 2000000 in
theorem load_lx (i : Int) (R : List Rw) (ws : List Int) (n at_ W : Int) (L D : List PV) (hL : L = rpv R) (hD : D = ipv ws) (hn : n = R.length) (hR : R.length ≤ 1000) (hA : AOk R ws) (hW : W = 32 * n) : CallF (fun _ => Tryz.prog) 61 [.ptr 0 (.lit 0), .p (.int .i64 (.sym at_)), .p (.int .i64 (.sym i))] [(0, .mix [.ptr 1 (.lit 0), .sl 3 3 1 (.lit 0) (.sym W)]), (1, .mix [.sl 2 101 2 (.lit 0) (.sym n)]), (2, .pure true L), (3, .pure true D)] 4
    (fun r h n' => ∃ x e : Int, r = .tup [.p (.int .i64 (.sym x)), .p (.int .i64 (.sym e))] ∧ h = [(0, .mix [.ptr 1 (.lit 0), .sl 3 3 1 (.lit 0) (.sym W)]), (1, .mix [.sl 2 101 2 (.lit 0) (.sym n)]), (2, .pure true L), (3, .pure true D)] ∧ n' = 4 ∧ Loaded R ws at_ i x e) := by
  have hlen := hA.len
  refine callF_of_body tok Tryz.func61 (by kernel_rfl) rfl rfl rfl ?_; conv => cbv
  refine callF_frame (judge_lx i R ws n at_ W L D hL hD hn hR hA hW) [(0, 0), (1, 1), (2, 2), (3, 3)] rfl (by simp [hmapOk, nget, hget, renB, okB, renV, renVs, rn, okVs, okV]) rfl rfl (fun r h' n' hrr => ?_)
  obtain ⟨v, e1, e2, e3, hJ⟩ := hrr
  subst e1 e2 e3
  cases hJ with
  | none hno =>
    conv => cbv
    refine Br.mk (fun g => ?_) (fun g => ?_)
    case refine_2 =>
      have gf : False := g (by decide)
      cases gf
    conv => cbv
    refine RetF.mk [.p (.int .i64 (.sym 0)), .p (.int .i64 (.sym 8))] [(0, .mix [.ptr 1 (.lit 0), .sl 3 3 1 (.lit 0) (.sym W)]), (1, .mix [.sl 2 101 2 (.lit 0) (.sym n)]), (2, .pure true L), (3, .pure true D)] 4 (Re.at [(0, 0), (1, 1), (2, 2), (3, 3)] []) rfl ⟨0, 8, rfl, rfl, rfl, .none hno⟩
  | arg k l hk hi =>
    conv => cbv
    refine Br.mk (fun g => ?_) (fun g => ?_)
    case refine_2 =>
      have gf : False := g (by decide)
      cases gf
    conv => cbv
    refine RetF.mk [.p (.int .i64 (.sym 0)), .p (.int .i64 (.sym 1))] [(0, .mix [.ptr 1 (.lit 0), .sl 3 3 1 (.lit 0) (.sym W)]), (1, .mix [.sl 2 101 2 (.lit 0) (.sym n)]), (2, .pure true L), (3, .pure true D)] 4 (Re.at [(0, 0), (1, 1), (2, 2), (3, 3)] []) rfl ⟨0, 1, rfl, rfl, rfl, .arg k l hk hi⟩
  | ok k l hk hi =>
    conv => cbv
    refine Br.mk (fun g => ?_) (fun g => ?_)
    case refine_1 =>
      have gf : False := g rfl
      cases gf
    conv => cbv
    have hb := hk.bounds hA
    obtain ⟨x, hx⟩ : ∃ x, ws[(at_ + 1 + i).toNat]? = some x := ⟨_, List.getElem?_eq_getElem (by omega)⟩
    have hc := ipv_get hx
    rw [← hD] at hc
    refine Fit.mk (by show (-9223372036854775808 : Int) ≤ at_ + 1; omega) (by show at_ + 1 ≤ 9223372036854775807; omega) fun a1 ha1 => ?_
    have ha1 : a1 = at_ + 1 := ha1
    conv => cbv
    refine Fit.mk (by show (-9223372036854775808 : Int) ≤ a1 + i; omega) (by show a1 + i ≤ 9223372036854775807; omega) fun a2 ha2 => ?_
    have ha2 : a2 = a1 + i := ha2
    have ha2 : a2 = at_ + 1 + i := by omega
    conv => cbv
    refine Need.mk ⟨by show 0 ≤ a2; omega, by show a2 < W; omega⟩ ?_
    conv => cbv
    refine Cell.at a2 _ hc (by simp [I.val]) (by omega) ?_
    conv => cbv
    refine RetF.mk [.p (.int .i64 (.sym x)), .p (.int .i64 (.sym 0))] [(0, .mix [.ptr 1 (.lit 0), .sl 3 3 1 (.lit 0) (.sym W)]), (1, .mix [.sl 2 101 2 (.lit 0) (.sym n)]), (2, .pure true L), (3, .pure true D)] 4 (Re.at [(0, 0), (1, 1), (2, 2), (3, 3)] []) rfl ⟨x, 0, rfl, rfl, rfl, .ok k l x hk hi hx⟩
theorem updL_ipv (ws : List Int) (j : Nat) (x : Int) : updL (ipv ws) j [.int .i64 (.sym x)] = ipv (ws.set j x) := by
  show (ipv ws).set j _ = _
  rw [ipv, ipv, List.map_set]
inductive Stored (R : List Rw) (ws : List Int) (at_ i x : Int) : Int → List Int → Prop
  | none (h : ¬ IsObj R at_) : Stored R ws at_ i x 8 ws
  | arg (k l : Int) (h : Kept R ws at_ k l) (hi : ¬ (0 ≤ i ∧ i < l)) : Stored R ws at_ i x 1 ws
  | ok (k l : Int) (h : Kept R ws at_ k l) (hi : 0 ≤ i ∧ i < l) : Stored R ws at_ i x 0 (ws.set (at_ + 1 + i).toNat x)
set_option maxHeartbeats 2000000 in
theorem store_lx (i x : Int) (R : List Rw) (ws : List Int) (n at_ W : Int) (L D : List PV) (hL : L = rpv R) (hD : D = ipv ws) (hn : n = R.length) (hR : R.length ≤ 1000) (hA : AOk R ws) (hW : W = 32 * n) : CallF (fun _ => Tryz.prog) 71 [.ptr 0 (.lit 0), .p (.int .i64 (.sym at_)), .p (.int .i64 (.sym i)), .p (.int .i64 (.sym x))] [(0, .mix [.ptr 1 (.lit 0), .sl 3 3 1 (.lit 0) (.sym W)]), (1, .mix [.sl 2 101 2 (.lit 0) (.sym n)]), (2, .pure true L), (3, .pure true D)] 4
    (fun r h n' => ∃ (e : Int) (ws' : List Int) (D' : List PV), r = .p (.int .i64 (.sym e)) ∧ h = [(0, .mix [.ptr 1 (.lit 0), .sl 3 3 1 (.lit 0) (.sym W)]), (1, .mix [.sl 2 101 2 (.lit 0) (.sym n)]), (2, .pure true L), (3, .pure true D')] ∧ n' = 4 ∧ D' = ipv ws' ∧ Stored R ws at_ i x e ws') := by
  have hlen := hA.len
  have hDl : D.length = ws.length := by rw [hD, ipv_length]
  refine callF_of_body tok Tryz.func71 (by kernel_rfl) rfl rfl rfl ?_; conv => cbv
  refine callF_frame (judge_lx i R ws n at_ W L D hL hD hn hR hA hW) [(0, 0), (1, 1), (2, 2), (3, 3)] rfl (by simp [hmapOk, nget, hget, renB, okB, renV, renVs, rn, okVs, okV]) rfl rfl (fun r h' n' hrr => ?_)
  obtain ⟨v, e1, e2, e3, hJ⟩ := hrr
  subst e1 e2 e3
  cases hJ with
  | none hno =>
    conv => cbv
    refine Br.mk (fun g => ?_) (fun g => ?_)
    case refine_2 =>
      have gf : False := g (by decide)
      cases gf
    conv => cbv
    refine RetF.mk [.p (.int .i64 (.sym 8))] [(0, .mix [.ptr 1 (.lit 0), .sl 3 3 1 (.lit 0) (.sym W)]), (1, .mix [.sl 2 101 2 (.lit 0) (.sym n)]), (2, .pure true L), (3, .pure true D)] 4 (Re.at [(0, 0), (1, 1), (2, 2), (3, 3)] []) rfl ⟨8, ws, D, rfl, rfl, rfl, hD, .none hno⟩
  | arg k l hk hi =>
    conv => cbv
    refine Br.mk (fun g => ?_) (fun g => ?_)
    case refine_2 =>
      have gf : False := g (by decide)
      cases gf
    conv => cbv
    refine RetF.mk [.p (.int .i64 (.sym 1))] [(0, .mix [.ptr 1 (.lit 0), .sl 3 3 1 (.lit 0) (.sym W)]), (1, .mix [.sl 2 101 2 (.lit 0) (.sym n)]), (2, .pure true L), (3, .pure true D)] 4 (Re.at [(0, 0), (1, 1), (2, 2), (3, 3)] []) rfl ⟨1, ws, D, rfl, rfl, rfl, hD, .arg k l hk hi⟩
  | ok k l hk hi =>
    conv => cbv
    refine Br.mk (fun g => ?_) (fun g => ?_)
    case refine_1 =>
      have gf : False := g rfl
      cases gf
    conv => cbv
    have hb := hk.bounds hA
    refine Fit.mk (by show (-9223372036854775808 : Int) ≤ at_ + 1; omega) (by show at_ + 1 ≤ 9223372036854775807; omega) fun a1 ha1 => ?_
    have ha1 : a1 = at_ + 1 := ha1
    conv => cbv
    refine Fit.mk (by show (-9223372036854775808 : Int) ≤ a1 + i; omega) (by show a1 + i ≤ 9223372036854775807; omega) fun a2 ha2 => ?_
    have ha2 : a2 = a1 + i := ha2
    have ha2 : a2 = at_ + 1 + i := by omega
    conv => cbv
    refine Need.mk ⟨by show 0 ≤ a2; omega, by show a2 < W; omega⟩ ?_
    conv => cbv
    refine Need.mk (by show a2 + ((1 : Nat) : Int) ≤ (D.length : Int); omega) ?_
    conv => cbv
    refine Upd.mk fun D2 hD2 => ?_
    have hD2 : D2 = updL D a2.toNat [.int .i64 (.sym x)] := hD2
    have hD3 : D2 = ipv (ws.set (at_ + 1 + i).toNat x) := by rw [hD2, hD, updL_ipv, ha2]
    clear hD2
    conv => cbv
    refine RetF.mk [.p (.int .i64 (.sym 0))] [(0, .mix [.ptr 1 (.lit 0), .sl 3 3 1 (.lit 0) (.sym W)]), (1, .mix [.sl 2 101 2 (.lit 0) (.sym n)]), (2, .pure true L), (3, .pure true D2)] 4 (Re.at [(0, 0), (1, 1), (2, 2), (3, 3)] []) rfl ⟨0, _, D2, rfl, rfl, rfl, hD3, .ok k l hk hi⟩
end Go.Proofs.YtllafhhnciobhaaGreatDoor
/-
  Layer 7: what is allotted and given back.
-/
namespace Go.Proofs.YtllafhhnciobhaaGreatDoor

open Go Go.LX
set_option maxRecDepth 100000
set_option linter.unusedVariables false
set_option linter.unusedSimpArgs false

theorem header_lx (k l : Int) (hk : 0 ≤ k ∧ k ≤ 100) (hl : 0 ≤ l ∧ l ≤ 100) (v : Int) (hv : v = k + 16 * l) : CallF (fun _ => Tryz.prog) 92 [.agg [.p (.int .i64 (.sym k)), .p (.int .i64 (.sym l))]] [] 0 (fun r h n' => r = .p (.int .i64 (.sym v)) ∧ h = [] ∧ n' = 0) := by
  refine callF_of_body tok Tryz.func92 (by kernel_rfl) rfl rfl rfl ?_; conv => cbv
  refine Fit.mk (by show (-9223372036854775808 : Int) ≤ 16 * l; omega) (by show 16 * l ≤ 9223372036854775807; omega) fun a ha => ?_
  have ha : a = 16 * l := ha
  conv => cbv
  refine Fit.mk (by show (-9223372036854775808 : Int) ≤ k + a; omega) (by show k + a ≤ 9223372036854775807; omega) fun b hb => ?_
  have hb : b = k + a := hb
  have hbv : b = v := by omega
  conv => cbv
  refine RetF.mk [.p (.int .i64 (.sym v))] [] 0 (Re.at [] []) rfl ⟨rfl, rfl, rfl⟩
/-- Noughts from a place on. -/
def zer : List Int → Nat → Nat → List Int
  | ws, _, 0 => ws
  | ws, j, n + 1 => zer (ws.set j 0) (j + 1) n
theorem zer_length : ∀ (n : Nat) (ws : List Int) (j : Nat), (zer ws j n).length = ws.length
  | 0, _, _ => rfl
  | n + 1, ws, j => by rw [zer, zer_length n, List.length_set]
theorem zer_get : ∀ (n : Nat) (ws : List Int) (j i : Nat), i < ws.length → (zer ws j n)[i]? = if j ≤ i ∧ i < j + n then some 0 else ws[i]?
  | 0, ws, j, i, h => by rw [zer, if_neg (by omega)]
  | n + 1, ws, j, i, h => by
    rw [zer, zer_get n _ _ _ (by rw [List.length_set]; exact h)]
    by_cases h1 : j + 1 ≤ i ∧ i < j + 1 + n
    · rw [if_pos h1, if_pos (by omega)]
    · rw [if_neg h1]
      by_cases h2 : j = i
      · subst h2
        rw [List.getElem?_set_self h, if_pos (by omega)]
      · rw [List.getElem?_set_ne h2, if_neg (by omega)]
theorem pvles_set : ∀ (L M : List PV) (j : Nat) (u v : PV), pvles L M → pvle u v → pvles (L.set j u) (M.set j v)
  | [], [], _, _, _, _, _ => trivial
  | x :: L, y :: M, 0, u, v, h, k => ⟨k, h.2⟩
  | x :: L, y :: M, j + 1, u, v, h, k => ⟨h.1, pvles_set L M j u v h.2 k⟩
theorem upd_zer : ∀ (n : Nat) (L : List PV) (ws : List Int) (j : Nat), pvles L (ipv ws) → pvles (updL L j (repsP [.int .i64 (.lit 0)] n)) (ipv (zer ws j n))
  | 0, _, _, _, h => h
  | n + 1, L, ws, j, h => by
    show pvles (updL (L.set j _) (j + 1) (repsP [.int .i64 (.lit 0)] n)) (ipv (zer (ws.set j 0) (j + 1) n))
    refine upd_zer n _ _ _ ?_
    rw [ipv, List.map_set]
    exact pvles_set _ _ _ _ _ h (by simp [pvle, I.val])
/-- What becomes of an arena in which an object is asked for. -/
inductive Alloct (R : List Rw) (ws : List Int) (kind n : Int) : Int → Int → List Rw → List Int → Prop
  | arg (h : ¬ (0 ≤ n ∧ n ≤ 31 ∧ 1 ≤ kind ∧ kind ≤ 6)) : Alloct R ws kind n 0 1 R ws
  | room (i s : Int) (R' : List Rw) (h : 0 ≤ n ∧ n ≤ 31 ∧ 1 ≤ kind ∧ kind ≤ 6) (ha : Alloced R (ofN n) i s false R') : Alloct R ws kind n 0 9 R' ws
  | ok (i s at_ : Int) (R' : List Rw) (h : 0 ≤ n ∧ n ≤ 31 ∧ 1 ≤ kind ∧ kind ≤ 6) (ha : Alloced R (ofN n) i s true R') (hi : 0 ≤ i ∧ i < R.length ∧ 0 ≤ s ∧ s < slotsOf (ofN n)) (hat : at_ = 32 * i + s * wordsOf (ofN n)) :
      Alloct R ws kind n at_ 0 R' (zer (ws.set at_.toNat (kind + 16 * n)) (at_.toNat + 1) n.toNat)
theorem ofN_bd (n : Int) : 0 ≤ ofN n ∧ ofN n ≤ 3 := by
  unfold ofN
  split
  · omega
  · split
    · omega
    · split <;> omega
theorem ofN_words {n : Int} (h : 0 ≤ n ∧ n ≤ 31) : n < wordsOf (ofN n) ∧ wordsOf (ofN n) ≠ 0 := by
  unfold ofN
  split
  · exact ⟨by rw [show wordsOf 0 = 4 from rfl]; omega, by decide⟩
  · split
    · exact ⟨by rw [show wordsOf 1 = 8 from rfl]; omega, by decide⟩
    · split
      · exact ⟨by rw [show wordsOf 2 = 16 from rfl]; omega, by decide⟩
      · exact ⟨by rw [show wordsOf 3 = 32 from rfl]; omega, by decide⟩
theorem ofN_slots (n : Int) : slotsOf (ofN n) ≠ 0 := by
  unfold ofN
  split
  · decide
  · split
    · decide
    · split <;> decide
theorem alloced_in {R R' : List Rw} {c i s : Int} (hR : RowsOk R) (h : Alloced R c i s true R') : 0 ≤ i ∧ i < R.length ∧ 0 ≤ s ∧ s < slotsOf c := by
  cases h with
  | old i s l h0 hi hs h1 h2 =>
    have hq := (List.getElem?_eq_some_iff.1 hi).1
    have hs1 := (List.getElem?_eq_some_iff.1 hs).1
    have hne : l ≠ [] := by intro e; subst e; simp at hs
    have h4 : l.length = slotsOf c := ((hR _ (List.mem_of_getElem? hi)).2 hne).2.1
    omega
  | fresh i d h0 h2 hi h3 =>
    have hq := (List.getElem?_eq_some_iff.1 hi).1
    omega
set_option maxHeartbeats 4000000 in
theorem allocA_lx (kind m : Int) (R : List Rw) (ws : List Int) (n W : Int) (L D : List PV) (hL : L = rpv R) (hD : D = ipv ws) (hn : n = R.length) (hR : R.length ≤ 1000) (hA : AOk R ws) (hW : W = 32 * n) : CallF (fun _ => Tryz.prog) 68 [.ptr 0 (.lit 0), .p (.int .i64 (.sym kind)), .p (.int .i64 (.sym m))] [(0, .mix [.ptr 1 (.lit 0), .sl 3 3 1 (.lit 0) (.sym W)]), (1, .mix [.sl 2 101 2 (.lit 0) (.sym n)]), (2, .pure true L), (3, .pure true D)] 4
    (fun r h n' => ∃ (at_ e : Int) (R' : List Rw) (ws' : List Int) (L' D' : List PV), r = .tup [.p (.int .i64 (.sym at_)), .p (.int .i64 (.sym e))] ∧ h = [(0, .mix [.ptr 1 (.lit 0), .sl 3 3 1 (.lit 0) (.sym W)]), (1, .mix [.sl 2 101 2 (.lit 0) (.sym n)]), (2, .pure true L'), (3, .pure true D')] ∧ n' = 4 ∧ L' = rpv R' ∧ D' = ipv ws' ∧ Alloct R ws kind m at_ e R' ws') := by
  have hlen := hA.len
  have hDl : D.length = ws.length := by rw [hD, ipv_length]
  have hm8 : ∀ e ∈ R, e.2.length ≤ 8 := fun e he => (hA.rows e he).1
  refine callF_of_body tok Tryz.func68 (by kernel_rfl) rfl rfl rfl ?_; conv => cbv
  refine callF_frame (of_lx m) [] rfl trivial rfl rfl (fun r h' n' hrr => ?_)
  obtain ⟨c, b, e1, e2, e3, hO⟩ := hrr
  subst e1 e2 e3
  cases hO with
  | no hno =>
    conv => cbv
    refine RetF.mk [.p (.int .i64 (.sym 0)), .p (.int .i64 (.sym 1))] [(0, .mix [.ptr 1 (.lit 0), .sl 3 3 1 (.lit 0) (.sym W)]), (1, .mix [.sl 2 101 2 (.lit 0) (.sym n)]), (2, .pure true L), (3, .pure true D)] 4 (Re.at [(0, 0), (1, 1), (2, 2), (3, 3)] []) rfl ⟨0, 1, R, ws, L, D, rfl, rfl, rfl, hL, hD, .arg (fun h => hno ⟨h.1, h.2.1⟩)⟩
  | yes _ hc hyes =>
    conv => cbv
    refine Br.mk (fun g => ?_) (fun g => ?_)
    · have g : kind < 1 := g
      have hno : ¬ (0 ≤ m ∧ m ≤ 31 ∧ 1 ≤ kind ∧ kind ≤ 6) := fun h => by omega
      conv => cbv
      refine RetF.mk [.p (.int .i64 (.sym 0)), .p (.int .i64 (.sym 1))] [(0, .mix [.ptr 1 (.lit 0), .sl 3 3 1 (.lit 0) (.sym W)]), (1, .mix [.sl 2 101 2 (.lit 0) (.sym n)]), (2, .pure true L), (3, .pure true D)] 4 (Re.at [(0, 0), (1, 1), (2, 2), (3, 3)] []) rfl ⟨0, 1, R, ws, L, D, rfl, rfl, rfl, hL, hD, .arg hno⟩
    have g : ¬ kind < 1 := g
    conv => cbv
    refine Br.mk (fun g2 => ?_) (fun g2 => ?_)
    · have g2 : 6 < kind := g2
      have hno : ¬ (0 ≤ m ∧ m ≤ 31 ∧ 1 ≤ kind ∧ kind ≤ 6) := fun h => by omega
      conv => cbv
      refine RetF.mk [.p (.int .i64 (.sym 0)), .p (.int .i64 (.sym 1))] [(0, .mix [.ptr 1 (.lit 0), .sl 3 3 1 (.lit 0) (.sym W)]), (1, .mix [.sl 2 101 2 (.lit 0) (.sym n)]), (2, .pure true L), (3, .pure true D)] 4 (Re.at [(0, 0), (1, 1), (2, 2), (3, 3)] []) rfl ⟨0, 1, R, ws, L, D, rfl, rfl, rfl, hL, hD, .arg hno⟩
    have g2 : ¬ 6 < kind := g2
    have hyk : 0 ≤ m ∧ m ≤ 31 ∧ 1 ≤ kind ∧ kind ≤ 6 := by omega
    conv => cbv
    refine callF_frame (alloc_lx R n c L hL hn hR hm8) [(0, 1), (1, 2)] rfl (by simp [hmapOk, nget, hget, renB, okB, renV, renVs, rn, okVs, okV]) rfl rfl (fun r h' n' hrr => ?_)
    obtain ⟨i, s, b, L2, R2, e1, e2, e3, hL2, hAl⟩ := hrr
    subst e1 e2 e3
    cases b with
    | false =>
      conv => cbv
      rw [hc] at hAl
      refine RetF.mk [.p (.int .i64 (.sym 0)), .p (.int .i64 (.sym 9))] [(0, .mix [.ptr 1 (.lit 0), .sl 3 3 1 (.lit 0) (.sym W)]), (1, .mix [.sl 2 101 2 (.lit 0) (.sym n)]), (2, .pure true L2), (3, .pure true D)] 4 (Re.at [(0, 0), (1, 1), (2, 2), (3, 3)] []) rfl ⟨0, 9, R2, ws, L2, D, rfl, rfl, rfl, hL2, hD, .room i s R2 hyk hAl⟩
    | true =>
      conv => cbv
      obtain ⟨hi0, hi1, hs0, hs1⟩ := alloced_in hA.rows hAl
      obtain ⟨w, hw⟩ : ∃ w, w = wordsOf c := ⟨_, rfl⟩
      have hmw : m < w ∧ w ≠ 0 := by rw [hw, hc]; exact ofN_words hyes
      have hsw : (s.toNat : Int) * w + w ≤ 32 := by rw [hw]; exact slots_words (by rw [← hw]; exact hmw.2) (by omega)
      rw [show (s.toNat : Int) = s by omega] at hsw
      obtain ⟨sw, hsw2⟩ : ∃ sw, sw = s * w := ⟨_, rfl⟩
      have hsw0 : 0 ≤ sw := by rw [hsw2]; exact Int.mul_nonneg hs0 (by rw [hw]; exact (wordsOf_bd _).1)
      rw [← hsw2] at hsw
      refine Fit.mk (by show (-9223372036854775808 : Int) ≤ i * 32; omega) (by show i * 32 ≤ 9223372036854775807; omega) fun i32 hi32 => ?_
      have hi32 : i32 = i * 32 := hi32
      conv => cbv
      refine callF_frame (words_lx c w hw) [] rfl trivial rfl rfl (fun r h' n' ⟨e1, e2, e3⟩ => ?_)
      subst e1 e2 e3
      conv => cbv
      refine Fit.mk (by show (-9223372036854775808 : Int) ≤ s * w; rw [← hsw2]; omega) (by show s * w ≤ 9223372036854775807; rw [← hsw2]; omega) fun sw' hsw' => ?_
      have hsw' : sw' = sw := by rw [hsw2]; exact hsw'
      conv => cbv
      refine Fit.mk (by show (-9223372036854775808 : Int) ≤ i32 + sw'; omega) (by show i32 + sw' ≤ 9223372036854775807; omega) fun at_ hat => ?_
      have hat : at_ = i32 + sw' := hat
      have hat2 : at_ = 32 * i + sw := by omega
      conv => cbv
      obtain ⟨hv, hhv⟩ : ∃ hv, hv = kind + 16 * m := ⟨_, rfl⟩
      obtain ⟨ws2, hws2⟩ : ∃ ws2, ws2 = ws.set at_.toNat hv := ⟨_, rfl⟩
      have hws2l : ws2.length = ws.length := by rw [hws2, List.length_set]
      refine drawn_sound tok (by kernel_rfl) [(8, [4, 3, 2, 1, 0]), (10, [])] [0, 1, 2, 3, 4, 5, 6, 7, 8, 9, 10] (by kernel_rfl) ?_; conv => cbv
      refine callF_frame (header_lx kind m (by omega) (by omega) hv hhv) [] rfl trivial rfl rfl (fun r h' n' ⟨e1, e2, e3⟩ => ?_)
      subst e1 e2 e3
      conv => cbv
      refine Need.mk ⟨by show 0 ≤ at_; omega, by show at_ < W; omega⟩ ?_
      conv => cbv
      refine Need.mk (by show at_ + ((1 : Nat) : Int) ≤ (D.length : Int); omega) ?_
      conv => cbv
      refine Upd.mk fun D2 hD2 => ?_
      have hD2 : D2 = updL D at_.toNat [.int .i64 (.sym hv)] := hD2
      have hD2 : D2 = ipv ws2 := by rw [hD2, hD, updL_ipv, hws2]
      have hD2l : D2.length = ws.length := by rw [hD2, ipv_length, hws2l]
      conv => cbv
      refine Fit.mk (by show (-9223372036854775808 : Int) ≤ at_ + 1; omega) (by show at_ + 1 ≤ 9223372036854775807; omega) fun a1 ha1 => ?_
      have ha1 : a1 = at_ + 1 := ha1
      conv => cbv
      refine Fit.mk (by show (-9223372036854775808 : Int) ≤ at_ + 1; omega) (by show at_ + 1 ≤ 9223372036854775807; omega) fun a2 ha2 => ?_
      have ha2 : a2 = at_ + 1 := ha2
      conv => cbv
      refine Fit.mk (by show (-9223372036854775808 : Int) ≤ a2 + m; omega) (by show a2 + m ≤ 9223372036854775807; omega) fun a3 ha3 => ?_
      have ha3 : a3 = a2 + m := ha3
      conv => cbv
      by_cases hm0 : m = 0
      · have hz : ipv ws2 = ipv (zer (ws.set at_.toNat (kind + 16 * m)) (at_.toNat + 1) m.toNat) := by rw [hws2, hhv, hm0]; rfl
        refine Room.within ⟨by show 0 ≤ a1; omega, by show a1 = a3; omega, by show a3 ≤ W; omega⟩ ?_
        conv => cbv
        refine Need.mk rfl ?_
        conv => cbv
        have hres := Alloct.ok (ws := ws) i s at_ R2 hyk (hc ▸ hAl) (hc ▸ ⟨hi0, hi1, hs0, hs1⟩) (by rw [hat2, hsw2, hw, hc])
        refine RetF.mk [.p (.int .i64 (.sym at_)), .p (.int .i64 (.sym 0))] [(0, .mix [.ptr 1 (.lit 0), .sl 3 3 1 (.lit 0) (.sym W)]), (1, .mix [.sl 2 101 2 (.lit 0) (.sym n)]), (2, .pure true L2), (3, .pure true D2)] 4 (Re.at [(0, 0), (1, 1), (2, 2), (3, 3)] []) rfl ⟨at_, 0, R2, _, L2, D2, rfl, rfl, rfl, hL2, hD2.trans hz, hres⟩
      · refine Room.new ⟨by show 0 ≤ a1; omega, by show a1 < a3; omega, by show a3 ≤ W; omega⟩ ?_
        conv => cbv
        refine Sum.mk fun z hz => ?_
        have hz : z = a3 - a1 := hz
        obtain ⟨ws3, hws3⟩ : ∃ ws3, ws3 = zer ws2 (at_.toNat + 1) m.toNat := ⟨_, rfl⟩
        obtain ⟨D9, hD9⟩ : ∃ D9, D9 = ipv ws3 := ⟨_, rfl⟩
        conv => cbv
        refine Need.mk ⟨by show 0 ≤ a1; omega, by show 0 ≤ z; omega, by show a1 + z * ((1 : Nat) : Int) ≤ (D2.length : Int); omega⟩ ?_
        conv => cbv
        refine Upd.mk fun D3 hD3 => ?_
        have hle : pvles D3 D9 := by
          have hD3 : D3 = updL D2 a1.toNat (repsP [.int .i64 (.lit 0)] z.toNat) := hD3
          rw [hD3, hD9, hws3, show a1.toNat = at_.toNat + 1 by omega, show z.toNat = m.toNat by omega, hD2]
          exact upd_zer _ _ _ _ (pvles_self _)
        clear hD3
        unfold pvles at hle
        have hz9 : D9 = ipv (zer (ws.set at_.toNat (kind + 16 * m)) (at_.toNat + 1) m.toNat) := by rw [hD9, hws3, hws2, hhv]
        have hres := Alloct.ok (ws := ws) i s at_ R2 hyk (hc ▸ hAl) (hc ▸ ⟨hi0, hi1, hs0, hs1⟩) (by rw [hat2, hsw2, hw, hc])
        conv => cbv
        refine RetF.mk [.p (.int .i64 (.sym at_)), .p (.int .i64 (.sym 0))] [(0, .mix [.ptr 1 (.lit 0), .sl 3 3 1 (.lit 0) (.sym W)]), (1, .mix [.sl 2 101 2 (.lit 0) (.sym n)]), (2, .pure true L2), (3, .pure true D9)] 4 (Re.at [(0, 0), (1, 1), (2, 2), (3, 3)] []) rfl ⟨at_, 0, R2, _, L2, D9, rfl, rfl, rfl, hL2, hz9, hres⟩
/-- What becomes of an arena to which a place is given back. -/
inductive Freet (R : List Rw) (at_ : Int) : Int → List Rw → Prop
  | none (h : ¬ IsObj R at_) : Freet R at_ 8 R
  | ok (q s : Nat) (e : Rw) (he : R[q]? = some e) (hs : e.2[s]? = some true) (hat : at_ = 32 * q + s * wordsOf e.1) : Freet R at_ 0 (freed R q e.1 (e.2.set s false))
set_option maxHeartbeats 2000000 in
theorem freeA_lx (at_ : Int) (R : List Rw) (ws : List Int) (n W : Int) (L D : List PV) (hL : L = rpv R) (hD : D = ipv ws) (hn : n = R.length) (hR : R.length ≤ 1000) (hA : AOk R ws) (hW : W = 32 * n) : CallF (fun _ => Tryz.prog) 87 [.ptr 0 (.lit 0), .p (.int .i64 (.sym at_))] [(0, .mix [.ptr 1 (.lit 0), .sl 3 3 1 (.lit 0) (.sym W)]), (1, .mix [.sl 2 101 2 (.lit 0) (.sym n)]), (2, .pure true L), (3, .pure true D)] 4
    (fun r h n' => ∃ (e : Int) (R' : List Rw) (L' : List PV), r = .p (.int .i64 (.sym e)) ∧ h = [(0, .mix [.ptr 1 (.lit 0), .sl 3 3 1 (.lit 0) (.sym W)]), (1, .mix [.sl 2 101 2 (.lit 0) (.sym n)]), (2, .pure true L'), (3, .pure true D)] ∧ n' = 4 ∧ L' = rpv R' ∧ Freet R at_ e R') := by
  refine callF_of_body tok Tryz.func87 (by kernel_rfl) rfl rfl rfl ?_; conv => cbv
  refine callF_frame (slotB_lx R n at_ W L D hL hn hR hA.rows hW) [(0, 0), (1, 1), (2, 2), (3, 3)] rfl (by simp [hmapOk, nget, hget, renB, okB, renV, renVs, rn, okVs, okV]) rfl rfl (fun r h' n' hrr => ?_)
  obtain ⟨q, s, b, e1, e2, e3, hS⟩ := hrr
  subst e1 e2 e3
  cases hS with
  | no hno =>
    conv => cbv
    refine RetF.mk [.p (.int .i64 (.sym 8))] [(0, .mix [.ptr 1 (.lit 0), .sl 3 3 1 (.lit 0) (.sym W)]), (1, .mix [.sl 2 101 2 (.lit 0) (.sym n)]), (2, .pure true L), (3, .pure true D)] 4 (Re.at [(0, 0), (1, 1), (2, 2), (3, 3)] []) rfl ⟨8, R, L, rfl, rfl, rfl, hL, .none hno⟩
  | off e hq0 hs0 he hu hno =>
    conv => cbv
    refine callF_frame (free_no_lx R n q s e.1 e.2 L hL hn hq0 he (hA.rows e (List.mem_of_getElem? he)).1 (fun _ => hu)) [(0, 1), (1, 2)] rfl (by simp [hmapOk, nget, hget, renB, okB, renV, renVs, rn, okVs, okV]) rfl rfl (fun r h' n' ⟨e1, e2, e3⟩ => ?_)
    subst e1 e2 e3
    conv => cbv
    refine RetF.mk [.p (.int .i64 (.sym 8))] [(0, .mix [.ptr 1 (.lit 0), .sl 3 3 1 (.lit 0) (.sym W)]), (1, .mix [.sl 2 101 2 (.lit 0) (.sym n)]), (2, .pure true L), (3, .pure true D)] 4 (Re.at [(0, 0), (1, 1), (2, 2), (3, 3)] []) rfl ⟨8, R, L, rfl, rfl, rfl, hL, .none hno⟩
  | on e hq0 hs0 he hu hobj ha0 ha1 hat =>
    conv => cbv
    obtain ⟨R', hR'⟩ : ∃ R', R' = freed R q.toNat e.1 (e.2.set s.toNat false) := ⟨_, rfl⟩
    have hF : Freet R at_ 0 R' := by
      rw [hR']
      exact .ok q.toNat s.toNat e he hu (by rw [hat, show (s.toNat : Int) = s by omega, show (q.toNat : Int) = q by omega])
    refine callF_frame (free_lx R R' n q s e.1 e.2 L hL hn hR hq0 he (hA.rows e (List.mem_of_getElem? he)).1 hs0 hu hR') [(0, 1), (1, 2)] rfl (by simp [hmapOk, nget, hget, renB, okB, renV, renVs, rn, okVs, okV]) rfl rfl (fun r h' n' hrr => ?_)
    obtain ⟨L', e1, e2, e3, hL'⟩ := hrr
    subst e1 e2 e3
    conv => cbv
    refine RetF.mk [.p (.int .i64 (.sym 0))] [(0, .mix [.ptr 1 (.lit 0), .sl 3 3 1 (.lit 0) (.sym W)]), (1, .mix [.sl 2 101 2 (.lit 0) (.sym n)]), (2, .pure true L'), (3, .pure true D)] 4 (Re.at [(0, 0), (1, 1), (2, 2), (3, 3)] []) rfl ⟨0, R', L', rfl, rfl, rfl, hL', hF⟩
theorem wordsA_lx (R : List Rw) (ws : List Int) (n W : Int) (L D : List PV) (hL : L = rpv R) (hD : D = ipv ws) (hn : n = R.length) (hR : R.length ≤ 1000) (hA : AOk R ws) (hW : W = 32 * n) : CallF (fun _ => Tryz.prog) 42 [.ptr 0 (.lit 0)] [(0, .mix [.ptr 1 (.lit 0), .sl 3 3 1 (.lit 0) (.sym W)]), (1, .mix [.sl 2 101 2 (.lit 0) (.sym n)]), (2, .pure true L), (3, .pure true D)] 4
    (fun r h n' => r = .p (.int .i64 (.sym W)) ∧ h = [(0, .mix [.ptr 1 (.lit 0), .sl 3 3 1 (.lit 0) (.sym W)]), (1, .mix [.sl 2 101 2 (.lit 0) (.sym n)]), (2, .pure true L), (3, .pure true D)] ∧ n' = 4) := by
  refine callF_of_body tok Tryz.func42 (by kernel_rfl) rfl rfl rfl ?_; conv => cbv
  refine callF_frame (lenS_lx n L) [(0, 1), (1, 2)] rfl (by simp [hmapOk, nget, hget, renB, okB, renV, renVs, rn, okVs, okV]) rfl rfl (fun r h' n' ⟨e1, e2, e3⟩ => ?_)
  subst e1 e2 e3
  conv => cbv
  refine Fit.mk (by show (-9223372036854775808 : Int) ≤ n * 32; omega) (by show n * 32 ≤ 9223372036854775807; omega) fun v hv => ?_
  have hv : v = n * 32 := hv
  have hvW : v = W := by omega
  conv => cbv
  refine RetF.mk [.p (.int .i64 (.sym W))] [(0, .mix [.ptr 1 (.lit 0), .sl 3 3 1 (.lit 0) (.sym W)]), (1, .mix [.sl 2 101 2 (.lit 0) (.sym n)]), (2, .pure true L), (3, .pure true D)] 4 (Re.at [(0, 0), (1, 1), (2, 2), (3, 3)] []) rfl ⟨rfl, rfl, rfl⟩
theorem newA_bad (n : Int) (hn : n < 2 ∨ 128 < n) : CallF (fun _ => Tryz.prog) 40 [.p (.int .i64 (.sym n))] [] 0 (fun r h m => (∃ e : Int, r = .tup [.p .nilp, .p (.int .i64 (.sym e))] ∧ e ≠ 0) ∧ h = [] ∧ m = 0) := by
  refine callF_of_body tok Tryz.func40 (by kernel_rfl) rfl rfl rfl ?_; conv => cbv
  refine callF_frame (spanNew_bad n hn) [] rfl trivial rfl rfl (fun r h' n' hrr => ?_)
  obtain ⟨⟨e, e1, he⟩, e2, e3⟩ := hrr
  subst e1 e2 e3
  conv => cbv
  refine Br.mk (fun g => ?_) (fun g => ?_)
  case refine_2 =>
    have gf : False := g he
    cases gf
  conv => cbv
  refine RetF.mk [.p .nilp, .p (.int .i64 (.sym e))] [] 0 (Re.at [] []) rfl ⟨⟨e, rfl, he⟩, rfl, rfl⟩
theorem zero_ipv : ∀ k, pvles (repsP [.int .i64 (.lit 0)] k) (ipv (List.replicate k 0))
  | 0 => trivial
  | k + 1 => by
    rw [repsP, List.replicate_succ, ipv, List.map_cons]
    exact ⟨by simp [pvle, I.val], zero_ipv k⟩
theorem newA_lx (n W : Int) (h2 : 2 ≤ n) (h8 : n ≤ 128) (hW : W = 32 * n) (L D : List PV) (hL : L = rpv (List.replicate n.toNat (0, []))) (hD : D = ipv (List.replicate W.toNat 0)) : CallF (fun _ => Tryz.prog) 40 [.p (.int .i64 (.sym n))] [] 0
    (fun r h m => r = .tup [.ptr 0 (.lit 0), .p (.int .i64 (.lit 0))] ∧ h = [(0, .mix [.ptr 1 (.lit 0), .sl 3 3 1 (.lit 0) (.sym W)]), (1, .mix [.sl 2 101 2 (.lit 0) (.sym n)]), (2, .pure true L), (3, .pure true D)] ∧ m = 4) := by
  refine callF_of_body tok Tryz.func40 (by kernel_rfl) rfl rfl rfl ?_; conv => cbv
  refine callF_frame (spanNew_lx n h2 h8 L hL) [] rfl trivial rfl rfl (fun r h' n' ⟨e1, e2, e3⟩ => ?_)
  subst e1 e2 e3
  conv => cbv
  refine Fit.mk (by show (-9223372036854775808 : Int) ≤ n * 32; omega) (by show n * 32 ≤ 9223372036854775807; omega) fun v hv => ?_
  have hv : v = n * 32 := hv
  have hvW : v = W := by omega
  conv => cbv
  refine Need.mk ⟨by show 0 ≤ v; omega, Int.le_refl _, by show v * 8 ≤ 140737488355328; omega, by show v ≤ 9223372036854775807; omega⟩ ?_
  conv => cbv
  refine Upd.mk fun D0 hD0 => ?_
  have hle : pvles D0 D := by
    have hD0 : D0 = repsP [.int .i64 (.lit 0)] v.toNat := hD0
    rw [hD0, hD, hvW]; exact zero_ipv _
  clear hD0 hD
  unfold pvles at hle
  conv => cbv
  refine RetF.mk [.ptr 0 (.lit 0), .p (.int .i64 (.lit 0))] [(0, .mix [.ptr 1 (.lit 0), .sl 3 3 1 (.lit 0) (.sym W)]), (1, .mix [.sl 2 101 2 (.lit 0) (.sym n)]), (2, .pure true L), (3, .pure true D)] 4 (Re.at [(3, 0), (0, 1), (1, 2), (2, 3)] []) rfl ⟨rfl, rfl, rfl⟩
end Go.Proofs.YtllafhhnciobhaaGreatDoor
/-
  Layer 7: what objects there are, behind each thing that is done.
-/
namespace Go.Proofs.YtllafhhnciobhaaGreatDoor

open Go Go.LX
set_option maxRecDepth 100000
set_option linter.unusedVariables false
set_option linter.unusedSimpArgs false

theorem set_get {α : Type} {l : List α} {i j : Nat} {x y : α} (hi : i < l.length) (h : (l.set i x)[j]? = some y) : (j = i ∧ y = x) ∨ (j ≠ i ∧ l[j]? = some y) := by
  by_cases e : i = j
  · subst e
    rw [List.getElem?_set_self hi] at h
    exact .inl ⟨rfl, (Option.some.inj h).symm⟩
  · rw [List.getElem?_set_ne e] at h
    exact .inr ⟨fun h => e h.symm, h⟩
/-- How many objects there are. -/
def objCount (R : List Rw) : Nat := (R.map fun e => e.2.count true).sum
theorem sum_set : ∀ (l : List Nat) (i y x : Nat), l[i]? = some x → (l.set i y).sum + x = l.sum + y
  | [], i, y, x, h => by simp at h
  | z :: l, 0, y, x, h => by
    have h : z = x := Option.some.inj h
    subst h
    simp only [List.set_cons_zero, List.sum_cons]; omega
  | z :: l, i + 1, y, x, h => by
    have := sum_set l i y x h
    simp only [List.set_cons_succ, List.sum_cons]; omega
theorem objCount_set {R : List Rw} {i : Nat} {e e' : Rw} (h : R[i]? = some e) : objCount (R.set i e') + e.2.count true = objCount R + e'.2.count true := by
  unfold objCount
  rw [List.map_set]
  exact sum_set _ _ _ _ (by rw [List.getElem?_map, h]; rfl)
theorem count_set {l : List Bool} : ∀ {s : Nat}, l[s]? = some false → (l.set s true).count true = l.count true + 1 := by
  induction l with
  | nil => intro s h; simp at h
  | cons b l ih =>
    intro s h
    cases s with
    | zero =>
      have h : b = false := Option.some.inj h
      subst h
      simp
    | succ s =>
      have := ih (s := s) h
      rw [List.set_cons_succ, List.count_cons, List.count_cons, this]; omega
theorem count_unset {l : List Bool} : ∀ {s : Nat}, l[s]? = some true → (l.set s false).count true + 1 = l.count true := by
  induction l with
  | nil => intro s h; simp at h
  | cons b l ih =>
    intro s h
    cases s with
    | zero =>
      have h : b = true := Option.some.inj h
      subst h
      simp
    | succ s =>
      have := ih (s := s) h
      rw [List.set_cons_succ, List.count_cons, List.count_cons, ← this]; omega
theorem words_of_slots {c : Int} (h : slotsOf c ≠ 0) : wordsOf c ≠ 0 := by
  have := (slots_iff c).1 h
  have : c = 0 ∨ c = 1 ∨ c = 2 ∨ c = 3 := by omega
  rcases this with e | e | e | e <;> (subst e; decide)
theorem slots_le (c : Int) : slotsOf c ≤ 8 := by
  unfold slotsOf; split
  · omega
  · split
    · omega
    · split
      · omega
      · split <;> omega
/-- What an allotted slot changes. -/
theorem alloc_objs {R R' : List Rw} {c i s : Int} (hR : RowsOk R) (h : Alloced R c i s true R') (at_ w : Int) (hat : at_ = 32 * i + s * wordsOf c) (hw : w = wordsOf c) :
    RowsOk R' ∧ R'.length = R.length ∧ objCount R' = objCount R + 1 ∧ ¬ IsObj R at_ ∧ ∀ a v, ObjAt R' a v ↔ ObjAt R a v ∨ (a = at_ ∧ v = w) := by
  have hRn : ∀ {q : Nat} {e : Rw} {s : Nat}, R[q]? = some e → e.2[s]? = some true → wordsOf e.1 ≠ 0 ∧ s < slotsOf e.1 := by
    intro q e s he hs
    have hne : e.2 ≠ [] := by intro e0; rw [e0] at hs; simp at hs
    obtain ⟨h1, h2, _⟩ := (hR e (List.mem_of_getElem? he)).2 hne
    exact ⟨h1, by have := (List.getElem?_eq_some_iff.1 hs).1; omega⟩
  have hnot : ∀ {e0 : Rw} {i s : Nat}, wordsOf c ≠ 0 → s < slotsOf c → R[i]? = some e0 → (e0.2 = [] ∨ e0.1 = c ∧ e0.2[s]? = some false) → ¬ IsObj R (32 * i + s * wordsOf c) := by
    rintro e0 i s hw hsl hi hcase ⟨q, s', e, he, hs', hat'⟩
    obtain ⟨h1, h2⟩ := hRn he hs'
    have h3 := slots_words h1 h2
    have h3' := slots_words hw hsl
    have h4 : 0 ≤ (s' : Int) * wordsOf e.1 := Int.mul_nonneg (by omega) (wordsOf_bd _).1
    have h4' : 0 ≤ (s : Int) * wordsOf c := Int.mul_nonneg (by omega) (wordsOf_bd _).1
    have h5 : q = i := by have := (wordsOf_bd e.1).1; have := (wordsOf_bd c).1; omega
    subst h5
    rw [hi] at he
    cases he
    rcases hcase with h | ⟨h6, h7⟩
    · rw [h] at hs'; simp at hs'
    · rw [h6] at hat'
      have h8 : (s : Int) * wordsOf c = s' * wordsOf c := by omega
      have h9 := Int.eq_of_mul_eq_mul_right hw h8
      rw [show s' = s by omega, h7] at hs'
      cases hs'
  cases h with
  | old i s l h0 hi hs h1 h2 =>
    have hil := (List.getElem?_eq_some_iff.1 hi).1
    have hsl := (List.getElem?_eq_some_iff.1 hs).1
    have hne : l ≠ [] := by intro e; subst e; simp at hs
    obtain ⟨g1, g2, g3⟩ := (hR _ (List.mem_of_getElem? hi)).2 hne
    have g4 := (hR _ (List.mem_of_getElem? hi)).1
    dsimp only at g1 g2 g3 g4
    refine ⟨?_, List.length_set, ?_, ?_, fun a v => ⟨?_, ?_⟩⟩
    · intro e he
      rcases List.mem_or_eq_of_mem_set he with he | rfl
      · exact hR e he
      · refine ⟨by rw [List.length_set]; exact g4, fun _ => ⟨g1, by rw [List.length_set]; exact g2, ?_⟩⟩
        exact List.mem_of_getElem? (i := s) (List.getElem?_set_self hsl)
    · have := objCount_set (e' := (c, l.set s true)) hi
      have h5 := count_set hs
      dsimp only at this
      omega
    · rw [hat]; exact hnot g1 (by omega) hi (.inr ⟨rfl, hs⟩)
    · rintro ⟨q, s', e, he, hs', ha, hv⟩
      rcases set_get hil he with ⟨rfl, rfl⟩ | ⟨_, he⟩
      · rcases set_get hsl hs' with ⟨rfl, _⟩ | ⟨_, hs'⟩
        · exact .inr ⟨by rw [ha, hat], by rw [hv, hw]⟩
        · exact .inl ⟨q, s', (c, l), hi, hs', ha, hv⟩
      · exact .inl ⟨q, s', e, he, hs', ha, hv⟩
    · rintro (⟨q, s', e, he, hs', ha, hv⟩ | ⟨rfl, rfl⟩)
      · by_cases hq : q = i
        · subst hq
          rw [hi] at he
          cases he
          have hss : s ≠ s' := by rintro rfl; rw [hs] at hs'; cases hs'
          exact ⟨q, s', _, List.getElem?_set_self hil, by rw [List.getElem?_set_ne hss]; exact hs', ha, hv⟩
        · exact ⟨q, s', e, by rw [List.getElem?_set_ne (fun h => hq h.symm)]; exact he, hs', ha, hv⟩
      · exact ⟨i, s, _, List.getElem?_set_self hil, List.getElem?_set_self hsl, hat, hw⟩
  | fresh i d h0 h2 hi h3 =>
    have hil := (List.getElem?_eq_some_iff.1 hi).1
    have g1 := words_of_slots h0
    have hk : 0 < slotsOf c := Nat.pos_of_ne_zero h0
    have hrl : (List.replicate (slotsOf c) false).length = slotsOf c := List.length_replicate
    have h00 : (List.replicate (slotsOf c) false)[0]? = some false := by rw [List.getElem?_replicate, if_pos hk]
    refine ⟨?_, List.length_set, ?_, ?_, fun a v => ⟨?_, ?_⟩⟩
    · intro e he
      rcases List.mem_or_eq_of_mem_set he with he | rfl
      · exact hR e he
      · refine ⟨by rw [List.length_set, hrl]; exact slots_le c, fun _ => ⟨g1, by rw [List.length_set, hrl], ?_⟩⟩
        exact List.mem_of_getElem? (i := 0) (List.getElem?_set_self (by rw [hrl]; exact hk))
    · have := objCount_set (e' := (c, (List.replicate (slotsOf c) false).set 0 true)) hi
      have h5 := count_set h00
      have h6 : (List.replicate (slotsOf c) false).count true = 0 := by rw [List.count_eq_zero]; intro h; rw [List.mem_replicate] at h; cases h.2
      dsimp only [List.count_nil] at this
      omega
    · have := hnot (i := i) (s := 0) g1 hk hi (.inl rfl)
      rw [hat]; exact this
    · rintro ⟨q, s', e, he, hs', ha, hv⟩
      rcases set_get hil he with ⟨rfl, rfl⟩ | ⟨_, he⟩
      · rcases set_get (by rw [hrl]; exact hk) hs' with ⟨rfl, _⟩ | ⟨_, hs'⟩
        · exact .inr ⟨by rw [ha, hat]; rfl, by rw [hv, hw]⟩
        · rw [List.getElem?_replicate] at hs'
          split at hs' <;> cases hs'
      · exact .inl ⟨q, s', e, he, hs', ha, hv⟩
    · rintro (⟨q, s', e, he, hs', ha, hv⟩ | ⟨rfl, rfl⟩)
      · by_cases hq : q = i
        · subst hq
          rw [hi] at he
          cases he
          simp at hs'
        · exact ⟨q, s', e, by rw [List.getElem?_set_ne (fun h => hq h.symm)]; exact he, hs', ha, hv⟩
      · exact ⟨i, 0, _, List.getElem?_set_self hil, List.getElem?_set_self (by rw [hrl]; exact hk), by rw [hat]; rfl, hw⟩
/-- Where there is no room, each row has an object. -/
theorem full_count {R R' : List Rw} {c i s : Int} (hR : RowsOk R) (hc : slotsOf c ≠ 0) (h : Alloced R c i s false R') : R' = R ∧ R.length ≤ objCount R := by
  cases h with
  | no h => exact absurd h hc
  | full h0 h2 h3 =>
    refine ⟨rfl, ?_⟩
    clear h2
    induction R with
    | nil => simp
    | cons e R ih =>
      have h5 : e.2 ≠ [] := by
        intro h
        exact h3 0 e.1 (by rw [← h]; rfl)
      have h6 := ((hR e List.mem_cons_self).2 h5).2.2
      have h7 : 0 < e.2.count true := List.count_pos_iff.2 h6
      have h8 := ih (fun x hx => hR x (List.mem_cons_of_mem _ hx)) (fun j d => h3 (j + 1) d)
      unfold objCount at h8 ⊢
      simp only [List.length_cons, List.map_cons, List.sum_cons]; omega
theorem free_objs {R : List Rw} (hR : RowsOk R) {q s : Nat} {e : Rw} (he : R[q]? = some e) (hs : e.2[s]? = some true) (at_ : Int) (hat : at_ = 32 * q + s * wordsOf e.1) :
    RowsOk (freed R q e.1 (e.2.set s false)) ∧ (freed R q e.1 (e.2.set s false)).length = R.length ∧ objCount (freed R q e.1 (e.2.set s false)) + 1 = objCount R ∧ ∀ a v, ObjAt (freed R q e.1 (e.2.set s false)) a v ↔ ObjAt R a v ∧ a ≠ at_ := by
  have hql := (List.getElem?_eq_some_iff.1 he).1
  have hsl := (List.getElem?_eq_some_iff.1 hs).1
  have hne : e.2 ≠ [] := by intro e0; rw [e0] at hs; simp at hs
  obtain ⟨g1, g2, g3⟩ := (hR _ (List.mem_of_getElem? he)).2 hne
  have g4 := (hR _ (List.mem_of_getElem? he)).1
  have hcu := count_unset hs
  have hkey : ∀ a v, ObjAt R a v → a = at_ → ∀ (q' s' : Nat) (e' : Rw), R[q']? = some e' → e'.2[s']? = some true → a = 32 * q' + s' * wordsOf e'.1 → q' = q ∧ s' = s := by
    intro a v _ ha q' s' e' he' hs' ha'
    have hne' : e'.2 ≠ [] := by intro e0; rw [e0] at hs'; simp at hs'
    obtain ⟨k1, k2, _⟩ := (hR _ (List.mem_of_getElem? he')).2 hne'
    have hsl' := (List.getElem?_eq_some_iff.1 hs').1
    have h3 := slots_words g1 (show s < slotsOf e.1 by omega)
    have h3' := slots_words k1 (show s' < slotsOf e'.1 by omega)
    have h4 : 0 ≤ (s' : Int) * wordsOf e'.1 := Int.mul_nonneg (by omega) (wordsOf_bd _).1
    have h4' : 0 ≤ (s : Int) * wordsOf e.1 := Int.mul_nonneg (by omega) (wordsOf_bd _).1
    have h5 : q' = q := by have := (wordsOf_bd e.1).1; have := (wordsOf_bd e'.1).1; omega
    subst h5
    rw [he] at he'
    cases he'
    have h8 : (s : Int) * wordsOf e.1 = s' * wordsOf e.1 := by omega
    have h9 := Int.eq_of_mul_eq_mul_right g1 h8
    exact ⟨rfl, by omega⟩
  obtain ⟨e2, he2⟩ : ∃ e2 : Rw, e2 = if (e.2.set s false).count true = 0 then (0, []) else (e.1, e.2.set s false) := ⟨_, rfl⟩
  have hfr : freed R q e.1 (e.2.set s false) = R.set q e2 := by rw [freed, he2]
  have h2cnt : e2.2.count true = (e.2.set s false).count true := by
    rw [he2]; split
    · rename_i h; rw [h]; rfl
    · rfl
  have h2mark : ∀ s', e2.2[s']? = some true ↔ (e.2[s']? = some true ∧ s' ≠ s) := by
    intro s'
    have hset : (e.2.set s false)[s']? = some true ↔ (e.2[s']? = some true ∧ s' ≠ s) := by
      constructor
      · intro h
        rcases set_get hsl h with ⟨_, h⟩ | ⟨h1, h2⟩
        · cases h
        · exact ⟨h2, h1⟩
      · rintro ⟨h1, h2⟩
        rw [List.getElem?_set_ne (fun h => h2 h.symm)]; exact h1
    rw [he2]
    split
    · rename_i h0
      rw [List.count_eq_zero] at h0
      constructor
      · intro h; simp at h
      · intro h; exact absurd (List.mem_of_getElem? (hset.2 h)) h0
    · exact hset
  have h2cls : e2.2 ≠ [] → e2.1 = e.1 := by
    rw [he2]; split
    · intro h; exact absurd rfl h
    · intro _; rfl
  rw [hfr]
  refine ⟨?_, List.length_set, ?_, fun a v => ⟨?_, ?_⟩⟩
  · intro x hx
    rcases List.mem_or_eq_of_mem_set hx with hx | rfl
    · exact hR x hx
    · rw [he2]
      split
      · exact ⟨by simp, fun h => absurd rfl h⟩
      · rename_i h0
        refine ⟨by rw [List.length_set]; exact g4, fun _ => ⟨g1, by rw [List.length_set]; exact g2, ?_⟩⟩
        exact List.count_pos_iff.1 (Nat.pos_of_ne_zero h0)
  · have := objCount_set (e' := e2) he
    omega
  · rintro ⟨q', s', e', he', hs', ha, hv⟩
    rcases set_get hql he' with ⟨rfl, rfl⟩ | ⟨hqq, he'⟩
    · obtain ⟨k1, k2⟩ := (h2mark s').1 hs'
      have hcl := h2cls (by intro e0; rw [e0] at hs'; simp at hs')
      rw [hcl] at ha hv
      have hob : ObjAt R a v := ⟨q', s', e, he, k1, ha, hv⟩
      exact ⟨hob, fun h => k2 (hkey a v hob h q' s' e he k1 ha).2⟩
    · have hob : ObjAt R a v := ⟨q', s', e', he', hs', ha, hv⟩
      exact ⟨hob, fun h => hqq (hkey a v hob h q' s' e' he' hs' ha).1⟩
  · rintro ⟨⟨q', s', e', he', hs', ha, hv⟩, hne2⟩
    by_cases hqq : q' = q
    · subst hqq
      rw [he] at he'
      cases he'
      have hss : s' ≠ s := by rintro rfl; exact hne2 (by rw [ha, hat])
      have hm := (h2mark s').2 ⟨hs', hss⟩
      have hcl := h2cls (by intro e0; rw [e0] at hm; simp at hm)
      exact ⟨q', s', e2, List.getElem?_set_self hql, hm, by rw [hcl]; exact ha, by rw [hcl]; exact hv⟩
    · exact ⟨q', s', e', by rw [List.getElem?_set_ne (fun h => hqq h.symm)]; exact he', hs', ha, hv⟩
/-- A place that is one word of no header but of an object's own words. -/
theorem within_not {R : List Rw} (hR : RowsOk R) {a w b v : Int} (h : ObjAt R a w) (k : ObjAt R b v) {j : Int} (h1 : a < j) (h2 : j < a + w) : b ≠ j := by
  intro e
  subst e
  have := (k.facts hR).2.2.1
  rcases h.apart hR k with ⟨h3, _⟩ | h3 | h3 <;> omega
theorem AOk.alloct {R R' : List Rw} {ws ws' : List Int} {kind n at_ e : Int} (hA : AOk R ws) (h : Alloct R ws kind n at_ e R' ws') : AOk R' ws' ∧ R'.length = R.length := by
  cases h with
  | arg h => exact ⟨hA, rfl⟩
  | room i s R' h ha =>
    obtain ⟨rfl, _⟩ := full_count hA.rows (ofN_slots n) ha
    exact ⟨hA, rfl⟩
  | ok i s _ R' h ha hi hat =>
    obtain ⟨w, hw⟩ : ∃ w, w = wordsOf (ofN n) := ⟨_, rfl⟩
    obtain ⟨h1, h2, h3, h4, h5⟩ := alloc_objs hA.rows ha at_ w (by rw [hat]) hw
    have hobj : ObjAt R' at_ w := (h5 _ _).2 (.inr ⟨rfl, rfl⟩)
    obtain ⟨f1, f2, f3, _⟩ := hobj.facts h1
    have hnw : n < w := by rw [hw]; exact (ofN_words ⟨h.1, h.2.1⟩).1
    have hlen := hA.len
    refine ⟨⟨h1, by rw [zer_length, List.length_set, h2]; exact hlen, ?_, ?_⟩, h2⟩
    · intro x hx
      obtain ⟨j, hj⟩ := List.getElem?_of_mem hx
      have hjl : j < ws.length := by have := (List.getElem?_eq_some_iff.1 hj).1; rw [zer_length, List.length_set] at this; exact this
      rw [zer_get _ _ _ _ (by rw [List.length_set]; exact hjl)] at hj
      split at hj
      · cases hj; omega
      · rcases set_get (by omega) hj with ⟨_, rfl⟩ | ⟨_, hj⟩
        · omega
        · exact hA.bd x (List.mem_of_getElem? hj)
    · intro a v hav
      obtain ⟨k1, k2, k3, _⟩ := hav.facts h1
      have hal : a.toNat < ws.length := by omega
      rw [zer_get _ _ _ _ (by rw [List.length_set]; exact hal)]
      rcases (h5 _ _).1 hav with hold | ⟨rfl, rfl⟩
      · have hne : a ≠ at_ := fun e => h4 (isObj_iff.2 ⟨v, e ▸ hold⟩)
        have hap := hobj.apart h1 hav
        rw [if_neg (by rcases hap with ⟨h, _⟩ | h | h <;> omega), List.getElem?_set_ne (by omega)]
        exact hA.hdr a v hold
      · rw [if_neg (by omega), List.getElem?_set_self hal]
        exact ⟨kind, n, rfl, by omega, by omega, by omega, hnw⟩
theorem AOk.set {R : List Rw} {ws : List Int} {at_ i x k l : Int} (hA : AOk R ws) (hk : Kept R ws at_ k l) (hi : 0 ≤ i ∧ i < l) (hx : -9223372036854775808 ≤ x ∧ x ≤ 9223372036854775807) : AOk R (ws.set (at_ + 1 + i).toNat x) := by
  have hb := hk.bounds hA
  obtain ⟨w, h1, h2, h3, h4, h5, h6⟩ := hk
  have hlen := hA.len
  refine ⟨hA.rows, by rw [List.length_set]; exact hlen, ?_, ?_⟩
  · intro y hy
    rcases List.mem_or_eq_of_mem_set hy with hy | rfl
    · exact hA.bd y hy
    · exact hx
  · intro a v hav
    obtain ⟨k1, _⟩ := hav.facts hA.rows
    have := within_not hA.rows h1 hav (j := at_ + 1 + i) (by omega) (by omega)
    rw [List.getElem?_set_ne (by omega)]
    exact hA.hdr a v hav
theorem AOk.stored {R : List Rw} {ws ws' : List Int} {at_ i x e : Int} (hA : AOk R ws) (hx : -9223372036854775808 ≤ x ∧ x ≤ 9223372036854775807) (h : Stored R ws at_ i x e ws') : AOk R ws' := by
  cases h with
  | none h => exact hA
  | arg k l h hi => exact hA
  | ok k l h hi => exact hA.set h hi hx
theorem AOk.freet {R R' : List Rw} {ws : List Int} {at_ e : Int} (hA : AOk R ws) (h : Freet R at_ e R') : AOk R' ws ∧ R'.length = R.length := by
  cases h with
  | none h => exact ⟨hA, rfl⟩
  | ok q s e he hs hat =>
    obtain ⟨h1, h2, h3, h4⟩ := free_objs hA.rows he hs at_ hat
    exact ⟨⟨h1, by rw [h2]; exact hA.len, hA.bd, fun a v hav => hA.hdr a v ((h4 a v).1 hav).1⟩, h2⟩
theorem AOk.new (n : Nat) : AOk (List.replicate n (0, [])) (List.replicate (32 * n) 0) := by
  refine ⟨?_, by simp, ?_, ?_⟩
  · intro e he
    obtain ⟨_, rfl⟩ := List.mem_replicate.1 he
    exact ⟨by simp, fun h => absurd rfl h⟩
  · intro x hx
    obtain ⟨_, rfl⟩ := List.mem_replicate.1 hx
    omega
  · rintro a w ⟨q, s, e, he, hs, _⟩
    obtain ⟨_, rfl⟩ := List.mem_replicate.1 (List.mem_of_getElem? he)
    simp at hs
theorem new_none (n : Nat) (a : Int) : ¬ IsObj (List.replicate n (0, [])) a := by
  rintro ⟨q, s, e, he, hs, _⟩
  obtain ⟨_, rfl⟩ := List.mem_replicate.1 (List.mem_of_getElem? he)
  simp at hs
theorem new_count (n : Nat) : objCount (List.replicate n (0, [])) = 0 := by
  unfold objCount
  induction n with
  | zero => rfl
  | succ n ih => rw [List.replicate_succ, List.map_cons, List.sum_cons, ih]; rfl
end Go.Proofs.YtllafhhnciobhaaGreatDoor
