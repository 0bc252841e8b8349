/-
  Layer 6: rows that are filled one after the other.
-/
import Derived.Test.YtocliihimbggjaaSd
namespace Go.Proofs.Ytocliihimbggjaa
open Go Go.LX
set_option maxRecDepth 100000
set_option linter.unusedVariables false

def marksAt (k t r : Nat) : List Bool := (List.range k).map fun s => decide (r * k + s < t)
def stR (k : Nat) (c : Int) (t r : Nat) : Rw := if t ≤ r * k then (0, []) else (c, marksAt k t r)
/-- n rows after t slots of class c (k to a row) have been given. -/
def st (n k : Nat) (c : Int) (t : Nat) : List Rw := (List.range n).map (stR k c t)
theorem st_length (n k : Nat) (c : Int) (t : Nat) : (st n k c t).length = n := by simp [st]
theorem st_get {n k : Nat} {c : Int} {t r : Nat} (h : r < n) : (st n k c t)[r]? = some (stR k c t r) := by
  rw [st, List.getElem?_map, List.getElem?_range h]; rfl
theorem marks_get {k t r s : Nat} (h : s < k) : (marksAt k t r)[s]? = some (decide (r * k + s < t)) := by
  rw [marksAt, List.getElem?_map, List.getElem?_range h]; rfl
theorem marks_length (k t r : Nat) : (marksAt k t r).length = k := by simp [marksAt]
theorem stR_far {k : Nat} {c : Int} {t r : Nat} (hk : 0 < k) (hr : t / k ≠ r) : stR k c (t + 1) r = stR k c t r := by
  have hd := Nat.div_add_mod t k
  have hm := Nat.mod_lt t hk
  unfold stR marksAt
  rcases Nat.lt_or_ge r (t / k) with h1 | h1
  · have h2 : (r + 1) * k ≤ k * (t / k) := by rw [Nat.mul_comm k]; exact Nat.mul_le_mul_right k h1
    rw [Nat.add_mul] at h2
    rw [if_neg (by omega), if_neg (by omega)]
    congr 1
    apply List.map_congr_left
    intro s hs
    have hs := List.mem_range.1 hs
    simp only [decide_eq_decide]; omega
  · have h2 : (t / k + 1) * k ≤ r * k := Nat.mul_le_mul_right k (by omega)
    rw [Nat.add_mul, Nat.mul_comm (t / k)] at h2
    rw [if_pos (by omega), if_pos (by omega)]
theorem st_next {n k : Nat} {c : Int} {t : Nat} (hk : 0 < k) (ht : t / k < n) (m : List Bool) (hm : (c, m) = stR k c (t + 1) (t / k)) : (st n k c t).set (t / k) (c, m) = st n k c (t + 1) := by
  apply List.ext_getElem?
  intro r
  by_cases hr : r < n
  · rw [st_get hr]
    by_cases e : t / k = r
    · rw [← e, List.getElem?_set_self (by rw [st_length]; exact ht), hm]
    · rw [List.getElem?_set_ne e, st_get hr, stR_far hk e]
  · rw [List.getElem?_eq_none (by rw [List.length_set, st_length]; omega), List.getElem?_eq_none (by rw [st_length]; omega)]
theorem st_row {n k : Nat} {c : Int} {t r : Nat} {d : Int} {m : List Bool} (h : (st n k c t)[r]? = some (d, m)) : r < n ∧ (d, m) = stR k c t r := by
  have hr : r < n := by have := (List.getElem?_eq_some_iff.1 h).1; rwa [st_length] at this
  rw [st_get hr] at h
  exact ⟨hr, (Option.some.inj h).symm⟩
/-- The next slot that is given. -/
theorem st_alloc {n k : Nat} {c i s : Int} {t : Nat} {b : Bool} {R' : List Rw} (hk : k = slotsOf c) (hk0 : 0 < k) (ht : t < n * k) (h : Alloced (st n k c t) c i s b R') : i = (t / k : Nat) ∧ s = (t % k : Nat) ∧ b = true ∧ R' = st n k c (t + 1) := by
  have hq : t / k < n := Nat.div_lt_of_lt_mul (by rw [Nat.mul_comm]; exact ht)
  cases h with
  | no h => omega
  | old i s l h0 hi hs h1 h2 =>
    obtain ⟨hin, he⟩ := st_row hi
    unfold stR at he
    split at he
    · cases he; simp at hs
    · rename_i hlt
      have hl : l = marksAt k t i := congrArg Prod.snd he
      have hsk : s < k := by have := (List.getElem?_eq_some_iff.1 hs).1; rw [hl, marks_length] at this; exact this
      rw [hl, marks_get hsk] at hs
      have hs : ¬ i * k + s < t := by simpa using hs
      have hts : t = i * k + s := by
        rcases Nat.eq_zero_or_pos s with e | e
        · omega
        · have h3 := h1 (s - 1) (by omega)
          rw [hl, marks_get (by omega)] at h3
          have h3 : i * k + (s - 1) < t := by simpa using h3
          omega
      have hd : t / k = i := by rw [hts, Nat.mul_comm, Nat.mul_add_div hk0, Nat.div_eq_of_lt hsk, Nat.add_zero]
      have hm : t % k = s := by rw [hts, Nat.mul_comm, Nat.mul_add_mod, Nat.mod_eq_of_lt hsk]
      refine ⟨by rw [hd], by rw [hm], rfl, ?_⟩
      rw [← hd]
      refine st_next hk0 hq _ ?_
      rw [hd, hl]
      unfold stR
      rw [if_neg (by omega)]
      congr 1
      apply List.ext_getElem?
      intro j
      by_cases hj : j < k
      · rw [marks_get hj]
        by_cases e : s = j
        · rw [← e, List.getElem?_set_self (by rw [marks_length]; exact hsk)]
          congr 1; symm; rw [decide_eq_true_eq]; omega
        · rw [List.getElem?_set_ne e, marks_get hj]
          congr 1; rw [decide_eq_decide]; omega
      · rw [List.getElem?_eq_none (by rw [List.length_set, marks_length]; omega), List.getElem?_eq_none (by rw [marks_length]; omega)]
  | fresh i d h0 h2 hi h3 =>
    obtain ⟨hin, he⟩ := st_row hi
    have hti : t ≤ i * k := by
      unfold stR at he
      split at he
      · assumption
      · have := congrArg (fun e : Rw => e.2.length) he
        simp only [List.length_nil, marks_length] at this
        omega
    have hti2 : i * k ≤ t := by
      rcases Nat.eq_zero_or_pos i with e | e
      · rw [e]; omega
      · have hlast : ¬ t ≤ (i - 1) * k := fun hle => h3 (i - 1) (by omega) 0 (by rw [st_get (by omega), stR, if_pos hle])
        have h4 := h2 (i - 1) (marksAt k t (i - 1)) (by rw [st_get (by omega), stR, if_neg hlast])
        have h5 : (i - 1) * k + (k - 1) < t := Classical.byContradiction fun hn => h4 (List.mem_of_getElem? (i := k - 1) (by rw [marks_get (by omega)]; simp [hn]))
        have h6 : i * k = (i - 1) * k + k := by rw [← Nat.succ_mul]; congr 1; omega
        omega
    have hts : t = i * k := by omega
    have hd : t / k = i := by rw [hts]; exact Nat.mul_div_cancel _ hk0
    have hm : t % k = 0 := by rw [hts]; exact Nat.mul_mod_left _ _
    refine ⟨by rw [hd], by rw [hm]; rfl, rfl, ?_⟩
    rw [← hd]
    refine st_next hk0 hq _ ?_
    rw [hd, ← hk]
    unfold stR
    rw [if_neg (by omega)]
    congr 1
    apply List.ext_getElem?
    intro j
    by_cases hj : j < k
    · rw [marks_get hj]
      by_cases e : 0 = j
      · rw [← e, List.getElem?_set_self (by rw [List.length_replicate]; exact hk0)]
        congr 1; symm; rw [decide_eq_true_eq]; omega
      · rw [List.getElem?_set_ne e, List.getElem?_replicate, if_pos hj]
        congr 1; symm; rw [decide_eq_false_iff_not]; omega
    · rw [List.getElem?_eq_none (by rw [List.length_set, List.length_replicate]; omega), List.getElem?_eq_none (by rw [marks_length]; omega)]
  | full h0 h2 h3 =>
    exfalso
    have hn : 0 < n := Nat.pos_of_ne_zero fun e => by rw [e, Nat.zero_mul] at ht; omega
    have hlast : ¬ t ≤ (n - 1) * k := fun hle => h3 (n - 1) 0 (by rw [st_get (by omega), stR, if_pos hle])
    have h4 := h2 (n - 1) (marksAt k t (n - 1)) (by rw [st_get (by omega), stR, if_neg hlast])
    have h5 : (n - 1) * k + (k - 1) < t := Classical.byContradiction fun hn => h4 (List.mem_of_getElem? (i := k - 1) (by rw [marks_get (by omega)]; simp [hn]))
    have h6 : n * k = (n - 1) * k + k := by rw [← Nat.succ_mul]; congr 1; omega
    omega
/-- No more than there are. -/
theorem st_full {n k : Nat} {c i s : Int} {b : Bool} {R' : List Rw} (hk : k = slotsOf c) (hk0 : 0 < k) (h : Alloced (st n k c (n * k)) c i s b R') : b = false ∧ R' = st n k c (n * k) := by
  have hlt : ∀ r, r < n → ∀ s, s < k → r * k + s < n * k := fun r hr s hs => by
    have : (r + 1) * k ≤ n * k := Nat.mul_le_mul_right k hr
    rw [Nat.add_mul] at this
    omega
  have hrow : ∀ r, r < n → stR k c (n * k) r = (c, marksAt k (n * k) r) := fun r hr => by
    have := hlt r hr 0 hk0
    unfold stR; rw [if_neg (by omega)]
  cases h with
  | no h => omega
  | old i s l h0 hi hs h1 h2 =>
    obtain ⟨hin, he⟩ := st_row hi
    rw [hrow i hin] at he
    have hl : l = marksAt k (n * k) i := congrArg Prod.snd he
    have hsk : s < k := by have := (List.getElem?_eq_some_iff.1 hs).1; rw [hl, marks_length] at this; exact this
    rw [hl, marks_get hsk] at hs
    have hs : ¬ i * k + s < n * k := by simpa using hs
    exact absurd (hlt i hin s hsk) hs
  | fresh i d h0 h2 hi h3 =>
    obtain ⟨hin, he⟩ := st_row hi
    rw [hrow i hin] at he
    have := congrArg (fun e : Rw => e.2.length) he
    simp only [List.length_nil, marks_length] at this
    omega
  | full h0 h2 h3 => exact ⟨rfl, rfl⟩
/-- A slot given back: as it was. -/
theorem st_free {n k : Nat} {c : Int} {t : Nat} (hk0 : 0 < k) (ht : t < n * k) : freed (st n k c (t + 1)) (t / k) c ((marksAt k (t + 1) (t / k)).set (t % k) false) = st n k c t := by
  have hq : t / k < n := Nat.div_lt_of_lt_mul (by rw [Nat.mul_comm]; exact ht)
  have hd := Nat.div_add_mod t k
  have hm := Nat.mod_lt t hk0
  have hc : k * (t / k) = t / k * k := Nat.mul_comm _ _
  have hmk : (marksAt k (t + 1) (t / k)).set (t % k) false = marksAt k t (t / k) := by
    apply List.ext_getElem?
    intro j
    by_cases hj : j < k
    · rw [marks_get hj]
      by_cases e : t % k = j
      · rw [← e, List.getElem?_set_self (by rw [marks_length]; exact hm)]
        congr 1; symm; rw [decide_eq_false_iff_not]; omega
      · rw [List.getElem?_set_ne e, marks_get hj]
        congr 1; rw [decide_eq_decide]; omega
    · rw [List.getElem?_eq_none (by rw [List.length_set, marks_length]; omega), List.getElem?_eq_none (by rw [marks_length]; omega)]
  rw [hmk, freed]
  have hrow : (if (marksAt k t (t / k)).count true = 0 then ((0, []) : Rw) else (c, marksAt k t (t / k))) = stR k c t (t / k) := by
    unfold stR
    by_cases h0 : t % k = 0
    · have hcnt : (marksAt k t (t / k)).count true = 0 := by
        rw [List.count_eq_zero]
        intro h
        obtain ⟨s, hs⟩ := List.getElem?_of_mem h
        have hsk : s < k := by have := (List.getElem?_eq_some_iff.1 hs).1; rwa [marks_length] at this
        rw [marks_get hsk] at hs
        have hs : t / k * k + s < t := by simpa using hs
        omega
      rw [if_pos hcnt, if_pos (by omega)]
    · have hcnt : ¬ (marksAt k t (t / k)).count true = 0 := by
        rw [List.count_eq_zero]
        exact fun h => h (List.mem_of_getElem? (i := 0) (by rw [marks_get hk0]; congr 1; rw [decide_eq_true_eq]; omega))
      rw [if_neg hcnt, if_neg (by omega)]
  rw [hrow]
  apply List.ext_getElem?
  intro r
  by_cases hr : r < n
  · rw [st_get hr]
    by_cases e : t / k = r
    · rw [← e, List.getElem?_set_self (by rw [st_length]; exact hq)]
    · rw [List.getElem?_set_ne e, st_get hr, stR_far hk0 e]
  · rw [List.getElem?_eq_none (by rw [List.length_set, st_length]; omega), List.getElem?_eq_none (by rw [st_length]; omega)]
def wordsIn (R : List Rw) : Int := (R.map fun e => (e.2.count true : Int) * wordsOf e.1).sum
theorem sum_same (x : Int) : ∀ l : List Int, (∀ y ∈ l, y = x) → l.sum = l.length * x
  | [], _ => by simp
  | y :: l, h => by
    rw [List.sum_cons, h y List.mem_cons_self, sum_same x l fun z hz => h z (List.mem_cons_of_mem _ hz), List.length_cons, Int.natCast_add, Int.add_mul]
    simp [Int.add_comm]
theorem words_none (n k : Nat) (c : Int) : wordsIn (st n k c 0) = 0 := by
  unfold wordsIn
  rw [sum_same 0]
  · simp
  · intro y hy
    obtain ⟨e, he, rfl⟩ := List.mem_map.1 hy
    obtain ⟨r, hr, rfl⟩ := List.mem_map.1 he
    unfold stR; rw [if_pos (Nat.zero_le _)]; simp
theorem words_all {n k : Nat} {c : Int} (hk : k = slotsOf c) (hk0 : 0 < k) : wordsIn (st n k c (n * k)) = n * 32 := by
  have hkw : (k : Int) * wordsOf c = 32 := by
    subst hk
    unfold slotsOf at hk0 ⊢
    unfold wordsOf
    split
    · rfl
    · split
      · rfl
      · split
        · rfl
        · split
          · rfl
          · rename_i h0 h1 h2 h3
            rw [if_neg h0, if_neg h1, if_neg h2, if_neg h3] at hk0
            omega
  unfold wordsIn
  rw [sum_same 32]
  · rw [List.length_map, st_length]
  · intro y hy
    obtain ⟨e, he, rfl⟩ := List.mem_map.1 hy
    obtain ⟨r, hr, rfl⟩ := List.mem_map.1 he
    have hr := List.mem_range.1 hr
    have h1 : (r + 1) * k ≤ n * k := Nat.mul_le_mul_right k hr
    rw [Nat.add_mul] at h1
    unfold stR; rw [if_neg (by omega)]
    have hall : marksAt k (n * k) r = List.replicate k true := by
      apply List.ext_getElem?
      intro j
      by_cases hj : j < k
      · rw [marks_get hj, List.getElem?_replicate, if_pos hj]
        congr 1; rw [decide_eq_true_eq]; omega
      · rw [List.getElem?_eq_none (by rw [marks_length]; omega), List.getElem?_eq_none (by rw [List.length_replicate]; omega)]
    rw [hall]
    show ((List.replicate k true).count true : Int) * wordsOf c = 32
    rw [List.count_replicate_self]; exact hkw
end Go.Proofs.Ytocliihimbggjaa
