/-
  Plain mathematics of texts: the runes of a string, its lines, and numbers of one to four digits.
-/
import Derived.WalkKit
import Derived.Laws.RangeAny
namespace Go.Proofs.Ytceijllbkmobkaa

/-- The runes that ranging over s tells from place pos on, in at most f rounds. -/
def runesFrom (s : ByteArray) : Nat → Nat → List Nat
  | 0, _ => []
  | f + 1, pos => if pos < s.size then (Utf8.decode s pos).1 :: runesFrom s f (pos + (Utf8.decode s pos).2) else []
def runesOf (s : ByteArray) : List Nat := runesFrom s s.size 0

theorem width_pos (s : ByteArray) (pos : Nat) (h : pos < s.size) : 1 ≤ (Utf8.decode s pos).2 := by
  by_cases ha : (s[pos]'h).toNat < 128
  · rw [decode_ascii s pos h ha]; exact Nat.le_refl _
  · exact (decode_high s pos h (by omega)).2
theorem runesFrom_end (s : ByteArray) (f pos : Nat) (h : ¬ pos < s.size) : runesFrom s f pos = [] := by
  cases f with
  | zero => rfl
  | succ f => rw [runesFrom, if_neg h]
theorem runesFrom_next (s : ByteArray) (f pos : Nat) (h : pos < s.size) : runesFrom s (f + 1) pos = (Utf8.decode s pos).1 :: runesFrom s f (pos + (Utf8.decode s pos).2) := by
  rw [runesFrom, if_pos h]

/-- May a sign not stand in a text? -/
def badR (c : Nat) : Bool := decide (c ≠ 10 ∧ (c < 32 ∨ 126 < c))
def wrongs (l : List Nat) : Nat := l.countP badR

theorem wrongs_snoc (l : List Nat) (c : Nat) : wrongs (l ++ [c]) = wrongs l + if badR c then 1 else 0 := by
  simp [wrongs, List.countP_append, List.countP_cons]
theorem wrongs_le (l : List Nat) : wrongs l ≤ l.length := List.countP_le_length
theorem runesFrom_length (s : ByteArray) (f : Nat) : ∀ pos, (runesFrom s f pos).length ≤ s.size - pos := by
  induction f with
  | zero => intro pos; simp [runesFrom]
  | succ f ih =>
    intro pos
    by_cases h : pos < s.size
    · rw [runesFrom_next s f pos h, List.length_cons]
      have := ih (pos + (Utf8.decode s pos).2)
      have := width_pos s pos h
      omega
    · rw [runesFrom_end s _ pos h]; simp

/-- Where no rune is wrong, they are just the bytes. -/
theorem runes_bytes (s : ByteArray) (f : Nat) : ∀ pos, s.size ≤ pos + f → wrongs (runesFrom s f pos) = 0 → runesFrom s f pos = (s.data.toList.drop pos).map UInt8.toNat := by
  induction f with
  | zero =>
    intro pos h _
    have h2 : s.data.toList.length ≤ pos := by simpa using h
    rw [List.drop_eq_nil_of_le h2]; rfl
  | succ f ih =>
    intro pos h hw
    by_cases hp : pos < s.size
    · rw [runesFrom_next s f pos hp] at hw ⊢
      have hb : badR (Utf8.decode s pos).1 = false := by
        simp only [wrongs, List.countP_cons] at hw
        by_cases hh : badR (Utf8.decode s pos).1 = true
        · rw [if_pos hh] at hw; omega
        · simpa using hh
      have hw2 : wrongs (runesFrom s f (pos + (Utf8.decode s pos).2)) = 0 := by
        simp only [wrongs, List.countP_cons] at hw ⊢
        omega
      have ha : (s[pos]'hp).toNat < 128 := by
        rcases Nat.lt_or_ge (s[pos]'hp).toNat 128 with h1 | h1
        · exact h1
        · have := (decode_high s pos hp h1).1
          simp only [badR, decide_eq_false_iff_not] at hb
          omega
      rw [decode_ascii s pos hp ha] at hw2 ⊢
      have hp2 : pos < s.data.toList.length := by simpa using hp
      rw [List.drop_eq_getElem_cons hp2, List.map_cons, ih (pos + 1) (by omega) hw2]
      rfl
    · rw [runesFrom_end s _ pos hp]
      have h2 : s.data.toList.length ≤ pos := by simpa using hp
      rw [List.drop_eq_nil_of_le h2]; rfl

/-- One sign of a text that may be: the lines so far, and the one that is being read. -/
def partStep (st : List (List UInt8) × List UInt8) (c : UInt8) : List (List UInt8) × List UInt8 :=
  if c = 10 then (if st.2 = [] then st.1 else st.1 ++ [st.2], []) else if c = 32 then st else (st.1, st.2 ++ [c])
def partsOf (l : List UInt8) : List (List UInt8) × List UInt8 := l.foldl partStep ([], [])
def closed (st : List (List UInt8) × List UInt8) : List (List UInt8) := if st.2 = [] then st.1 else st.1 ++ [st.2]
/-- What Lines answers: the lines, and the reason for a refusal. -/
def linesV (s : ByteArray) : List (List UInt8) × Int :=
  if 2000 < (runesOf s).length then ([], 3)
  else if 0 < wrongs (runesOf s) then ([], 4)
  else if (closed (partsOf s.data.toList)).length = 0 then ([], 7)
  else if 60 < (closed (partsOf s.data.toList)).length then ([], 3)
  else (closed (partsOf s.data.toList), 0)

theorem parts_snoc (l : List UInt8) (c : UInt8) : partsOf (l ++ [c]) = partStep (partsOf l) c := by simp [partsOf]
theorem parts_le (l : List UInt8) : (partsOf l).1.length + (partsOf l).2.length ≤ l.length := by
  suffices h : ∀ (l : List UInt8) (st : List (List UInt8) × List UInt8), (l.foldl partStep st).1.length + (l.foldl partStep st).2.length ≤ st.1.length + st.2.length + l.length by
    simpa [partsOf] using h l ([], [])
  intro l
  induction l with
  | nil => intro st; simp
  | cons c l ih =>
    intro st
    simp only [List.foldl_cons, List.length_cons]
    refine Nat.le_trans (ih _) ?_
    unfold partStep
    split
    · split
      · simp; omega
      · rename_i hne
        have : 0 < st.2.length := List.length_pos_iff.2 hne
        simp; omega
    · split
      · omega
      · simp; omega

/-- The number that digits tell. -/
def numL (l : List Nat) : Int := l.foldl (fun (n : Int) (c : Nat) => 10 * n + ((c : Int) - 48)) 0
def isDig (c : Nat) : Bool := decide (48 ≤ c ∧ c ≤ 57)
end Go.Proofs.Ytceijllbkmobkaa
