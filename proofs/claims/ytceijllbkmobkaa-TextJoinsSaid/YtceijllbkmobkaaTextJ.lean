/-
  Plain mathematics of lines joined, with blanks and empty lines between.
-/
import Derived.Test.YtceijllbkmobkaaTextS
namespace Go.Proofs.Ytceijllbkmobkaa

def segA (n : Nat) : List UInt8 := if n = 0 then [] else if n = 1 then [32] else if n = 2 then [10] else if n = 3 then [10, 32, 32, 10] else [32, 32, 32]
def segB (n : Nat) : List UInt8 := if n = 0 then [10] else if n = 1 then [32, 10] else if n = 2 then [10, 10] else if n = 3 then [10, 32] else [10]
def addL (ls : List (List UInt8)) (x : List UInt8) : List (List UInt8) := if x = [] then ls else ls ++ [x]
def Clean (x : List UInt8) : Prop := ∀ c ∈ x, 33 ≤ c.toNat ∧ c.toNat ≤ 126

theorem parts_append (a b : List UInt8) : partsOf (a ++ b) = b.foldl partStep (partsOf a) := by simp [partsOf]
theorem fold_line (ls : List (List UInt8)) (x : List UInt8) (hx : Clean x) : ∀ cur, x.foldl partStep (ls, cur) = (ls, cur ++ x) := by
  induction x with
  | nil => intro cur; simp
  | cons c x ih =>
    intro cur
    have hc := hx c (by simp)
    have h10 : c ≠ 10 := by rintro rfl; exact absurd hc.1 (by decide)
    have h32 : c ≠ 32 := by rintro rfl; exact absurd hc.1 (by decide)
    rw [List.foldl_cons, show partStep (ls, cur) c = (ls, cur ++ [c]) by rw [partStep, if_neg h10, if_neg h32], ih (fun d hd => hx d (by simp [hd]))]
    simp
theorem fold_a (ls : List (List UInt8)) (n : Nat) : (segA n).foldl partStep (ls, []) = (ls, []) := by
  unfold segA
  repeat' split
  all_goals rfl
theorem fold_b (ls : List (List UInt8)) (x : List UInt8) (n : Nat) : (segB n).foldl partStep (ls, x) = (addL ls x, []) := by
  unfold segB addL
  repeat' split
  all_goals (subst_vars; simp_all [partStep])
/-- One more line behind what was joined. -/
theorem join_step (s x : List UInt8) (ls : List (List UInt8)) (n : Nat) (h : partsOf s = (ls, [])) (hx : Clean x) : partsOf (s ++ segA n ++ x ++ segB n) = (addL ls x, []) := by
  rw [parts_append, parts_append, parts_append, h, fold_a, fold_line _ _ hx, fold_b]
  rfl

def Good8 (s : List UInt8) : Prop := ∀ c ∈ s, c.toNat = 10 ∨ (32 ≤ c.toNat ∧ c.toNat ≤ 126)
theorem good_a (n : Nat) : Good8 (segA n) := by
  unfold segA Good8
  repeat' split
  all_goals decide
theorem good_b (n : Nat) : Good8 (segB n) := by
  unfold segB Good8
  repeat' split
  all_goals decide
theorem good_app {a b : List UInt8} (ha : Good8 a) (hb : Good8 b) : Good8 (a ++ b) := by
  intro c hc
  rw [List.mem_append] at hc
  exact hc.elim (ha c) (hb c)
theorem good_clean {x : List UInt8} (h : Clean x) : Good8 x := fun c hc => .inr ⟨by have := (h c hc).1; omega, (h c hc).2⟩
theorem seg_le (n : Nat) : (segA n).length ≤ 4 ∧ (segB n).length ≤ 2 := by
  unfold segA segB
  constructor
  · repeat' split
    all_goals simp
  · repeat' split
    all_goals simp

theorem joined (s : List UInt8) (ls : List (List UInt8)) (h : partsOf s = (ls, [])) (hg : Good8 s) (hlen : s.length ≤ 2000) (hl : ls.length ≤ 60) : linesV (bytesOfL s) = if ls.length = 0 then ([], 7) else (ls, 0) := by
  have hr : runesOf (bytesOfL s) = s.map UInt8.toNat := runesOf_ascii _ (by intro c hc; rcases hg c hc with h | h <;> omega)
  have hw : wrongs (s.map UInt8.toNat) = 0 := by
    rw [wrongs, List.countP_eq_zero]
    intro c hc
    obtain ⟨d, hd, rfl⟩ := List.mem_map.1 hc
    have := hg d hd
    simp only [badR, decide_eq_true_eq]
    omega
  have hd : (bytesOfL s).data.toList = s := by simp [bytesOfL]
  have hcl : closed (partsOf s) = ls := by rw [h]; simp [closed]
  rw [linesV, hr, hw, hd, hcl, List.length_map, if_neg (by omega), if_neg (by omega)]
  by_cases h0 : ls.length = 0
  · rw [if_pos h0, if_pos h0]
  · rw [if_neg h0, if_neg h0, if_neg (by omega)]

/-- The line that is made of a string: so many of its bytes, each moved among the signs from 33 to 126. -/
def sgn (b : UInt8) : UInt8 := UInt8.ofNat (33 + b.toNat % 94)
def mkLine (b : List UInt8) : List UInt8 := (b.take 30).map sgn
theorem sgn_toNat (b : UInt8) : (sgn b).toNat = 33 + b.toNat % 94 := by unfold sgn; rw [UInt8.toNat_ofNat']; omega
theorem line_clean (b : List UInt8) : Clean (mkLine b) := by
  intro c hc
  obtain ⟨d, _, rfl⟩ := List.mem_map.1 hc
  rw [sgn_toNat]; omega
theorem line_le (b : List UInt8) : (mkLine b).length ≤ 30 := by unfold mkLine; rw [List.length_map]; exact List.length_take_le _ _
end Go.Proofs.Ytceijllbkmobkaa
