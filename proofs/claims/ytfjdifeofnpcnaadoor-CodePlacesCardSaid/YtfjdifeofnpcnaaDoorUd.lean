/-
  Plain facts of a text with one line that is none.
-/
import Derived.Test.YtfjdifeofnpcnaaDoorUa

namespace Go.Proofs.YtfjdifeofnpcnaaDoor

open Go

/-- The text, so many instructions told; a wrong line stands ahead of number w. -/
def placeT (A : List Is) (w i : Nat) : List UInt8 := joinL ((A.take (min i w)).map lineOf) ++ (if w < i then [10, 32, 63, 10] ++ joinL (((A.take i).drop w).map lineOf) else [])
/-- The same, the wrong line told already where w is reached. -/
def placeW (A : List Is) (w i : Nat) : List UInt8 := joinL ((A.take (min i w)).map lineOf) ++ (if w ≤ i then [10, 32, 63, 10] ++ joinL (((A.take i).drop w).map lineOf) else [])
theorem placeT_zero (A : List Is) (w : Nat) : placeT A w 0 = [] := by unfold placeT; simp [joinL]
theorem place_ne {A : List Is} {w i : Nat} (h : i ≠ w) : placeW A w i = placeT A w i := by
  unfold placeW placeT
  by_cases h1 : w < i
  · rw [if_pos h1, if_pos (by omega)]
  · rw [if_neg h1, if_neg (by omega)]
theorem place_eq (A : List Is) (w : Nat) : placeW A w w = placeT A w w ++ [10, 32, 63, 10] := by
  unfold placeW placeT
  rw [if_pos (Nat.le_refl _), if_neg (by omega), List.append_nil]
  have : (A.take w).drop w = [] := List.drop_eq_nil_of_le (by rw [List.length_take]; omega)
  rw [this]; simp [joinL]
theorem joinL_snoc (A : List Is) (x : Is) : joinL ((A ++ [x]).map lineOf) = joinL (A.map lineOf) ++ (lineOf x ++ [10]) := by simp [joinL]
theorem place_step {A : List Is} {w i : Nat} {x : Is} (h : A[i]? = some x) : placeT A w (i + 1) = placeW A w i ++ joinL ([x].map lineOf) := by
  have hi := (List.getElem?_eq_some_iff.1 h).1
  have e1 : joinL ([x].map lineOf) = lineOf x ++ [10] := by simp [joinL]
  have e2 : A.take (i + 1) = A.take i ++ [x] := by rw [List.take_add_one, h]; rfl
  unfold placeW placeT
  by_cases h1 : w ≤ i
  · rw [if_pos (by omega), if_pos h1, Nat.min_eq_right (by omega), Nat.min_eq_right h1, e2, List.drop_append_of_le_length (by rw [List.length_take]; omega), joinL_snoc, e1]
    simp
  · rw [if_neg (by omega), if_neg h1, Nat.min_eq_left (by omega), Nat.min_eq_left (by omega), e2, joinL_snoc, e1]
    simp
theorem decs_stop : ∀ (A : List Is) (R : List (List UInt8)) (i : Int) (acc : List Is), (∀ x ∈ A, Shp x) → decsV (A.map lineOf ++ [63] :: R) i acc = ([], i + A.length + 1, 5)
  | [], R, i, acc, _ => by
    show decsV ([63] :: R) i acc = _
    rw [decsV, show decB [63] = none by rfl]
    simp
  | x :: A, R, i, acc, h => by
    show decsV (lineOf x :: (A.map lineOf ++ [63] :: R)) i acc = _
    rw [decsV, dec_fwd (h x (by simp))]
    simp only
    rw [decs_stop A R (i + 1) _ (fun y hy => h y (by simp [hy]))]
    simp; omega
theorem place_dec {A : List Is} {w : Nat} (hw : w ≤ A.length) (hA : ∀ x ∈ A, Shp x ∧ (lineOf x).length ≤ 16) (hl : A.length ≤ 40) : decodeV (bytesOfL (placeW A w A.length)) = ([], (w : Int) + 1, 5) := by
  have hmin : min A.length w = w := by omega
  have hcl : ∀ (B : List Is), (∀ x ∈ B, x ∈ A) → ∀ y ∈ B.map lineOf, Clean y ∧ y ≠ [] := by
    intro B hB y hy
    obtain ⟨x, hx, rfl⟩ := List.mem_map.1 hy
    exact ⟨line_clean2 (shp_wl (hA x (hB x hx)).1), lineOf_ne x⟩
  have hT := hcl (A.take w) (fun x hx => List.mem_of_mem_take hx)
  have hD := hcl (A.drop w) (fun x hx => List.mem_of_mem_drop hx)
  have e : placeW A w A.length = joinL ((A.take w).map lineOf) ++ [10, 32, 63, 10] ++ joinL ((A.drop w).map lineOf) := by
    unfold placeW
    rw [if_pos hw, hmin, List.take_length, List.append_assoc]
  have p1 : partsOf (joinL ((A.take w).map lineOf)) = ((A.take w).map lineOf, []) := by simpa using parts_join _ hT [] [] rfl
  have p2 : partsOf (joinL ((A.take w).map lineOf) ++ [10, 32, 63, 10]) = ((A.take w).map lineOf ++ [[63]], []) := by
    rw [parts_append, p1]
    show partStep (partStep (partStep (partStep _ 10) 32) 63) 10 = _
    simp [partStep]
  have p3 : partsOf (placeW A w A.length) = ((A.take w).map lineOf ++ [63] :: (A.drop w).map lineOf, []) := by
    rw [e, parts_join _ hD _ _ p2]
    simp
  have hg : Good8 (placeW A w A.length) := by
    rw [e]
    refine good_app (good_app (join_good hT) ?_) (join_good hD)
    unfold Good8; decide
  have hj : ∀ B : List Is, (∀ x ∈ B, x ∈ A) → (joinL (B.map lineOf)).length ≤ B.length * 17 := fun B hB => join_le B 16 (fun x hx => (hA x (hB x hx)).2)
  have h1 := hj (A.take w) (fun x hx => List.mem_of_mem_take hx)
  have h2 := hj (A.drop w) (fun x hx => List.mem_of_mem_drop hx)
  have hlen : (placeW A w A.length).length ≤ 2000 := by
    rw [e, List.length_append, List.length_append]
    rw [List.length_take] at h1
    rw [List.length_drop] at h2
    have : ([10, 32, 63, 10] : List UInt8).length = 4 := rfl
    omega
  have hcnt : ((A.take w).map lineOf ++ [63] :: (A.drop w).map lineOf).length ≤ 60 := by simp; omega
  have hL := joined _ _ p3 hg hlen hcnt
  rw [if_neg (by simp)] at hL
  rw [decodeV, hL, if_pos rfl]
  show decsV ((A.take w).map lineOf ++ [63] :: (A.drop w).map lineOf) 0 [] = _
  rw [decs_stop _ _ _ _ (fun x hx => (hA x (List.mem_of_mem_take hx)).1), List.length_take, Nat.min_eq_left hw]
  simp
theorem place_len {A : List Is} {w i : Nat} (hi : i ≤ A.length) (hA : ∀ x ∈ A, (lineOf x).length ≤ 16) (hl : A.length ≤ 40) : (placeT A w i).length ≤ 1400 ∧ (placeW A w i).length ≤ 1400 := by
  have hj : ∀ B : List Is, (∀ x ∈ B, x ∈ A) → (joinL (B.map lineOf)).length ≤ B.length * 17 := fun B hB => join_le B 16 (fun x hx => hA x (hB x hx))
  have h1 := hj (A.take (min i w)) (fun x hx => List.mem_of_mem_take hx)
  have h2 := hj ((A.take i).drop w) (fun x hx => List.mem_of_mem_take (List.mem_of_mem_drop hx))
  rw [List.length_take] at h1
  rw [List.length_drop, List.length_take] at h2
  have h4 : ([10, 32, 63, 10] : List UInt8).length = 4 := rfl
  unfold placeT placeW
  constructor
  · rw [List.length_append]
    split
    · rw [List.length_append]; omega
    · simp only [List.length_nil, Nat.add_zero]; omega
  · rw [List.length_append]
    split
    · rw [List.length_append]; omega
    · simp only [List.length_nil, Nat.add_zero]; omega
end Go.Proofs.YtfjdifeofnpcnaaDoor
