/-
  Layer 9: what a step does, in pure words.
-/
import Derived.Test.YtllafhhnciobhaaGreatDoorHa
namespace Go.Proofs.YtllafhhnciobhaaGreatDoor

open Go Go.LX
set_option maxRecDepth 100000
set_option linter.unusedVariables false
set_option linter.unusedSimpArgs false

/-- What is looked at next. -/
inductive NextG (R : List Rw) (C G : List Int) (ov : Bool) : Int → Bool → List Int → Bool → Prop
  | pop (A : List Int) (v : Int) (h : G = A ++ [v]) : NextG R C G ov v true A ov
  | none (h : G = []) (ho : ov = false) : NextG R C G ov 0 false [] false
  | found (i : Nat) (a : Int) (h : G = []) (ho : ov = true) (ha : (objs R)[i]? = some a) (hc : C[a.toNat]? = some 1) (hn : ∀ j b, j < i → (objs R)[j]? = some b → C[b.toNat]? ≠ some 1) : NextG R C G ov a true [] true
  | settle (h : G = []) (ho : ov = true) (hn : ∀ (j : Nat) b, (objs R)[j]? = some b → C[b.toNat]? ≠ some 1) : NextG R C G ov 0 false [] false
theorem NextG.det {R : List Rw} {C G G1 G2 : List Int} {ov o1 o2 b1 b2 : Bool} {v1 v2 : Int} (h1 : NextG R C G ov v1 b1 G1 o1) (h2 : NextG R C G ov v2 b2 G2 o2) : v1 = v2 ∧ b1 = b2 ∧ G1 = G2 ∧ o1 = o2 := by
  cases h1 with
  | pop A v h => cases h2 with
    | pop A' v' h' =>
      obtain ⟨rfl, e⟩ := List.append_inj' (h.symm.trans h') rfl
      obtain rfl : v1 = v2 := by simpa using e
      exact ⟨rfl, rfl, rfl, rfl⟩
    | none h' _ => rw [h'] at h; exact absurd h.symm (by simp)
    | found i a h' _ _ _ _ => rw [h'] at h; exact absurd h.symm (by simp)
    | settle h' _ _ => rw [h'] at h; exact absurd h.symm (by simp)
  | none h ho => cases h2 with
    | pop A' v' h' => rw [h] at h'; exact absurd h'.symm (by simp)
    | none _ _ => exact ⟨rfl, rfl, rfl, rfl⟩
    | found i a h' ho' _ _ _ => rw [ho] at ho'; cases ho'
    | settle h' ho' _ => rw [ho] at ho'; cases ho'
  | found i a h ho ha hc hn => cases h2 with
    | pop A' v' h' => rw [h] at h'; exact absurd h'.symm (by simp)
    | none _ ho' => rw [ho] at ho'; cases ho'
    | found i' a' h' ho' ha' hc' hn' =>
      obtain rfl : i = i' := by
        rcases Nat.lt_trichotomy i i' with q | q | q
        · exact absurd hc (hn' _ _ q ha)
        · exact q
        · exact absurd hc' (hn _ _ q ha')
      rw [ha] at ha'
      obtain rfl := Option.some.inj ha'
      exact ⟨rfl, rfl, rfl, rfl⟩
    | settle _ _ hn' => exact absurd hc (hn' _ _ ha)
  | settle h ho hn => cases h2 with
    | pop A' v' h' => rw [h] at h'; exact absurd h'.symm (by simp)
    | none _ ho' => rw [ho] at ho'; cases ho'
    | found i' a' h' ho' ha' hc' hn' => exact absurd hc' (hn _ _ ha')
    | settle _ _ _ => exact ⟨rfl, rfl, rfl, rfl⟩
/-- A box that nobody has reached, whose finaliser is due. -/
def Due (R : List Rw) (ws C : List Int) (a : Int) : Prop := (∃ l, Kept R ws a 5 l) ∧ C[a.toNat]? = some 0 ∧ ∃ x, Loaded R ws a 1 x 0 ∧ x ≠ 0
inductive NextF (R : List Rw) (ws C : List Int) : Int → Bool → Prop
  | found (i : Nat) (a : Int) (ha : (objs R)[i]? = some a) (hd : Due R ws C a) (hn : ∀ j b, j < i → (objs R)[j]? = some b → ¬ Due R ws C b) : NextF R ws C a true
  | none (hn : ∀ (j : Nat) b, (objs R)[j]? = some b → ¬ Due R ws C b) : NextF R ws C 0 false
theorem NextF.det {R : List Rw} {ws C : List Int} {b1 b2 : Bool} {v1 v2 : Int} (h1 : NextF R ws C v1 b1) (h2 : NextF R ws C v2 b2) : v1 = v2 ∧ b1 = b2 := by
  cases h1 with
  | found i a ha hd hn => cases h2 with
    | found i' a' ha' hd' hn' =>
      obtain rfl : i = i' := by
        rcases Nat.lt_trichotomy i i' with q | q | q
        · exact absurd hd (hn' _ _ q ha)
        · exact q
        · exact absurd hd' (hn _ _ q ha')
      rw [ha] at ha'
      obtain rfl := Option.some.inj ha'
      exact ⟨rfl, rfl⟩
    | none hn' => exact absurd hd (hn' _ _ ha)
  | none hn => cases h2 with
    | found i' a' ha' hd' hn' => exact absurd hd' (hn _ _ ha')
    | none _ => exact ⟨rfl, rfl⟩
/-- What is gone, or kept: kind, place, words, kept. -/
abbrev Gn := Int × Int × List Int × Bool
def gpv : List Gn → List PV
  | [] => []
  | g :: l => .int .i64 (.sym g.1) :: .int .i64 (.sym g.2.1) :: .vsl (.sym (g.2.2.1.length : Int)) true (ipv g.2.2.1) :: .bool g.2.2.2 :: gpv l
theorem gpv_length : ∀ l, (gpv l).length = 4 * l.length
  | [] => rfl
  | g :: l => by simp [gpv, gpv_length l]; omega
theorem gpv_app : ∀ l m, gpv (l ++ m) = gpv l ++ gpv m
  | [], m => rfl
  | g :: l, m => by simp [gpv, gpv_app l m]
/-- A step of Mark. -/
inductive Marked (R : List Rw) (ws C G : List Int) (ov : Bool) (sp : Int) : List Gn → Int → Int → List Int → List Int → List Int → Bool → Prop
  | scan (v : Int) (A X C' G' : List Int) (o1 ov' : Bool) (hg : NextG R C G ov v true A o1) (hX : Wrds R ws v X) (hs : (C', G', ov') = scanS R 1 v X (C, A, o1)) : Marked R ws C G ov sp [] 1 sp ws C' G' ov'
  | keep (a : Int) (A X ws' C' G' : List Int) (o1 ov' : Bool) (hg : NextG R C G ov 0 false A o1) (hf : NextF R ws C a true) (hX : Wrds R ws a X) (hst : Stored R ws a 1 0 0 ws') (hs : (C', G', ov') = shade R 1 a (C, A, o1)) : Marked R ws C G ov sp [(5, a, X, true)] 1 sp ws' C' G' ov'
  | sweep (A : List Int) (o1 : Bool) (hg : NextG R C G ov 0 false A o1) (hf : NextF R ws C 0 false) : Marked R ws C G ov sp [] 2 0 ws C A o1
end Go.Proofs.YtllafhhnciobhaaGreatDoor
