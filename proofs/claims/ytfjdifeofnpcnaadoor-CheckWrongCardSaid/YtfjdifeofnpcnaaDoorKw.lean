/-
  Plain facts of one line: behind others, with a sign too many, with a sign too few.
-/
import Derived.Test.YtfjdifeofnpcnaaDoorBf

namespace Go.Proofs.YtfjdifeofnpcnaaDoor

theorem shp_mk (op a b n : Int) (h : 1 ≤ op ∧ op ≤ 22) (h21 : op ≠ 21) (ha : if (97 : UInt8) ∈ shapeV op then 0 ≤ a ∧ a ≤ 5 else a = 0) (hb : if (98 : UInt8) ∈ shapeV op then 0 ≤ b ∧ b ≤ 5 else b = 0)
    (hn : if (110 : UInt8) ∈ shapeV op then 0 ≤ n ∧ n ≤ 9999 else if (100 : UInt8) ∈ shapeV op then 0 ≤ n ∧ n ≤ 9 else n = 0) : Shp ⟨op, a, b, n, []⟩ := by
  unfold Shp
  rw [if_neg h21]
  refine ⟨h, rfl, ?_⟩
  show Shp3 (shapeV op) ⟨a, b, n⟩
  have key : ∀ sh : List UInt8, (sh = [97, 98] ∨ sh = [97, 110] ∨ sh = [110] ∨ sh = [97] ∨ sh = [100, 97] ∨ sh = []) → (if (97 : UInt8) ∈ sh then 0 ≤ a ∧ a ≤ 5 else a = 0) → (if (98 : UInt8) ∈ sh then 0 ≤ b ∧ b ≤ 5 else b = 0) →
      (if (110 : UInt8) ∈ sh then 0 ≤ n ∧ n ≤ 9999 else if (100 : UInt8) ∈ sh then 0 ≤ n ∧ n ≤ 9 else n = 0) → Shp3 sh ⟨a, b, n⟩ := by
    intro sh hs h1 h2 h3
    refine ⟨fun k hk => ?_, fun k hk => ?_⟩
    · rcases hs with rfl | rfl | rfl | rfl | rfl | rfl <;> simp at hk h1 h2 h3
      · rcases hk with rfl | rfl
        · exact h1
        · exact h2
      · rcases hk with rfl | rfl
        · exact h1
        · exact h3
      · subst hk; exact h3
      · subst hk; exact h1
      · rcases hk with rfl | rfl
        · exact h3
        · exact h1
    · unfold F3.get
      by_cases k1 : k = 97
      · rw [if_pos k1]
        have : (97 : UInt8) ∉ sh := fun hm => hk 97 hm (by rw [k1])
        rw [if_neg this] at h1; exact h1
      · rw [if_neg k1]
        by_cases k2 : k = 98
        · rw [if_pos k2]
          have : (98 : UInt8) ∉ sh := fun hm => hk 98 hm (by rw [k2])
          rw [if_neg this] at h2; exact h2
        · rw [if_neg k2]
          have hf : fld k = 2 := by unfold fld; rw [if_neg k1, if_neg k2]
          have n1 : (110 : UInt8) ∉ sh := fun hm => hk 110 hm (by rw [hf]; rfl)
          have n2 : (100 : UInt8) ∉ sh := fun hm => hk 100 hm (by rw [hf]; rfl)
          rw [if_neg n1, if_neg n2] at h3; exact h3
  exact key _ (shape_cases op) ha hb hn
theorem lineOf_eq (op a b n : Int) (h21 : op ≠ 21) : lineOf ⟨op, a, b, n, []⟩ = signB op :: fieldsL (shapeV op) ⟨a, b, n⟩ := by unfold lineOf; rw [if_neg h21]; rfl
theorem exit_dec : decB [120] = some ⟨22, 0, 0, 0, []⟩ := by rfl
theorem each1 (X : Is) (hX : Shp X) (hl : (lineOf X).length ≤ 100) : decodeV (bytesOfL ([120, 10] ++ lineOf X)) = ([⟨22, 0, 0, 0, []⟩, X], 0, 0) := by
  have := decode_last [[120]] (lineOf X) (by intro x hx; rw [List.mem_singleton] at hx; subst hx; exact ⟨by unfold Clean; decide, by simp⟩) (line_clean2 (shp_wl hX)) (lineOf_ne X) (by rw [List.length_append]; show 2 + _ ≤ _; omega) (by decide)
  rw [show joinL [[120]] = [120, 10] from rfl] at this
  rw [this]
  show decsV [[120], lineOf X] 0 [] = _
  rw [decsV, exit_dec]
  simp only
  rw [decsV, dec_fwd hX]
  rfl
theorem each2 (X : Is) (hX : Shp X) (h21 : X.op ≠ 21) (hl : (lineOf X).length ≤ 100) : decodeV (bytesOfL ([120, 10, 120, 10] ++ (lineOf X ++ [63]))) = ([], 3, 5) := by
  have hn : decB (lineOf X ++ [63]) = none := by
    have hX2 := hX
    unfold Shp at hX2
    rw [if_neg h21] at hX2
    obtain ⟨hr, _, hs⟩ := hX2
    have e := rd_fwd (shapeV X.op) X.f [63] (by simp; rfl) hs (shape_ok _).1 (shape_ok _).2
    unfold lineOf
    rw [if_neg h21, List.cons_append, decB, op_sign hr.1 hr.2, if_neg (by omega), if_neg h21, e]
    rfl
  have := decode_last [[120], [120]] (lineOf X ++ [63]) (by intro x hx; simp at hx; subst hx; exact ⟨by unfold Clean; decide, by simp⟩) (clean_app (line_clean2 (shp_wl hX)) (by unfold Clean; decide)) (by simp) (by rw [List.length_append, List.length_append]; show 4 + (_ + 1) ≤ _; omega) (by decide)
  rw [show joinL [[120], [120]] = [120, 10, 120, 10] from rfl] at this
  rw [this]
  show decsV [[120], [120], lineOf X ++ [63]] 0 [] = _
  rw [decsV, exit_dec]
  simp only
  rw [decsV, exit_dec]
  simp only
  rw [decsV, hn]; rfl
theorem rdB_app : ∀ (ks : List UInt8) (k : UInt8) (s : List UInt8) (f : F3), rdB (ks ++ [k]) s f = match rdB ks s f with
    | none => none
    | some (f', s') => rdB [k] s' f'
  | [], k, s, f => rfl
  | j :: ks, k, s, f => by
    rw [List.cons_append, rdB, rdB]
    cases takeF j s with
    | none => rfl
    | some x => exact rdB_app ks k x.2 _
theorem takeF_nil (k : UInt8) : takeF k [] = none := by
  unfold takeF
  split
  · rfl
  split
  · rfl
  · rfl
theorem each3 (X : Is) (hX : Shp X) (h21 : X.op ≠ 21) (ks : List UInt8) (k : UInt8) (hs : shapeV X.op = ks ++ [k]) (h1 : (partL k (X.f.get k)).length = 1) (hl : (lineOf X).length ≤ 100) : decodeV (bytesOfL ((lineOf X).dropLast ++ [10, 120])) = ([], 1, 5) := by
  have hX2 := hX
  unfold Shp at hX2
  rw [if_neg h21] at hX2
  obtain ⟨hr, _, hsh⟩ := hX2
  have hd : (lineOf X).dropLast = signB X.op :: fieldsL ks X.f := by
    obtain ⟨c, hc⟩ := List.length_eq_one_iff.1 h1
    unfold lineOf
    rw [if_neg h21, hs]
    have e : fieldsL (ks ++ [k]) X.f = fieldsL ks X.f ++ [c] := by rw [fieldsL, List.flatMap_append]; simp [fieldsL, hc]
    rw [e, ← List.cons_append, List.dropLast_concat]
  have hok := shape_ok X.op
  rw [hs] at hok hsh
  have hn : decB (lineOf X).dropLast = none := by
    obtain ⟨f', e, _⟩ := rdB_fwd X.f [] (by simp) ks .zero (fun j hj => hsh.1 j (by simp [hj])) (by
      have := hok.1
      unfold Nd at this ⊢
      rw [List.map_append, List.nodup_append] at this
      exact this.1) (by
      have := hok.2
      clear hd hsh h1 hs hok
      induction ks with
      | nil => exact trivial
      | cons j ks ih =>
        refine ⟨?_, ih this.2⟩
        rcases this.1 with h | h | h | h
        · exact .inl h
        · exact .inr (.inl h)
        · exact .inr (.inr (.inl h))
        · simp at h)
    rw [List.append_nil] at e
    rw [hd, decB, op_sign hr.1 hr.2, if_neg (by omega), if_neg h21, hs, rdB_app, e]
    simp only
    rw [rdB, takeF_nil]; rfl
  have hcl : Clean (lineOf X).dropLast := fun c hc => line_clean2 (shp_wl hX) c ((List.dropLast_sublist _).subset hc)
  have hne : (lineOf X).dropLast ≠ [] := by rw [hd]; simp
  have := decode_last [(lineOf X).dropLast] [120] (by intro x hx; rw [List.mem_singleton] at hx; subst hx; exact ⟨hcl, hne⟩) (by unfold Clean; decide) (by simp) (by
    show (((lineOf X).dropLast ++ [10]) ++ [] ++ [120]).length ≤ 2000
    simp; omega) (by show 1 < 60; decide)
  rw [show joinL [(lineOf X).dropLast] ++ [120] = (lineOf X).dropLast ++ [10, 120] by simp [joinL]] at this
  rw [this]
  show decsV [(lineOf X).dropLast, [120]] 0 [] = _
  rw [decsV, hn]; rfl
end Go.Proofs.YtfjdifeofnpcnaaDoor
