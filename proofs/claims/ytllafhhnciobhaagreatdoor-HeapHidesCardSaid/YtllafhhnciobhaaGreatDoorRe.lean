/-
  Layer 6: spans, whatever is asked; what is done has one outcome.
-/
import Derived.Test.YtllafhhnciobhaaGreatDoorRa
namespace Go.Proofs.YtllafhhnciobhaaGreatDoor

open Go Go.LX
set_option maxRecDepth 100000
set_option linter.unusedVariables false
set_option linter.unusedSimpArgs false

theorem has_out (n i : Int) (L : List PV) (hi : ¬ (0 ≤ i ∧ i < n)) : CallF (fun _ => Tryz.prog) 79 [.ptr 0 (.lit 0), .p (.int .i64 (.sym i))] [(0, .mix [.sl 1 101 2 (.lit 0) (.sym n)]), (1, .pure true L)] 2 (fun r h n' => r = .p (.bool false) ∧ h = [(0, .mix [.sl 1 101 2 (.lit 0) (.sym n)]), (1, .pure true L)] ∧ n' = 2) := by
  refine callF_of_body tok Tryz.func79 (by kernel_rfl) rfl rfl rfl ?_; conv => cbv
  refine Br.mk (fun g => ?_) (fun g => ?_)
  · have g : 0 ≤ i := g
    conv => cbv
    refine Br.mk (fun g2 => ?_) (fun g2 => ?_)
    · have gf : False := hi ⟨g, g2⟩
      cases gf
    · conv => cbv
      refine RetF.mk [.p (.bool false)] [(0, .mix [.sl 1 101 2 (.lit 0) (.sym n)]), (1, .pure true L)] 2 (Re.at [(0, 0), (1, 1)] []) rfl ⟨rfl, rfl, rfl⟩
  · conv => cbv
    refine RetF.mk [.p (.bool false)] [(0, .mix [.sl 1 101 2 (.lit 0) (.sym n)]), (1, .pure true L)] 2 (Re.at [(0, 0), (1, 1)] []) rfl ⟨rfl, rfl, rfl⟩
theorem used_out (n i j : Int) (L : List PV) (hi : ¬ (0 ≤ i ∧ i < n)) : CallF (fun _ => Tryz.prog) 58 [.ptr 0 (.lit 0), .p (.int .i64 (.sym i)), .p (.int .i64 (.sym j))] [(0, .mix [.sl 1 101 2 (.lit 0) (.sym n)]), (1, .pure true L)] 2 (fun r h n' => r = .p (.bool false) ∧ h = [(0, .mix [.sl 1 101 2 (.lit 0) (.sym n)]), (1, .pure true L)] ∧ n' = 2) := by
  refine callF_of_body tok Tryz.func58 (by kernel_rfl) rfl rfl rfl ?_; conv => cbv
  refine callF_frame (has_out n i L hi) [(0, 0), (1, 1)] rfl (by simp [hmapOk, nget, hget, renB, okB, renV, renVs, rn, okVs, okV]) rfl rfl (fun r h' n' ⟨e1, e2, e3⟩ => ?_)
  subst e1 e2 e3
  conv => cbv
  refine RetF.mk [.p (.bool false)] [(0, .mix [.sl 1 101 2 (.lit 0) (.sym n)]), (1, .pure true L)] 2 (Re.at [(0, 0), (1, 1)] []) rfl ⟨rfl, rfl, rfl⟩
theorem free_out (n i j : Int) (L : List PV) (hi : ¬ (0 ≤ i ∧ i < n)) : CallF (fun _ => Tryz.prog) 105 [.ptr 0 (.lit 0), .p (.int .i64 (.sym i)), .p (.int .i64 (.sym j))] [(0, .mix [.sl 1 101 2 (.lit 0) (.sym n)]), (1, .pure true L)] 2 (fun r h n' => r = .p (.bool false) ∧ h = [(0, .mix [.sl 1 101 2 (.lit 0) (.sym n)]), (1, .pure true L)] ∧ n' = 2) := by
  refine callF_of_body tok Tryz.func105 (by kernel_rfl) rfl rfl rfl ?_; conv => cbv
  refine callF_frame (used_out n i j L hi) [(0, 0), (1, 1)] rfl (by simp [hmapOk, nget, hget, renB, okB, renV, renVs, rn, okVs, okV]) rfl rfl (fun r h' n' ⟨e1, e2, e3⟩ => ?_)
  subst e1 e2 e3
  conv => cbv
  refine RetF.mk [.p (.bool false)] [(0, .mix [.sl 1 101 2 (.lit 0) (.sym n)]), (1, .pure true L)] 2 (Re.at [(0, 0), (1, 1)] []) rfl ⟨rfl, rfl, rfl⟩
theorem class_out (n i : Int) (L : List PV) (hi : ¬ (0 ≤ i ∧ i < n)) : CallF (fun _ => Tryz.prog) 56 [.ptr 0 (.lit 0), .p (.int .i64 (.sym i))] [(0, .mix [.sl 1 101 2 (.lit 0) (.sym n)]), (1, .pure true L)] 2 (fun r h n' => (∃ v : Int, r = .p (.int .i64 (.sym v)) ∧ v = -1) ∧ h = [(0, .mix [.sl 1 101 2 (.lit 0) (.sym n)]), (1, .pure true L)] ∧ n' = 2) := by
  refine callF_of_body tok Tryz.func56 (by kernel_rfl) rfl rfl rfl ?_; conv => cbv
  refine callF_frame (has_out n i L hi) [(0, 0), (1, 1)] rfl (by simp [hmapOk, nget, hget, renB, okB, renV, renVs, rn, okVs, okV]) rfl rfl (fun r h' n' ⟨e1, e2, e3⟩ => ?_)
  subst e1 e2 e3
  conv => cbv
  refine RetF.mk [.p (.int .i64 (.sym (-1)))] [(0, .mix [.sl 1 101 2 (.lit 0) (.sym n)]), (1, .pure true L)] 2 (Re.at [(0, 0), (1, 1)] []) rfl ⟨⟨-1, rfl, rfl⟩, rfl, rfl⟩
theorem usedF_lx (i j : Int) (R : List Rw) (n : Int) (L : List PV) (hL : L = rpv R) (hn : n = R.length) (hR : R.length ≤ 1000) (hok : ROk R) : CallF (fun _ => Tryz.prog) 58 [.ptr 0 (.lit 0), .p (.int .i64 (.sym i)), .p (.int .i64 (.sym j))] [(0, .mix [.sl 1 101 2 (.lit 0) (.sym n)]), (1, .pure true L)] 2
    (fun r h n' => ∃ b : Bool, r = .p (.bool b) ∧ h = [(0, .mix [.sl 1 101 2 (.lit 0) (.sym n)]), (1, .pure true L)] ∧ n' = 2 ∧ (b = true ↔ UsedAt R i j)) := by
  by_cases hi : 0 ≤ i ∧ i < n
  · obtain ⟨e, he⟩ : ∃ e, R[i.toNat]? = some e := ⟨_, List.getElem?_eq_getElem (by omega)⟩
    have hm8 := (hok e (List.mem_of_getElem? he)).1
    by_cases hu : 0 ≤ j ∧ e.2[j.toNat]? = some true
    · exact (used_lx R n i j e.1 e.2 L hL hn hi.1 he true hu.1 hu.2).mono fun r h n' ⟨h1, h2, h3⟩ => ⟨true, h1, h2, h3, iff_of_true rfl ⟨e, hi.1, he, hu.1, hu.2⟩⟩
    · refine (used_no_lx R n i j e.1 e.2 L hL hn hi.1 he hm8 (fun h0 h1 => hu ⟨h0, h1⟩)).mono fun r h n' ⟨h1, h2, h3⟩ => ⟨false, h1, h2, h3, iff_of_false (by decide) ?_⟩
      rintro ⟨e', _, he', h4, h5⟩
      rw [he] at he'; cases he'
      exact hu ⟨h4, h5⟩
  · refine (used_out n i j L hi).mono fun r h n' ⟨h1, h2, h3⟩ => ⟨false, h1, h2, h3, iff_of_false (by decide) ?_⟩
    rintro ⟨e', h4, he', _⟩
    have := (List.getElem?_eq_some_iff.1 he').1
    exact hi ⟨h4, by omega⟩
theorem freeF_lx (i j : Int) (R : List Rw) (n : Int) (L : List PV) (hL : L = rpv R) (hn : n = R.length) (hR : R.length ≤ 1000) (hok : ROk R) : CallF (fun _ => Tryz.prog) 105 [.ptr 0 (.lit 0), .p (.int .i64 (.sym i)), .p (.int .i64 (.sym j))] [(0, .mix [.sl 1 101 2 (.lit 0) (.sym n)]), (1, .pure true L)] 2
    (fun r h n' => ∃ (b : Bool) (R' : List Rw) (L' : List PV), r = .p (.bool b) ∧ h = [(0, .mix [.sl 1 101 2 (.lit 0) (.sym n)]), (1, .pure true L')] ∧ n' = 2 ∧ L' = rpv R' ∧ Freed6 R i j b R') := by
  by_cases hi : 0 ≤ i ∧ i < n
  · obtain ⟨e, he⟩ : ∃ e, R[i.toNat]? = some e := ⟨_, List.getElem?_eq_getElem (by omega)⟩
    have hm8 := (hok e (List.mem_of_getElem? he)).1
    by_cases hu : 0 ≤ j ∧ e.2[j.toNat]? = some true
    · exact (free_lx R _ n i j e.1 e.2 L hL hn hR hi.1 he hm8 hu.1 hu.2 rfl).mono fun r h n' ⟨L', h1, h2, h3, h4⟩ => ⟨true, _, L', h1, h2, h3, h4, .yes e hi.1 he hu.1 hu.2⟩
    · refine (free_no_lx R n i j e.1 e.2 L hL hn hi.1 he hm8 (fun h0 h1 => hu ⟨h0, h1⟩)).mono fun r h n' ⟨h1, h2, h3⟩ => ⟨false, R, L, h1, h2, h3, hL, .no ?_⟩
      rintro ⟨e', _, he', h4, h5⟩
      rw [he] at he'; cases he'
      exact hu ⟨h4, h5⟩
  · refine (free_out n i j L hi).mono fun r h n' ⟨h1, h2, h3⟩ => ⟨false, R, L, h1, h2, h3, hL, .no ?_⟩
    rintro ⟨e', h4, he', _⟩
    have := (List.getElem?_eq_some_iff.1 he').1
    exact hi ⟨h4, by omega⟩
theorem classF_lx (i : Int) (R : List Rw) (n : Int) (L : List PV) (hL : L = rpv R) (hn : n = R.length) (hR : R.length ≤ 1000) (hok : ROk R) (v : Int) (hv : v = classAt R i) : CallF (fun _ => Tryz.prog) 56 [.ptr 0 (.lit 0), .p (.int .i64 (.sym i))] [(0, .mix [.sl 1 101 2 (.lit 0) (.sym n)]), (1, .pure true L)] 2
    (fun r h n' => r = .p (.int .i64 (.sym v)) ∧ h = [(0, .mix [.sl 1 101 2 (.lit 0) (.sym n)]), (1, .pure true L)] ∧ n' = 2) := by
  by_cases hi : 0 ≤ i ∧ i < n
  · obtain ⟨e, he⟩ : ∃ e, R[i.toNat]? = some e := ⟨_, List.getElem?_eq_getElem (by omega)⟩
    refine classA_lx R n i v e L hL hn hi.1 he ?_
    rw [hv, classAt, if_pos hi.1, he]; rfl
  · refine (class_out n i L hi).mono fun r h n' ⟨⟨v', h1, h4⟩, h2, h3⟩ => ⟨?_, h2, h3⟩
    have : v = -1 := by
      rw [hv, classAt]
      split
      · rw [List.getElem?_eq_none (by omega)]; rfl
      · rfl
    rw [h1, h4, this]
theorem Freed6.det {R R1 R2 : List Rw} {i j : Int} {b1 b2 : Bool} (h : Freed6 R i j b1 R1) (k : Freed6 R i j b2 R2) : b1 = b2 ∧ R1 = R2 := by
  cases h with
  | no h =>
    cases k with
    | no k => exact ⟨rfl, rfl⟩
    | yes e h0 he h1 hs => exact absurd ⟨e, h0, he, h1, hs⟩ h
  | yes e h0 he h1 hs =>
    cases k with
    | no k => exact absurd ⟨e, h0, he, h1, hs⟩ k
    | yes e' _ he' _ hs' =>
      rw [he] at he'; cases he'
      exact ⟨rfl, rfl⟩
theorem Alloced.det {R R1 R2 : List Rw} {c i1 s1 i2 s2 : Int} {b1 b2 : Bool} (h : Alloced R c i1 s1 b1 R1) (k : Alloced R c i2 s2 b2 R2) : i1 = i2 ∧ s1 = s2 ∧ b1 = b2 ∧ R1 = R2 := by
  cases h with
  | no h =>
    cases k with
    | no _ => exact ⟨rfl, rfl, rfl, rfl⟩
    | old _ _ _ h0 => exact absurd h h0
    | fresh _ _ h0 => exact absurd h h0
    | full h0 => exact absurd h h0
  | old i s l h0 hi hs h1 h2 =>
    have hf : false ∈ l := List.mem_of_getElem? hs
    cases k with
    | no h => exact absurd h h0
    | old i' s' l' h0' hi' hs' h1' h2' =>
      have hf' : false ∈ l' := List.mem_of_getElem? hs'
      have e : i = i' := by
        rcases Nat.lt_trichotomy i i' with h | h | h
        · exact absurd hf (h2' i h l hi)
        · exact h
        · exact absurd hf' (h2 i' h l' hi')
      subst e
      rw [hi] at hi'
      cases hi'
      have e : s = s' := by
        rcases Nat.lt_trichotomy s s' with h | h | h
        · rw [h1' s h] at hs; cases hs
        · exact h
        · rw [h1 s' h] at hs'; cases hs'
      subst e
      exact ⟨rfl, rfl, rfl, rfl⟩
    | fresh i' d h0' h2' hi' h3' => exact absurd hf (h2' i l hi)
    | full h0' h2' h3' => exact absurd hf (h2' i l hi)
  | fresh i d h0 h2 hi h3 =>
    cases k with
    | no h => exact absurd h h0
    | old i' s' l' h0' hi' hs' h1' h2' => exact absurd (List.mem_of_getElem? hs') (h2 i' l' hi')
    | fresh i' d' h0' h2' hi' h3' =>
      have e : i = i' := by
        rcases Nat.lt_trichotomy i i' with h | h | h
        · exact absurd hi (h3' i h d)
        · exact h
        · exact absurd hi' (h3 i' h d')
      subst e
      exact ⟨rfl, rfl, rfl, rfl⟩
    | full h0' h2' h3' => exact absurd hi (h3' i d)
  | full h0 h2 h3 =>
    cases k with
    | no h => exact absurd h h0
    | old i' s' l' h0' hi' hs' h1' h2' => exact absurd (List.mem_of_getElem? hs') (h2 i' l' hi')
    | fresh i' d' h0' h2' hi' h3' => exact absurd hi' (h3 i' d')
    | full _ _ _ => exact ⟨rfl, rfl, rfl, rfl⟩
theorem ROk.free {R R' : List Rw} {i j : Int} {b : Bool} (h : ROk R) (hF : Freed6 R i j b R') : ROk R' ∧ R'.length = R.length := by
  cases hF with
  | no _ => exact ⟨h, rfl⟩
  | yes e h0 he h1 hs =>
    have hne : e.2 ≠ [] := by intro e0; rw [e0] at hs; simp at hs
    obtain ⟨g1, g2⟩ := h e (List.mem_of_getElem? he)
    refine ⟨?_, by rw [freed, List.length_set]⟩
    intro x hx
    rw [freed] at hx
    rcases List.mem_or_eq_of_mem_set hx with hx | rfl
    · exact h x hx
    · split
      · exact ⟨by simp, fun h => absurd rfl h⟩
      · exact ⟨by rw [List.length_set]; exact g1, fun _ => ⟨(g2 hne).1, by rw [List.length_set]; exact (g2 hne).2⟩⟩
theorem ROk.alloc {R R' : List Rw} {c i s : Int} {b : Bool} (h : ROk R) (hA : Alloced R c i s b R') : ROk R' ∧ R'.length = R.length := by
  cases hA with
  | no _ => exact ⟨h, rfl⟩
  | full _ _ _ => exact ⟨h, rfl⟩
  | old i s l h0 hi hs h1 h2 =>
    have hne : l ≠ [] := by intro e0; rw [e0] at hs; simp at hs
    obtain ⟨g1, g2⟩ := h _ (List.mem_of_getElem? hi)
    refine ⟨?_, by rw [List.length_set]⟩
    intro x hx
    rcases List.mem_or_eq_of_mem_set hx with hx | rfl
    · exact h x hx
    · exact ⟨by rw [List.length_set]; exact g1, fun _ => ⟨h0, by rw [List.length_set]; exact (g2 hne).2⟩⟩
  | fresh i d h0 h2 hi h3 =>
    refine ⟨?_, by rw [List.length_set]⟩
    intro x hx
    rcases List.mem_or_eq_of_mem_set hx with hx | rfl
    · exact h x hx
    · exact ⟨by rw [List.length_set, List.length_replicate]; exact slots_le6 c, fun _ => ⟨h0, by rw [List.length_set, List.length_replicate]⟩⟩
end Go.Proofs.YtllafhhnciobhaaGreatDoor
