/-
  Numbers of instructions that may be told.
-/
import Derived.Test.YtfjdifeofnpcnaaDoorBf

import Derived.Test.YtfjdifeofnpcnaaDoorUa

namespace Go.Proofs.YtfjdifeofnpcnaaDoor

open Go Go.LX
set_option maxRecDepth 100000
set_option linter.unusedVariables false
set_option linter.unusedSimpArgs false
theorem shp_num {x : Is} (h : Shp x) : (1 ≤ x.op ∧ x.op ≤ 22) ∧ (0 ≤ x.n ∧ x.n ≤ 9999) ∧ ∀ c ∈ x.cs, 0 ≤ c.to ∧ c.to ≤ 9999 := by
  unfold Shp at h
  split at h
  · rename_i h21
    refine ⟨by omega, by omega, fun c hc => ?_⟩
    have h1 := (cshp_mem h.2.2.2.2 c hc).2.1 110 (by unfold cshape; split <;> simp)
    exact h1
  · rename_i h21
    obtain ⟨h1, h2, h3⟩ := h
    refine ⟨h1, ?_, by rw [h2]; simp⟩
    have gn : x.f.get 110 = x.n := rfl
    have gd : x.f.get 100 = x.n := rfl
    rcases shape_cases x.op with e | e | e | e | e | e <;> rw [e] at h3
    · have q3 := h3.2 110 (by decide); rw [gn] at q3; omega
    · have q3 := h3.1 110 (by simp); rw [gn] at q3; simp [inR] at q3; omega
    · have q3 := h3.1 110 (by simp); rw [gn] at q3; simp [inR] at q3; omega
    · have q3 := h3.2 110 (by decide); rw [gn] at q3; omega
    · have q3 := h3.1 100 (by simp); rw [gd] at q3; simp [inR] at q3; omega
    · have q3 := h3.2 110 (by decide); rw [gn] at q3; omega
theorem shp_x64 {x : Is} (h : Shp x) (hc : x.cs.length ≤ 520) : XI64 x := by
  obtain ⟨h1, h2, h3⟩ := shp_num h
  refine ⟨by unfold I64; omega, by unfold I64; omega, hc, fun c hcm => ?_⟩
  have := h3 c hcm
  unfold I64; omega
theorem codeV_x64 (l : List Is) : ∀ x ∈ codeV l, XI64 x ∧ x.cs.length ≤ 3 := by
  intro x hx
  have h := codeV_good l x hx
  exact ⟨shp_x64 h.shp (by have := h.cs; omega), h.cs⟩
theorem codeV_40 (l : List Is) : 0 < (codeV l).length ∧ (codeV l).length ≤ 40 := by rw [codeV_len]; exact firstV_len l
end Go.Proofs.YtfjdifeofnpcnaaDoor
