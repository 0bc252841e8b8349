/-
  Layer 3: programs that play makes are valid.
-/
import Derived.Test.YtfjdifeofnpcnaaDoorUl

import Derived.Test.YtfjdifeofnpcnaaDoorUk

namespace Go.Proofs.YtfjdifeofnpcnaaDoor

open Go Go.LX
set_option maxRecDepth 100000
set_option linter.unusedVariables false
set_option linter.unusedSimpArgs false
theorem insG_may {y : Is} {n : Int} (h : InsG y n) : MayP y ∧ LeadP y n := by
  refine ⟨⟨h.cs, ?_, ?_⟩, ?_⟩
  · have h1 := h.most
    have h2 := h.num
    unfold mostV
    repeat' split
    all_goals omega
  · exact (okay_one y (shp_x64 h.shp (by have := h.cs; omega)) (by have := h.cs; omega)).2 h.shp
  · unfold LeadP
    split
    · exact h.jump (by assumption)
    · exact fun c hc => (h.to c hc).2
theorem codeV_valid (A : List Is) {a e : Int} (h : ValidP (codeV A) a e) : a = 0 ∧ e = 0 := by
  have h1 := codeV_40 A
  exact valid_good h (List.length_pos_iff.1 h1.1) (by omega) (fun y hy => insG_may (codeV_good A y hy))
end Go.Proofs.YtfjdifeofnpcnaaDoor
