/-
  Layer 3: the reference's Valid.
-/
import Derived.Test.YtfjdifeofnpcnaaDoorCd1

import Derived.Test.YtfjdifeofnpcnaaDoorCd2

import Derived.Test.YtfjdifeofnpcnaaDoorCd3

import Derived.Test.YtfjdifeofnpcnaaDoorCd4

namespace Go.Proofs.YtfjdifeofnpcnaaDoor

open Go Go.LX
set_option maxRecDepth 100000
set_option linter.unusedVariables false
set_option linter.unusedSimpArgs false

theorem shaped1_lx (X : Is) (op a b n : Int) (h1 : op = X.op) (h2 : a = X.a) (h3 : b = X.b) (h4 : n = X.n) (hcs : X.cs = []) : CallF (fun _ => Tryd.prog) 40 [.agg [.p (.int .i64 (.sym op)), .p (.int .i64 (.sym a)), .p (.int .i64 (.sym b)), .p (.int .i64 (.sym n)), .p (.vsl (.sym 0) true [])]] [] 0 (fun r h n' => (∃ q : Bool, r = .p (.bool q) ∧ (q = true ↔ Shp X)) ∧ h = [] ∧ n' = 0) := by
  rcases shape_cases op with h | h | h | h | h | h
  · exact shaped1_0 X op a b n h1 h2 h3 h4 hcs h
  · exact shaped1_1 X op a b n h1 h2 h3 h4 hcs h
  · exact shaped1_2 X op a b n h1 h2 h3 h4 hcs h
  · exact shaped1_3 X op a b n h1 h2 h3 h4 hcs h
  · exact shaped1_4 X op a b n h1 h2 h3 h4 hcs h
  · exact shaped1_5 X op a b n h1 h2 h3 h4 hcs h
end Go.Proofs.YtfjdifeofnpcnaaDoor
