/-
  Layer 3: the reference's Valid: no choice, but with cases.
-/
import Derived.Test.YtfjdifeofnpcnaaDoorUh1

import Derived.Test.YtfjdifeofnpcnaaDoorUh2

import Derived.Test.YtfjdifeofnpcnaaDoorUh3

import Derived.Test.YtfjdifeofnpcnaaDoorUh4

namespace Go.Proofs.YtfjdifeofnpcnaaDoor

open Go Go.LX
set_option maxRecDepth 100000
set_option linter.unusedVariables false
set_option linter.unusedSimpArgs false

theorem shapedN_lx (op a b n k : Int) (L : List PV) (hk0 : k ≠ 0) (h21 : op ≠ 21) : CallF (fun _ => Tryd.prog) 40 [.agg [.p (.int .i64 (.sym op)), .p (.int .i64 (.sym a)), .p (.int .i64 (.sym b)), .p (.int .i64 (.sym n)), .p (.vsl (.sym k) true L)]] [] 0 (fun r h n' => r = .p (.bool false) ∧ h = [] ∧ n' = 0) := by
  rcases shape_cases op with h | h | h | h | h | h
  · exact shapedN_0 op a b n k L hk0 h21 h
  · exact shapedN_1 op a b n k L hk0 h21 h
  · exact shapedN_2 op a b n k L hk0 h21 h
  · exact shapedN_3 op a b n k L hk0 h21 h
  · exact shapedN_4 op a b n k L hk0 h21 h
  · exact shapedN_5 op a b n k L hk0 h21 h
end Go.Proofs.YtfjdifeofnpcnaaDoor
