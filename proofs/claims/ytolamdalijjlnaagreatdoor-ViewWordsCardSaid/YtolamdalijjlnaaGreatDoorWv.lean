/-
  Layer 11: ViewWords.
-/
import Derived.Test.YtolamdalijjlnaaGreatDoorWva

import Derived.Test.YtolamdalijjlnaaGreatDoorWvb

import Derived.Test.YtolamdalijjlnaaGreatDoorWvc

namespace Go.Proofs.YtolamdalijjlnaaGreatDoor

open Go Go.LX
set_option maxRecDepth 100000
set_option linter.unusedVariables false
set_option linter.unusedSimpArgs false

theorem viewWords_law (o : Unit → Obj) (ho : IsPow o) (k v : Int) : CallF (fun _ => Tryz.prog) 9 [.p (.int .i64 (.sym k)), .p (.int .i64 (.sym v))] [(0, .fix 0 o)] 1 (fun r _ _ => r = .p (.bool true)) := by
  have h0 : 0 ≤ IntKind.u64.wrap k % 9 := Int.emod_nonneg _ (by omega)
  have h1 : IntKind.u64.wrap k % 9 < 9 := Int.emod_lt_of_pos _ (by omega)
  generalize hm : IntKind.u64.wrap k % 9 = m at h0 h1
  have h9 : m = 0 ∨ m = 1 ∨ m = 2 ∨ m = 3 ∨ m = 4 ∨ m = 5 ∨ m = 6 ∨ m = 7 ∨ m = 8 := by omega
  rcases h9 with h | h | h | h | h | h | h | h | h
  · exact viewWords_0 o ho k v (hm.trans h)
  · exact viewWords_1 o ho k v (hm.trans h)
  · exact viewWords_2 o ho k v (hm.trans h)
  · exact viewWords_3 o ho k v (hm.trans h)
  · exact viewWords_4 o ho k v (hm.trans h)
  · exact viewWords_5 o ho k v (hm.trans h)
  · exact viewWords_6 o ho k v (hm.trans h)
  · exact viewWords_7 o ho k v (hm.trans h)
  · exact viewWords_8 o ho k v (hm.trans h)
end Go.Proofs.YtolamdalijjlnaaGreatDoor
