/-
  CodeEach: the law.
-/
import Derived.Test.YtnbloimkagabjaaDoorLb1

import Derived.Test.YtnbloimkagabjaaDoorLb2

import Derived.Test.YtnbloimkagabjaaDoorLb3

import Derived.Test.YtnbloimkagabjaaDoorLb4

import Derived.Test.YtnbloimkagabjaaDoorLb5

namespace Go.Proofs.YtnbloimkagabjaaDoor

open Go Go.LX
set_option linter.unusedVariables false

theorem codeEach_lx (which a0 b0 n0 : Int) (o : Unit → Obj) (ho : IsPow o) : CallF (fun _ => Tryd.prog) 5 [.p (.int .i64 (.sym which)), .p (.int .i64 (.sym a0)), .p (.int .i64 (.sym b0)), .p (.int .i64 (.sym n0))] [(0, .fix 0 o)] 1 (fun r h n => r = .p (.bool true)) := by
  obtain ⟨k, hk⟩ : ∃ k, k = IntKind.u64.wrap which % 21 := ⟨_, rfl⟩
  have h0 : 0 ≤ k := by rw [hk]; omega
  have h1 : k < 21 := by rw [hk]; omega
  have hc : k = 0 ∨ k = 1 ∨ k = 2 ∨ k = 3 ∨ k = 4 ∨ k = 5 ∨ k = 6 ∨ k = 7 ∨ k = 8 ∨ k = 9 ∨ k = 10 ∨ k = 11 ∨ k = 12 ∨ k = 13 ∨ k = 14 ∨ k = 15 ∨ k = 16 ∨ k = 17 ∨ k = 18 ∨ k = 19 ∨ k = 20 := by omega
  rcases hc with h | h | h | h | h | h | h | h | h | h | h | h | h | h | h | h | h | h | h | h | h
  · exact each0_lx which a0 b0 n0 o ho (hk.symm.trans h)
  · exact each1_lx which a0 b0 n0 o ho (hk.symm.trans h)
  · exact each2_lx which a0 b0 n0 o ho (hk.symm.trans h)
  · exact each3_lx which a0 b0 n0 o ho (hk.symm.trans h)
  · exact each4_lx which a0 b0 n0 o ho (hk.symm.trans h)
  · exact each5_lx which a0 b0 n0 o ho (hk.symm.trans h)
  · exact each6_lx which a0 b0 n0 o ho (hk.symm.trans h)
  · exact each7_lx which a0 b0 n0 o ho (hk.symm.trans h)
  · exact each8_lx which a0 b0 n0 o ho (hk.symm.trans h)
  · exact each9_lx which a0 b0 n0 o ho (hk.symm.trans h)
  · exact each10_lx which a0 b0 n0 o ho (hk.symm.trans h)
  · exact each11_lx which a0 b0 n0 o ho (hk.symm.trans h)
  · exact each12_lx which a0 b0 n0 o ho (hk.symm.trans h)
  · exact each13_lx which a0 b0 n0 o ho (hk.symm.trans h)
  · exact each14_lx which a0 b0 n0 o ho (hk.symm.trans h)
  · exact each15_lx which a0 b0 n0 o ho (hk.symm.trans h)
  · exact each16_lx which a0 b0 n0 o ho (hk.symm.trans h)
  · exact each17_lx which a0 b0 n0 o ho (hk.symm.trans h)
  · exact each18_lx which a0 b0 n0 o ho (hk.symm.trans h)
  · exact each19_lx which a0 b0 n0 o ho (hk.symm.trans h)
  · exact each20_lx which a0 b0 n0 o ho (hk.symm.trans h)
end Go.Proofs.YtnbloimkagabjaaDoor
