/-
  CheckRegs: the law.
-/
import Derived.Test.YtnbloimkagabjaaDoorCe1

import Derived.Test.YtnbloimkagabjaaDoorCe2

import Derived.Test.YtnbloimkagabjaaDoorCe3

import Derived.Test.YtnbloimkagabjaaDoorCe4

import Derived.Test.YtnbloimkagabjaaDoorCe5

namespace Go.Proofs.YtnbloimkagabjaaDoor

open Go Go.LX
set_option maxRecDepth 100000
set_option linter.unusedVariables false
set_option linter.unusedSimpArgs false

theorem checkRegs_lx (op0 a0 b0 : Int) (o : Unit → Obj) (ho : IsPow o) : CallF (fun _ => Tryd.prog) 13 [.p (.int .i64 (.sym op0)), .p (.int .i64 (.sym a0)), .p (.int .i64 (.sym b0))] [(0, .fix 0 o)] 1 (fun r h n => r = .p (.bool true)) := by
  by_cases h : 1 + IntKind.u64.wrap op0 % 22 = 2 ∨ 1 + IntKind.u64.wrap op0 % 22 = 3 ∨ 1 + IntKind.u64.wrap op0 % 22 = 5 ∨ 1 + IntKind.u64.wrap op0 % 22 = 6 ∨ 1 + IntKind.u64.wrap op0 % 22 = 8 ∨ 1 + IntKind.u64.wrap op0 % 22 = 9 ∨ 1 + IntKind.u64.wrap op0 % 22 = 15 ∨ 1 + IntKind.u64.wrap op0 % 22 = 16 ∨ 1 + IntKind.u64.wrap op0 % 22 = 17
  · rcases h with h | h | h | h | h | h | h | h | h
    · exact regs0_lx op0 a0 b0 o ho h
    · exact regs1_lx op0 a0 b0 o ho h
    · exact regs2_lx op0 a0 b0 o ho h
    · exact regs3_lx op0 a0 b0 o ho h
    · exact regs4_lx op0 a0 b0 o ho h
    · exact regs5_lx op0 a0 b0 o ho h
    · exact regs6_lx op0 a0 b0 o ho h
    · exact regs7_lx op0 a0 b0 o ho h
    · exact regs8_lx op0 a0 b0 o ho h
  · have hoc : (¬ 0 ≤ (a0.tmod 9)) ∨ (0 ≤ (a0.tmod 9) ∧ ¬ (a0.tmod 9) < 6) ∨ (0 ≤ (a0.tmod 9) ∧ (a0.tmod 9) < 6 ∧ ¬ 0 ≤ (b0.tmod 9)) ∨ (0 ≤ (a0.tmod 9) ∧ (a0.tmod 9) < 6 ∧ 0 ≤ (b0.tmod 9) ∧ ¬ (b0.tmod 9) < 6) ∨ (0 ≤ (a0.tmod 9) ∧ (a0.tmod 9) < 6 ∧ 0 ≤ (b0.tmod 9) ∧ (b0.tmod 9) < 6) := by omega
    rcases hoc with q | q | q | q | q
    · exact regs9_lx op0 a0 b0 o ho h q
    · exact regs10_lx op0 a0 b0 o ho h q
    · exact regs11_lx op0 a0 b0 o ho h q
    · exact regs12_lx op0 a0 b0 o ho h q
    · exact regs13_lx op0 a0 b0 o ho h q
end Go.Proofs.YtnbloimkagabjaaDoor
