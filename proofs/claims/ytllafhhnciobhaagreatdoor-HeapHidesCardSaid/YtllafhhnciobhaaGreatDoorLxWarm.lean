/-
  The calculus' own functions, each evaluated once: what Lean makes for that is then at hand.
-/
import Derived.Test.YtllafhhnciobhaaGreatDoorLxRe
namespace Go.LX
open Go
set_option linter.unusedVariables false
section
variable (P : Unit → Program) (K : LS → Prop) (KE : Exit → LS → Prop) (KV : LV → Prop) (KI : I → Prop) (KB : Bool → Prop) (KL : LV → LH → Nat → Prop) (KP : Bool → List PV → I → Prop) (KLB : LB → Prop) (x : Int) (V : Nat → LS → Prop) (s : LS) (KVS : List LV → Prop) (KPV : PV → Prop) (KBL : Bool → List PV → Prop)
def T0 : TT := [(3, ⟨1, 8, [.int .i64 (.lit 0)], .int .i64⟩), (4, ⟨1, 1, [.bool false], .bool⟩), (5, ⟨1, 24, [.nils], .slice 3⟩), (6, ⟨1, 16, [.str fun _ => ⟨#[]⟩], .str⟩), (7, ⟨2, 24, [.int .i64 (.lit 0), .str fun _ => ⟨#[]⟩], .struct [(0, 3), (1, 6)]⟩), (8, ⟨1, 8, [.nilp], .ptr 7⟩), (9, ⟨2, 16, [.int .i64 (.lit 0), .int .i64 (.lit 0)], .arr 2 3⟩), (10, ⟨1, 16, [.nilif], .iface⟩), (16, ⟨1, 1, [.int .u8 (.lit 0)], .int .u8⟩), (17, ⟨1, 24, [.nils], .slice 16⟩)]
def S0 : LS := ⟨[.p (.int .i64 (.sym x)), .p (.int .i64 (.lit 3)), .p (.bool true), .ptr 0 (.lit 0), .p (.vsl (.lit 1) false [.int .i64 (.lit 1)]), .sl 1 3 1 (.lit 0) (.lit 1), .p (.str fun _ => ⟨#[97]⟩), .agg [.p (.int .i64 (.lit 1)), .p (.str fun _ => ⟨#[]⟩)], .tup [.p (.int .i64 (.lit 1)), .p (.str fun _ => ⟨#[]⟩)], .iface 3 (.p (.int .i64 (.lit 1))), .ptr 2 (.lit 0), .p .nils, .undef, .p .nilp, .fn 3 [.p (.int .i64 (.lit 1))], .sl 3 3 1 (.lit 0) (.sym x), .p (.vsl (.sym x) true [])], [(0, .pure false [.int .i64 (.lit 1), .str fun _ => ⟨#[]⟩]), (1, .pure false [.int .i64 (.lit 1)]), (2, .iter (fun _ => ⟨#[97]⟩) (.lit 0)), (3, .pure true [.int .i64 (.lit 1)]), (4, .mix [.p (.int .i64 (.lit 1)), .ptr 0 (.lit 0)])], 5⟩
def op (o : Op) : Oper := ⟨some 12, o, 3, "", #[], none⟩
def warmed (p : Prop) : Prop := True
theorem wm (p : Prop) : warmed p := trivial
def runs (o : Op) : Prop := lop P (fun _ => T0) (op o) (S0 x) K
def all (l : List Op) : Prop := match l with
  | [] => True
  | o :: l => And (runs P K x o) (all l)
theorem w2 (h : all P K x [.move (.tmp 0), .assign (.const (.int .i64 3)), .pick (.tmp 2) (.tmp 0) (.tmp 1), .binOp .add 3 (.tmp 0) (.tmp 1) 3, .binOp .add 3 (.tmp 1) (.tmp 1) 3, .binOp .lss 3 (.tmp 1) (.tmp 1) 3, .binOp .lss 3 (.tmp 0) (.tmp 1) 3,
    .binOp .sub 3 (.tmp 0) (.tmp 1) 3, .binOp .mul 3 (.tmp 0) (.tmp 1) 3, .binOp .quo 3 (.tmp 0) (.tmp 1) 3, .binOp .rem 3 (.tmp 0) (.tmp 1) 3, .binOp .rem 3 (.tmp 1) (.tmp 1) 3, .binOp .and 3 (.tmp 0) (.tmp 1) 3, .binOp .leq 3 (.tmp 0) (.tmp 1) 3, .binOp .gtr 3 (.tmp 0) (.tmp 1) 3, .binOp .geq 3 (.tmp 0) (.tmp 1) 3, .binOp .eql 3 (.tmp 0) (.tmp 1) 3, .binOp .neq 3 (.tmp 0) (.tmp 1) 3,
    .binOp .eql 6 (.tmp 6) (.tmp 6) 6, .binOp .add 6 (.tmp 6) (.tmp 6) 6, .binOp .eql 4 (.tmp 2) (.tmp 2) 4, .binOp .eql 8 (.tmp 3) (.tmp 13) 8, .unOp .not 4 (.tmp 2), .unOp .neg 3 (.tmp 0), .nilCheck (.tmp 3), .alloc 7, .box 7 (.tmp 7), .build 7 #[(0, .tmp 1)], .buildSlice 5 2 #[(0, .tmp 0), (1, .tmp 1)], .load 7 (.tmp 3), .load 3 (.tmp 3), .store 3 (.tmp 3) (.tmp 0),
    .fieldAddr 7 (.tmp 3) 1, .field 7 (.tmp 7) 1, .indexAddr 5 (.tmp 4) (.tmp 1), .indexAddr 5 (.tmp 5) (.tmp 0), .index 6 (.tmp 6) (.tmp 0), .slice 6 (.tmp 6) (some (.tmp 0)) none none, .slice 5 (.tmp 4) (some (.tmp 0)) (some (.tmp 1)) none, .slice 5 (.tmp 5) none (some (.tmp 1)) none, .binOp .eql 7 (.tmp 7) (.tmp 7) 7, .binOp .neq 7 (.tmp 7) (.tmp 7) 7, .slice 6 (.tmp 6) (some (.tmp 0)) (some (.tmp 1)) none, .convert 3 3 (.tmp 0), .convert 3 6 (.tmp 0), .makeInterface 3 (.tmp 0), .typeAssert (.tmp 9) 10 3 true, .typeAssert (.tmp 9) 10 7 true, .extract (.tmp 8) 1,
    .range 6 (.tmp 6), .next (.tmp 10) true, .makeFunc (.func 3) #[] #[.tmp 1], .call { callee := .value (.func 3), args := #[.tmp 0], argTypes := #[3] }, .call { callee := .value (.tmp 14), args := #[.tmp 0], argTypes := #[3] }, .call { callee := .builtin .len, args := #[.tmp 4], argTypes := #[5] }, .call { callee := .builtin .len, args := #[.tmp 5], argTypes := #[5] }, .call { callee := .builtin .len, args := #[.tmp 6], argTypes := #[6] },
    .call { callee := .builtin .append, args := #[.tmp 11, .tmp 4], argTypes := #[5, 5] }, .call { callee := .builtin .append, args := #[.tmp 15, .tmp 5], argTypes := #[5, 5] }, .makeSlice 5 (.tmp 0) (.tmp 1), .makeSlice 5 (.tmp 0) (.tmp 0), .call { callee := .builtin .cap, args := #[.tmp 15], argTypes := #[5] }, .convert 17 6 (.tmp 16), .call { callee := .builtin .min, args := #[.tmp 0, .tmp 1], argTypes := #[3, 3] }, .call { callee := .builtin .max, args := #[.tmp 0, .tmp 1], argTypes := #[3, 3] }]) : warmed (all P K x [.move (.tmp 0)]) := by
  revert h
  conv => lhs; cbv
  intro h
  trivial
def codes : Prop := lcode P (fun _ => T0) 0 (.seq (.region 0 #[op (.move (.tmp 0))] false) (.block 3 (.seq (.cond (.tmp 2) .skip (.exit 3)) (.seq (.cond (.const (.bool false)) .skip (.seq (.label 1) (.exit 3))) .ret)))) (S0 x) KE
theorem w3 (h : codes P KE x) : warmed (codes P KE x) := by
  revert h
  conv => lhs; cbv
  intro h
  trivial
def loops : Prop := And (LoopK V 0 KE 1 .normal s) (And (LoopK V 0 KE 1 .ret s) (And (LoopK V 0 KE 1 (.exit 2) s) (And (lcode P (fun _ => T0) 0 (.loop .skip) s KE) (lcode P (fun _ => T0) 0 (.region 0 #[] true) s KE))))
theorem w4 (h : loops P KE V s) : True := by
  revert h
  conv => lhs; cbv
  intro h
  trivial
def bodies : Prop := lbody P (fun _ => T0) (.seq (.region 0 #[⟨some 1, .move (.tmp 0), 3, "", #[], none⟩, ⟨some 0, .move (.tmp 1), 3, "", #[], some (0, true)⟩] false) .ret) [.tmp 1] 2 [.p (.bool true)] [] 0 KL
theorem w5 (h : bodies P KL) : True := by
  revert h
  conv => lhs; cbv
  intro h
  trivial
def names : Prop := And (lvles [(0, 0), (1, 2)] [3] (S0 x).h (S0 x).t (S0 x).t) (And (lhle [(0, 0)] [3] (S0 x).h (S0 x).h) (And (rok 0 3 [] [(0, 0), (1, 2)] = true) (vok 0 3 [1] = true)))
theorem w6 (h : names x) : True := by
  revert h
  conv => lhs; cbv
  intro h
  trivial
end
end Go.LX
