/-
  strconv.Itoa, strconv.Atoi and strings.TrimSuffix, by the library's contracts, in the calculus.
-/
import Derived.Test.YtllafhhnciobhaaGreatDoorLxFrame
import Derived.Test.YtllafhhnciobhaaGreatDoorTab

import Derived.Test.YtllafhhnciobhaaGreatDoorShelf

import Derived.Lib.AtoiErrMem

import Derived.Lib.LaidTab

namespace Go.Proofs.YtllafhhnciobhaaGreatDoor

open Go Go.LX
set_option maxRecDepth 100000
set_option linter.unusedVariables false

/-- The table of the powers of ten, as it is laid. -/
def IsPow (o : Unit → Obj) : Prop := ∃ t fr, o () = .cells (Lib.pow10Tab.map fun z => Value.int .u64 z).toArray t fr
theorem one_arg {c : Ctx} {w : World} {u : LV} {xs : Array Value} (hl : [u].length = xs.size) (hrel : ∀ (i : Nat) (v : LV), [u][i]? = some v → LR c w v (xs.getD i Go.undef)) : ∃ x, xs = #[x] ∧ LR c w u x := by
  have h0 := hrel 0 u rfl
  rcases xs with ⟨l⟩
  match l, hl with
  | [x], _ => exact ⟨x, rfl, h0⟩
theorem two_args {c : Ctx} {w : World} {u v : LV} {xs : Array Value} (hl : [u, v].length = xs.size) (hrel : ∀ (i : Nat) (z : LV), [u, v][i]? = some z → LR c w z (xs.getD i Go.undef)) : ∃ x y, xs = #[x, y] ∧ LR c w u x ∧ LR c w v y := by
  have h0 := hrel 0 u rfl
  have h1 := hrel 1 v rfl
  rcases xs with ⟨l⟩
  match l, hl with
  | [x, y], _ => exact ⟨x, y, rfl, h0, h1⟩
theorem grow_below (w : World) (k : Nat) (os : Array Obj) : RowKit.Below w.heap.size w (Go.Sort.grow (w.drewN k) os) := by
  refine ⟨rfl, rfl, rfl, by simp [Go.Sort.grow], fun i hi => ?_⟩
  show (w.heap ++ os)[i]? = w.heap[i]?
  rw [Array.getElem?_append_left hi]
theorem itoa_lx (n : Int) (h0 : -9223372036854775808 ≤ n) (h1 : n ≤ 9223372036854775807) (o : Unit → Obj) (ho : IsPow o) :
    CallF (fun _ => Tryz.prog) 94 [.p (.int .i64 (.sym n))] [(0, .fix 0 o)] 1 (fun r h n' => (∃ z : ByteArray, r = .p (.str fun _ => z) ∧ z = ⟨(Lib.itoa n).toArray⟩) ∧ h = [(0, .fix 0 o)] ∧ n' = 1) := by
  refine callF_calls (K := fun r => ∃ z : ByteArray, r = .p (.str fun _ => z) ∧ z = ⟨(Lib.itoa n).toArray⟩) ⟨_, _, Tryz.func94, by kernel_rfl, rfl⟩ fun c w xs hr hN hl hrel => ?_
  obtain ⟨x, rfl, hx⟩ := one_arg hl hrel
  have hx : x = .int .i64 n := hx.inv_int
  subst hx
  obtain ⟨m, hm, hB⟩ := hr.live 0 _ rfl
  cases m with
  | some r => exact hB.elim
  | none =>
    obtain ⟨hheap, _⟩ := hB
    obtain ⟨t, fr, hot⟩ := ho
    have htab : Lib.TabIs Tryz.prog w "internal/strconv.uint64pow10" .u64 Lib.pow10Tab := by
      have hg : Tryz.prog.globalNamed "internal/strconv.uint64pow10" = some 0 := by kernel_rfl
      unfold Lib.TabIs World.var?
      rw [hg]
      simp only [Option.bind_some, hheap, hot]
    refine (Tryz.strconv_Itoa n h0 h1 w htab).mono fun e w' ⟨he, k, os, hw⟩ => ?_
    subst hw
    exact ⟨_, _, he, ⟨_, rfl, rfl⟩, grow_below w k os, fun c' => .p _ _ (.str _)⟩
theorem atoi_lx (z : ByteArray) (v : Int) (hz : z.size ≤ 9223372036854775806) (hv : Lib.atoiAll z.data.toList = .ok v) :
    CallF (fun _ => Tryz.prog) 115 [.p (.str fun _ => z)] [] 0 (fun r h n' => r = .tup [.p (.int .i64 (.sym v)), .p .nilif] ∧ h = [] ∧ n' = 0) := by
  refine callF_calls (K := fun r => r = .tup [.p (.int .i64 (.sym v)), .p .nilif]) ⟨_, _, Tryz.func115, by kernel_rfl, rfl⟩ fun c w xs hr hN hl hrel => ?_
  obtain ⟨x, rfl, hx⟩ := one_arg hl hrel
  have hx : x = .string z := hx.inv_str
  subst hx
  refine (Tryz.strconv_Atoi_ok z hz v hv w).mono fun e w' ⟨he, hw⟩ => ?_
  refine ⟨_, _, he, rfl, ?_, fun c' => .tup _ _ rfl fun j u hj => ?_⟩
  · rcases hw with rfl | ⟨t, rfl⟩
    · exact RowKit.Below.refl _ _
    · exact Lib.bytesWorld_below w _ t
  · rcases j with _ | _ | j
    · simp at hj; subst hj; exact .p _ _ (.int _ _ _ rfl)
    · simp at hj; subst hj; exact .p _ _ .nilif
    · simp at hj
theorem trimSuffix_lx (z p : ByteArray) (hz : z.size ≤ 9223372036854775807) :
    CallF (fun _ => Tryz.prog) 121 [.p (.str fun _ => z), .p (.str fun _ => p)] [] 0 (fun r h n' => (∃ y : ByteArray, r = .p (.str fun _ => y) ∧ y = ⟨(Lib.trimSuffix z.data.toList p.data.toList).toArray⟩) ∧ h = [] ∧ n' = 0) := by
  refine callF_calls (K := fun r => ∃ y : ByteArray, r = .p (.str fun _ => y) ∧ y = ⟨(Lib.trimSuffix z.data.toList p.data.toList).toArray⟩) ⟨_, _, Tryz.func121, by kernel_rfl, rfl⟩ fun c w xs hr hN hl hrel => ?_
  obtain ⟨x, y, rfl, hx, hy⟩ := two_args hl hrel
  have hx : x = .string z := hx.inv_str
  have hy : y = .string p := hy.inv_str
  subst hx hy
  refine (Tryz.strings_TrimSuffix z p w hz).mono fun e w' ⟨he, hw⟩ => ?_
  subst hw
  exact ⟨_, _, he, ⟨_, rfl, rfl⟩, RowKit.Below.refl _ _, fun c' => .p _ _ (.str _)⟩
end Go.Proofs.YtllafhhnciobhaaGreatDoor
