/-
  Layer 9: HeapPlays' parts.
-/
import Derived.Test.YtjfdfbpgckilpaaGreatDoorIb
namespace Go.Proofs.YtjfdfbpgckilpaaGreatDoor
open Go Go.LX
set_option maxRecDepth 100000
set_option linter.unusedVariables false
set_option linter.unusedSimpArgs false
set_option maxHeartbeats 32000000
theorem rPtr_lx (a : Int) (ha : -1000000 ≤ a ∧ a ≤ 1000000) : CallF (fun _ => Tryz.prog) 15 [i6 a] [] 0 (fun r h n => ∃ x : Int,r = .p (.int .i64 (.sym x)) ∧ h = [] ∧ n = 0 ∧ x = a * 2 + 1) := by
 refine callF_of_body tok Tryz.func15 (by kernel_rfl) rfl rfl rfl ?_; conv => cbv
 refine Fit.mk (by show (-9223372036854775808 : Int) ≤ a * 2; omega) (by show a * 2 ≤ 9223372036854775807; omega) fun x hx => ?_
 have hx : x = a * 2 := hx
 conv => cbv
 refine Fit.mk (by show (-9223372036854775808 : Int) ≤ x + 1; omega) (by show x + 1 ≤ 9223372036854775807; omega) fun y hy => ?_
 have hy : y = x + 1 := hy
 conv => cbv
 refine RetF.mk [i6 y] [] 0 (Re.at [] []) rfl ⟨y,rfl,rfl,rfl,by omega⟩
theorem rInt_lx (a : Int) (ha : -1000000 ≤ a ∧ a ≤ 1000000) : CallF (fun _ => Tryz.prog) 16 [i6 a] [] 0 (fun r h n => ∃ x : Int,r = .p (.int .i64 (.sym x)) ∧ h = [] ∧ n = 0 ∧ x = a * 2) := by
 refine callF_of_body tok Tryz.func16 (by kernel_rfl) rfl rfl rfl ?_; conv => cbv
 refine Fit.mk (by show (-9223372036854775808 : Int) ≤ a * 2; omega) (by show a * 2 ≤ 9223372036854775807; omega) fun x hx => ?_
 have hx : x = a * 2 := hx
 conv => cbv
 refine RetF.mk [i6 x] [] 0 (Re.at [] []) rfl ⟨x,rfl,rfl,rfl,hx⟩
def sizeF (k : Int) : Int := if k = 1 then 9 else if k = 2 then 3 else if k = 3 then 7 else if k = 4 then 10 else 2
end Go.Proofs.YtjfdfbpgckilpaaGreatDoor
