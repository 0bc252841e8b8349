/-
  Law 9, HeapCycles: a whole cycle frees just what cannot be reached, and comes to its end in so many steps.
-/
import Derived.Test.YtgoflehllhccgaaGreatDoorHeapCyclesL

import Derived.Test.YtgoflehllhccgaaGreatDoorRows

import Derived.Test.YtgoflehllhccgaaGreatDoorCards

import Derived.Test.YtgoflehllhccgaaGreatDoorTie

import Derived.Test.YtgoflehllhccgaaGreatDoorBe

import Derived.Test.YtgoflehllhccgaaGreatDoorUr

import Derived.Test.YtgoflehllhccgaaGreatDoorBf

import Derived.Test.YtgoflehllhccgaaGreatDoorLxZ

import Derived.WalkKit

import Derived.ProofKit

import Derived.OpenShut

import Derived.LaidMore

import Derived.MakeChecks

import Derived.Stop.Joined

import Derived.SevenTiedAt

import Derived.Handy

import Derived.Outline

namespace Go.Proofs.YtgoflehllhccgaaGreatDoor.heapCycles

open Go.ChangeShapes Go.WideShapes Go.ChangeAt Go.ChangeMaps Go.RowKit
set_option linter.unusedVariables false

set_option maxHeartbeats 8000000 in
theorem over : Rows.HeapCyclesSaid :=
  OpenClaim.holds_of_wide 3 Tryz.f3 rfl rfl rfl rfl rfl rfl rfl ⟨rfl, rfl, rfl, rfl, rfl⟩ rfl rfl rfl rfl rfl (by as_aux_lemma => kernel_rfl) Tryz.func3 (by unfold joinedFacts; repeat' (with_reducible refine Bool.and_eq_true_iff.2 ⟨?_, ?_⟩); all_goals (as_aux_lemma => kernel_rfl))
    (of_decide_eq_true (by as_aux_lemma => kernel_rfl)) (by unfold Func.isWrapper; first | (rw [if_pos (by decide +kernel)]; kernel_rfl) | (rw [if_neg (by decide +kernel)]; exact ⟨rfl, rfl⟩))
    (fun os started H enc _ => lifted os started H enc)
set_option maxHeartbeats 8000000 in
theorem proved : Rows.HeapCyclesCardSaid :=
  Claim7.holds_tied_plain_at .later [] [.data, .data, .data, .sentinel, .sentinel] true (true, "a66690423bd3a6b9af4221e4c56a9ba33dd0ddf0432e85e9e6c39839489ea357") true
    over (fun _ h => by cases h) (by kernel_rfl) (fun _ h => by cases h) heapCycles_row_tie rfl ⟨rfl, rfl⟩ (by kernel_rfl) rfl
    (fun f fn hf hfn => by
      obtain rfl : f = 3 := Option.some.inj ((show Tryz.prog.funcNamed "dormouse/dormouselaw09.HeapCycles" = some 3 by kernel_rfl).symm.trans hf) |>.symm
      obtain rfl : fn = Tryz.f3 := (Option.some.inj (Tryz.func3.symm.trans hfn)).symm
      exact ⟨by kernel_rfl, fun j t ht => by
        rw [Tryz.params3] at ht
        have hm : t ∈ [3, 22, 23] := by simpa using Array.mem_of_getElem? ht
        have hall : ([3, 22, 23].all fun u => !Tryz.prog.wantsStandIn u) = true := by kernel_rfl
        exact (show Tryz.prog.wantsStandIn t = false by simpa using List.all_eq_true.1 hall t hm)⟩)
    (by kernel_rfl)
#print axioms proved
end Go.Proofs.YtgoflehllhccgaaGreatDoor.heapCycles
