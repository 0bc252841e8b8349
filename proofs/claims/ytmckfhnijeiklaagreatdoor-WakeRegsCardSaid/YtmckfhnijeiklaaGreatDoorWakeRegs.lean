/-
  Law 14, WakeRegs: the register that is told gets the word, and no other one; one that there is not, none; who is woken is shaded while it is Mark.
-/
import Derived.Test.YtmckfhnijeiklaaGreatDoorWakeRegsL

import Derived.Test.YtmckfhnijeiklaaGreatDoorRows

import Derived.Test.YtmckfhnijeiklaaGreatDoorCards

import Derived.Test.YtmckfhnijeiklaaGreatDoorTie

import Derived.Test.YtmckfhnijeiklaaGreatDoorBa

import Derived.Test.YtmckfhnijeiklaaGreatDoorMk14

import Derived.Test.YtmckfhnijeiklaaGreatDoorBc

import Derived.WalkKit

import Derived.ProofKit

import Derived.OpenShut

import Derived.LaidMore

import Derived.MakeChecks

import Derived.Stop.Joined

import Derived.SevenTiedAt

import Derived.Handy

import Derived.Outline

namespace Go.Proofs.YtmckfhnijeiklaaGreatDoor.wakeRegs

open Go.ChangeShapes Go.WideShapes Go.ChangeAt Go.ChangeMaps Go.RowKit
set_option linter.unusedVariables false

set_option maxHeartbeats 8000000 in
theorem over : Rows.WakeRegsSaid :=
  OpenClaim.holds_of_wide 4 Tryz.f4 rfl rfl rfl rfl rfl rfl rfl ⟨rfl, rfl, rfl, rfl, rfl⟩ rfl rfl rfl rfl rfl (by as_aux_lemma => kernel_rfl) Tryz.func4 (by unfold joinedFacts; repeat' (with_reducible refine Bool.and_eq_true_iff.2 ⟨?_, ?_⟩); all_goals (as_aux_lemma => kernel_rfl))
    (of_decide_eq_true (by as_aux_lemma => kernel_rfl)) (by unfold Func.isWrapper; first | (rw [if_pos (by decide +kernel)]; kernel_rfl) | (rw [if_neg (by decide +kernel)]; exact ⟨rfl, rfl⟩))
    (fun os started H enc _ => lifted os started H enc)
set_option maxHeartbeats 8000000 in
theorem proved : Rows.WakeRegsCardSaid :=
  Claim7.holds_tied_plain_at .later [] [.data, .data, .data] true (true, "ec0100f5ddb1700eb2fc85da3116f18d126094ff96cc177000e7952357c76616") true
    over (fun _ h => by cases h) (by kernel_rfl) (fun _ h => by cases h) wakeRegs_row_tie rfl ⟨rfl, rfl⟩ (by kernel_rfl) rfl
    (fun f fn hf hfn => by
      obtain rfl : f = 4 := Option.some.inj ((show Tryz.prog.funcNamed "dormouse/dormouselaw14.WakeRegs" = some 4 by kernel_rfl).symm.trans hf) |>.symm
      obtain rfl : fn = Tryz.f4 := (Option.some.inj (Tryz.func4.symm.trans hfn)).symm
      exact ⟨by kernel_rfl, fun j t ht => by
        rw [Tryz.params4] at ht
        have hm : t ∈ [3, 3, 3, 4] := by simpa using Array.mem_of_getElem? ht
        have hall : ([3, 3, 3, 4].all fun u => !Tryz.prog.wantsStandIn u) = true := by kernel_rfl
        exact (show Tryz.prog.wantsStandIn t = false by simpa using List.all_eq_true.1 hall t hm)⟩)
    (by kernel_rfl)
#print axioms proved
end Go.Proofs.YtmckfhnijeiklaaGreatDoor.wakeRegs
