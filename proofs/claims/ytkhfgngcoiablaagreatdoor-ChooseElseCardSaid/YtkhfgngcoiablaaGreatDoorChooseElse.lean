/-
  Law 18, ChooseElse: an else is picked if nothing is ready, wherever the draw begins; channels that are none are ready at once, the number 0 never.
-/
import Derived.Test.YtkhfgngcoiablaaGreatDoorChooseElseL

import Derived.Test.YtkhfgngcoiablaaGreatDoorRows

import Derived.Test.YtkhfgngcoiablaaGreatDoorCards

import Derived.Test.YtkhfgngcoiablaaGreatDoorTie

import Derived.Test.YtkhfgngcoiablaaGreatDoorBa

import Derived.Test.YtkhfgngcoiablaaGreatDoorMf18

import Derived.Test.YtkhfgngcoiablaaGreatDoorBc

import Derived.WalkKit

import Derived.ProofKit

import Derived.OpenShut

import Derived.LaidMore

import Derived.MakeChecks

import Derived.Stop.Joined

import Derived.SevenTiedAt

import Derived.Handy

import Derived.Outline

namespace Go.Proofs.YtkhfgngcoiablaaGreatDoor.chooseElse

open Go.ChangeShapes Go.WideShapes Go.ChangeAt Go.ChangeMaps Go.RowKit
set_option linter.unusedVariables false

set_option maxHeartbeats 8000000 in
theorem over : Rows.ChooseElseSaid :=
  OpenClaim.holds_of_wide 9 Tryz.f9 rfl rfl rfl rfl rfl rfl rfl ⟨rfl, rfl, rfl, rfl, rfl⟩ rfl rfl rfl rfl rfl (by as_aux_lemma => kernel_rfl) Tryz.func9 (by unfold joinedFacts; repeat' (with_reducible refine Bool.and_eq_true_iff.2 ⟨?_, ?_⟩); all_goals (as_aux_lemma => kernel_rfl))
    (of_decide_eq_true (by as_aux_lemma => kernel_rfl)) (by unfold Func.isWrapper; first | (rw [if_pos (by decide +kernel)]; kernel_rfl) | (rw [if_neg (by decide +kernel)]; exact ⟨rfl, rfl⟩))
    (fun os started H enc _ => lifted os started H enc)
set_option maxHeartbeats 8000000 in
theorem proved : Rows.ChooseElseCardSaid :=
  Claim7.holds_tied_plain_at .later [] [.data, .data, .data] true (true, "f71bb8d7d62ac8b9c7f81f2258b3cedb17b99b6b454bb9c0db63725b95f515da") true
    over (fun _ h => by cases h) (by kernel_rfl) (fun _ h => by cases h) chooseElse_row_tie rfl ⟨rfl, rfl⟩ (by kernel_rfl) rfl
    (fun f fn hf hfn => by
      obtain rfl : f = 9 := Option.some.inj ((show Tryz.prog.funcNamed "dormouse/dormouselaw18.ChooseElse" = some 9 by kernel_rfl).symm.trans hf) |>.symm
      obtain rfl : fn = Tryz.f9 := (Option.some.inj (Tryz.func9.symm.trans hfn)).symm
      exact ⟨by kernel_rfl, fun j t ht => by
        rw [Tryz.params9] at ht
        have hm : t ∈ [3, 3] := by simpa using Array.mem_of_getElem? ht
        have hall : ([3, 3].all fun u => !Tryz.prog.wantsStandIn u) = true := by kernel_rfl
        exact (show Tryz.prog.wantsStandIn t = false by simpa using List.all_eq_true.1 hall t hm)⟩)
    (by kernel_rfl)
#print axioms proved
end Go.Proofs.YtkhfgngcoiablaaGreatDoor.chooseElse
