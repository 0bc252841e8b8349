/-
  Law 21, StorePace: a cycle begins when so many words of a hundred are used, and not ahead of that; without one nothing is stepped.
-/
import Derived.Test.YtpbhcdbkmmjimaaGreatDoorStorePaceL

import Derived.Test.YtpbhcdbkmmjimaaGreatDoorRows

import Derived.Test.YtpbhcdbkmmjimaaGreatDoorCards

import Derived.Test.YtpbhcdbkmmjimaaGreatDoorTie

import Derived.Test.YtpbhcdbkmmjimaaGreatDoorBe

import Derived.Test.YtpbhcdbkmmjimaaGreatDoorVz


import Derived.WalkKit

import Derived.ProofKit

import Derived.OpenShut

import Derived.LaidMore

import Derived.MakeChecks

import Derived.Stop.Joined

import Derived.SevenTiedAt

import Derived.Handy

import Derived.Outline

namespace Go.Proofs.YtpbhcdbkmmjimaaGreatDoor.storePace

open Go.ChangeShapes Go.WideShapes Go.ChangeAt Go.ChangeMaps Go.RowKit
set_option linter.unusedVariables false

set_option maxHeartbeats 8000000 in
theorem over : Rows.StorePaceSaid :=
  OpenClaim.holds_of_wide 7 Tryz.f7 rfl rfl rfl rfl rfl rfl rfl ⟨rfl, rfl, rfl, rfl, rfl⟩ rfl rfl rfl rfl rfl (by as_aux_lemma => kernel_rfl) Tryz.func7 (by unfold joinedFacts; repeat' (with_reducible refine Bool.and_eq_true_iff.2 ⟨?_, ?_⟩); all_goals (as_aux_lemma => kernel_rfl))
    (of_decide_eq_true (by as_aux_lemma => kernel_rfl)) (by unfold Func.isWrapper; first | (rw [if_pos (by decide +kernel)]; kernel_rfl) | (rw [if_neg (by decide +kernel)]; exact ⟨rfl, rfl⟩))
    (fun os started H enc _ => lifted os started H enc)
set_option maxHeartbeats 8000000 in
theorem proved : Rows.StorePaceCardSaid :=
  Claim7.holds_tied_plain_at .later [] [.data, .data, .data, .sentinel, .sentinel] true (true, "db595cff87dc90c9c6b9da6001a944599e7241cce8bf593329adcd87b8a9d5b9") true
    over (fun _ h => by cases h) (by kernel_rfl) (fun _ h => by cases h) storePace_row_tie rfl ⟨rfl, rfl⟩ (by kernel_rfl) rfl
    (fun f fn hf hfn => by
      obtain rfl : f = 7 := Option.some.inj ((show Tryz.prog.funcNamed "dormouse/dormouselaw21.StorePace" = some 7 by kernel_rfl).symm.trans hf) |>.symm
      obtain rfl : fn = Tryz.f7 := (Option.some.inj (Tryz.func7.symm.trans hfn)).symm
      exact ⟨by kernel_rfl, fun j t ht => by
        rw [Tryz.params7] at ht
        have hm : t ∈ [3, 3, 3] := by simpa using Array.mem_of_getElem? ht
        have hall : ([3, 3, 3].all fun u => !Tryz.prog.wantsStandIn u) = true := by kernel_rfl
        exact (show Tryz.prog.wantsStandIn t = false by simpa using List.all_eq_true.1 hall t hm)⟩)
    (by kernel_rfl)
#print axioms proved
end Go.Proofs.YtpbhcdbkmmjimaaGreatDoor.storePace
