/-
  Law 21, StoreAll: what is wanted together is there together, or not at all.
-/
import Derived.Test.YtpbhcdbkmmjimaaGreatDoorStoreAllL

import Derived.Test.YtpbhcdbkmmjimaaGreatDoorRows

import Derived.Test.YtpbhcdbkmmjimaaGreatDoorCards

import Derived.Test.YtpbhcdbkmmjimaaGreatDoorTie

import Derived.Test.YtpbhcdbkmmjimaaGreatDoorBe

import Derived.Test.YtpbhcdbkmmjimaaGreatDoorVs


import Derived.WalkKit

import Derived.ProofKit

import Derived.OpenShut

import Derived.LaidMore

import Derived.MakeChecks

import Derived.Stop.Joined

import Derived.SevenTiedAt

import Derived.Handy

import Derived.Outline

namespace Go.Proofs.YtpbhcdbkmmjimaaGreatDoor.storeAll

open Go.ChangeShapes Go.WideShapes Go.ChangeAt Go.ChangeMaps Go.RowKit
set_option linter.unusedVariables false

set_option maxHeartbeats 8000000 in
theorem over : Rows.StoreAllSaid :=
  OpenClaim.holds_of_wide 5 Tryz.f5 rfl rfl rfl rfl rfl rfl rfl ⟨rfl, rfl, rfl, rfl, rfl⟩ rfl rfl rfl rfl rfl (by as_aux_lemma => kernel_rfl) Tryz.func5 (by unfold joinedFacts; repeat' (with_reducible refine Bool.and_eq_true_iff.2 ⟨?_, ?_⟩); all_goals (as_aux_lemma => kernel_rfl))
    (of_decide_eq_true (by as_aux_lemma => kernel_rfl)) (by unfold Func.isWrapper; first | (rw [if_pos (by decide +kernel)]; kernel_rfl) | (rw [if_neg (by decide +kernel)]; exact ⟨rfl, rfl⟩))
    (fun os started H enc _ => lifted os started H enc)
set_option maxHeartbeats 8000000 in
theorem proved : Rows.StoreAllCardSaid :=
  Claim7.holds_tied_plain_at .later [] [.data, .data, .data, .sentinel, .sentinel] true (true, "db595cff87dc90c9c6b9da6001a944599e7241cce8bf593329adcd87b8a9d5b9") true
    over (fun _ h => by cases h) (by kernel_rfl) (fun _ h => by cases h) storeAll_row_tie rfl ⟨rfl, rfl⟩ (by kernel_rfl) rfl
    (fun f fn hf hfn => by
      obtain rfl : f = 5 := Option.some.inj ((show Tryz.prog.funcNamed "dormouse/dormouselaw21.StoreAll" = some 5 by kernel_rfl).symm.trans hf) |>.symm
      obtain rfl : fn = Tryz.f5 := (Option.some.inj (Tryz.func5.symm.trans hfn)).symm
      exact ⟨by kernel_rfl, fun j t ht => by
        rw [Tryz.params5] at ht
        have hm : t ∈ [3, 3] := by simpa using Array.mem_of_getElem? ht
        have hall : ([3, 3].all fun u => !Tryz.prog.wantsStandIn u) = true := by kernel_rfl
        exact (show Tryz.prog.wantsStandIn t = false by simpa using List.all_eq_true.1 hall t hm)⟩)
    (by kernel_rfl)
#print axioms proved
end Go.Proofs.YtpbhcdbkmmjimaaGreatDoor.storeAll
