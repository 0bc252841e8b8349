/-
  Law 15, SendNone: the number 0 is no channel; other numbers, and other things, are none; a closed one refuses; no heap.
-/
import Derived.Test.YtmcljlflcbdpiaaGreatDoorSendNoneL

import Derived.Test.YtmcljlflcbdpiaaGreatDoorRows

import Derived.Test.YtmcljlflcbdpiaaGreatDoorCards

import Derived.Test.YtmcljlflcbdpiaaGreatDoorTie

import Derived.Test.YtmcljlflcbdpiaaGreatDoorBa

import Derived.Test.YtmcljlflcbdpiaaGreatDoorMf15

import Derived.Test.YtmcljlflcbdpiaaGreatDoorBc

import Derived.WalkKit

import Derived.ProofKit

import Derived.OpenShut

import Derived.LaidMore

import Derived.MakeChecks

import Derived.Stop.Joined

import Derived.SevenTiedAt

import Derived.Handy

import Derived.Outline

namespace Go.Proofs.YtmcljlflcbdpiaaGreatDoor.sendNone

open Go.ChangeShapes Go.WideShapes Go.ChangeAt Go.ChangeMaps Go.RowKit
set_option linter.unusedVariables false

set_option maxHeartbeats 8000000 in
theorem over : Rows.SendNoneSaid :=
  OpenClaim.holds_of_wide 5 Tryz.f5 rfl rfl rfl rfl rfl rfl rfl ⟨rfl, rfl, rfl, rfl, rfl⟩ rfl rfl rfl rfl rfl (by as_aux_lemma => kernel_rfl) Tryz.func5 (by unfold joinedFacts; repeat' (with_reducible refine Bool.and_eq_true_iff.2 ⟨?_, ?_⟩); all_goals (as_aux_lemma => kernel_rfl))
    (of_decide_eq_true (by as_aux_lemma => kernel_rfl)) (by unfold Func.isWrapper; first | (rw [if_pos (by decide +kernel)]; kernel_rfl) | (rw [if_neg (by decide +kernel)]; exact ⟨rfl, rfl⟩))
    (fun os started H enc _ => lifted os started H enc)
set_option maxHeartbeats 8000000 in
theorem proved : Rows.SendNoneCardSaid :=
  Claim7.holds_tied_plain_at .later [] [.data, .data, .data] true (true, "a21a85cd621aaa39d08b8e375ae26c572bacf64af59b5423dfe0b84bf9af5962") true
    over (fun _ h => by cases h) (by kernel_rfl) (fun _ h => by cases h) sendNone_row_tie rfl ⟨rfl, rfl⟩ (by kernel_rfl) rfl
    (fun f fn hf hfn => by
      obtain rfl : f = 5 := Option.some.inj ((show Tryz.prog.funcNamed "dormouse/dormouselaw15.SendNone" = some 5 by kernel_rfl).symm.trans hf) |>.symm
      obtain rfl : fn = Tryz.f5 := (Option.some.inj (Tryz.func5.symm.trans hfn)).symm
      exact ⟨by kernel_rfl, fun j t ht => by
        rw [Tryz.params5] at ht
        have hm : t ∈ [3, 3] := by simpa using Array.mem_of_getElem? ht
        have hall : ([3, 3].all fun u => !Tryz.prog.wantsStandIn u) = true := by kernel_rfl
        exact (show Tryz.prog.wantsStandIn t = false by simpa using List.all_eq_true.1 hall t hm)⟩)
    (by kernel_rfl)
#print axioms proved
end Go.Proofs.YtmcljlflcbdpiaaGreatDoor.sendNone
