/-
  Law 22, LiveParts: an object is reached, or lost; of more roots more is reached; what is reached of what is reached is reached; of no heap nothing is reached.
-/
import Derived.Test.YtjfdfbpgckilpaaGreatDoorLivePartsL

import Derived.Test.YtjfdfbpgckilpaaGreatDoorRows

import Derived.Test.YtjfdfbpgckilpaaGreatDoorCards

import Derived.Test.YtjfdfbpgckilpaaGreatDoorTie

import Derived.Test.YtjfdfbpgckilpaaGreatDoorBe

import Derived.Test.YtjfdfbpgckilpaaGreatDoorZn

import Derived.Test.YtjfdfbpgckilpaaGreatDoorBf

import Derived.Test.YtjfdfbpgckilpaaGreatDoorBh

import Derived.WalkKit

import Derived.ProofKit

import Derived.OpenShut

import Derived.LaidMore

import Derived.MakeChecks

import Derived.Stop.Joined

import Derived.SevenTiedAt

import Derived.Handy

import Derived.Outline

namespace Go.Proofs.YtjfdfbpgckilpaaGreatDoor.liveParts

open Go.ChangeShapes Go.WideShapes Go.ChangeAt Go.ChangeMaps Go.RowKit
set_option linter.unusedVariables false

set_option maxHeartbeats 8000000 in
theorem over : Rows.LivePartsSaid :=
  OpenClaim.holds_of_wide 7 Tryz.f7 rfl rfl rfl rfl rfl rfl rfl ⟨rfl, rfl, rfl, rfl, rfl⟩ rfl rfl rfl rfl rfl (by as_aux_lemma => kernel_rfl) Tryz.func7 (by unfold joinedFacts; repeat' (with_reducible refine Bool.and_eq_true_iff.2 ⟨?_, ?_⟩); all_goals (as_aux_lemma => kernel_rfl))
    (of_decide_eq_true (by as_aux_lemma => kernel_rfl)) (by unfold Func.isWrapper; first | (rw [if_pos (by decide +kernel)]; kernel_rfl) | (rw [if_neg (by decide +kernel)]; exact ⟨rfl, rfl⟩))
    (fun os started H enc _ => lifted os started H enc)
set_option maxHeartbeats 8000000 in
theorem proved : Rows.LivePartsCardSaid :=
  Claim7.holds_tied_plain_at .later [] [.data, .data, .data] true (true, "efbee22b1183df83bd73d43f7e27d676ad14c615a5cd1704db1245eb09db0f43") true
    over (fun _ h => by cases h) (by kernel_rfl) (fun _ h => by cases h) liveParts_row_tie rfl ⟨rfl, rfl⟩ (by kernel_rfl) rfl
    (fun f fn hf hfn => by
      obtain rfl : f = 7 := Option.some.inj ((show Tryz.prog.funcNamed "dormouse/dormouselaw22.LiveParts" = some 7 by kernel_rfl).symm.trans hf) |>.symm
      obtain rfl : fn = Tryz.f7 := (Option.some.inj (Tryz.func7.symm.trans hfn)).symm
      exact ⟨by kernel_rfl, fun j t ht => by
        rw [Tryz.params7] at ht
        have hm : t ∈ [83, 31, 31] := by simpa using Array.mem_of_getElem? ht
        have hall : ([83, 31, 31].all fun u => !Tryz.prog.wantsStandIn u) = true := by kernel_rfl
        exact (show Tryz.prog.wantsStandIn t = false by simpa using List.all_eq_true.1 hall t hm)⟩)
    (by kernel_rfl)
#print axioms proved
end Go.Proofs.YtjfdfbpgckilpaaGreatDoor.liveParts
