/-
  Law 12, RingPlays: whatever is put, and taken, while a cycle goes on, or not: each answer, what each channel holds, and all words.
-/
import Derived.Test.YtjfdfbpgckilpaaGreatDoorRingPlaysL

import Derived.Test.YtjfdfbpgckilpaaGreatDoorRows

import Derived.Test.YtjfdfbpgckilpaaGreatDoorCards

import Derived.Test.YtjfdfbpgckilpaaGreatDoorTie

import Derived.Test.YtjfdfbpgckilpaaGreatDoorBa

import Derived.Test.YtjfdfbpgckilpaaGreatDoorUz

import Derived.Test.YtjfdfbpgckilpaaGreatDoorBc

import Derived.Test.YtjfdfbpgckilpaaGreatDoorBd

import Derived.WalkKit

import Derived.ProofKit

import Derived.OpenShut

import Derived.LaidMore

import Derived.MakeChecks

import Derived.Stop.Joined

import Derived.SevenTiedAt

import Derived.Handy

import Derived.Outline

namespace Go.Proofs.YtjfdfbpgckilpaaGreatDoor.ringPlays

open Go.ChangeShapes Go.WideShapes Go.ChangeAt Go.ChangeMaps Go.RowKit
set_option linter.unusedVariables false

set_option maxHeartbeats 8000000 in
theorem over : Rows.RingPlaysSaid :=
  OpenClaim.holds_of_wide 4 Tryz.f4 rfl rfl rfl rfl rfl rfl rfl ⟨rfl, rfl, rfl, rfl, rfl⟩ rfl rfl rfl rfl rfl (by as_aux_lemma => kernel_rfl) Tryz.func4 (by unfold joinedFacts; repeat' (with_reducible refine Bool.and_eq_true_iff.2 ⟨?_, ?_⟩); all_goals (as_aux_lemma => kernel_rfl))
    (of_decide_eq_true (by as_aux_lemma => kernel_rfl)) (by unfold Func.isWrapper; first | (rw [if_pos (by decide +kernel)]; kernel_rfl) | (rw [if_neg (by decide +kernel)]; exact ⟨rfl, rfl⟩))
    (fun os started H enc _ => lifted os started H enc)
set_option maxHeartbeats 8000000 in
theorem proved : Rows.RingPlaysCardSaid :=
  Claim7.holds_tied_plain_at .later [] [.data, .data, .data, .sentinel, .sentinel] true (true, "efbee22b1183df83bd73d43f7e27d676ad14c615a5cd1704db1245eb09db0f43") true
    over (fun _ h => by cases h) (by kernel_rfl) (fun _ h => by cases h) ringPlays_row_tie rfl ⟨rfl, rfl⟩ (by kernel_rfl) rfl
    (fun f fn hf hfn => by
      obtain rfl : f = 4 := Option.some.inj ((show Tryz.prog.funcNamed "dormouse/dormouselaw12.RingPlays" = some 4 by kernel_rfl).symm.trans hf) |>.symm
      obtain rfl : fn = Tryz.f4 := (Option.some.inj (Tryz.func4.symm.trans hfn)).symm
      exact ⟨by kernel_rfl, fun j t ht => by
        rw [Tryz.params4] at ht
        have hm : t ∈ [31, 47] := by simpa using Array.mem_of_getElem? ht
        have hall : ([31, 47].all fun u => !Tryz.prog.wantsStandIn u) = true := by kernel_rfl
        exact (show Tryz.prog.wantsStandIn t = false by simpa using List.all_eq_true.1 hall t hm)⟩)
    (by kernel_rfl)
#print axioms proved
end Go.Proofs.YtjfdfbpgckilpaaGreatDoor.ringPlays
