/-
  Law 9, HeapFinals: boxes whose finalisers are due are kept, each told once, with all that they lead to; behind that they are as others.
-/
import Derived.Test.YtjfdfbpgckilpaaGreatDoorHeapFinalsL

import Derived.Test.YtjfdfbpgckilpaaGreatDoorRows

import Derived.Test.YtjfdfbpgckilpaaGreatDoorCards

import Derived.Test.YtjfdfbpgckilpaaGreatDoorTie

import Derived.Test.YtjfdfbpgckilpaaGreatDoorBe

import Derived.Test.YtjfdfbpgckilpaaGreatDoorZt

import Derived.Test.YtjfdfbpgckilpaaGreatDoorBf

import Derived.Deep.Slices

import Derived.WalkKit

import Derived.ProofKit

import Derived.OpenShut

import Derived.LaidMore

import Derived.MakeChecks

import Derived.Stop.Joined

import Derived.SevenTiedAt

import Derived.Handy

import Derived.Outline

namespace Go.Proofs.YtjfdfbpgckilpaaGreatDoor.heapFinals

open Go.ChangeShapes Go.WideShapes Go.ChangeAt Go.ChangeMaps Go.RowKit
set_option linter.unusedVariables false

set_option maxHeartbeats 8000000 in
theorem over : Rows.HeapFinalsSaid :=
  OpenClaim.holds_of_wide 3 Tryz.f3 rfl rfl rfl rfl rfl rfl rfl ⟨rfl, rfl, rfl, rfl, rfl⟩ rfl rfl rfl rfl rfl (by as_aux_lemma => kernel_rfl) Tryz.func3 (by unfold joinedFacts; repeat' (with_reducible refine Bool.and_eq_true_iff.2 ⟨?_, ?_⟩); all_goals (as_aux_lemma => kernel_rfl))
    (of_decide_eq_true (by as_aux_lemma => kernel_rfl)) (by unfold Func.isWrapper; first | (rw [if_pos (by decide +kernel)]; kernel_rfl) | (rw [if_neg (by decide +kernel)]; exact ⟨rfl, rfl⟩))
    (fun os started H enc _ => lifted os started H enc)
set_option maxHeartbeats 8000000 in
theorem proved : Rows.HeapFinalsCardSaid :=
  Claim7.holds_tied_plain_at .later [] [.data, .data, .data, .sentinel, .sentinel] true (true, "efbee22b1183df83bd73d43f7e27d676ad14c615a5cd1704db1245eb09db0f43") true
    over (fun _ h => by cases h) (by kernel_rfl) (fun _ h => by cases h) heapFinals_row_tie rfl ⟨rfl, rfl⟩ (by kernel_rfl) rfl
    (fun f fn hf hfn => by
      obtain rfl : f = 3 := Option.some.inj ((show Tryz.prog.funcNamed "dormouse/dormouselaw09.HeapFinals" = some 3 by kernel_rfl).symm.trans hf) |>.symm
      obtain rfl : fn = Tryz.f3 := (Option.some.inj (Tryz.func3.symm.trans hfn)).symm
      exact ⟨by kernel_rfl, fun j t ht => by
        rw [Tryz.params3] at ht
        have hm : t ∈ [3, 22] := by simpa using Array.mem_of_getElem? ht
        have hall : ([3, 22].all fun u => !Tryz.prog.wantsStandIn u) = true := by kernel_rfl
        exact (show Tryz.prog.wantsStandIn t = false by simpa using List.all_eq_true.1 hall t hm)⟩)
    (by kernel_rfl)
#print axioms proved
end Go.Proofs.YtjfdfbpgckilpaaGreatDoor.heapFinals
