/-
  Law 11, ViewTells: any thing put, as words, with what is shaded by that; any words laid by hand, as things; at any place.
-/
import Derived.Test.YtolamdalijjlnaaGreatDoorViewTellsL

import Derived.Test.YtolamdalijjlnaaGreatDoorRows

import Derived.Test.YtolamdalijjlnaaGreatDoorCards

import Derived.Test.YtolamdalijjlnaaGreatDoorTie

import Derived.Test.YtolamdalijjlnaaGreatDoorBa

import Derived.Test.YtolamdalijjlnaaGreatDoorYb

import Derived.Test.YtolamdalijjlnaaGreatDoorBg

import Derived.Test.YtolamdalijjlnaaGreatDoorBc

import Derived.WalkKit

import Derived.ProofKit

import Derived.OpenShut

import Derived.LaidMore

import Derived.MakeChecks

import Derived.Stop.Joined

import Derived.SevenTiedAt

import Derived.Handy

import Derived.Outline

namespace Go.Proofs.YtolamdalijjlnaaGreatDoor.viewTells

open Go.ChangeShapes Go.WideShapes Go.ChangeAt Go.ChangeMaps Go.RowKit
set_option linter.unusedVariables false

set_option maxHeartbeats 8000000 in
theorem over : Rows.ViewTellsSaid :=
  OpenClaim.holds_of_wide 6 Tryz.f6 rfl rfl rfl rfl rfl rfl rfl ⟨rfl, rfl, rfl, rfl, rfl⟩ rfl rfl rfl rfl rfl (by as_aux_lemma => kernel_rfl) Tryz.func6 (by as_aux_lemma => kernel_rfl)
    (of_decide_eq_true (by as_aux_lemma => kernel_rfl)) (by unfold Func.isWrapper; first | (rw [if_pos (by decide +kernel)]; kernel_rfl) | (rw [if_neg (by decide +kernel)]; exact ⟨rfl, rfl⟩))
    (fun os started H enc _ => lifted os started H enc)
theorem proved : Rows.ViewTellsCardSaid :=
  Claim7.holds_tied_plain_at .later [] [.data, .data, .data] true (true, "55299c84c474e671852f1972392dd9ec8c98abd325514466e640b5d76de7bb02") true
    over (fun _ h => by cases h) (by kernel_rfl) (fun _ h => by cases h) viewTells_row_tie rfl ⟨rfl, rfl⟩ (by kernel_rfl) rfl
    (fun f fn hf hfn => by
      obtain rfl : f = 6 := Option.some.inj ((show Tryz.prog.funcNamed "dormouse/dormouselaw11.ViewTells" = some 6 by kernel_rfl).symm.trans hf) |>.symm
      obtain rfl : fn = Tryz.f6 := (Option.some.inj (Tryz.func6.symm.trans hfn)).symm
      exact ⟨by kernel_rfl, fun j t ht => by
        rw [Tryz.params6] at ht
        have hm : t ∈ [4, 64, 66, 69, 3, 3, 3] := by simpa using Array.mem_of_getElem? ht
        have hall : ([4, 64, 66, 69, 3, 3, 3].all fun u => !Tryz.prog.wantsStandIn u) = true := by kernel_rfl
        exact (show Tryz.prog.wantsStandIn t = false by simpa using List.all_eq_true.1 hall t hm)⟩)
    (by kernel_rfl)
#print axioms proved
end Go.Proofs.YtolamdalijjlnaaGreatDoor.viewTells
