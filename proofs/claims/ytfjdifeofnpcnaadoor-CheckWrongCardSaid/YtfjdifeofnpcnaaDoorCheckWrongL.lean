/-
  Law 3, CheckWrong: one thing that may not be is told, by its place, for its own reason.
-/
import Derived.Test.YtfjdifeofnpcnaaDoorRows

import Derived.Test.YtfjdifeofnpcnaaDoorCards

import Derived.Test.YtfjdifeofnpcnaaDoorTie

import Derived.Test.YtfjdifeofnpcnaaDoorBf

import Derived.Test.YtfjdifeofnpcnaaDoorUn

import Derived.Test.YtfjdifeofnpcnaaDoorLxI


import Derived.WalkKit

import Derived.ProofKit

import Derived.OpenShut

import Derived.LaidMore

import Derived.MakeChecks

import Derived.Stop.Joined

import Derived.SevenTiedAt

import Derived.Handy

import Derived.Outline

namespace Go.Proofs.YtfjdifeofnpcnaaDoor.checkWrong

open Go.ChangeShapes Go.WideShapes Go.ChangeAt Go.ChangeMaps Go.RowKit
set_option linter.unusedVariables false

theorem own : ownKnob Tryd.prog.godebug = none := by kernel_rfl

theorem of_laid {W : World} (h : laidMetH Tryd.prog Rows.checkWrongRow.laid W) : ∃ o : Unit → Obj, W.heap[0]? = some (o ()) ∧ IsPow o := by
  rw [MakeChecks.laidMetH_plain _ _ _ (by kernel_rfl)] at h
  obtain ⟨ps, ⟨_, _, _, _, _, _, _, _, _, _, ⟨_, _, _, _, _, _, _, _, _, _, ⟨g, t, cs, fuel, p, q, hg, ht, hvar, hd, _, _⟩, _⟩, _⟩, _⟩ := h
  have hg2 : Tryd.prog.globalNamed "internal/strconv.uint64pow10" = some 0 := by kernel_rfl
  have hg : Tryd.prog.globalNamed "internal/strconv.uint64pow10" = some g := hg
  obtain rfl := Option.some.inj (hg2.symm.trans hg)
  have ht : (Tryd.prog.globals[0]?).map (·.type) = some t := ht
  have ht2 : (Tryd.prog.globals[0]?).map (·.type) = some 119 := by kernel_rfl
  obtain rfl := Option.some.inj (ht2.symm.trans ht)
  have e : (Rows.laid_internal_strconv_uint64pow10 : DataW Unit) = Lib.tabData .u64 Lib.pow10Tab := by kernel_rfl
  rw [e] at hd
  have hcs := Lib.cells_of_tab (n := 20) Tryd.underlying119 Tryd.underlying113 (by kernel_rfl) (by kernel_rfl) hd
  have hvar : W.var? Tryd.prog "internal/strconv.uint64pow10" = some cs := hvar
  unfold World.var? at hvar
  rw [hg2] at hvar
  simp only [Option.bind_some] at hvar
  split at hvar
  · rename_i cs' ty fr hh
    cases hvar
    refine ⟨fun _ => .cells cs ty fr, hh, ty, fr, ?_⟩
    show Obj.cells cs ty fr = _
    rw [← hcs, Array.toArray_toList]
  · cases hvar
theorem laid_of {k : Nat} {w : World} {u : LX.PV} {v : Value} (h : LX.LR LX.Ctx.empty w (.p u) v) : LX.LR (LX.Ctx.laid k) w (.p u) v := by
  cases h with
  | p _ _ hp => exact .p _ _ (hp.anti fun r h => (LX.laid_mut _ _ h).elim)
theorem walk (w : World) (hL : laidMetH Tryd.prog Rows.checkWrongRow.laid w) (v0 : Value) (a0 : List Is) (x0 : List Value) (w0 : Sl w w.heap.size 5 v0 a0.length x0) (b0 : IsAt w a0 x0) (a1 : Int) (w1 : (Lit.int .i64 a1).wf = true) (a2 : Int) (w2 : (Lit.int .i64 a2).wf = true) :
    Calls Tryd.prog 8 #[v0, .int .i64 a1, .int .i64 a2] w fun e w' => e = .returned (.bool true) ∧ Below w.heap.size w w' := by
  obtain ⟨o, ho, hp⟩ := of_laid hL
  refine LX.law_laid [(0, o)] (checkWrong_lx a0 a1 a2 a0.length (isV a0) o hp rfl rfl (fun x hx => b0.ok x hx) w0.max) (fun g o' h => ?_) (LX.Rel2.cons (laid_of (vsl_instrs w0 b0 rfl rfl)) (LX.Rel2.cons (LX.LR.of_int _ _) (LX.Rel2.cons (LX.LR.of_int _ _) LX.Rel2.nil)))
  cases List.mem_singleton.1 h
  exact ho

theorem door_met (os : Os) (args : Array Value) : laidMetH Tryd.prog Rows.checkWrongRow.laid ((World.doorLaid Tryd.prog 24 os).forCall (fun _ _ => 0) ⟨#[], args, []⟩).memory :=
  laidMetH_of_parts3 (fuel := 8) (laidMet_of_run' 8 (by kernel_rfl) (by kernel_rfl)) (by kernel_rfl) (by kernel_rfl)
set_option maxRecDepth 100000 in
theorem lifted (os : Os) (started : os.Started) (H : Type) (enc : TypeId × Value → H) :
    ReturnsInHanded {} Tryd.checked os 8 .any (fun w args => (Rows.checkWrongSpec.pre enc Tryd.prog Tryd.f8 [] false w args ∧ laidMetH Tryd.prog Rows.checkWrongRow.laid w) ∧ sizedMet enc Tryd.prog Tryd.f8 (OpenSpec.ofChange Rows.checkWrongSpec) false w args)
      (Rows.checkWrongSpec.post enc Tryd.prog Tryd.f8 false true false false) := by
  refine returnsInHanded_of_change_and (C := Tryd.checked) (X := fun w _ => laidMetH Tryd.prog Rows.checkWrongRow.laid w) (fun _ _ _ hh h => h.of_heap hh) own started (by kernel_rfl) Tryd.func8
    (ChangeSpec.witness_shaped (enc := enc) (C := Tryd.checked) (os := os) (X := fun w _ => laidMetH Tryd.prog Rows.checkWrongRow.laid w) false (World.doorLaid Tryd.prog 24 os) #[.slice none 0 0, .int .i64 0, .int .i64 0] 8 rfl (World.shaped_of_RefB (by kernel_rfl) (by kernel_rfl)) (by kernel_rfl) (by kernel_rfl) (by kernel_rfl) (door_met os _)) ?_
  intro W base args ds gs before hval0 hW _ _ hL _
  have hval : ∀ (j : Nat) t v, Tryd.f8.params[j]? = some t → args[j]? = some v → Value.okWide Tryd.prog W .any base t v := hval0
  have hW' := hW
  obtain ⟨p, q, hA0, hV, rfl, hfz, hnd⟩ := hW
  have hA : DataW.TrodAll enc Tryd.prog W 0 (fun _ => true) true Tryd.f8.params.toList args.toList ds p := hA0
  rw [Tryd.params8] at hA hval
  obtain ⟨v0, vs0, d0, ds0, p0, q0, hargs, rfl, rfl, h0, r0⟩ := trodAll_cons hA
  obtain ⟨v1, vs1, d1, ds1, p1, q1, rfl, rfl, rfl, h1, r1⟩ := trodAll_cons r0
  obtain ⟨v2, vs2, d2, ds2, p2, q2, rfl, rfl, rfl, h2, r2⟩ := trodAll_cons r1
  obtain ⟨rfl, rfl, rfl⟩ := trodAll_nil r2
  obtain rfl : args = #[v0, v1, v2] := by cases args; simp_all
  obtain ⟨rfl, rfl⟩ := trodVars_none hV
  obtain ⟨a0, x0, w0, b0⟩ := open_instrs Tryd.underlying22 (by kernel_rfl) (hval 0 22 v0 rfl rfl) h0
  obtain ⟨a1, rfl, rfl, rfl, w1⟩ := open_int Tryd.underlying3 (hval 1 3 v1 rfl rfl) h1
  obtain ⟨a2, rfl, rfl, rfl, w2⟩ := open_int Tryd.underlying3 (hval 2 3 v2 rfl rfl) h2
  clear hA0 hval0
  simp only [List.append_nil] at hW'
  refine (walk W hL v0 a0 x0 w0 b0 a1 w1 a2 w2).mono fun e W' ⟨he, hg⟩ => ?_
  subst he
  have hlaid : laidOutB Tryd.prog = true := by kernel_rfl
  have hlt := hW'.lt
  exact ⟨_, rfl, law_post (pa := p0 ++ ([] ++ ([] ++ ([])))) (pv := []) hW' (fun _ _ _ => (trodAll_cons_mk (shut_bool Tryd.underlying4 _) trodAll_mk0)) (fun sp hsp => (trodAll_cons_mk (WideElems.Trod_stays hlaid (by kernel_rfl) (of_decide_eq_true (by kernel_rfl)) h0 (fun x hx => hg.same (hlt x (by simp [hx]))) (fun x hx => hsp x (by simp [hx]))) (trodAll_cons_mk (shut_int Tryd.underlying3 w1) (trodAll_cons_mk (shut_int Tryd.underlying3 w2) trodAll_mk0)))) (fun _ _ => rfl) (by simp)
    hg (ok_one (by kernel_rfl) rfl (okWide_bool_mk Tryd.underlying4 _))⟩

end Go.Proofs.YtfjdifeofnpcnaaDoor.checkWrong
