/-
  Law 11, ViewBack: what is put is seen; and put again turns nothing, nor shades.
-/
import Derived.Test.YtolamdalijjlnaaGreatDoorRows

import Derived.Test.YtolamdalijjlnaaGreatDoorCards

import Derived.Test.YtolamdalijjlnaaGreatDoorTie

import Derived.Test.YtolamdalijjlnaaGreatDoorBa

import Derived.Test.YtolamdalijjlnaaGreatDoorWy

import Derived.Test.YtolamdalijjlnaaGreatDoorBg

import Derived.Test.YtolamdalijjlnaaGreatDoorBc

import Derived.WalkKit

import Derived.ProofKit

import Derived.OpenShut

import Derived.LaidMore

import Derived.MakeChecks

import Derived.Stop.Joined

import Derived.SevenTiedAt

import Derived.Handy

import Derived.Outline

namespace Go.Proofs.YtolamdalijjlnaaGreatDoor.viewBack

open Go.ChangeShapes Go.WideShapes Go.ChangeAt Go.ChangeMaps Go.RowKit
set_option linter.unusedVariables false

theorem own : ownKnob Tryz.prog.godebug = none := by kernel_rfl

theorem i64_of {a : Int} (h : (Lit.int .i64 a).wf = true) : -9223372036854775808 ≤ a ∧ a ≤ 9223372036854775807 := by
  simpa [Lit.wf, IntKind.min, IntKind.max, IntKind.signed, IntKind.bits] using h
theorem of_laid {W : World} (h : laidMetH Tryz.prog Rows.viewBackRow.laid W) : ∃ o : Unit → Obj, W.heap[0]? = some (o ()) ∧ IsPow o := by
  rw [MakeChecks.laidMetH_plain _ _ _ (by kernel_rfl)] at h
  obtain ⟨ps, ⟨_, _, _, _, _, _, _, _, _, _, ⟨_, _, _, _, _, _, _, _, _, _, ⟨g, t, cs, fuel, p, q, hg, ht, hvar, hd, _, _⟩, _⟩, _⟩, _⟩ := h
  have hg2 : Tryz.prog.globalNamed "internal/strconv.uint64pow10" = some 0 := by kernel_rfl
  have hg : Tryz.prog.globalNamed "internal/strconv.uint64pow10" = some g := hg
  obtain rfl := Option.some.inj (hg2.symm.trans hg)
  have ht : (Tryz.prog.globals[0]?).map (·.type) = some t := ht
  have ht2 : (Tryz.prog.globals[0]?).map (·.type) = some 245 := by kernel_rfl
  obtain rfl := Option.some.inj (ht2.symm.trans ht)
  have e : (Rows.laid_internal_strconv_uint64pow10 : DataW Unit) = Lib.tabData .u64 Lib.pow10Tab := by kernel_rfl
  rw [e] at hd
  have hcs := Lib.cells_of_tab (n := 20) Tryz.underlying245 Tryz.underlying226 (by kernel_rfl) (by kernel_rfl) hd
  have hvar : W.var? Tryz.prog "internal/strconv.uint64pow10" = some cs := hvar
  unfold World.var? at hvar
  rw [hg2] at hvar
  simp only [Option.bind_some] at hvar
  split at hvar
  · rename_i cs' ty fr hh
    cases hvar
    refine ⟨fun _ => .cells cs ty fr, hh, ty, fr, ?_⟩
    show Obj.cells cs ty fr = _
    rw [← hcs, Array.toArray_toList]
  · cases hvar
theorem laid_of {k : Nat} {w : World} {u : LX.PV} {v : Value} (h : LX.LR LX.Ctx.empty w (.p u) v) : LX.LR (LX.Ctx.laid k) w (.p u) v := by
  cases h with
  | p _ _ hp => exact .p _ _ (hp.anti fun r h => (LX.laid_mut _ _ h).elim)
theorem walk (w : World) (hL : laidMetH Tryz.prog Rows.viewBackRow.laid w) (a0 : List Int) (l0 : a0.length = 9) (w0 : ∀ n ∈ a0, (Lit.int .i64 n).wf = true) (a1 : List Int) (l1 : a1.length = 7) (w1 : ∀ n ∈ a1, (Lit.int .i64 n).wf = true) (a2 : List Int) (l2 : a2.length = 10) (w2 : ∀ n ∈ a2, (Lit.int .i64 n).wf = true) :
    Calls Tryz.prog 7 #[.agg (a0.map (fun n => Value.int .i64 n)).toArray, .agg (a1.map (fun n => Value.int .i64 n)).toArray, .agg (a2.map (fun n => Value.int .i64 n)).toArray] w fun e w' => e = .returned (.bool true) ∧ Below w.heap.size w w' := by
  obtain ⟨o, ho, hp⟩ := of_laid hL
  obtain ⟨c0, c1, c2, c3, c4, c5, c6, c7, c8, rfl⟩ : ∃ c0 c1 c2 c3 c4 c5 c6 c7 c8, a0 = [c0, c1, c2, c3, c4, c5, c6, c7, c8] := by match a0, l0 with | [c0, c1, c2, c3, c4, c5, c6, c7, c8], _ => exact ⟨c0, c1, c2, c3, c4, c5, c6, c7, c8, rfl⟩
  obtain ⟨s0, s1, s2, s3, s4, s5, s6, rfl⟩ : ∃ s0 s1 s2 s3 s4 s5 s6, a1 = [s0, s1, s2, s3, s4, s5, s6] := by match a1, l1 with | [s0, s1, s2, s3, s4, s5, s6], _ => exact ⟨s0, s1, s2, s3, s4, s5, s6, rfl⟩
  obtain ⟨g0, g1, g2, g3, g4, g5, g6, g7, g8, g9, rfl⟩ : ∃ g0 g1 g2 g3 g4 g5 g6 g7 g8 g9, a2 = [g0, g1, g2, g3, g4, g5, g6, g7, g8, g9] := by match a2, l2 with | [g0, g1, g2, g3, g4, g5, g6, g7, g8, g9], _ => exact ⟨g0, g1, g2, g3, g4, g5, g6, g7, g8, g9, rfl⟩
  have hw : ∀ x ∈ [s2, g3, g4, g5, g6, g7, g8], -9223372036854775808 ≤ x ∧ x ≤ 9223372036854775807 := by
    simp only [List.forall_mem_cons]
    exact ⟨i64_of (w1 s2 (by simp)), i64_of (w2 g3 (by simp)), i64_of (w2 g4 (by simp)), i64_of (w2 g5 (by simp)), i64_of (w2 g6 (by simp)), i64_of (w2 g7 (by simp)), i64_of (w2 g8 (by simp)), fun x hx => by cases hx⟩
  refine LX.law_laid [(0, o)] (viewBack_law o hp c0 c1 c2 c3 c4 c5 c6 c7 c8 s0 s1 s2 s3 s4 s5 s6 g0 g1 g2 g3 g4 g5 g6 g7 g8 g9 hw) (fun g o' h => ?_) (LX.Rel2.cons (LR.nums [c0, c1, c2, c3, c4, c5, c6, c7, c8]) (LX.Rel2.cons (LR.nums [s0, s1, s2, s3, s4, s5, s6]) (LX.Rel2.cons (LR.nums [g0, g1, g2, g3, g4, g5, g6, g7, g8, g9]) LX.Rel2.nil)))
  cases List.mem_singleton.1 h
  exact ho

theorem door_met (os : Os) (args : Array Value) : laidMetH Tryz.prog Rows.viewBackRow.laid ((World.doorLaid Tryz.prog 62 os).forCall (fun _ _ => 0) ⟨#[], args, []⟩).memory :=
  laidMetH_of_parts3 (fuel := 8) (laidMet_of_run' 8 (by kernel_rfl) (by kernel_rfl)) (by kernel_rfl) (by kernel_rfl)
set_option maxRecDepth 100000 in
theorem lifted (os : Os) (started : os.Started) (H : Type) (enc : TypeId × Value → H) :
    ReturnsInHanded {} Tryz.checked os 7 .any (fun w args => (Rows.viewBackSpec.pre enc Tryz.prog Tryz.f7 [] false w args ∧ laidMetH Tryz.prog Rows.viewBackRow.laid w) ∧ sizedMet enc Tryz.prog Tryz.f7 (OpenSpec.ofChange Rows.viewBackSpec) false w args)
      (Rows.viewBackSpec.post enc Tryz.prog Tryz.f7 false true false false) := by
  refine returnsInHanded_of_change_and (C := Tryz.checked) (X := fun w _ => laidMetH Tryz.prog Rows.viewBackRow.laid w) (fun _ _ _ hh h => h.of_heap hh) own started (by kernel_rfl) Tryz.func7
    (ChangeSpec.witness_shaped (enc := enc) (C := Tryz.checked) (os := os) (X := fun w _ => laidMetH Tryz.prog Rows.viewBackRow.laid w) false (World.doorLaid Tryz.prog 62 os) #[.agg #[.int .i64 0, .int .i64 0, .int .i64 0, .int .i64 0, .int .i64 0, .int .i64 0, .int .i64 0, .int .i64 0, .int .i64 0], .agg #[.int .i64 0, .int .i64 0, .int .i64 0, .int .i64 0, .int .i64 0, .int .i64 0, .int .i64 0], .agg #[.int .i64 0, .int .i64 0, .int .i64 0, .int .i64 0, .int .i64 0, .int .i64 0, .int .i64 0, .int .i64 0, .int .i64 0, .int .i64 0]] 8 rfl (World.shaped_of_RefB (by kernel_rfl) (by kernel_rfl)) (by kernel_rfl) (by kernel_rfl) (by kernel_rfl) (door_met os _)) ?_
  intro W base args ds gs before hval0 hW _ _ hL _
  have hval : ∀ (j : Nat) t v, Tryz.f7.params[j]? = some t → args[j]? = some v → Value.okWide Tryz.prog W .any base t v := hval0
  have hW' := hW
  obtain ⟨p, q, hA0, hV, rfl, hfz, hnd⟩ := hW
  have hA : DataW.TrodAll enc Tryz.prog W 0 (fun _ => true) true Tryz.f7.params.toList args.toList ds p := hA0
  rw [Tryz.params7] at hA hval
  obtain ⟨v0, vs0, d0, ds0, p0, q0, hargs, rfl, rfl, h0, r0⟩ := trodAll_cons hA
  obtain ⟨v1, vs1, d1, ds1, p1, q1, rfl, rfl, rfl, h1, r1⟩ := trodAll_cons r0
  obtain ⟨v2, vs2, d2, ds2, p2, q2, rfl, rfl, rfl, h2, r2⟩ := trodAll_cons r1
  obtain ⟨rfl, rfl, rfl⟩ := trodAll_nil r2
  obtain rfl : args = #[v0, v1, v2] := by cases args; simp_all
  obtain ⟨rfl, rfl⟩ := trodVars_none hV
  obtain ⟨a0, l0, rfl, w0⟩ := open_nums (m := 9) (by kernel_rfl) (hval 0 64 v0 rfl rfl) h0
  obtain ⟨a1, l1, rfl, w1⟩ := open_nums (m := 7) (by kernel_rfl) (hval 1 66 v1 rfl rfl) h1
  obtain ⟨a2, l2, rfl, w2⟩ := open_nums (m := 10) (by kernel_rfl) (hval 2 69 v2 rfl rfl) h2
  clear hA0 hval0
  simp only [List.append_nil] at hW'
  refine (walk W hL a0 l0 w0 a1 l1 w1 a2 l2 w2).mono fun e W' ⟨he, hg⟩ => ?_
  subst he
  have hlaid : laidOutB Tryz.prog = true := by kernel_rfl
  have hlt := hW'.lt
  exact ⟨_, rfl, law_post (pa := p0 ++ (p1 ++ (p2 ++ ([])))) (pv := []) hW' (fun _ _ _ => (trodAll_cons_mk (shut_bool Tryz.underlying4 _) trodAll_mk0)) (fun sp hsp => (trodAll_cons_mk (WideElems.Trod_stays hlaid (by kernel_rfl) (of_decide_eq_true (by kernel_rfl)) h0 (fun x hx => hg.same (hlt x (by simp [hx]))) (fun x hx => hsp x (by simp [hx]))) (trodAll_cons_mk (WideElems.Trod_stays hlaid (by kernel_rfl) (of_decide_eq_true (by kernel_rfl)) h1 (fun x hx => hg.same (hlt x (by simp [hx]))) (fun x hx => hsp x (by simp [hx]))) (trodAll_cons_mk (WideElems.Trod_stays hlaid (by kernel_rfl) (of_decide_eq_true (by kernel_rfl)) h2 (fun x hx => hg.same (hlt x (by simp [hx]))) (fun x hx => hsp x (by simp [hx]))) trodAll_mk0)))) (fun _ _ => rfl) (by simp)
    hg (ok_one (by kernel_rfl) rfl (okWide_bool_mk Tryz.underlying4 _))⟩

theorem over : Rows.ViewBackSaid :=
  OpenClaim.holds_of_wide 7 Tryz.f7 rfl rfl rfl rfl rfl rfl rfl ⟨rfl, rfl, rfl, rfl, rfl⟩ rfl rfl rfl rfl rfl (by kernel_rfl) Tryz.func7 (by kernel_rfl)
    (of_decide_eq_true (by kernel_rfl)) (by unfold Func.isWrapper; first | (rw [if_pos (by decide +kernel)]; kernel_rfl) | (rw [if_neg (by decide +kernel)]; exact ⟨rfl, rfl⟩))
    (fun os started H enc _ => lifted os started H enc)
theorem proved : Rows.ViewBackCardSaid :=
  Claim7.holds_tied_plain_at .later [] [.data, .data, .data] true (true, "55299c84c474e671852f1972392dd9ec8c98abd325514466e640b5d76de7bb02") true
    over (fun _ h => by cases h) (by kernel_rfl) (fun _ h => by cases h) viewBack_row_tie rfl ⟨rfl, rfl⟩ (by kernel_rfl) rfl
    (fun f fn hf hfn => by
      obtain rfl : f = 7 := Option.some.inj ((show Tryz.prog.funcNamed "dormouse/dormouselaw11.ViewBack" = some 7 by kernel_rfl).symm.trans hf) |>.symm
      obtain rfl : fn = Tryz.f7 := (Option.some.inj (Tryz.func7.symm.trans hfn)).symm
      exact ⟨by kernel_rfl, fun j t ht => by
        rw [Tryz.params7] at ht
        have hm : t ∈ [64, 66, 69] := by simpa using Array.mem_of_getElem? ht
        have hall : ([64, 66, 69].all fun u => !Tryz.prog.wantsStandIn u) = true := by kernel_rfl
        exact (show Tryz.prog.wantsStandIn t = false by simpa using List.all_eq_true.1 hall t hm)⟩)
    (by kernel_rfl)
#print axioms proved
end Go.Proofs.YtolamdalijjlnaaGreatDoor.viewBack
