/-
  Law 11, ViewTells: any thing put, as words, with what is shaded by that; any words laid by hand, as things; at any place.
-/
import Derived.Test.YtolamdalijjlnaaGreatDoorRows

import Derived.Test.YtolamdalijjlnaaGreatDoorCards

import Derived.Test.YtolamdalijjlnaaGreatDoorTie

import Derived.Test.YtolamdalijjlnaaGreatDoorBa

import Derived.Test.YtolamdalijjlnaaGreatDoorYb

import Derived.Test.YtolamdalijjlnaaGreatDoorBg

import Derived.Test.YtolamdalijjlnaaGreatDoorBc

import Derived.WalkKit

import Derived.ProofKit

import Derived.OpenShut

import Derived.LaidMore

import Derived.MakeChecks

import Derived.Stop.Joined

import Derived.SevenTiedAt

import Derived.Handy

import Derived.Outline

namespace Go.Proofs.YtolamdalijjlnaaGreatDoor.viewTells

open Go.ChangeShapes Go.WideShapes Go.ChangeAt Go.ChangeMaps Go.RowKit
set_option linter.unusedVariables false

theorem own : ownKnob Tryz.prog.godebug = none := by kernel_rfl

theorem i64_of {a : Int} (h : (Lit.int .i64 a).wf = true) : -9223372036854775808 ≤ a ∧ a ≤ 9223372036854775807 := by
  simpa [Lit.wf, IntKind.min, IntKind.max, IntKind.signed, IntKind.bits] using h
theorem of_laid {W : World} (h : laidMetH Tryz.prog Rows.viewTellsRow.laid W) : ∃ o : Unit → Obj, W.heap[0]? = some (o ()) ∧ IsPow o := by
  rw [MakeChecks.laidMetH_plain _ _ _ (by kernel_rfl)] at h
  obtain ⟨ps, ⟨_, _, _, _, _, _, _, _, _, _, ⟨_, _, _, _, _, _, _, _, _, _, ⟨g, t, cs, fuel, p, q, hg, ht, hvar, hd, _, _⟩, _⟩, _⟩, _⟩ := h
  have hg2 : Tryz.prog.globalNamed "internal/strconv.uint64pow10" = some 0 := by kernel_rfl
  have hg : Tryz.prog.globalNamed "internal/strconv.uint64pow10" = some g := hg
  obtain rfl := Option.some.inj (hg2.symm.trans hg)
  have ht : (Tryz.prog.globals[0]?).map (·.type) = some t := ht
  have ht2 : (Tryz.prog.globals[0]?).map (·.type) = some 245 := by kernel_rfl
  obtain rfl := Option.some.inj (ht2.symm.trans ht)
  have e : (Rows.laid_internal_strconv_uint64pow10 : DataW Unit) = Lib.tabData .u64 Lib.pow10Tab := by kernel_rfl
  rw [e] at hd
  have hcs := Lib.cells_of_tab (n := 20) Tryz.underlying245 Tryz.underlying226 (by kernel_rfl) (by kernel_rfl) hd
  have hvar : W.var? Tryz.prog "internal/strconv.uint64pow10" = some cs := hvar
  unfold World.var? at hvar
  rw [hg2] at hvar
  simp only [Option.bind_some] at hvar
  split at hvar
  · rename_i cs' ty fr hh
    cases hvar
    refine ⟨fun _ => .cells cs ty fr, hh, ty, fr, ?_⟩
    show Obj.cells cs ty fr = _
    rw [← hcs, Array.toArray_toList]
  · cases hvar
theorem walk (w : World) (hL : laidMetH Tryz.prog Rows.viewTellsRow.laid w) (a0 : Bool) (a1 : List Int) (l1 : a1.length = 9) (w1 : ∀ n ∈ a1, (Lit.int .i64 n).wf = true) (a2 : List Int) (l2 : a2.length = 7) (w2 : ∀ n ∈ a2, (Lit.int .i64 n).wf = true) (a3 : List Int) (l3 : a3.length = 10) (w3 : ∀ n ∈ a3, (Lit.int .i64 n).wf = true) (a4 : Int) (w4 : (Lit.int .i64 a4).wf = true) (a5 : Int) (w5 : (Lit.int .i64 a5).wf = true) (a6 : Int) (w6 : (Lit.int .i64 a6).wf = true) :
    Calls Tryz.prog 6 #[.bool a0, .agg (a1.map (fun n => Value.int .i64 n)).toArray, .agg (a2.map (fun n => Value.int .i64 n)).toArray, .agg (a3.map (fun n => Value.int .i64 n)).toArray, .int .i64 a4, .int .i64 a5, .int .i64 a6] w fun e w' => e = .returned (.bool true) ∧ Below w.heap.size w w' := by
  obtain ⟨o, ho, hp⟩ := of_laid hL
  obtain ⟨c0, c1, c2, c3, c4, c5, c6, c7, c8, rfl⟩ : ∃ c0 c1 c2 c3 c4 c5 c6 c7 c8, a1 = [c0, c1, c2, c3, c4, c5, c6, c7, c8] := by match a1, l1 with | [c0, c1, c2, c3, c4, c5, c6, c7, c8], _ => exact ⟨c0, c1, c2, c3, c4, c5, c6, c7, c8, rfl⟩
  obtain ⟨s0, s1, s2, s3, s4, s5, s6, rfl⟩ : ∃ s0 s1 s2 s3 s4 s5 s6, a2 = [s0, s1, s2, s3, s4, s5, s6] := by match a2, l2 with | [s0, s1, s2, s3, s4, s5, s6], _ => exact ⟨s0, s1, s2, s3, s4, s5, s6, rfl⟩
  obtain ⟨g0, g1, g2, g3, g4, g5, g6, g7, g8, g9, rfl⟩ : ∃ g0 g1 g2 g3 g4 g5 g6 g7 g8 g9, a3 = [g0, g1, g2, g3, g4, g5, g6, g7, g8, g9] := by match a3, l3 with | [g0, g1, g2, g3, g4, g5, g6, g7, g8, g9], _ => exact ⟨g0, g1, g2, g3, g4, g5, g6, g7, g8, g9, rfl⟩
  have hw : ∀ x ∈ [s2, g3, g4, g5, g6, g7, g8], -9223372036854775808 ≤ x ∧ x ≤ 9223372036854775807 := by
    simp only [List.forall_mem_cons]
    exact ⟨i64_of (w2 s2 (by simp)), i64_of (w3 g3 (by simp)), i64_of (w3 g4 (by simp)), i64_of (w3 g5 (by simp)), i64_of (w3 g6 (by simp)), i64_of (w3 g7 (by simp)), i64_of (w3 g8 (by simp)), fun x hx => by cases hx⟩
  refine LX.law_laid [(0, o)] (viewTells_law o hp a0 c0 c1 c2 c3 c4 c5 c6 c7 c8 s0 s1 s2 s3 s4 s5 s6 g0 g1 g2 g3 g4 g5 g6 g7 g8 g9 a4 a5 a6 (i64_of w5) hw) (fun g o' h => ?_) (LX.Rel2.cons (LX.LR.of_bool _) (LX.Rel2.cons (LR.nums [c0, c1, c2, c3, c4, c5, c6, c7, c8]) (LX.Rel2.cons (LR.nums [s0, s1, s2, s3, s4, s5, s6]) (LX.Rel2.cons (LR.nums [g0, g1, g2, g3, g4, g5, g6, g7, g8, g9]) (LX.Rel2.cons (LX.LR.of_int _ _) (LX.Rel2.cons (LX.LR.of_int _ _) (LX.Rel2.cons (LX.LR.of_int _ _) LX.Rel2.nil)))))))
  cases List.mem_singleton.1 h
  exact ho

theorem door_met (os : Os) (args : Array Value) : laidMetH Tryz.prog Rows.viewTellsRow.laid ((World.doorLaid Tryz.prog 62 os).forCall (fun _ _ => 0) ⟨#[], args, []⟩).memory :=
  laidMetH_of_parts3 (fuel := 8) (laidMet_of_run' 8 (by kernel_rfl) (by kernel_rfl)) (by kernel_rfl) (by kernel_rfl)
set_option maxRecDepth 100000 in
theorem lifted (os : Os) (started : os.Started) (H : Type) (enc : TypeId × Value → H) :
    ReturnsInHanded {} Tryz.checked os 6 .any (fun w args => (Rows.viewTellsSpec.pre enc Tryz.prog Tryz.f6 [] false w args ∧ laidMetH Tryz.prog Rows.viewTellsRow.laid w) ∧ sizedMet enc Tryz.prog Tryz.f6 (OpenSpec.ofChange Rows.viewTellsSpec) false w args)
      (Rows.viewTellsSpec.post enc Tryz.prog Tryz.f6 false true false false) := by
  refine returnsInHanded_of_change_and (C := Tryz.checked) (X := fun w _ => laidMetH Tryz.prog Rows.viewTellsRow.laid w) (fun _ _ _ hh h => h.of_heap hh) own started (by kernel_rfl) Tryz.func6
    (ChangeSpec.witness_shaped (enc := enc) (C := Tryz.checked) (os := os) (X := fun w _ => laidMetH Tryz.prog Rows.viewTellsRow.laid w) false (World.doorLaid Tryz.prog 62 os) #[.bool false, .agg #[.int .i64 0, .int .i64 0, .int .i64 0, .int .i64 0, .int .i64 0, .int .i64 0, .int .i64 0, .int .i64 0, .int .i64 0], .agg #[.int .i64 0, .int .i64 0, .int .i64 0, .int .i64 0, .int .i64 0, .int .i64 0, .int .i64 0], .agg #[.int .i64 0, .int .i64 0, .int .i64 0, .int .i64 0, .int .i64 0, .int .i64 0, .int .i64 0, .int .i64 0, .int .i64 0, .int .i64 0], .int .i64 0, .int .i64 0, .int .i64 0] 8 rfl (World.shaped_of_RefB (by kernel_rfl) (by kernel_rfl)) (by kernel_rfl) (by kernel_rfl) (by kernel_rfl) (door_met os _)) ?_
  intro W base args ds gs before hval0 hW _ _ hL _
  have hval : ∀ (j : Nat) t v, Tryz.f6.params[j]? = some t → args[j]? = some v → Value.okWide Tryz.prog W .any base t v := hval0
  have hW' := hW
  obtain ⟨p, q, hA0, hV, rfl, hfz, hnd⟩ := hW
  have hA : DataW.TrodAll enc Tryz.prog W 0 (fun _ => true) true Tryz.f6.params.toList args.toList ds p := hA0
  rw [Tryz.params6] at hA hval
  obtain ⟨v0, vs0, d0, ds0, p0, q0, hargs, rfl, rfl, h0, r0⟩ := trodAll_cons hA
  obtain ⟨v1, vs1, d1, ds1, p1, q1, rfl, rfl, rfl, h1, r1⟩ := trodAll_cons r0
  obtain ⟨v2, vs2, d2, ds2, p2, q2, rfl, rfl, rfl, h2, r2⟩ := trodAll_cons r1
  obtain ⟨v3, vs3, d3, ds3, p3, q3, rfl, rfl, rfl, h3, r3⟩ := trodAll_cons r2
  obtain ⟨v4, vs4, d4, ds4, p4, q4, rfl, rfl, rfl, h4, r4⟩ := trodAll_cons r3
  obtain ⟨v5, vs5, d5, ds5, p5, q5, rfl, rfl, rfl, h5, r5⟩ := trodAll_cons r4
  obtain ⟨v6, vs6, d6, ds6, p6, q6, rfl, rfl, rfl, h6, r6⟩ := trodAll_cons r5
  obtain ⟨rfl, rfl, rfl⟩ := trodAll_nil r6
  obtain rfl : args = #[v0, v1, v2, v3, v4, v5, v6] := by cases args; simp_all
  obtain ⟨rfl, rfl⟩ := trodVars_none hV
  obtain ⟨a0, rfl, rfl, rfl⟩ := open_bool Tryz.underlying4 (hval 0 4 v0 rfl rfl) h0
  obtain ⟨a1, l1, rfl, w1⟩ := open_nums (m := 9) (by kernel_rfl) (hval 1 64 v1 rfl rfl) h1
  obtain ⟨a2, l2, rfl, w2⟩ := open_nums (m := 7) (by kernel_rfl) (hval 2 66 v2 rfl rfl) h2
  obtain ⟨a3, l3, rfl, w3⟩ := open_nums (m := 10) (by kernel_rfl) (hval 3 69 v3 rfl rfl) h3
  obtain ⟨a4, rfl, rfl, rfl, w4⟩ := open_int Tryz.underlying3 (hval 4 3 v4 rfl rfl) h4
  obtain ⟨a5, rfl, rfl, rfl, w5⟩ := open_int Tryz.underlying3 (hval 5 3 v5 rfl rfl) h5
  obtain ⟨a6, rfl, rfl, rfl, w6⟩ := open_int Tryz.underlying3 (hval 6 3 v6 rfl rfl) h6
  clear hA0 hval0
  simp only [List.append_nil] at hW'
  refine (walk W hL a0 a1 l1 w1 a2 l2 w2 a3 l3 w3 a4 w4 a5 w5 a6 w6).mono fun e W' ⟨he, hg⟩ => ?_
  subst he
  have hlaid : laidOutB Tryz.prog = true := by kernel_rfl
  have hlt := hW'.lt
  exact ⟨_, rfl, law_post (pa := [] ++ (p1 ++ (p2 ++ (p3 ++ ([] ++ ([] ++ ([] ++ ([])))))))) (pv := []) hW' (fun _ _ _ => (trodAll_cons_mk (shut_bool Tryz.underlying4 _) trodAll_mk0)) (fun sp hsp => (trodAll_cons_mk (shut_bool Tryz.underlying4 _) (trodAll_cons_mk (WideElems.Trod_stays hlaid (by kernel_rfl) (of_decide_eq_true (by kernel_rfl)) h1 (fun x hx => hg.same (hlt x (by simp [hx]))) (fun x hx => hsp x (by simp [hx]))) (trodAll_cons_mk (WideElems.Trod_stays hlaid (by kernel_rfl) (of_decide_eq_true (by kernel_rfl)) h2 (fun x hx => hg.same (hlt x (by simp [hx]))) (fun x hx => hsp x (by simp [hx]))) (trodAll_cons_mk (WideElems.Trod_stays hlaid (by kernel_rfl) (of_decide_eq_true (by kernel_rfl)) h3 (fun x hx => hg.same (hlt x (by simp [hx]))) (fun x hx => hsp x (by simp [hx]))) (trodAll_cons_mk (shut_int Tryz.underlying3 w4) (trodAll_cons_mk (shut_int Tryz.underlying3 w5) (trodAll_cons_mk (shut_int Tryz.underlying3 w6) trodAll_mk0)))))))) (fun _ _ => rfl) (by simp)
    hg (ok_one (by kernel_rfl) rfl (okWide_bool_mk Tryz.underlying4 _))⟩

end Go.Proofs.YtolamdalijjlnaaGreatDoor.viewTells
