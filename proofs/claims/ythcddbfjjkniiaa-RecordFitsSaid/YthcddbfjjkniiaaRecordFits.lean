/-
  Whatever two integers are given, the law RecordFits of layer 10 returns true. No condition.
-/
import Derived.Test.YthcddbfjjkniiaaRows
import Derived.Test.YthcddbfjjkniiaaLem
import Derived.Test.YthcddbfjjkniiaaRecordR
import Derived.WalkKit
import Derived.ProofKit
import Derived.OpenShut
import Derived.Handy
import Derived.Outline
namespace Go.Proofs.Ythcddbfjjkniiaa.recordFits
open Go.ChangeShapes Go.WideShapes Go.ChangeAt Go.RowKit
set_option linter.unusedVariables false

theorem own : ownKnob Try.prog.godebug = none := by kernel_rfl

theorem other (a0 a1 : Int) (w : World) (h : a0 < 1 ∨ 6 < a0) (hn : needV a0 a1 = 0) (hh : hasV a0 a1 = false) (hl : (fldL a0).length = 0) :
    Calls Try.prog 11 #[.int .i64 a0, .int .i64 a1] w fun e w' => e = .returned (.bool true) ∧ Below w.heap.size w w' := by
  have e2 : (a0 == 2) = false := by rw [beq_eq_false_iff_ne]; omega
  rcases h with h | h
  all_goals
    go_enter Try.func11, Try.ntmps11
    go_wp2_with (first | (go_at_call 30; refine (need_any _ _ _).mono ?_; rintro e_ w1 ⟨rfl, hb1⟩) | (go_at_call 34; refine (fields_any _ _).mono ?_; rintro e_ w2 ⟨v, rfl, hs, hb2⟩; obtain ⟨A, c, rfl⟩ := sl_len hs; clear hs) | (go_at_call 32; refine (awake10_any _).mono ?_; rintro e_ w4 ⟨rfl, hb4⟩))
    all_goals go_ret
    all_goals exact ⟨by first | (simp; done) | (simp; omega), by (repeat' (first | (with_reducible exact Below.refl _ _) | (with_reducible assumption) | (with_reducible refine below_iter ?_ ?_ _ _) | (with_reducible refine Below.alloc ?_ ?_ _) | (with_reducible refine Below.drew ?_) | (with_reducible refine below_drewN ?_ _) | (with_reducible refine Below.setCell ?_ ?_ _) | (with_reducible refine below_step ?_ ?_ (by with_reducible assumption)) | (first | (with_reducible exact Nat.le_refl _) | (with_reducible assumption) | (with_reducible refine Nat.le_trans ?_ (Below.size (by with_reducible assumption))) | omega | (simp only [World.size_alloc, World.size_setCell, World.size_drew, size_iter, size_drewN]; done) | (simp only [World.size_alloc, World.size_setCell, World.size_drew, size_iter, size_drewN]; omega))))⟩
theorem buf (a1 : Int) (w : World) (hn : needV 2 a1 = (if a1 < 0 ∨ 3 < a1 then 0 else a1)) (hh : hasV 2 a1 = (if a1 < 0 ∨ 3 < a1 then false else true)) (hl : (fldL 2).length = 0) :
    Calls Try.prog 11 #[.int .i64 2, .int .i64 a1] w fun e w' => e = .returned (.bool true) ∧ Below w.heap.size w w' := by
  by_cases h : a1 < 0 ∨ 3 < a1
  · rw [if_pos h] at hn hh
    clear h
    go_enter Try.func11, Try.ntmps11
    go_wp2_with (first | (go_at_call 30; refine (need_any _ _ _).mono ?_; rintro e_ w1 ⟨rfl, hb1⟩) | (go_at_call 34; refine (fields_any _ _).mono ?_; rintro e_ w2 ⟨v, rfl, hs, hb2⟩; obtain ⟨A, c, rfl⟩ := sl_len hs; clear hs) | (go_at_call 32; refine (awake10_any _).mono ?_; rintro e_ w4 ⟨rfl, hb4⟩))
    all_goals go_ret
    all_goals exact ⟨by first | (simp; done) | (simp; omega), by (repeat' (first | (with_reducible exact Below.refl _ _) | (with_reducible assumption) | (with_reducible refine below_iter ?_ ?_ _ _) | (with_reducible refine Below.alloc ?_ ?_ _) | (with_reducible refine Below.drew ?_) | (with_reducible refine below_drewN ?_ _) | (with_reducible refine Below.setCell ?_ ?_ _) | (with_reducible refine below_step ?_ ?_ (by with_reducible assumption)) | (first | (with_reducible exact Nat.le_refl _) | (with_reducible assumption) | (with_reducible refine Nat.le_trans ?_ (Below.size (by with_reducible assumption))) | omega | (simp only [World.size_alloc, World.size_setCell, World.size_drew, size_iter, size_drewN]; done) | (simp only [World.size_alloc, World.size_setCell, World.size_drew, size_iter, size_drewN]; omega))))⟩
  · rw [if_neg h] at hn hh
    have h1 : 0 ≤ a1 := by omega
    have h2 : a1 ≤ 31 := by omega
    clear h
    go_enter Try.func11, Try.ntmps11
    go_wp2_with (first | (go_at_call 30; refine (need_any _ _ _).mono ?_; rintro e_ w1 ⟨rfl, hb1⟩) | (go_at_call 34; refine (fields_any _ _).mono ?_; rintro e_ w2 ⟨v, rfl, hs, hb2⟩; obtain ⟨A, c, rfl⟩ := sl_len hs; clear hs) | (go_at_call 32; refine (awake10_any _).mono ?_; rintro e_ w4 ⟨rfl, hb4⟩))
    all_goals go_ret
    all_goals exact ⟨by first | (simp; done) | (simp; omega), by (repeat' (first | (with_reducible exact Below.refl _ _) | (with_reducible assumption) | (with_reducible refine below_iter ?_ ?_ _ _) | (with_reducible refine Below.alloc ?_ ?_ _) | (with_reducible refine Below.drew ?_) | (with_reducible refine below_drewN ?_ _) | (with_reducible refine Below.setCell ?_ ?_ _) | (with_reducible refine below_step ?_ ?_ (by with_reducible assumption)) | (first | (with_reducible exact Nat.le_refl _) | (with_reducible assumption) | (with_reducible refine Nat.le_trans ?_ (Below.size (by with_reducible assumption))) | omega | (simp only [World.size_alloc, World.size_setCell, World.size_drew, size_iter, size_drewN]; done) | (simp only [World.size_alloc, World.size_setCell, World.size_drew, size_iter, size_drewN]; omega))))⟩
theorem known (a0 a1 : Int) (w : World) (k : Int) (hk : 0 ≤ k ∧ k ≤ 31) (h : a0 = 1 ∨ a0 = 3 ∨ a0 = 4 ∨ a0 = 5 ∨ a0 = 6) (hn : needV a0 a1 = k) (hh : hasV a0 a1 = true) :
    Calls Try.prog 11 #[.int .i64 a0, .int .i64 a1] w fun e w' => e = .returned (.bool true) ∧ Below w.heap.size w w' := by
  obtain ⟨k1, k2⟩ := hk
  have e2 : (a0 == 2) = false := by rw [beq_eq_false_iff_ne]; omega
  have g1 : 1 ≤ a0 := by omega
  have g2 : a0 ≤ 6 := by omega
  clear h
  go_enter Try.func11, Try.ntmps11
  go_wp2_with (first | (go_at_call 30; refine (need_any _ _ _).mono ?_; rintro e_ w1 ⟨rfl, hb1⟩) | (go_at_call 34; refine (fields_any _ _).mono ?_; rintro e_ w2 ⟨v, rfl, hs, hb2⟩; obtain ⟨A, c, rfl⟩ := sl_len hs; clear hs) | (go_at_call 32; refine (awake10_any _).mono ?_; rintro e_ w4 ⟨rfl, hb4⟩))
  all_goals go_ret
  all_goals exact ⟨by first | (simp; done) | (simp; omega), by (repeat' (first | (with_reducible exact Below.refl _ _) | (with_reducible assumption) | (with_reducible refine below_iter ?_ ?_ _ _) | (with_reducible refine Below.alloc ?_ ?_ _) | (with_reducible refine Below.drew ?_) | (with_reducible refine below_drewN ?_ _) | (with_reducible refine Below.setCell ?_ ?_ _) | (with_reducible refine below_step ?_ ?_ (by with_reducible assumption)) | (first | (with_reducible exact Nat.le_refl _) | (with_reducible assumption) | (with_reducible refine Nat.le_trans ?_ (Below.size (by with_reducible assumption))) | omega | (simp only [World.size_alloc, World.size_setCell, World.size_drew, size_iter, size_drewN]; done) | (simp only [World.size_alloc, World.size_setCell, World.size_drew, size_iter, size_drewN]; omega))))⟩
theorem walk (a0 : Int) (w0 : (Lit.int .i64 a0).wf = true) (a1 : Int) (w1 : (Lit.int .i64 a1).wf = true) (w : World) :
    Calls Try.prog 11 #[.int .i64 a0, .int .i64 a1] w fun e w' => e = .returned (.bool true) ∧ Below w.heap.size w w' := by
  by_cases h2 : a0 = 2
  · subst h2
    exact buf a1 w rfl rfl (by rw [fld_eq]; kernel_rfl)
  have hn : needV a0 a1 = ((refL a0).length : Int) := by rw [needV, if_neg h2, cnt_eq]
  have hh : hasV a0 a1 = decide (0 < ((refL a0).length : Int)) := by rw [hasV, if_neg h2, cnt_eq]
  by_cases h1 : a0 = 1
  · subst h1; exact known 1 a1 w 9 (by omega) (by omega) hn hh
  by_cases h3 : a0 = 3
  · subst h3; exact known 3 a1 w 7 (by omega) (by omega) hn hh
  by_cases h4 : a0 = 4
  · subst h4; exact known 4 a1 w 10 (by omega) (by omega) hn hh
  by_cases h5 : a0 = 5
  · subst h5; exact known 5 a1 w 2 (by omega) (by omega) hn hh
  by_cases h6 : a0 = 6
  · subst h6; exact known 6 a1 w 2 (by omega) (by omega) hn hh
  · have e := refL_no a0 ⟨h1, h3, h4, h5, h6⟩
    rw [e] at hn hh
    exact other a0 a1 w (by omega) hn hh (by rw [fld_eq, e]; rfl)

set_option maxRecDepth 100000 in
theorem lifted (os : Os) (started : os.Started) (H : Type) (enc : TypeId × Value → H) :
    ReturnsInHanded {} Try.checked os 11 .any (Rows.recordFitsSpec.pre6 enc Try.prog Try.f11 Rows.recordFitsRow.domain false) (Rows.recordFitsSpec.post enc Try.prog Try.f11 false true false false) := by
  refine returnsInHanded_of_change (C := Try.checked) own started (by kernel_rfl) Try.func11
    (ChangeSpec.witness6 (enc := enc) (C := Try.checked) false ⟨#[], #[.int .i64 0, .int .i64 0], []⟩ 8 (by kernel_rfl) (by kernel_rfl) (by kernel_rfl) (by kernel_rfl)) ?_
  intro W base args ds gs before hval0 hW hcnd _
  have hval : ∀ (j : Nat) t v, Try.f11.params[j]? = some t → args[j]? = some v → Value.okWide Try.prog W .any base t v := hval0
  have hW' := hW
  obtain ⟨p, q, hA0, hV, rfl, hfz, hnd⟩ := hW
  have hA : DataW.TrodAll enc Try.prog W 0 (fun _ => true) true Try.f11.params.toList args.toList ds p := hA0
  rw [Try.params11] at hA hval
  obtain ⟨v0, vs0, d0, ds0, p0, q0, hargs, rfl, rfl, h0, r0⟩ := trodAll_cons hA
  obtain ⟨v1, vs1, d1, ds1, p1, q1, rfl, rfl, rfl, h1, r1⟩ := trodAll_cons r0
  obtain ⟨rfl, rfl, rfl⟩ := trodAll_nil r1
  obtain rfl : args = #[v0, v1] := by cases args; simp_all
  obtain ⟨rfl, rfl⟩ := trodVars_none hV
  obtain ⟨a0, rfl, rfl, rfl, w0⟩ := open_int Try.underlying3 (hval 0 3 v0 rfl rfl) h0
  obtain ⟨a1, rfl, rfl, rfl, w1⟩ := open_int Try.underlying3 (hval 1 3 v1 rfl rfl) h1
  clear hA0 hval0
  simp only [List.append_nil] at hW'
  refine (walk a0 w0 a1 w1 W).mono fun e W' ⟨he, hg⟩ => ?_
  subst he
  exact ⟨_, rfl, law_post (pa := []) (pv := []) hW' (fun _ _ _ => (trodAll_cons_mk (shut_bool Try.underlying4 _) trodAll_mk0)) (fun sp _ => (trodAll_cons_mk (shut_int Try.underlying3 w0) (trodAll_cons_mk (shut_int Try.underlying3 w1) trodAll_mk0))) (fun _ _ => rfl) rfl
    hg (ok_one (by kernel_rfl) rfl (okWide_bool_mk Try.underlying4 _))⟩

theorem over : Rows.recordFitsRow.holds Try.pinned (OpenSpec.ofChange Rows.recordFitsSpec) :=
  OpenClaim.holds_of_wide 11 Try.f11 rfl rfl rfl rfl rfl rfl rfl ⟨rfl, rfl, rfl, rfl, rfl⟩ rfl rfl rfl rfl rfl (by kernel_rfl) Try.func11 (by kernel_rfl)
    (of_decide_eq_true (by kernel_rfl)) (by unfold Func.isWrapper; first | (rw [if_pos (by decide +kernel)]; kernel_rfl) | (rw [if_neg (by decide +kernel)]; exact ⟨rfl, rfl⟩))
    (fun os started H enc _ => lifted os started H enc)

theorem proved : Rows.RecordFitsSaid :=
  over
#print axioms proved
end Go.Proofs.Ythcddbfjjkniiaa.recordFits
