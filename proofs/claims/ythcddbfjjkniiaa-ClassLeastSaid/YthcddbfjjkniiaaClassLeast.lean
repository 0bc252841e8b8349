/-
  Whatever two integers are given, the law ClassLeast of layer 5 returns true. No condition.
-/
import Derived.Test.YthcddbfjjkniiaaRows
import Derived.Test.YthcddbfjjkniiaaLem
import Derived.Test.YthcddbfjjkniiaaClass
import Derived.WalkKit
import Derived.ProofKit
import Derived.OpenShut
import Derived.Handy
import Derived.Outline
namespace Go.Proofs.Ythcddbfjjkniiaa.classLeast
open Go.ChangeShapes Go.WideShapes Go.ChangeAt Go.RowKit
set_option linter.unusedVariables false

theorem own : ownKnob Try.prog.godebug = none := by kernel_rfl

theorem walk1 (a0 a1 : Int) (w : World) (b0 : -9223372036854775808 ≤ a0 ∧ a0 ≤ 9223372036854775807) (b1 : -9223372036854775808 ≤ a1 ∧ a1 ≤ 9223372036854775807) (hi : a1 < 0 ∧ isCls a1 = false ∨ (0 ≤ a1 ∧ a1 ≤ 31) ∧ isCls a1 = true ∨ 31 < a1 ∧ isCls a1 = false) (hc : (a0 < 0 ∨ 3 < a0) ∧ wordsOf a0 = 0 ∧ slotsOf a0 = 0) :
    Calls Try.prog 8 #[.int .i64 a0, .int .i64 a1] w fun e w' => e = .returned (.bool true) ∧ Below w.heap.size w w' := by
  obtain ⟨h, hw, hs⟩ := hc
  rcases h with h | h
  all_goals rcases hi with ⟨h1, h2⟩ | ⟨⟨h1, h3⟩, h2⟩ | ⟨h1, h2⟩
  all_goals
    go_enter Try.func8, Try.ntmps8
    go_wp2_with (first | (go_at_call 23; refine (of_any _ _ (by omega)).mono ?_; rintro e_ w_ ⟨rfl, hb⟩) | (go_at_call 26; refine (words_any _ _).mono ?_; rintro e_ w_ ⟨rfl, hb⟩) | (go_at_call 28; refine (slots_any _ _).mono ?_; rintro e_ w_ ⟨rfl, hb⟩) | (go_at_call 25; refine (awake05_any _).mono ?_; rintro e_ w_ ⟨rfl, hb⟩))
    all_goals go_ret
    all_goals exact ⟨by simp <;> omega, by (repeat' (first | (with_reducible exact Below.refl _ _) | (with_reducible assumption) | (with_reducible refine below_iter ?_ ?_ _ _) | (with_reducible refine Below.alloc ?_ ?_ _) | (with_reducible refine Below.drew ?_) | (with_reducible refine below_drewN ?_ _) | (with_reducible refine Below.setCell ?_ ?_ _) | (with_reducible refine below_step ?_ ?_ (by with_reducible assumption)) | (first | (with_reducible exact Nat.le_refl _) | (with_reducible assumption) | (with_reducible refine Nat.le_trans ?_ (Below.size (by with_reducible assumption))) | omega | (simp only [World.size_alloc, World.size_setCell, World.size_drew, size_iter, size_drewN]; done) | (simp only [World.size_alloc, World.size_setCell, World.size_drew, size_iter, size_drewN]; omega))))⟩
theorem walk2 (a0 a1 : Int) (w : World) (b0 : -9223372036854775808 ≤ a0 ∧ a0 ≤ 9223372036854775807) (b1 : -9223372036854775808 ≤ a1 ∧ a1 ≤ 9223372036854775807) (hi : a1 < 0 ∧ isCls a1 = false ∨ (0 ≤ a1 ∧ a1 ≤ 31) ∧ isCls a1 = true ∨ 31 < a1 ∧ isCls a1 = false) (hc : 0 ≤ a0 ∧ a0 ≤ 3) :
    Calls Try.prog 8 #[.int .i64 a0, .int .i64 a1] w fun e w' => e = .returned (.bool true) ∧ Below w.heap.size w w' := by
  have u0 : wordsOf 0 = 4 := rfl
  have u1 : wordsOf 1 = 8 := rfl
  have u2 : wordsOf 2 = 16 := rfl
  have u3 : wordsOf 3 = 32 := rfl
  have s0 : slotsOf 0 = 8 := rfl
  have s1 : slotsOf 1 = 4 := rfl
  have s2 : slotsOf 2 = 2 := rfl
  have s3 : slotsOf 3 = 1 := rfl
  obtain rfl | rfl | rfl | rfl : a0 = 0 ∨ a0 = 1 ∨ a0 = 2 ∨ a0 = 3 := by omega
  all_goals rcases hi with ⟨h1, h2⟩ | ⟨⟨h1, h3⟩, h2⟩ | ⟨h1, h2⟩
  all_goals
    go_enter Try.func8, Try.ntmps8
    go_wp2_with (first | (go_at_call 23; refine (of_any _ _ (by omega)).mono ?_; rintro e_ w_ ⟨rfl, hb⟩) | (go_at_call 26; refine (words_any _ _).mono ?_; rintro e_ w_ ⟨rfl, hb⟩) | (go_at_call 28; refine (slots_any _ _).mono ?_; rintro e_ w_ ⟨rfl, hb⟩) | (go_at_call 25; refine (awake05_any _).mono ?_; rintro e_ w_ ⟨rfl, hb⟩))
    all_goals go_ret
    all_goals exact ⟨by simp <;> omega, by (repeat' (first | (with_reducible exact Below.refl _ _) | (with_reducible assumption) | (with_reducible refine below_iter ?_ ?_ _ _) | (with_reducible refine Below.alloc ?_ ?_ _) | (with_reducible refine Below.drew ?_) | (with_reducible refine below_drewN ?_ _) | (with_reducible refine Below.setCell ?_ ?_ _) | (with_reducible refine below_step ?_ ?_ (by with_reducible assumption)) | (first | (with_reducible exact Nat.le_refl _) | (with_reducible assumption) | (with_reducible refine Nat.le_trans ?_ (Below.size (by with_reducible assumption))) | omega | (simp only [World.size_alloc, World.size_setCell, World.size_drew, size_iter, size_drewN]; done) | (simp only [World.size_alloc, World.size_setCell, World.size_drew, size_iter, size_drewN]; omega))))⟩
theorem walk (a0 : Int) (w0 : (Lit.int .i64 a0).wf = true) (a1 : Int) (w1 : (Lit.int .i64 a1).wf = true) (w : World) :
    Calls Try.prog 8 #[.int .i64 a0, .int .i64 a1] w fun e w' => e = .returned (.bool true) ∧ Below w.heap.size w w' := by
  have b0 := i64_bd w0
  have b1 := i64_bd w1
  have hi : a1 < 0 ∧ isCls a1 = false ∨ (0 ≤ a1 ∧ a1 ≤ 31) ∧ isCls a1 = true ∨ 31 < a1 ∧ isCls a1 = false := by
    unfold isCls
    by_cases h : a1 < 0
    · left; refine ⟨h, ?_⟩; simp; omega
    · by_cases h3 : a1 ≤ 31
      · right; left; refine ⟨⟨by omega, h3⟩, ?_⟩; simp; omega
      · right; right; refine ⟨by omega, ?_⟩; simp; omega
  by_cases h : 0 ≤ a0 ∧ a0 ≤ 3
  · exact walk2 a0 a1 w b0 b1 hi h
  · exact walk1 a0 a1 w b0 b1 hi ⟨by omega, by unfold wordsOf; omega, by unfold slotsOf; omega⟩

set_option maxRecDepth 100000 in
theorem lifted (os : Os) (started : os.Started) (H : Type) (enc : TypeId × Value → H) :
    ReturnsInHanded {} Try.checked os 8 .any (Rows.classLeastSpec.pre6 enc Try.prog Try.f8 Rows.classLeastRow.domain false) (Rows.classLeastSpec.post enc Try.prog Try.f8 false true false false) := by
  refine returnsInHanded_of_change (C := Try.checked) own started (by kernel_rfl) Try.func8
    (ChangeSpec.witness6 (enc := enc) (C := Try.checked) false ⟨#[], #[.int .i64 0, .int .i64 0], []⟩ 8 (by kernel_rfl) (by kernel_rfl) (by kernel_rfl) (by kernel_rfl)) ?_
  intro W base args ds gs before hval0 hW hcnd _
  have hval : ∀ (j : Nat) t v, Try.f8.params[j]? = some t → args[j]? = some v → Value.okWide Try.prog W .any base t v := hval0
  have hW' := hW
  obtain ⟨p, q, hA0, hV, rfl, hfz, hnd⟩ := hW
  have hA : DataW.TrodAll enc Try.prog W 0 (fun _ => true) true Try.f8.params.toList args.toList ds p := hA0
  rw [Try.params8] at hA hval
  obtain ⟨v0, vs0, d0, ds0, p0, q0, hargs, rfl, rfl, h0, r0⟩ := trodAll_cons hA
  obtain ⟨v1, vs1, d1, ds1, p1, q1, rfl, rfl, rfl, h1, r1⟩ := trodAll_cons r0
  obtain ⟨rfl, rfl, rfl⟩ := trodAll_nil r1
  obtain rfl : args = #[v0, v1] := by cases args; simp_all
  obtain ⟨rfl, rfl⟩ := trodVars_none hV
  obtain ⟨a0, rfl, rfl, rfl, w0⟩ := open_int Try.underlying3 (hval 0 3 v0 rfl rfl) h0
  obtain ⟨a1, rfl, rfl, rfl, w1⟩ := open_int Try.underlying3 (hval 1 3 v1 rfl rfl) h1
  clear hA0 hval0
  simp only [List.append_nil] at hW'
  refine (walk a0 w0 a1 w1 W).mono fun e W' ⟨he, hg⟩ => ?_
  subst he
  exact ⟨_, rfl, law_post (pa := []) (pv := []) hW' (fun _ _ _ => (trodAll_cons_mk (shut_bool Try.underlying4 _) trodAll_mk0)) (fun sp _ => (trodAll_cons_mk (shut_int Try.underlying3 w0) (trodAll_cons_mk (shut_int Try.underlying3 w1) trodAll_mk0))) (fun _ _ => rfl) rfl
    hg (ok_one (by kernel_rfl) rfl (okWide_bool_mk Try.underlying4 _))⟩

theorem over : Rows.classLeastRow.holds Try.pinned (OpenSpec.ofChange Rows.classLeastSpec) :=
  OpenClaim.holds_of_wide 8 Try.f8 rfl rfl rfl rfl rfl rfl rfl ⟨rfl, rfl, rfl, rfl, rfl⟩ rfl rfl rfl rfl rfl (by kernel_rfl) Try.func8 (by kernel_rfl)
    (of_decide_eq_true (by kernel_rfl)) (by unfold Func.isWrapper; first | (rw [if_pos (by decide +kernel)]; kernel_rfl) | (rw [if_neg (by decide +kernel)]; exact ⟨rfl, rfl⟩))
    (fun os started H enc _ => lifted os started H enc)

theorem proved : Rows.ClassLeastSaid :=
  over
#print axioms proved
end Go.Proofs.Ythcddbfjjkniiaa.classLeast
