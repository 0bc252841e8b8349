/-
  Whatever integer is given, the law ClassFits of layer 5 returns true. No condition.
-/
import Derived.Test.YthcddbfjjkniiaaRows
import Derived.Test.YthcddbfjjkniiaaLem
import Derived.Test.YthcddbfjjkniiaaClass
import Derived.WalkKit
import Derived.ProofKit
import Derived.OpenShut
import Derived.Handy
import Derived.Outline
namespace Go.Proofs.Ythcddbfjjkniiaa.classFits
open Go.ChangeShapes Go.WideShapes Go.ChangeAt Go.RowKit
set_option linter.unusedVariables false

theorem own : ownKnob Try.prog.godebug = none := by kernel_rfl

theorem walk0 (a0 m : Int) (w : World) (hm : m = wrap64 ((IntKind.u64.wrap a0).tmod 40)) (h0 : 0 ≤ m) (h1 : m < 4) :
    Calls Try.prog 7 #[.int .i64 a0] w fun e w' => e = .returned (.bool true) ∧ Below w.heap.size w w' := by
  have u0 : wordsOf 0 = 4 := rfl
  have u1 : wordsOf 1 = 8 := rfl
  have u2 : wordsOf 2 = 16 := rfl
  have u3 : wordsOf 3 = 32 := rfl
  have s0 : slotsOf 0 = 8 := rfl
  have s1 : slotsOf 1 = 4 := rfl
  have s2 : slotsOf 2 = 2 := rfl
  have s3 : slotsOf 3 = 1 := rfl
  have hc : clsOf m = 0 := by unfold clsOf; omega
  have hi : isCls m = true := by simp [isCls]; omega
  have HM := Lib.hid hm
  clear hm
  go_enter Try.func7, Try.ntmps7
  go_wp2_with fail
  rw [← HM.out]
  clear HM
  go_wp2_with (first | (go_at_call 23; refine (of_any _ _ (by omega)).mono ?_; rintro e_ w_ ⟨rfl, hb⟩) | (go_at_call 26; refine (words_any _ _).mono ?_; rintro e_ w_ ⟨rfl, hb⟩) | (go_at_call 28; refine (slots_any _ _).mono ?_; rintro e_ w_ ⟨rfl, hb⟩) | (go_at_call 25; refine (awake05_any _).mono ?_; rintro e_ w_ ⟨rfl, hb⟩))
  refine wp_loop_rounds 5 ?_
  repeat any_goals (rw [rounds_succ]; go_wp2_with (first | (go_at_call 23; refine (of_any _ _ (by omega)).mono ?_; rintro e_ w_ ⟨rfl, hb⟩) | (go_at_call 26; refine (words_any _ _).mono ?_; rintro e_ w_ ⟨rfl, hb⟩) | (go_at_call 28; refine (slots_any _ _).mono ?_; rintro e_ w_ ⟨rfl, hb⟩) | (go_at_call 25; refine (awake05_any _).mono ?_; rintro e_ w_ ⟨rfl, hb⟩)))
  all_goals go_ret
  all_goals exact ⟨by simp, by (repeat' (first | (with_reducible exact Below.refl _ _) | (with_reducible assumption) | (with_reducible refine below_iter ?_ ?_ _ _) | (with_reducible refine Below.alloc ?_ ?_ _) | (with_reducible refine Below.drew ?_) | (with_reducible refine below_drewN ?_ _) | (with_reducible refine Below.setCell ?_ ?_ _) | (with_reducible refine below_step ?_ ?_ (by with_reducible assumption)) | (first | (with_reducible exact Nat.le_refl _) | (with_reducible assumption) | (with_reducible refine Nat.le_trans ?_ (Below.size (by with_reducible assumption))) | omega | (simp only [World.size_alloc, World.size_setCell, World.size_drew, size_iter, size_drewN]; done) | (simp only [World.size_alloc, World.size_setCell, World.size_drew, size_iter, size_drewN]; omega))))⟩
theorem walk1 (a0 m : Int) (w : World) (hm : m = wrap64 ((IntKind.u64.wrap a0).tmod 40)) (h0 : 4 ≤ m) (h1 : m < 8) :
    Calls Try.prog 7 #[.int .i64 a0] w fun e w' => e = .returned (.bool true) ∧ Below w.heap.size w w' := by
  have u0 : wordsOf 0 = 4 := rfl
  have u1 : wordsOf 1 = 8 := rfl
  have u2 : wordsOf 2 = 16 := rfl
  have u3 : wordsOf 3 = 32 := rfl
  have s0 : slotsOf 0 = 8 := rfl
  have s1 : slotsOf 1 = 4 := rfl
  have s2 : slotsOf 2 = 2 := rfl
  have s3 : slotsOf 3 = 1 := rfl
  have hc : clsOf m = 1 := by unfold clsOf; omega
  have hi : isCls m = true := by simp [isCls]; omega
  have HM := Lib.hid hm
  clear hm
  go_enter Try.func7, Try.ntmps7
  go_wp2_with fail
  rw [← HM.out]
  clear HM
  go_wp2_with (first | (go_at_call 23; refine (of_any _ _ (by omega)).mono ?_; rintro e_ w_ ⟨rfl, hb⟩) | (go_at_call 26; refine (words_any _ _).mono ?_; rintro e_ w_ ⟨rfl, hb⟩) | (go_at_call 28; refine (slots_any _ _).mono ?_; rintro e_ w_ ⟨rfl, hb⟩) | (go_at_call 25; refine (awake05_any _).mono ?_; rintro e_ w_ ⟨rfl, hb⟩))
  refine wp_loop_rounds 5 ?_
  repeat any_goals (rw [rounds_succ]; go_wp2_with (first | (go_at_call 23; refine (of_any _ _ (by omega)).mono ?_; rintro e_ w_ ⟨rfl, hb⟩) | (go_at_call 26; refine (words_any _ _).mono ?_; rintro e_ w_ ⟨rfl, hb⟩) | (go_at_call 28; refine (slots_any _ _).mono ?_; rintro e_ w_ ⟨rfl, hb⟩) | (go_at_call 25; refine (awake05_any _).mono ?_; rintro e_ w_ ⟨rfl, hb⟩)))
  all_goals go_ret
  all_goals exact ⟨by simp, by (repeat' (first | (with_reducible exact Below.refl _ _) | (with_reducible assumption) | (with_reducible refine below_iter ?_ ?_ _ _) | (with_reducible refine Below.alloc ?_ ?_ _) | (with_reducible refine Below.drew ?_) | (with_reducible refine below_drewN ?_ _) | (with_reducible refine Below.setCell ?_ ?_ _) | (with_reducible refine below_step ?_ ?_ (by with_reducible assumption)) | (first | (with_reducible exact Nat.le_refl _) | (with_reducible assumption) | (with_reducible refine Nat.le_trans ?_ (Below.size (by with_reducible assumption))) | omega | (simp only [World.size_alloc, World.size_setCell, World.size_drew, size_iter, size_drewN]; done) | (simp only [World.size_alloc, World.size_setCell, World.size_drew, size_iter, size_drewN]; omega))))⟩
theorem walk2 (a0 m : Int) (w : World) (hm : m = wrap64 ((IntKind.u64.wrap a0).tmod 40)) (h0 : 8 ≤ m) (h1 : m < 16) :
    Calls Try.prog 7 #[.int .i64 a0] w fun e w' => e = .returned (.bool true) ∧ Below w.heap.size w w' := by
  have u0 : wordsOf 0 = 4 := rfl
  have u1 : wordsOf 1 = 8 := rfl
  have u2 : wordsOf 2 = 16 := rfl
  have u3 : wordsOf 3 = 32 := rfl
  have s0 : slotsOf 0 = 8 := rfl
  have s1 : slotsOf 1 = 4 := rfl
  have s2 : slotsOf 2 = 2 := rfl
  have s3 : slotsOf 3 = 1 := rfl
  have hc : clsOf m = 2 := by unfold clsOf; omega
  have hi : isCls m = true := by simp [isCls]; omega
  have HM := Lib.hid hm
  clear hm
  go_enter Try.func7, Try.ntmps7
  go_wp2_with fail
  rw [← HM.out]
  clear HM
  go_wp2_with (first | (go_at_call 23; refine (of_any _ _ (by omega)).mono ?_; rintro e_ w_ ⟨rfl, hb⟩) | (go_at_call 26; refine (words_any _ _).mono ?_; rintro e_ w_ ⟨rfl, hb⟩) | (go_at_call 28; refine (slots_any _ _).mono ?_; rintro e_ w_ ⟨rfl, hb⟩) | (go_at_call 25; refine (awake05_any _).mono ?_; rintro e_ w_ ⟨rfl, hb⟩))
  refine wp_loop_rounds 5 ?_
  repeat any_goals (rw [rounds_succ]; go_wp2_with (first | (go_at_call 23; refine (of_any _ _ (by omega)).mono ?_; rintro e_ w_ ⟨rfl, hb⟩) | (go_at_call 26; refine (words_any _ _).mono ?_; rintro e_ w_ ⟨rfl, hb⟩) | (go_at_call 28; refine (slots_any _ _).mono ?_; rintro e_ w_ ⟨rfl, hb⟩) | (go_at_call 25; refine (awake05_any _).mono ?_; rintro e_ w_ ⟨rfl, hb⟩)))
  all_goals go_ret
  all_goals exact ⟨by simp, by (repeat' (first | (with_reducible exact Below.refl _ _) | (with_reducible assumption) | (with_reducible refine below_iter ?_ ?_ _ _) | (with_reducible refine Below.alloc ?_ ?_ _) | (with_reducible refine Below.drew ?_) | (with_reducible refine below_drewN ?_ _) | (with_reducible refine Below.setCell ?_ ?_ _) | (with_reducible refine below_step ?_ ?_ (by with_reducible assumption)) | (first | (with_reducible exact Nat.le_refl _) | (with_reducible assumption) | (with_reducible refine Nat.le_trans ?_ (Below.size (by with_reducible assumption))) | omega | (simp only [World.size_alloc, World.size_setCell, World.size_drew, size_iter, size_drewN]; done) | (simp only [World.size_alloc, World.size_setCell, World.size_drew, size_iter, size_drewN]; omega))))⟩
theorem walk3 (a0 m : Int) (w : World) (hm : m = wrap64 ((IntKind.u64.wrap a0).tmod 40)) (h0 : 16 ≤ m) (h1 : m < 32) :
    Calls Try.prog 7 #[.int .i64 a0] w fun e w' => e = .returned (.bool true) ∧ Below w.heap.size w w' := by
  have u0 : wordsOf 0 = 4 := rfl
  have u1 : wordsOf 1 = 8 := rfl
  have u2 : wordsOf 2 = 16 := rfl
  have u3 : wordsOf 3 = 32 := rfl
  have s0 : slotsOf 0 = 8 := rfl
  have s1 : slotsOf 1 = 4 := rfl
  have s2 : slotsOf 2 = 2 := rfl
  have s3 : slotsOf 3 = 1 := rfl
  have hc : clsOf m = 3 := by unfold clsOf; omega
  have hi : isCls m = true := by simp [isCls]; omega
  have HM := Lib.hid hm
  clear hm
  go_enter Try.func7, Try.ntmps7
  go_wp2_with fail
  rw [← HM.out]
  clear HM
  go_wp2_with (first | (go_at_call 23; refine (of_any _ _ (by omega)).mono ?_; rintro e_ w_ ⟨rfl, hb⟩) | (go_at_call 26; refine (words_any _ _).mono ?_; rintro e_ w_ ⟨rfl, hb⟩) | (go_at_call 28; refine (slots_any _ _).mono ?_; rintro e_ w_ ⟨rfl, hb⟩) | (go_at_call 25; refine (awake05_any _).mono ?_; rintro e_ w_ ⟨rfl, hb⟩))
  refine wp_loop_rounds 5 ?_
  repeat any_goals (rw [rounds_succ]; go_wp2_with (first | (go_at_call 23; refine (of_any _ _ (by omega)).mono ?_; rintro e_ w_ ⟨rfl, hb⟩) | (go_at_call 26; refine (words_any _ _).mono ?_; rintro e_ w_ ⟨rfl, hb⟩) | (go_at_call 28; refine (slots_any _ _).mono ?_; rintro e_ w_ ⟨rfl, hb⟩) | (go_at_call 25; refine (awake05_any _).mono ?_; rintro e_ w_ ⟨rfl, hb⟩)))
  all_goals go_ret
  all_goals exact ⟨by simp, by (repeat' (first | (with_reducible exact Below.refl _ _) | (with_reducible assumption) | (with_reducible refine below_iter ?_ ?_ _ _) | (with_reducible refine Below.alloc ?_ ?_ _) | (with_reducible refine Below.drew ?_) | (with_reducible refine below_drewN ?_ _) | (with_reducible refine Below.setCell ?_ ?_ _) | (with_reducible refine below_step ?_ ?_ (by with_reducible assumption)) | (first | (with_reducible exact Nat.le_refl _) | (with_reducible assumption) | (with_reducible refine Nat.le_trans ?_ (Below.size (by with_reducible assumption))) | omega | (simp only [World.size_alloc, World.size_setCell, World.size_drew, size_iter, size_drewN]; done) | (simp only [World.size_alloc, World.size_setCell, World.size_drew, size_iter, size_drewN]; omega))))⟩
theorem walk4 (a0 m : Int) (w : World) (hm : m = wrap64 ((IntKind.u64.wrap a0).tmod 40)) (h0 : 32 ≤ m) (h1 : m < 40) :
    Calls Try.prog 7 #[.int .i64 a0] w fun e w' => e = .returned (.bool true) ∧ Below w.heap.size w w' := by
  have hc : clsOf m = 0 := by unfold clsOf; omega
  have hi : isCls m = false := by simp [isCls]; omega
  have HM := Lib.hid hm
  clear hm
  go_enter Try.func7, Try.ntmps7
  go_wp2_with fail
  rw [← HM.out]
  clear HM
  go_wp2_with (first | (go_at_call 23; refine (of_any _ _ (by omega)).mono ?_; rintro e_ w_ ⟨rfl, hb⟩) | (go_at_call 26; refine (words_any _ _).mono ?_; rintro e_ w_ ⟨rfl, hb⟩) | (go_at_call 28; refine (slots_any _ _).mono ?_; rintro e_ w_ ⟨rfl, hb⟩) | (go_at_call 25; refine (awake05_any _).mono ?_; rintro e_ w_ ⟨rfl, hb⟩))
  all_goals go_ret
  all_goals exact ⟨by simp, by (repeat' (first | (with_reducible exact Below.refl _ _) | (with_reducible assumption) | (with_reducible refine below_iter ?_ ?_ _ _) | (with_reducible refine Below.alloc ?_ ?_ _) | (with_reducible refine Below.drew ?_) | (with_reducible refine below_drewN ?_ _) | (with_reducible refine Below.setCell ?_ ?_ _) | (with_reducible refine below_step ?_ ?_ (by with_reducible assumption)) | (first | (with_reducible exact Nat.le_refl _) | (with_reducible assumption) | (with_reducible refine Nat.le_trans ?_ (Below.size (by with_reducible assumption))) | omega | (simp only [World.size_alloc, World.size_setCell, World.size_drew, size_iter, size_drewN]; done) | (simp only [World.size_alloc, World.size_setCell, World.size_drew, size_iter, size_drewN]; omega))))⟩
theorem walk (a0 : Int) (w0 : (Lit.int .i64 a0).wf = true) (w : World) :
    Calls Try.prog 7 #[.int .i64 a0] w fun e w' => e = .returned (.bool true) ∧ Below w.heap.size w w' := by
  obtain ⟨bm0, bm1⟩ := umod_bd a0 40 (by omega) (by omega)
  by_cases h4 : wrap64 ((IntKind.u64.wrap a0).tmod 40) < 4
  · exact walk0 a0 _ w rfl bm0 h4
  by_cases h8 : wrap64 ((IntKind.u64.wrap a0).tmod 40) < 8
  · exact walk1 a0 _ w rfl (by omega) h8
  by_cases h16 : wrap64 ((IntKind.u64.wrap a0).tmod 40) < 16
  · exact walk2 a0 _ w rfl (by omega) h16
  by_cases h32 : wrap64 ((IntKind.u64.wrap a0).tmod 40) < 32
  · exact walk3 a0 _ w rfl (by omega) h32
  · exact walk4 a0 _ w rfl (by omega) bm1

set_option maxRecDepth 100000 in
theorem lifted (os : Os) (started : os.Started) (H : Type) (enc : TypeId × Value → H) :
    ReturnsInHanded {} Try.checked os 7 .any (Rows.classFitsSpec.pre6 enc Try.prog Try.f7 Rows.classFitsRow.domain false) (Rows.classFitsSpec.post enc Try.prog Try.f7 false true false false) := by
  refine returnsInHanded_of_change (C := Try.checked) own started (by kernel_rfl) Try.func7
    (ChangeSpec.witness6 (enc := enc) (C := Try.checked) false ⟨#[], #[.int .i64 0], []⟩ 8 (by kernel_rfl) (by kernel_rfl) (by kernel_rfl) (by kernel_rfl)) ?_
  intro W base args ds gs before hval0 hW hcnd _
  have hval : ∀ (j : Nat) t v, Try.f7.params[j]? = some t → args[j]? = some v → Value.okWide Try.prog W .any base t v := hval0
  have hW' := hW
  obtain ⟨p, q, hA0, hV, rfl, hfz, hnd⟩ := hW
  have hA : DataW.TrodAll enc Try.prog W 0 (fun _ => true) true Try.f7.params.toList args.toList ds p := hA0
  rw [Try.params7] at hA hval
  obtain ⟨v0, vs0, d0, ds0, p0, q0, hargs, rfl, rfl, h0, r0⟩ := trodAll_cons hA
  obtain ⟨rfl, rfl, rfl⟩ := trodAll_nil r0
  obtain rfl : args = #[v0] := by cases args; simp_all
  obtain ⟨rfl, rfl⟩ := trodVars_none hV
  obtain ⟨a0, rfl, rfl, rfl, w0⟩ := open_int Try.underlying3 (hval 0 3 v0 rfl rfl) h0
  clear hA0 hval0
  simp only [List.append_nil] at hW'
  refine (walk a0 w0 W).mono fun e W' ⟨he, hg⟩ => ?_
  subst he
  exact ⟨_, rfl, law_post (pa := []) (pv := []) hW' (fun _ _ _ => (trodAll_cons_mk (shut_bool Try.underlying4 _) trodAll_mk0)) (fun sp _ => (trodAll_cons_mk (shut_int Try.underlying3 w0) trodAll_mk0)) (fun _ _ => rfl) rfl
    hg (ok_one (by kernel_rfl) rfl (okWide_bool_mk Try.underlying4 _))⟩

theorem over : Rows.classFitsRow.holds Try.pinned (OpenSpec.ofChange Rows.classFitsSpec) :=
  OpenClaim.holds_of_wide 7 Try.f7 rfl rfl rfl rfl rfl rfl rfl ⟨rfl, rfl, rfl, rfl, rfl⟩ rfl rfl rfl rfl rfl (by kernel_rfl) Try.func7 (by kernel_rfl)
    (of_decide_eq_true (by kernel_rfl)) (by unfold Func.isWrapper; first | (rw [if_pos (by decide +kernel)]; kernel_rfl) | (rw [if_neg (by decide +kernel)]; exact ⟨rfl, rfl⟩))
    (fun os started H enc _ => lifted os started H enc)

theorem proved : Rows.ClassFitsSaid :=
  over
#print axioms proved
end Go.Proofs.Ythcddbfjjkniiaa.classFits
