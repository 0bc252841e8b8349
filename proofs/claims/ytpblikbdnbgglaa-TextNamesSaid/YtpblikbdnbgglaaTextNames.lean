/-
  Whatever two integers are given, the law TextNames of layer 1 returns true. No condition.
-/
import Derived.Test.YtpblikbdnbgglaaRows
import Derived.Test.YtpblikbdnbgglaaLem
import Derived.Test.YtpblikbdnbgglaaTextLaw
import Derived.Test.YtpblikbdnbgglaaDigits
import Derived.Test.YtpblikbdnbgglaaNums
import Derived.WalkKit
import Derived.ProofKit
import Derived.OpenShut
import Derived.Handy
import Derived.Outline
namespace Go.Proofs.Ytpblikbdnbgglaa.textNames
open Go.ChangeShapes Go.WideShapes Go.ChangeAt Go.ChangeMaps Go.RowKit
set_option linter.unusedVariables false

theorem own : ownKnob Try.prog.godebug = none := by kernel_rfl

def regV (c : Int) : Int := if 97 ≤ c ∧ c < 103 then c - 97 else 0
def regB (c : Int) : Bool := decide (97 ≤ c ∧ c < 103)
def nameV (r : Int) : Int := if 0 ≤ r ∧ r < 6 then 97 + r else 0
def nameB (r : Int) : Bool := decide (0 ≤ r ∧ r < 6)
theorem reg_any (c : Int) (w : World) (h : 0 ≤ c ∧ c < 100000) : Calls Try.prog 18 #[.int .i32 c] w fun e w' => e = .returned (.tuple #[.int .i64 (regV c), .bool (regB c)]) ∧ w = w' := by
  obtain ⟨h0, h1⟩ := h
  by_cases h2 : c < 97
  · have HV : Hid (regV c = 0 ∧ regB c = false) := Lib.hid ⟨if_neg (by omega), decide_eq_false (by omega)⟩
    go_enter Try.func18, Try.ntmps18
    go_wp2_with fail
    go_ret2
    exact ⟨by rw [HV.out.1, HV.out.2]; rfl, rfl⟩
  by_cases h3 : 103 ≤ c
  · have HV : Hid (regV c = 0 ∧ regB c = false) := Lib.hid ⟨if_neg (by omega), decide_eq_false (by omega)⟩
    go_enter Try.func18, Try.ntmps18
    go_wp2_with fail
    go_ret2
    exact ⟨by rw [HV.out.1, HV.out.2]; rfl, rfl⟩
  · have HV : Hid (regV c = c - 97 ∧ regB c = true) := Lib.hid ⟨if_pos (by omega), decide_eq_true (by omega)⟩
    go_enter Try.func18, Try.ntmps18
    go_wp2_with fail
    go_ret2
    exact ⟨by rw [HV.out.1, HV.out.2]; rfl, rfl⟩
theorem name_any (r : Int) (w : World) (h : -100 ≤ r ∧ r < 100000) : Calls Try.prog 19 #[.int .i64 r] w fun e w' => e = .returned (.tuple #[.int .i32 (nameV r), .bool (nameB r)]) ∧ w = w' := by
  obtain ⟨h0, h1⟩ := h
  by_cases h2 : r < 0
  · have HV : Hid (nameV r = 0 ∧ nameB r = false) := Lib.hid ⟨if_neg (by omega), decide_eq_false (by omega)⟩
    go_enter Try.func19, Try.ntmps19
    go_wp2_with fail
    go_ret2
    exact ⟨by rw [HV.out.1, HV.out.2]; rfl, rfl⟩
  by_cases h3 : 6 ≤ r
  · have HV : Hid (nameV r = 0 ∧ nameB r = false) := Lib.hid ⟨if_neg (by omega), decide_eq_false (by omega)⟩
    go_enter Try.func19, Try.ntmps19
    go_wp2_with fail
    go_ret2
    exact ⟨by rw [HV.out.1, HV.out.2]; rfl, rfl⟩
  · have HV : Hid (nameV r = 97 + r ∧ nameB r = true) := Lib.hid ⟨if_pos (by omega), decide_eq_true (by omega)⟩
    go_enter Try.func19, Try.ntmps19
    go_wp2_with fail
    go_ret2
    exact ⟨by rw [HV.out.1, HV.out.2]; first | rfl | (simp; done), rfl⟩
theorem noughts (k : Nat) (h : k ≤ 4) : (⟨#[48, 48, 48, 48]⟩ : ByteArray).extract 0 k = mkB (List.replicate k 48) := by
  have : k = 0 ∨ k = 1 ∨ k = 2 ∨ k = 3 ∨ k = 4 := by omega
  rcases this with rfl | rfl | rfl | rfl | rfl <;> rfl
theorem cat4 (d : List UInt8) : (⟨#[48, 48, 48, 48]⟩ : ByteArray) ++ mkB d = mkB (48 :: 48 :: 48 :: 48 :: d) := mkB_append [48, 48, 48, 48] d
theorem cat1 (d : List UInt8) : (⟨#[45]⟩ : ByteArray) ++ mkB d = mkB (45 :: d) := mkB_append [45] d
theorem small (l : List UInt8) (h : l.length ≤ 100) : (mkB l).size ≤ maxLen := by rw [mkB_size]; unfold maxLen; omega
def CaseN (c : Int) : Prop := (c < 97 ∧ regV c = 0 ∧ regB c = false) ∨ (103 ≤ c ∧ regV c = 0 ∧ regB c = false) ∨ (97 ≤ c ∧ c < 103 ∧ regV c = c - 97 ∧ regB c = true)
set_option maxHeartbeats 2000000 in
set_option maxRecDepth 100000 in
theorem core (a0 a1 c : Int) (n : Nat) (d : List UInt8) (w : World) (hc : wrap64 ((IntKind.u64.wrap a0).tmod 2000) = c) (hn : wrap64 ((IntKind.u64.wrap a1).tmod 10000) = (n : Int)) (c0 : 0 ≤ c) (c1 : c < 2000) (n1 : n < 10000) (hd : digsF 3 n = d)
    (h1 : numV (mkB d) = ((n : Int), true)) (h2 : d.length ≤ 4) (h3 : numV (mkB (List.replicate (4 - d.length) 48 ++ d)) = ((n : Int), true)) (h4 : (numV (mkB (48 :: 48 :: 48 :: 48 :: d))).2 = false) (h5 : (numV (mkB (45 :: d))).2 = false) (hcase : CaseN c) :
    Calls Try.prog 6 #[.int .i64 a0, .int .i64 a1] w fun e w' => e = .returned (.bool true) ∧ Below w.heap.size w w' := by
  have HD := Lib.hid hd
  have H1 := Lib.hid h1
  have H3 := Lib.hid h3
  have H4 := Lib.hid h4
  have H5 := Lib.hid h5
  have HSZ : Hid ((mkB d).size = d.length) := Lib.hid (mkB_size d)
  have HE0 : Hid ((numV ⟨#[]⟩).2 = false) := Lib.hid rfl
  have n6 : nameB 6 = false := rfl
  have nm1 : nameB (-1) = false := rfl
  have hz : (mkB d).size ≤ 4 := by rw [mkB_size]; exact h2
  clear hd h1 h3 h4 h5
  rcases hcase with ⟨g1, g2, g3⟩ | ⟨g1, g2, g3⟩ | ⟨g1, g4, g2, g3⟩
  case inl =>
    go_enter Try.func6, Try.ntmps6
    go_wp2_with (first | (go_at_call 18; refine (reg_any _ _ (by omega)).mono ?_; rintro e_ w_ ⟨rfl, rfl⟩) | (go_at_call 19; refine (name_any _ _ (by omega)).mono ?_; rintro e_ w_ ⟨rfl, rfl⟩))
    refine (digits_any 3 n _ n1 (by omega) (by omega)).mono ?_
    rintro e_ w1 ⟨rfl, hb1⟩
    rw [HD.out]
    go_wp2_with fail
    refine (number_any _ _ (small d (by omega))).mono ?_
    rintro e_ w2 ⟨rfl, hb2⟩
    rw [H1.out]
    go_wp2_with fail
    rw [HSZ.out, noughts _ (by omega), mkB_append]
    refine (number_any _ _ (small _ (by rw [List.length_append, List.length_replicate]; omega))).mono ?_
    rintro e_ w3 ⟨rfl, hb3⟩
    rw [H3.out]
    go_wp2_with fail
    rw [cat4]
    refine (number_any _ _ (small _ (by simp; omega))).mono ?_
    rintro e_ w4 ⟨rfl, hb4⟩
    rw [H4.out]
    go_wp2_with fail
    rw [cat1]
    refine (number_any _ _ (small _ (by simp; omega))).mono ?_
    rintro e_ w5 ⟨rfl, hb5⟩
    rw [H5.out]
    go_wp2_with fail
    refine (number_any _ _ (by decide)).mono ?_
    rintro e_ w6 ⟨rfl, hb6⟩
    rw [HE0.out]
    go_wp2_with (go_at_call 12; refine (awake01_any _).mono ?_; rintro e_ w7 ⟨rfl, hb7⟩)
    all_goals go_ret
    all_goals exact ⟨by first | (simp; done) | (simp; omega), by (repeat' (first | (with_reducible exact Below.refl _ _) | (with_reducible assumption) | (with_reducible refine below_iter ?_ ?_ _ _) | (with_reducible refine Below.alloc ?_ ?_ _) | (with_reducible refine Below.drew ?_) | (with_reducible refine below_drewN ?_ _) | (with_reducible refine Below.setCell ?_ ?_ _) | (with_reducible refine below_step ?_ ?_ (by with_reducible assumption)) | (first | (with_reducible exact Nat.le_refl _) | (with_reducible assumption) | (with_reducible refine Nat.le_trans ?_ (Below.size (by with_reducible assumption))) | (simp only [World.size_alloc, World.size_setCell, World.size_drew, size_iter, size_drewN]) | omega)))⟩
  case inr.inl =>
    go_enter Try.func6, Try.ntmps6
    go_wp2_with (first | (go_at_call 18; refine (reg_any _ _ (by omega)).mono ?_; rintro e_ w_ ⟨rfl, rfl⟩) | (go_at_call 19; refine (name_any _ _ (by omega)).mono ?_; rintro e_ w_ ⟨rfl, rfl⟩))
    refine (digits_any 3 n _ n1 (by omega) (by omega)).mono ?_
    rintro e_ w1 ⟨rfl, hb1⟩
    rw [HD.out]
    go_wp2_with fail
    refine (number_any _ _ (small d (by omega))).mono ?_
    rintro e_ w2 ⟨rfl, hb2⟩
    rw [H1.out]
    go_wp2_with fail
    rw [HSZ.out, noughts _ (by omega), mkB_append]
    refine (number_any _ _ (small _ (by rw [List.length_append, List.length_replicate]; omega))).mono ?_
    rintro e_ w3 ⟨rfl, hb3⟩
    rw [H3.out]
    go_wp2_with fail
    rw [cat4]
    refine (number_any _ _ (small _ (by simp; omega))).mono ?_
    rintro e_ w4 ⟨rfl, hb4⟩
    rw [H4.out]
    go_wp2_with fail
    rw [cat1]
    refine (number_any _ _ (small _ (by simp; omega))).mono ?_
    rintro e_ w5 ⟨rfl, hb5⟩
    rw [H5.out]
    go_wp2_with fail
    refine (number_any _ _ (by decide)).mono ?_
    rintro e_ w6 ⟨rfl, hb6⟩
    rw [HE0.out]
    go_wp2_with (go_at_call 12; refine (awake01_any _).mono ?_; rintro e_ w7 ⟨rfl, hb7⟩)
    all_goals go_ret
    all_goals exact ⟨by first | (simp; done) | (simp; omega), by (repeat' (first | (with_reducible exact Below.refl _ _) | (with_reducible assumption) | (with_reducible refine below_iter ?_ ?_ _ _) | (with_reducible refine Below.alloc ?_ ?_ _) | (with_reducible refine Below.drew ?_) | (with_reducible refine below_drewN ?_ _) | (with_reducible refine Below.setCell ?_ ?_ _) | (with_reducible refine below_step ?_ ?_ (by with_reducible assumption)) | (first | (with_reducible exact Nat.le_refl _) | (with_reducible assumption) | (with_reducible refine Nat.le_trans ?_ (Below.size (by with_reducible assumption))) | (simp only [World.size_alloc, World.size_setCell, World.size_drew, size_iter, size_drewN]) | omega)))⟩
  case inr.inr =>
    have nv : nameV (c - 97) = c := by
      rw [nameV, if_pos (by omega)]; omega
    have nb : nameB (c - 97) = true := decide_eq_true (by omega)
    go_enter Try.func6, Try.ntmps6
    go_wp2_with (first | (go_at_call 18; refine (reg_any _ _ (by omega)).mono ?_; rintro e_ w_ ⟨rfl, rfl⟩) | (go_at_call 19; refine (name_any _ _ (by omega)).mono ?_; rintro e_ w_ ⟨rfl, rfl⟩))
    refine (digits_any 3 n _ n1 (by omega) (by omega)).mono ?_
    rintro e_ w1 ⟨rfl, hb1⟩
    rw [HD.out]
    go_wp2_with fail
    refine (number_any _ _ (small d (by omega))).mono ?_
    rintro e_ w2 ⟨rfl, hb2⟩
    rw [H1.out]
    go_wp2_with fail
    rw [HSZ.out, noughts _ (by omega), mkB_append]
    refine (number_any _ _ (small _ (by rw [List.length_append, List.length_replicate]; omega))).mono ?_
    rintro e_ w3 ⟨rfl, hb3⟩
    rw [H3.out]
    go_wp2_with fail
    rw [cat4]
    refine (number_any _ _ (small _ (by simp; omega))).mono ?_
    rintro e_ w4 ⟨rfl, hb4⟩
    rw [H4.out]
    go_wp2_with fail
    rw [cat1]
    refine (number_any _ _ (small _ (by simp; omega))).mono ?_
    rintro e_ w5 ⟨rfl, hb5⟩
    rw [H5.out]
    go_wp2_with fail
    refine (number_any _ _ (by decide)).mono ?_
    rintro e_ w6 ⟨rfl, hb6⟩
    rw [HE0.out]
    go_wp2_with (go_at_call 12; refine (awake01_any _).mono ?_; rintro e_ w7 ⟨rfl, hb7⟩)
    all_goals go_ret
    all_goals exact ⟨by first | (simp; done) | (simp; omega), by (repeat' (first | (with_reducible exact Below.refl _ _) | (with_reducible assumption) | (with_reducible refine below_iter ?_ ?_ _ _) | (with_reducible refine Below.alloc ?_ ?_ _) | (with_reducible refine Below.drew ?_) | (with_reducible refine below_drewN ?_ _) | (with_reducible refine Below.setCell ?_ ?_ _) | (with_reducible refine below_step ?_ ?_ (by with_reducible assumption)) | (first | (with_reducible exact Nat.le_refl _) | (with_reducible assumption) | (with_reducible refine Nat.le_trans ?_ (Below.size (by with_reducible assumption))) | (simp only [World.size_alloc, World.size_setCell, World.size_drew, size_iter, size_drewN]) | omega)))⟩
theorem walk (a0 : Int) (w0 : (Lit.int .i64 a0).wf = true) (a1 : Int) (w1 : (Lit.int .i64 a1).wf = true) (w : World) :
    Calls Try.prog 6 #[.int .i64 a0, .int .i64 a1] w fun e w' => e = .returned (.bool true) ∧ Below w.heap.size w w' := by
  obtain ⟨c0, c1⟩ := umod_bd a0 2000 (by omega) (by omega)
  obtain ⟨n0, n1⟩ := umod_bd a1 10000 (by omega) (by omega)
  obtain ⟨n, hn⟩ := Int.eq_ofNat_of_zero_le n0
  have hlt : n < 10000 := by omega
  obtain ⟨h1, h2, h3, h4, h5⟩ := nums n hlt
  refine core a0 a1 _ n _ w rfl hn c0 c1 hlt rfl h1 h2 h3 h4 h5 ?_
  generalize wrap64 ((IntKind.u64.wrap a0).tmod 2000) = c at *
  unfold CaseN regV regB
  by_cases g1 : c < 97
  · left; exact ⟨g1, if_neg (by omega), decide_eq_false (by omega)⟩
  by_cases g2 : 103 ≤ c
  · right; left; exact ⟨g2, if_neg (by omega), decide_eq_false (by omega)⟩
  · right; right; exact ⟨by omega, by omega, if_pos (by omega), decide_eq_true (by omega)⟩

set_option maxRecDepth 100000 in
theorem lifted (os : Os) (started : os.Started) (H : Type) (enc : TypeId × Value → H) :
    ReturnsInHanded {} Try.checked os 6 .any (Rows.textNamesSpec.pre6 enc Try.prog Try.f6 Rows.textNamesRow.domain false) (Rows.textNamesSpec.post enc Try.prog Try.f6 false true false false) := by
  refine returnsInHanded_of_change (C := Try.checked) own started (by kernel_rfl) Try.func6
    (ChangeSpec.witness6 (enc := enc) (C := Try.checked) false ⟨#[], #[.int .i64 0, .int .i64 0], []⟩ 8 (by kernel_rfl) (by kernel_rfl) (by kernel_rfl) (by kernel_rfl)) ?_
  intro W base args ds gs before hval0 hW hcnd _
  have hval : ∀ (j : Nat) t v, Try.f6.params[j]? = some t → args[j]? = some v → Value.okWide Try.prog W .any base t v := hval0
  have hW' := hW
  obtain ⟨p, q, hA0, hV, rfl, hfz, hnd⟩ := hW
  have hA : DataW.TrodAll enc Try.prog W 0 (fun _ => true) true Try.f6.params.toList args.toList ds p := hA0
  rw [Try.params6] at hA hval
  obtain ⟨v0, vs0, d0, ds0, p0, q0, hargs, rfl, rfl, h0, r0⟩ := trodAll_cons hA
  obtain ⟨v1, vs1, d1, ds1, p1, q1, rfl, rfl, rfl, h1, r1⟩ := trodAll_cons r0
  obtain ⟨rfl, rfl, rfl⟩ := trodAll_nil r1
  obtain rfl : args = #[v0, v1] := by cases args; simp_all
  obtain ⟨rfl, rfl⟩ := trodVars_none hV
  obtain ⟨a0, rfl, rfl, rfl, w0⟩ := open_int Try.underlying3 (hval 0 3 v0 rfl rfl) h0
  obtain ⟨a1, rfl, rfl, rfl, w1⟩ := open_int Try.underlying3 (hval 1 3 v1 rfl rfl) h1
  clear hA0 hval0
  simp only [List.append_nil] at hW'
  refine (walk a0 w0 a1 w1 W).mono fun e W' ⟨he, hg⟩ => ?_
  subst he
  exact ⟨_, rfl, law_post (pa := []) (pv := []) hW' (fun _ _ _ => (trodAll_cons_mk (shut_bool Try.underlying4 _) trodAll_mk0)) (fun sp _ => (trodAll_cons_mk (shut_int Try.underlying3 w0) (trodAll_cons_mk (shut_int Try.underlying3 w1) trodAll_mk0))) (fun _ _ => rfl) rfl
    hg (ok_one (by kernel_rfl) rfl (okWide_bool_mk Try.underlying4 _))⟩

theorem over : Rows.textNamesRow.holds Try.pinned (OpenSpec.ofChange Rows.textNamesSpec) :=
  OpenClaim.holds_of_wide 6 Try.f6 rfl rfl rfl rfl rfl rfl rfl ⟨rfl, rfl, rfl, rfl, rfl⟩ rfl rfl rfl rfl rfl (by kernel_rfl) Try.func6 (by kernel_rfl)
    (of_decide_eq_true (by kernel_rfl)) (by unfold Func.isWrapper; first | (rw [if_pos (by decide +kernel)]; kernel_rfl) | (rw [if_neg (by decide +kernel)]; exact ⟨rfl, rfl⟩))
    (fun os started H enc _ => lifted os started H enc)

theorem proved : Rows.TextNamesSaid :=
  over
#print axioms proved
end Go.Proofs.Ytpblikbdnbgglaa.textNames
