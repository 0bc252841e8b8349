/-
  Whatever three integers are given, the law TextSigns of layer 1 returns true. No condition.
-/
import Derived.Test.YtpblikbdnbgglaaRows
import Derived.Test.YtpblikbdnbgglaaLem
import Derived.Test.YtpblikbdnbgglaaTextLaw
import Derived.Test.YtpblikbdnbgglaaTextS
import Derived.WalkKit
import Derived.ProofKit
import Derived.OpenShut
import Derived.Handy
import Derived.Outline
namespace Go.Proofs.Ytpblikbdnbgglaa.textSigns
open Go.ChangeShapes Go.WideShapes Go.ChangeAt Go.ChangeMaps Go.RowKit
set_option linter.unusedVariables false

theorem own : ownKnob Try.prog.godebug = none := by kernel_rfl

theorem enc_size (c : Int) : (Utf8.encode c).size ≤ 4 := by
  unfold Utf8.encode
  simp only
  repeat' split
  all_goals simp [ByteArray.size]
theorem enc_cat (c : Int) : (⟨#[97]⟩ : ByteArray) ++ Utf8.encode c = mkB (97 :: (Utf8.encode c).data.toList) := by
  apply Go.WideShapes.bytes_inj
  simp [mkB]
theorem mk_size (l : List UInt8) : (mkB l).size = l.length := by simp [mkB, ByteArray.size]
theorem rep_cat (k : Nat) : mkB (List.replicate k 97) ++ (⟨#[97]⟩ : ByteArray) = mkB (List.replicate (k + 1) 97) := by
  rw [List.replicate_succ']; exact mkB_append _ [97]
theorem xs_cat (k : Nat) : mkB (xs k) ++ (⟨#[120, 10]⟩ : ByteArray) = mkB (xs (k + 1)) := mkB_append _ [120, 10]
def Case (c ev : Int) : Prop := (c = 10 ∧ ev = 0) ∨ (32 ≤ c ∧ c ≤ 126 ∧ ev = 0) ∨ (c < 32 ∧ c ≠ 10 ∧ ev = 4) ∨ (126 < c ∧ ev = 4)
set_option maxHeartbeats 4000000 in
set_option maxRecDepth 100000 in
theorem core (a0 a1 a2 c ev : Int) (n m : Nat) (w : World) (hc : c = wrap64 ((IntKind.u64.wrap a0).tmod 1200000)) (hn : (n : Int) = wrap64 ((IntKind.u64.wrap a1).tmod 5)) (hm : (m : Int) = wrap64 ((IntKind.u64.wrap a2).tmod 5))
    (c0 : 0 ≤ c) (c1 : c < 1200000) (n1 : n < 5) (m1 : m < 5) (he : (linesV (mkB (97 :: (Utf8.encode c).data.toList))).2 = ev) (hcase : Case c ev) :
    Calls Try.prog 5 #[.int .i64 a0, .int .i64 a1, .int .i64 a2] w fun e w' => e = .returned (.bool true) ∧ Below w.heap.size w w' := by
  have hes := enc_size c
  have HE := Lib.hid he
  have HEC := Lib.hid (enc_cat c)
  have HSZ : Hid ((mkB (97 :: (Utf8.encode c).data.toList)).size < 1000000000000) := Lib.hid (by
    rw [mk_size]
    have : (Utf8.encode c).data.toList.length = (Utf8.encode c).size := by rw [Array.length_toList]; rfl
    rw [List.length_cons, this]; omega)
  have HL := Lib.hid (long_any (1998 + n) (by omega))
  have HX := Lib.hid (many_any (58 + m) (by omega) (by omega))
  clear he
  rcases hcase with ⟨h1, h2⟩ | ⟨h1, h3, h2⟩ | ⟨h1, h3, h2⟩ | ⟨h1, h2⟩
  case inl =>
    have hcc : (c == 10) = true := by rw [beq_iff_eq]; exact h1
    clear h1
    subst h2
    have hc' := hc.symm
    have hn' := hn.symm
    have hm' := hm.symm
    have hes2 : 1 + (Utf8.encode c).size ≤ 9223372036854775807 := by omega
    clear hc hn hm
    go_enter Try.func5, Try.ntmps5
    go_wp2_with fail
    rw [HEC.out]
    refine (lines_any _ _ HSZ.out).mono ?_
    rintro e_ w1 ⟨v1, rfl, hs1, hb1⟩
    rw [HE.out]
    clear hs1 HEC HSZ
    go_wp2_with fail
    go_loop [10, 12] (fun s i => ∃ k : Nat, s = .string (mkB (List.replicate k 97)) ∧ i = .int .i64 k ∧ k ≤ 1998 + n) (fun _ i => 1998 + n - (intOf i).toNat)
    case atStart => exact ⟨0, rfl, rfl, by omega⟩
    case round =>
      obtain ⟨k, rfl, rfl, hk⟩ := hrel
      by_cases hlt : k < 1998 + n
      · have hz : (mkB (List.replicate k 97)).size + 1 ≤ 9223372036854775807 := by rw [mk_size, List.length_replicate]; omega
        have HR := Lib.hid (rep_cat k)
        go_wp2_with fail
        go_round
        case rel => exact ⟨k + 1, by rw [HR.out], by go_num, by omega⟩
        case measure => simp [intOf]; omega
      · obtain rfl : k = 1998 + n := by omega
        clear hlt hk
        go_wp2_with fail
        go_loop [11, 13] (fun s i => ∃ k : Nat, s = .string (mkB (xs k)) ∧ i = .int .i64 k ∧ k ≤ 58 + m) (fun _ i => 58 + m - (intOf i).toNat)
        case atStart => exact ⟨0, rfl, rfl, by omega⟩
        case round =>
          obtain ⟨k, rfl, rfl, hk⟩ := hrel
          by_cases hlt : k < 58 + m
          · have hz : (mkB (xs k)).size + 2 ≤ 9223372036854775807 := by rw [mk_size, xs_length]; omega
            have HR := Lib.hid (xs_cat k)
            go_wp2_with fail
            go_round
            case rel => exact ⟨k + 1, by rw [HR.out], by go_num, by omega⟩
            case measure => simp [intOf]; omega
          · obtain rfl : k = 58 + m := by omega
            clear hlt hk
            by_cases hn2 : n ≤ 2
            all_goals by_cases hm2 : m ≤ 2
            · have HL' : Hid ((linesV (mkB (List.replicate (1998 + n) 97))).2 = 0) := Lib.hid (HL.out.trans (if_pos (by omega)))
              have HX' : Hid ((linesV (mkB (xs (58 + m)))).2 = 0) := Lib.hid (HX.out.trans (if_pos (by omega)))
              have HZ1 : Hid ((mkB (List.replicate (1998 + n) 97)).size < 1000000000000) := Lib.hid (by rw [mk_size, List.length_replicate]; omega)
              have HZ2 : Hid ((mkB (xs (58 + m))).size < 1000000000000) := Lib.hid (by rw [mk_size, xs_length]; omega)
              clear HL HX
              go_wp2_with fail
              refine (lines_any _ _ HZ1.out).mono ?_
              rintro e_ w2 ⟨v2, rfl, hs2, hb2⟩
              rw [HL'.out]
              clear hs2 HL' HZ1
              go_wp2_with fail
              refine (lines_any _ _ HZ2.out).mono ?_
              rintro e_ w3 ⟨v3, rfl, hs3, hb3⟩
              rw [HX'.out]
              clear hs3 HX' HZ2
              have g1 : decide ((1998 : Int) + (n : Int) ≤ 2000) = true := decide_eq_true (by omega)
              have g2 : decide ((58 : Int) + (m : Int) ≤ 60) = true := decide_eq_true (by omega)
              go_wp2_with (go_at_call 12; refine (awake01_any _).mono ?_; rintro e_ w4 ⟨rfl, hb4⟩)
              go_ret
              exact ⟨by first | (simp; done) | (simp; omega), by (repeat' (first | (with_reducible exact Below.refl _ _) | (with_reducible assumption) | (with_reducible refine below_iter ?_ ?_ _ _) | (with_reducible refine Below.alloc ?_ ?_ _) | (with_reducible refine Below.drew ?_) | (with_reducible refine below_drewN ?_ _) | (with_reducible refine Below.setCell ?_ ?_ _) | (with_reducible refine below_step ?_ ?_ (by with_reducible assumption)) | (first | (with_reducible exact Nat.le_refl _) | (with_reducible assumption) | (with_reducible refine Nat.le_trans ?_ (Below.size (by with_reducible assumption))) | (simp only [World.size_alloc, World.size_setCell, World.size_drew, size_iter, size_drewN]) | omega)))⟩
            · have HL' : Hid ((linesV (mkB (List.replicate (1998 + n) 97))).2 = 0) := Lib.hid (HL.out.trans (if_pos (by omega)))
              have HX' : Hid ((linesV (mkB (xs (58 + m)))).2 = 3) := Lib.hid (HX.out.trans (if_neg (by omega)))
              have HZ1 : Hid ((mkB (List.replicate (1998 + n) 97)).size < 1000000000000) := Lib.hid (by rw [mk_size, List.length_replicate]; omega)
              have HZ2 : Hid ((mkB (xs (58 + m))).size < 1000000000000) := Lib.hid (by rw [mk_size, xs_length]; omega)
              clear HL HX
              go_wp2_with fail
              refine (lines_any _ _ HZ1.out).mono ?_
              rintro e_ w2 ⟨v2, rfl, hs2, hb2⟩
              rw [HL'.out]
              clear hs2 HL' HZ1
              go_wp2_with fail
              refine (lines_any _ _ HZ2.out).mono ?_
              rintro e_ w3 ⟨v3, rfl, hs3, hb3⟩
              rw [HX'.out]
              clear hs3 HX' HZ2
              have g1 : decide ((1998 : Int) + (n : Int) ≤ 2000) = true := decide_eq_true (by omega)
              have g2 : decide ((58 : Int) + (m : Int) ≤ 60) = false := decide_eq_false (by omega)
              go_wp2_with (go_at_call 12; refine (awake01_any _).mono ?_; rintro e_ w4 ⟨rfl, hb4⟩)
              go_ret
              exact ⟨by first | (simp; done) | (simp; omega), by (repeat' (first | (with_reducible exact Below.refl _ _) | (with_reducible assumption) | (with_reducible refine below_iter ?_ ?_ _ _) | (with_reducible refine Below.alloc ?_ ?_ _) | (with_reducible refine Below.drew ?_) | (with_reducible refine below_drewN ?_ _) | (with_reducible refine Below.setCell ?_ ?_ _) | (with_reducible refine below_step ?_ ?_ (by with_reducible assumption)) | (first | (with_reducible exact Nat.le_refl _) | (with_reducible assumption) | (with_reducible refine Nat.le_trans ?_ (Below.size (by with_reducible assumption))) | (simp only [World.size_alloc, World.size_setCell, World.size_drew, size_iter, size_drewN]) | omega)))⟩
            · have HL' : Hid ((linesV (mkB (List.replicate (1998 + n) 97))).2 = 3) := Lib.hid (HL.out.trans (if_neg (by omega)))
              have HX' : Hid ((linesV (mkB (xs (58 + m)))).2 = 0) := Lib.hid (HX.out.trans (if_pos (by omega)))
              have HZ1 : Hid ((mkB (List.replicate (1998 + n) 97)).size < 1000000000000) := Lib.hid (by rw [mk_size, List.length_replicate]; omega)
              have HZ2 : Hid ((mkB (xs (58 + m))).size < 1000000000000) := Lib.hid (by rw [mk_size, xs_length]; omega)
              clear HL HX
              go_wp2_with fail
              refine (lines_any _ _ HZ1.out).mono ?_
              rintro e_ w2 ⟨v2, rfl, hs2, hb2⟩
              rw [HL'.out]
              clear hs2 HL' HZ1
              go_wp2_with fail
              refine (lines_any _ _ HZ2.out).mono ?_
              rintro e_ w3 ⟨v3, rfl, hs3, hb3⟩
              rw [HX'.out]
              clear hs3 HX' HZ2
              have g1 : decide ((1998 : Int) + (n : Int) ≤ 2000) = false := decide_eq_false (by omega)
              have g2 : decide ((58 : Int) + (m : Int) ≤ 60) = true := decide_eq_true (by omega)
              go_wp2_with (go_at_call 12; refine (awake01_any _).mono ?_; rintro e_ w4 ⟨rfl, hb4⟩)
              go_ret
              exact ⟨by first | (simp; done) | (simp; omega), by (repeat' (first | (with_reducible exact Below.refl _ _) | (with_reducible assumption) | (with_reducible refine below_iter ?_ ?_ _ _) | (with_reducible refine Below.alloc ?_ ?_ _) | (with_reducible refine Below.drew ?_) | (with_reducible refine below_drewN ?_ _) | (with_reducible refine Below.setCell ?_ ?_ _) | (with_reducible refine below_step ?_ ?_ (by with_reducible assumption)) | (first | (with_reducible exact Nat.le_refl _) | (with_reducible assumption) | (with_reducible refine Nat.le_trans ?_ (Below.size (by with_reducible assumption))) | (simp only [World.size_alloc, World.size_setCell, World.size_drew, size_iter, size_drewN]) | omega)))⟩
            · have HL' : Hid ((linesV (mkB (List.replicate (1998 + n) 97))).2 = 3) := Lib.hid (HL.out.trans (if_neg (by omega)))
              have HX' : Hid ((linesV (mkB (xs (58 + m)))).2 = 3) := Lib.hid (HX.out.trans (if_neg (by omega)))
              have HZ1 : Hid ((mkB (List.replicate (1998 + n) 97)).size < 1000000000000) := Lib.hid (by rw [mk_size, List.length_replicate]; omega)
              have HZ2 : Hid ((mkB (xs (58 + m))).size < 1000000000000) := Lib.hid (by rw [mk_size, xs_length]; omega)
              clear HL HX
              go_wp2_with fail
              refine (lines_any _ _ HZ1.out).mono ?_
              rintro e_ w2 ⟨v2, rfl, hs2, hb2⟩
              rw [HL'.out]
              clear hs2 HL' HZ1
              go_wp2_with fail
              refine (lines_any _ _ HZ2.out).mono ?_
              rintro e_ w3 ⟨v3, rfl, hs3, hb3⟩
              rw [HX'.out]
              clear hs3 HX' HZ2
              have g1 : decide ((1998 : Int) + (n : Int) ≤ 2000) = false := decide_eq_false (by omega)
              have g2 : decide ((58 : Int) + (m : Int) ≤ 60) = false := decide_eq_false (by omega)
              go_wp2_with (go_at_call 12; refine (awake01_any _).mono ?_; rintro e_ w4 ⟨rfl, hb4⟩)
              go_ret
              exact ⟨by first | (simp; done) | (simp; omega), by (repeat' (first | (with_reducible exact Below.refl _ _) | (with_reducible assumption) | (with_reducible refine below_iter ?_ ?_ _ _) | (with_reducible refine Below.alloc ?_ ?_ _) | (with_reducible refine Below.drew ?_) | (with_reducible refine below_drewN ?_ _) | (with_reducible refine Below.setCell ?_ ?_ _) | (with_reducible refine below_step ?_ ?_ (by with_reducible assumption)) | (first | (with_reducible exact Nat.le_refl _) | (with_reducible assumption) | (with_reducible refine Nat.le_trans ?_ (Below.size (by with_reducible assumption))) | (simp only [World.size_alloc, World.size_setCell, World.size_drew, size_iter, size_drewN]) | omega)))⟩
  case inr.inl =>
    have hcc : (c == 10) = false := by rw [beq_eq_false_iff_ne]; omega
    subst h2
    have hc' := hc.symm
    have hn' := hn.symm
    have hm' := hm.symm
    have hes2 : 1 + (Utf8.encode c).size ≤ 9223372036854775807 := by omega
    clear hc hn hm
    go_enter Try.func5, Try.ntmps5
    go_wp2_with fail
    rw [HEC.out]
    refine (lines_any _ _ HSZ.out).mono ?_
    rintro e_ w1 ⟨v1, rfl, hs1, hb1⟩
    rw [HE.out]
    clear hs1 HEC HSZ
    go_wp2_with fail
    go_loop [10, 12] (fun s i => ∃ k : Nat, s = .string (mkB (List.replicate k 97)) ∧ i = .int .i64 k ∧ k ≤ 1998 + n) (fun _ i => 1998 + n - (intOf i).toNat)
    case atStart => exact ⟨0, rfl, rfl, by omega⟩
    case round =>
      obtain ⟨k, rfl, rfl, hk⟩ := hrel
      by_cases hlt : k < 1998 + n
      · have hz : (mkB (List.replicate k 97)).size + 1 ≤ 9223372036854775807 := by rw [mk_size, List.length_replicate]; omega
        have HR := Lib.hid (rep_cat k)
        go_wp2_with fail
        go_round
        case rel => exact ⟨k + 1, by rw [HR.out], by go_num, by omega⟩
        case measure => simp [intOf]; omega
      · obtain rfl : k = 1998 + n := by omega
        clear hlt hk
        go_wp2_with fail
        go_loop [11, 13] (fun s i => ∃ k : Nat, s = .string (mkB (xs k)) ∧ i = .int .i64 k ∧ k ≤ 58 + m) (fun _ i => 58 + m - (intOf i).toNat)
        case atStart => exact ⟨0, rfl, rfl, by omega⟩
        case round =>
          obtain ⟨k, rfl, rfl, hk⟩ := hrel
          by_cases hlt : k < 58 + m
          · have hz : (mkB (xs k)).size + 2 ≤ 9223372036854775807 := by rw [mk_size, xs_length]; omega
            have HR := Lib.hid (xs_cat k)
            go_wp2_with fail
            go_round
            case rel => exact ⟨k + 1, by rw [HR.out], by go_num, by omega⟩
            case measure => simp [intOf]; omega
          · obtain rfl : k = 58 + m := by omega
            clear hlt hk
            by_cases hn2 : n ≤ 2
            all_goals by_cases hm2 : m ≤ 2
            · have HL' : Hid ((linesV (mkB (List.replicate (1998 + n) 97))).2 = 0) := Lib.hid (HL.out.trans (if_pos (by omega)))
              have HX' : Hid ((linesV (mkB (xs (58 + m)))).2 = 0) := Lib.hid (HX.out.trans (if_pos (by omega)))
              have HZ1 : Hid ((mkB (List.replicate (1998 + n) 97)).size < 1000000000000) := Lib.hid (by rw [mk_size, List.length_replicate]; omega)
              have HZ2 : Hid ((mkB (xs (58 + m))).size < 1000000000000) := Lib.hid (by rw [mk_size, xs_length]; omega)
              clear HL HX
              go_wp2_with fail
              refine (lines_any _ _ HZ1.out).mono ?_
              rintro e_ w2 ⟨v2, rfl, hs2, hb2⟩
              rw [HL'.out]
              clear hs2 HL' HZ1
              go_wp2_with fail
              refine (lines_any _ _ HZ2.out).mono ?_
              rintro e_ w3 ⟨v3, rfl, hs3, hb3⟩
              rw [HX'.out]
              clear hs3 HX' HZ2
              have g1 : decide ((1998 : Int) + (n : Int) ≤ 2000) = true := decide_eq_true (by omega)
              have g2 : decide ((58 : Int) + (m : Int) ≤ 60) = true := decide_eq_true (by omega)
              go_wp2_with (go_at_call 12; refine (awake01_any _).mono ?_; rintro e_ w4 ⟨rfl, hb4⟩)
              go_ret
              exact ⟨by first | (simp; done) | (simp; omega), by (repeat' (first | (with_reducible exact Below.refl _ _) | (with_reducible assumption) | (with_reducible refine below_iter ?_ ?_ _ _) | (with_reducible refine Below.alloc ?_ ?_ _) | (with_reducible refine Below.drew ?_) | (with_reducible refine below_drewN ?_ _) | (with_reducible refine Below.setCell ?_ ?_ _) | (with_reducible refine below_step ?_ ?_ (by with_reducible assumption)) | (first | (with_reducible exact Nat.le_refl _) | (with_reducible assumption) | (with_reducible refine Nat.le_trans ?_ (Below.size (by with_reducible assumption))) | (simp only [World.size_alloc, World.size_setCell, World.size_drew, size_iter, size_drewN]) | omega)))⟩
            · have HL' : Hid ((linesV (mkB (List.replicate (1998 + n) 97))).2 = 0) := Lib.hid (HL.out.trans (if_pos (by omega)))
              have HX' : Hid ((linesV (mkB (xs (58 + m)))).2 = 3) := Lib.hid (HX.out.trans (if_neg (by omega)))
              have HZ1 : Hid ((mkB (List.replicate (1998 + n) 97)).size < 1000000000000) := Lib.hid (by rw [mk_size, List.length_replicate]; omega)
              have HZ2 : Hid ((mkB (xs (58 + m))).size < 1000000000000) := Lib.hid (by rw [mk_size, xs_length]; omega)
              clear HL HX
              go_wp2_with fail
              refine (lines_any _ _ HZ1.out).mono ?_
              rintro e_ w2 ⟨v2, rfl, hs2, hb2⟩
              rw [HL'.out]
              clear hs2 HL' HZ1
              go_wp2_with fail
              refine (lines_any _ _ HZ2.out).mono ?_
              rintro e_ w3 ⟨v3, rfl, hs3, hb3⟩
              rw [HX'.out]
              clear hs3 HX' HZ2
              have g1 : decide ((1998 : Int) + (n : Int) ≤ 2000) = true := decide_eq_true (by omega)
              have g2 : decide ((58 : Int) + (m : Int) ≤ 60) = false := decide_eq_false (by omega)
              go_wp2_with (go_at_call 12; refine (awake01_any _).mono ?_; rintro e_ w4 ⟨rfl, hb4⟩)
              go_ret
              exact ⟨by first | (simp; done) | (simp; omega), by (repeat' (first | (with_reducible exact Below.refl _ _) | (with_reducible assumption) | (with_reducible refine below_iter ?_ ?_ _ _) | (with_reducible refine Below.alloc ?_ ?_ _) | (with_reducible refine Below.drew ?_) | (with_reducible refine below_drewN ?_ _) | (with_reducible refine Below.setCell ?_ ?_ _) | (with_reducible refine below_step ?_ ?_ (by with_reducible assumption)) | (first | (with_reducible exact Nat.le_refl _) | (with_reducible assumption) | (with_reducible refine Nat.le_trans ?_ (Below.size (by with_reducible assumption))) | (simp only [World.size_alloc, World.size_setCell, World.size_drew, size_iter, size_drewN]) | omega)))⟩
            · have HL' : Hid ((linesV (mkB (List.replicate (1998 + n) 97))).2 = 3) := Lib.hid (HL.out.trans (if_neg (by omega)))
              have HX' : Hid ((linesV (mkB (xs (58 + m)))).2 = 0) := Lib.hid (HX.out.trans (if_pos (by omega)))
              have HZ1 : Hid ((mkB (List.replicate (1998 + n) 97)).size < 1000000000000) := Lib.hid (by rw [mk_size, List.length_replicate]; omega)
              have HZ2 : Hid ((mkB (xs (58 + m))).size < 1000000000000) := Lib.hid (by rw [mk_size, xs_length]; omega)
              clear HL HX
              go_wp2_with fail
              refine (lines_any _ _ HZ1.out).mono ?_
              rintro e_ w2 ⟨v2, rfl, hs2, hb2⟩
              rw [HL'.out]
              clear hs2 HL' HZ1
              go_wp2_with fail
              refine (lines_any _ _ HZ2.out).mono ?_
              rintro e_ w3 ⟨v3, rfl, hs3, hb3⟩
              rw [HX'.out]
              clear hs3 HX' HZ2
              have g1 : decide ((1998 : Int) + (n : Int) ≤ 2000) = false := decide_eq_false (by omega)
              have g2 : decide ((58 : Int) + (m : Int) ≤ 60) = true := decide_eq_true (by omega)
              go_wp2_with (go_at_call 12; refine (awake01_any _).mono ?_; rintro e_ w4 ⟨rfl, hb4⟩)
              go_ret
              exact ⟨by first | (simp; done) | (simp; omega), by (repeat' (first | (with_reducible exact Below.refl _ _) | (with_reducible assumption) | (with_reducible refine below_iter ?_ ?_ _ _) | (with_reducible refine Below.alloc ?_ ?_ _) | (with_reducible refine Below.drew ?_) | (with_reducible refine below_drewN ?_ _) | (with_reducible refine Below.setCell ?_ ?_ _) | (with_reducible refine below_step ?_ ?_ (by with_reducible assumption)) | (first | (with_reducible exact Nat.le_refl _) | (with_reducible assumption) | (with_reducible refine Nat.le_trans ?_ (Below.size (by with_reducible assumption))) | (simp only [World.size_alloc, World.size_setCell, World.size_drew, size_iter, size_drewN]) | omega)))⟩
            · have HL' : Hid ((linesV (mkB (List.replicate (1998 + n) 97))).2 = 3) := Lib.hid (HL.out.trans (if_neg (by omega)))
              have HX' : Hid ((linesV (mkB (xs (58 + m)))).2 = 3) := Lib.hid (HX.out.trans (if_neg (by omega)))
              have HZ1 : Hid ((mkB (List.replicate (1998 + n) 97)).size < 1000000000000) := Lib.hid (by rw [mk_size, List.length_replicate]; omega)
              have HZ2 : Hid ((mkB (xs (58 + m))).size < 1000000000000) := Lib.hid (by rw [mk_size, xs_length]; omega)
              clear HL HX
              go_wp2_with fail
              refine (lines_any _ _ HZ1.out).mono ?_
              rintro e_ w2 ⟨v2, rfl, hs2, hb2⟩
              rw [HL'.out]
              clear hs2 HL' HZ1
              go_wp2_with fail
              refine (lines_any _ _ HZ2.out).mono ?_
              rintro e_ w3 ⟨v3, rfl, hs3, hb3⟩
              rw [HX'.out]
              clear hs3 HX' HZ2
              have g1 : decide ((1998 : Int) + (n : Int) ≤ 2000) = false := decide_eq_false (by omega)
              have g2 : decide ((58 : Int) + (m : Int) ≤ 60) = false := decide_eq_false (by omega)
              go_wp2_with (go_at_call 12; refine (awake01_any _).mono ?_; rintro e_ w4 ⟨rfl, hb4⟩)
              go_ret
              exact ⟨by first | (simp; done) | (simp; omega), by (repeat' (first | (with_reducible exact Below.refl _ _) | (with_reducible assumption) | (with_reducible refine below_iter ?_ ?_ _ _) | (with_reducible refine Below.alloc ?_ ?_ _) | (with_reducible refine Below.drew ?_) | (with_reducible refine below_drewN ?_ _) | (with_reducible refine Below.setCell ?_ ?_ _) | (with_reducible refine below_step ?_ ?_ (by with_reducible assumption)) | (first | (with_reducible exact Nat.le_refl _) | (with_reducible assumption) | (with_reducible refine Nat.le_trans ?_ (Below.size (by with_reducible assumption))) | (simp only [World.size_alloc, World.size_setCell, World.size_drew, size_iter, size_drewN]) | omega)))⟩
  case inr.inr.inl =>
    have hcc : (c == 10) = false := by rw [beq_eq_false_iff_ne]; exact h3
    clear h3
    subst h2
    have hc' := hc.symm
    have hn' := hn.symm
    have hm' := hm.symm
    have hes2 : 1 + (Utf8.encode c).size ≤ 9223372036854775807 := by omega
    clear hc hn hm
    go_enter Try.func5, Try.ntmps5
    go_wp2_with fail
    rw [HEC.out]
    refine (lines_any _ _ HSZ.out).mono ?_
    rintro e_ w1 ⟨v1, rfl, hs1, hb1⟩
    rw [HE.out]
    clear hs1 HEC HSZ
    go_wp2_with fail
    go_loop [10, 12] (fun s i => ∃ k : Nat, s = .string (mkB (List.replicate k 97)) ∧ i = .int .i64 k ∧ k ≤ 1998 + n) (fun _ i => 1998 + n - (intOf i).toNat)
    case atStart => exact ⟨0, rfl, rfl, by omega⟩
    case round =>
      obtain ⟨k, rfl, rfl, hk⟩ := hrel
      by_cases hlt : k < 1998 + n
      · have hz : (mkB (List.replicate k 97)).size + 1 ≤ 9223372036854775807 := by rw [mk_size, List.length_replicate]; omega
        have HR := Lib.hid (rep_cat k)
        go_wp2_with fail
        go_round
        case rel => exact ⟨k + 1, by rw [HR.out], by go_num, by omega⟩
        case measure => simp [intOf]; omega
      · obtain rfl : k = 1998 + n := by omega
        clear hlt hk
        go_wp2_with fail
        go_loop [11, 13] (fun s i => ∃ k : Nat, s = .string (mkB (xs k)) ∧ i = .int .i64 k ∧ k ≤ 58 + m) (fun _ i => 58 + m - (intOf i).toNat)
        case atStart => exact ⟨0, rfl, rfl, by omega⟩
        case round =>
          obtain ⟨k, rfl, rfl, hk⟩ := hrel
          by_cases hlt : k < 58 + m
          · have hz : (mkB (xs k)).size + 2 ≤ 9223372036854775807 := by rw [mk_size, xs_length]; omega
            have HR := Lib.hid (xs_cat k)
            go_wp2_with fail
            go_round
            case rel => exact ⟨k + 1, by rw [HR.out], by go_num, by omega⟩
            case measure => simp [intOf]; omega
          · obtain rfl : k = 58 + m := by omega
            clear hlt hk
            by_cases hn2 : n ≤ 2
            all_goals by_cases hm2 : m ≤ 2
            · have HL' : Hid ((linesV (mkB (List.replicate (1998 + n) 97))).2 = 0) := Lib.hid (HL.out.trans (if_pos (by omega)))
              have HX' : Hid ((linesV (mkB (xs (58 + m)))).2 = 0) := Lib.hid (HX.out.trans (if_pos (by omega)))
              have HZ1 : Hid ((mkB (List.replicate (1998 + n) 97)).size < 1000000000000) := Lib.hid (by rw [mk_size, List.length_replicate]; omega)
              have HZ2 : Hid ((mkB (xs (58 + m))).size < 1000000000000) := Lib.hid (by rw [mk_size, xs_length]; omega)
              clear HL HX
              go_wp2_with fail
              refine (lines_any _ _ HZ1.out).mono ?_
              rintro e_ w2 ⟨v2, rfl, hs2, hb2⟩
              rw [HL'.out]
              clear hs2 HL' HZ1
              go_wp2_with fail
              refine (lines_any _ _ HZ2.out).mono ?_
              rintro e_ w3 ⟨v3, rfl, hs3, hb3⟩
              rw [HX'.out]
              clear hs3 HX' HZ2
              have g1 : decide ((1998 : Int) + (n : Int) ≤ 2000) = true := decide_eq_true (by omega)
              have g2 : decide ((58 : Int) + (m : Int) ≤ 60) = true := decide_eq_true (by omega)
              go_wp2_with (go_at_call 12; refine (awake01_any _).mono ?_; rintro e_ w4 ⟨rfl, hb4⟩)
              go_ret
              exact ⟨by first | (simp; done) | (simp; omega), by (repeat' (first | (with_reducible exact Below.refl _ _) | (with_reducible assumption) | (with_reducible refine below_iter ?_ ?_ _ _) | (with_reducible refine Below.alloc ?_ ?_ _) | (with_reducible refine Below.drew ?_) | (with_reducible refine below_drewN ?_ _) | (with_reducible refine Below.setCell ?_ ?_ _) | (with_reducible refine below_step ?_ ?_ (by with_reducible assumption)) | (first | (with_reducible exact Nat.le_refl _) | (with_reducible assumption) | (with_reducible refine Nat.le_trans ?_ (Below.size (by with_reducible assumption))) | (simp only [World.size_alloc, World.size_setCell, World.size_drew, size_iter, size_drewN]) | omega)))⟩
            · have HL' : Hid ((linesV (mkB (List.replicate (1998 + n) 97))).2 = 0) := Lib.hid (HL.out.trans (if_pos (by omega)))
              have HX' : Hid ((linesV (mkB (xs (58 + m)))).2 = 3) := Lib.hid (HX.out.trans (if_neg (by omega)))
              have HZ1 : Hid ((mkB (List.replicate (1998 + n) 97)).size < 1000000000000) := Lib.hid (by rw [mk_size, List.length_replicate]; omega)
              have HZ2 : Hid ((mkB (xs (58 + m))).size < 1000000000000) := Lib.hid (by rw [mk_size, xs_length]; omega)
              clear HL HX
              go_wp2_with fail
              refine (lines_any _ _ HZ1.out).mono ?_
              rintro e_ w2 ⟨v2, rfl, hs2, hb2⟩
              rw [HL'.out]
              clear hs2 HL' HZ1
              go_wp2_with fail
              refine (lines_any _ _ HZ2.out).mono ?_
              rintro e_ w3 ⟨v3, rfl, hs3, hb3⟩
              rw [HX'.out]
              clear hs3 HX' HZ2
              have g1 : decide ((1998 : Int) + (n : Int) ≤ 2000) = true := decide_eq_true (by omega)
              have g2 : decide ((58 : Int) + (m : Int) ≤ 60) = false := decide_eq_false (by omega)
              go_wp2_with (go_at_call 12; refine (awake01_any _).mono ?_; rintro e_ w4 ⟨rfl, hb4⟩)
              go_ret
              exact ⟨by first | (simp; done) | (simp; omega), by (repeat' (first | (with_reducible exact Below.refl _ _) | (with_reducible assumption) | (with_reducible refine below_iter ?_ ?_ _ _) | (with_reducible refine Below.alloc ?_ ?_ _) | (with_reducible refine Below.drew ?_) | (with_reducible refine below_drewN ?_ _) | (with_reducible refine Below.setCell ?_ ?_ _) | (with_reducible refine below_step ?_ ?_ (by with_reducible assumption)) | (first | (with_reducible exact Nat.le_refl _) | (with_reducible assumption) | (with_reducible refine Nat.le_trans ?_ (Below.size (by with_reducible assumption))) | (simp only [World.size_alloc, World.size_setCell, World.size_drew, size_iter, size_drewN]) | omega)))⟩
            · have HL' : Hid ((linesV (mkB (List.replicate (1998 + n) 97))).2 = 3) := Lib.hid (HL.out.trans (if_neg (by omega)))
              have HX' : Hid ((linesV (mkB (xs (58 + m)))).2 = 0) := Lib.hid (HX.out.trans (if_pos (by omega)))
              have HZ1 : Hid ((mkB (List.replicate (1998 + n) 97)).size < 1000000000000) := Lib.hid (by rw [mk_size, List.length_replicate]; omega)
              have HZ2 : Hid ((mkB (xs (58 + m))).size < 1000000000000) := Lib.hid (by rw [mk_size, xs_length]; omega)
              clear HL HX
              go_wp2_with fail
              refine (lines_any _ _ HZ1.out).mono ?_
              rintro e_ w2 ⟨v2, rfl, hs2, hb2⟩
              rw [HL'.out]
              clear hs2 HL' HZ1
              go_wp2_with fail
              refine (lines_any _ _ HZ2.out).mono ?_
              rintro e_ w3 ⟨v3, rfl, hs3, hb3⟩
              rw [HX'.out]
              clear hs3 HX' HZ2
              have g1 : decide ((1998 : Int) + (n : Int) ≤ 2000) = false := decide_eq_false (by omega)
              have g2 : decide ((58 : Int) + (m : Int) ≤ 60) = true := decide_eq_true (by omega)
              go_wp2_with (go_at_call 12; refine (awake01_any _).mono ?_; rintro e_ w4 ⟨rfl, hb4⟩)
              go_ret
              exact ⟨by first | (simp; done) | (simp; omega), by (repeat' (first | (with_reducible exact Below.refl _ _) | (with_reducible assumption) | (with_reducible refine below_iter ?_ ?_ _ _) | (with_reducible refine Below.alloc ?_ ?_ _) | (with_reducible refine Below.drew ?_) | (with_reducible refine below_drewN ?_ _) | (with_reducible refine Below.setCell ?_ ?_ _) | (with_reducible refine below_step ?_ ?_ (by with_reducible assumption)) | (first | (with_reducible exact Nat.le_refl _) | (with_reducible assumption) | (with_reducible refine Nat.le_trans ?_ (Below.size (by with_reducible assumption))) | (simp only [World.size_alloc, World.size_setCell, World.size_drew, size_iter, size_drewN]) | omega)))⟩
            · have HL' : Hid ((linesV (mkB (List.replicate (1998 + n) 97))).2 = 3) := Lib.hid (HL.out.trans (if_neg (by omega)))
              have HX' : Hid ((linesV (mkB (xs (58 + m)))).2 = 3) := Lib.hid (HX.out.trans (if_neg (by omega)))
              have HZ1 : Hid ((mkB (List.replicate (1998 + n) 97)).size < 1000000000000) := Lib.hid (by rw [mk_size, List.length_replicate]; omega)
              have HZ2 : Hid ((mkB (xs (58 + m))).size < 1000000000000) := Lib.hid (by rw [mk_size, xs_length]; omega)
              clear HL HX
              go_wp2_with fail
              refine (lines_any _ _ HZ1.out).mono ?_
              rintro e_ w2 ⟨v2, rfl, hs2, hb2⟩
              rw [HL'.out]
              clear hs2 HL' HZ1
              go_wp2_with fail
              refine (lines_any _ _ HZ2.out).mono ?_
              rintro e_ w3 ⟨v3, rfl, hs3, hb3⟩
              rw [HX'.out]
              clear hs3 HX' HZ2
              have g1 : decide ((1998 : Int) + (n : Int) ≤ 2000) = false := decide_eq_false (by omega)
              have g2 : decide ((58 : Int) + (m : Int) ≤ 60) = false := decide_eq_false (by omega)
              go_wp2_with (go_at_call 12; refine (awake01_any _).mono ?_; rintro e_ w4 ⟨rfl, hb4⟩)
              go_ret
              exact ⟨by first | (simp; done) | (simp; omega), by (repeat' (first | (with_reducible exact Below.refl _ _) | (with_reducible assumption) | (with_reducible refine below_iter ?_ ?_ _ _) | (with_reducible refine Below.alloc ?_ ?_ _) | (with_reducible refine Below.drew ?_) | (with_reducible refine below_drewN ?_ _) | (with_reducible refine Below.setCell ?_ ?_ _) | (with_reducible refine below_step ?_ ?_ (by with_reducible assumption)) | (first | (with_reducible exact Nat.le_refl _) | (with_reducible assumption) | (with_reducible refine Nat.le_trans ?_ (Below.size (by with_reducible assumption))) | (simp only [World.size_alloc, World.size_setCell, World.size_drew, size_iter, size_drewN]) | omega)))⟩
  case inr.inr.inr =>
    have hcc : (c == 10) = false := by rw [beq_eq_false_iff_ne]; omega
    subst h2
    have hc' := hc.symm
    have hn' := hn.symm
    have hm' := hm.symm
    have hes2 : 1 + (Utf8.encode c).size ≤ 9223372036854775807 := by omega
    clear hc hn hm
    go_enter Try.func5, Try.ntmps5
    go_wp2_with fail
    rw [HEC.out]
    refine (lines_any _ _ HSZ.out).mono ?_
    rintro e_ w1 ⟨v1, rfl, hs1, hb1⟩
    rw [HE.out]
    clear hs1 HEC HSZ
    go_wp2_with fail
    go_loop [10, 12] (fun s i => ∃ k : Nat, s = .string (mkB (List.replicate k 97)) ∧ i = .int .i64 k ∧ k ≤ 1998 + n) (fun _ i => 1998 + n - (intOf i).toNat)
    case atStart => exact ⟨0, rfl, rfl, by omega⟩
    case round =>
      obtain ⟨k, rfl, rfl, hk⟩ := hrel
      by_cases hlt : k < 1998 + n
      · have hz : (mkB (List.replicate k 97)).size + 1 ≤ 9223372036854775807 := by rw [mk_size, List.length_replicate]; omega
        have HR := Lib.hid (rep_cat k)
        go_wp2_with fail
        go_round
        case rel => exact ⟨k + 1, by rw [HR.out], by go_num, by omega⟩
        case measure => simp [intOf]; omega
      · obtain rfl : k = 1998 + n := by omega
        clear hlt hk
        go_wp2_with fail
        go_loop [11, 13] (fun s i => ∃ k : Nat, s = .string (mkB (xs k)) ∧ i = .int .i64 k ∧ k ≤ 58 + m) (fun _ i => 58 + m - (intOf i).toNat)
        case atStart => exact ⟨0, rfl, rfl, by omega⟩
        case round =>
          obtain ⟨k, rfl, rfl, hk⟩ := hrel
          by_cases hlt : k < 58 + m
          · have hz : (mkB (xs k)).size + 2 ≤ 9223372036854775807 := by rw [mk_size, xs_length]; omega
            have HR := Lib.hid (xs_cat k)
            go_wp2_with fail
            go_round
            case rel => exact ⟨k + 1, by rw [HR.out], by go_num, by omega⟩
            case measure => simp [intOf]; omega
          · obtain rfl : k = 58 + m := by omega
            clear hlt hk
            by_cases hn2 : n ≤ 2
            all_goals by_cases hm2 : m ≤ 2
            · have HL' : Hid ((linesV (mkB (List.replicate (1998 + n) 97))).2 = 0) := Lib.hid (HL.out.trans (if_pos (by omega)))
              have HX' : Hid ((linesV (mkB (xs (58 + m)))).2 = 0) := Lib.hid (HX.out.trans (if_pos (by omega)))
              have HZ1 : Hid ((mkB (List.replicate (1998 + n) 97)).size < 1000000000000) := Lib.hid (by rw [mk_size, List.length_replicate]; omega)
              have HZ2 : Hid ((mkB (xs (58 + m))).size < 1000000000000) := Lib.hid (by rw [mk_size, xs_length]; omega)
              clear HL HX
              go_wp2_with fail
              refine (lines_any _ _ HZ1.out).mono ?_
              rintro e_ w2 ⟨v2, rfl, hs2, hb2⟩
              rw [HL'.out]
              clear hs2 HL' HZ1
              go_wp2_with fail
              refine (lines_any _ _ HZ2.out).mono ?_
              rintro e_ w3 ⟨v3, rfl, hs3, hb3⟩
              rw [HX'.out]
              clear hs3 HX' HZ2
              have g1 : decide ((1998 : Int) + (n : Int) ≤ 2000) = true := decide_eq_true (by omega)
              have g2 : decide ((58 : Int) + (m : Int) ≤ 60) = true := decide_eq_true (by omega)
              go_wp2_with (go_at_call 12; refine (awake01_any _).mono ?_; rintro e_ w4 ⟨rfl, hb4⟩)
              go_ret
              exact ⟨by first | (simp; done) | (simp; omega), by (repeat' (first | (with_reducible exact Below.refl _ _) | (with_reducible assumption) | (with_reducible refine below_iter ?_ ?_ _ _) | (with_reducible refine Below.alloc ?_ ?_ _) | (with_reducible refine Below.drew ?_) | (with_reducible refine below_drewN ?_ _) | (with_reducible refine Below.setCell ?_ ?_ _) | (with_reducible refine below_step ?_ ?_ (by with_reducible assumption)) | (first | (with_reducible exact Nat.le_refl _) | (with_reducible assumption) | (with_reducible refine Nat.le_trans ?_ (Below.size (by with_reducible assumption))) | (simp only [World.size_alloc, World.size_setCell, World.size_drew, size_iter, size_drewN]) | omega)))⟩
            · have HL' : Hid ((linesV (mkB (List.replicate (1998 + n) 97))).2 = 0) := Lib.hid (HL.out.trans (if_pos (by omega)))
              have HX' : Hid ((linesV (mkB (xs (58 + m)))).2 = 3) := Lib.hid (HX.out.trans (if_neg (by omega)))
              have HZ1 : Hid ((mkB (List.replicate (1998 + n) 97)).size < 1000000000000) := Lib.hid (by rw [mk_size, List.length_replicate]; omega)
              have HZ2 : Hid ((mkB (xs (58 + m))).size < 1000000000000) := Lib.hid (by rw [mk_size, xs_length]; omega)
              clear HL HX
              go_wp2_with fail
              refine (lines_any _ _ HZ1.out).mono ?_
              rintro e_ w2 ⟨v2, rfl, hs2, hb2⟩
              rw [HL'.out]
              clear hs2 HL' HZ1
              go_wp2_with fail
              refine (lines_any _ _ HZ2.out).mono ?_
              rintro e_ w3 ⟨v3, rfl, hs3, hb3⟩
              rw [HX'.out]
              clear hs3 HX' HZ2
              have g1 : decide ((1998 : Int) + (n : Int) ≤ 2000) = true := decide_eq_true (by omega)
              have g2 : decide ((58 : Int) + (m : Int) ≤ 60) = false := decide_eq_false (by omega)
              go_wp2_with (go_at_call 12; refine (awake01_any _).mono ?_; rintro e_ w4 ⟨rfl, hb4⟩)
              go_ret
              exact ⟨by first | (simp; done) | (simp; omega), by (repeat' (first | (with_reducible exact Below.refl _ _) | (with_reducible assumption) | (with_reducible refine below_iter ?_ ?_ _ _) | (with_reducible refine Below.alloc ?_ ?_ _) | (with_reducible refine Below.drew ?_) | (with_reducible refine below_drewN ?_ _) | (with_reducible refine Below.setCell ?_ ?_ _) | (with_reducible refine below_step ?_ ?_ (by with_reducible assumption)) | (first | (with_reducible exact Nat.le_refl _) | (with_reducible assumption) | (with_reducible refine Nat.le_trans ?_ (Below.size (by with_reducible assumption))) | (simp only [World.size_alloc, World.size_setCell, World.size_drew, size_iter, size_drewN]) | omega)))⟩
            · have HL' : Hid ((linesV (mkB (List.replicate (1998 + n) 97))).2 = 3) := Lib.hid (HL.out.trans (if_neg (by omega)))
              have HX' : Hid ((linesV (mkB (xs (58 + m)))).2 = 0) := Lib.hid (HX.out.trans (if_pos (by omega)))
              have HZ1 : Hid ((mkB (List.replicate (1998 + n) 97)).size < 1000000000000) := Lib.hid (by rw [mk_size, List.length_replicate]; omega)
              have HZ2 : Hid ((mkB (xs (58 + m))).size < 1000000000000) := Lib.hid (by rw [mk_size, xs_length]; omega)
              clear HL HX
              go_wp2_with fail
              refine (lines_any _ _ HZ1.out).mono ?_
              rintro e_ w2 ⟨v2, rfl, hs2, hb2⟩
              rw [HL'.out]
              clear hs2 HL' HZ1
              go_wp2_with fail
              refine (lines_any _ _ HZ2.out).mono ?_
              rintro e_ w3 ⟨v3, rfl, hs3, hb3⟩
              rw [HX'.out]
              clear hs3 HX' HZ2
              have g1 : decide ((1998 : Int) + (n : Int) ≤ 2000) = false := decide_eq_false (by omega)
              have g2 : decide ((58 : Int) + (m : Int) ≤ 60) = true := decide_eq_true (by omega)
              go_wp2_with (go_at_call 12; refine (awake01_any _).mono ?_; rintro e_ w4 ⟨rfl, hb4⟩)
              go_ret
              exact ⟨by first | (simp; done) | (simp; omega), by (repeat' (first | (with_reducible exact Below.refl _ _) | (with_reducible assumption) | (with_reducible refine below_iter ?_ ?_ _ _) | (with_reducible refine Below.alloc ?_ ?_ _) | (with_reducible refine Below.drew ?_) | (with_reducible refine below_drewN ?_ _) | (with_reducible refine Below.setCell ?_ ?_ _) | (with_reducible refine below_step ?_ ?_ (by with_reducible assumption)) | (first | (with_reducible exact Nat.le_refl _) | (with_reducible assumption) | (with_reducible refine Nat.le_trans ?_ (Below.size (by with_reducible assumption))) | (simp only [World.size_alloc, World.size_setCell, World.size_drew, size_iter, size_drewN]) | omega)))⟩
            · have HL' : Hid ((linesV (mkB (List.replicate (1998 + n) 97))).2 = 3) := Lib.hid (HL.out.trans (if_neg (by omega)))
              have HX' : Hid ((linesV (mkB (xs (58 + m)))).2 = 3) := Lib.hid (HX.out.trans (if_neg (by omega)))
              have HZ1 : Hid ((mkB (List.replicate (1998 + n) 97)).size < 1000000000000) := Lib.hid (by rw [mk_size, List.length_replicate]; omega)
              have HZ2 : Hid ((mkB (xs (58 + m))).size < 1000000000000) := Lib.hid (by rw [mk_size, xs_length]; omega)
              clear HL HX
              go_wp2_with fail
              refine (lines_any _ _ HZ1.out).mono ?_
              rintro e_ w2 ⟨v2, rfl, hs2, hb2⟩
              rw [HL'.out]
              clear hs2 HL' HZ1
              go_wp2_with fail
              refine (lines_any _ _ HZ2.out).mono ?_
              rintro e_ w3 ⟨v3, rfl, hs3, hb3⟩
              rw [HX'.out]
              clear hs3 HX' HZ2
              have g1 : decide ((1998 : Int) + (n : Int) ≤ 2000) = false := decide_eq_false (by omega)
              have g2 : decide ((58 : Int) + (m : Int) ≤ 60) = false := decide_eq_false (by omega)
              go_wp2_with (go_at_call 12; refine (awake01_any _).mono ?_; rintro e_ w4 ⟨rfl, hb4⟩)
              go_ret
              exact ⟨by first | (simp; done) | (simp; omega), by (repeat' (first | (with_reducible exact Below.refl _ _) | (with_reducible assumption) | (with_reducible refine below_iter ?_ ?_ _ _) | (with_reducible refine Below.alloc ?_ ?_ _) | (with_reducible refine Below.drew ?_) | (with_reducible refine below_drewN ?_ _) | (with_reducible refine Below.setCell ?_ ?_ _) | (with_reducible refine below_step ?_ ?_ (by with_reducible assumption)) | (first | (with_reducible exact Nat.le_refl _) | (with_reducible assumption) | (with_reducible refine Nat.le_trans ?_ (Below.size (by with_reducible assumption))) | (simp only [World.size_alloc, World.size_setCell, World.size_drew, size_iter, size_drewN]) | omega)))⟩
theorem walk (a0 : Int) (w0 : (Lit.int .i64 a0).wf = true) (a1 : Int) (w1 : (Lit.int .i64 a1).wf = true) (a2 : Int) (w2 : (Lit.int .i64 a2).wf = true) (w : World) :
    Calls Try.prog 5 #[.int .i64 a0, .int .i64 a1, .int .i64 a2] w fun e w' => e = .returned (.bool true) ∧ Below w.heap.size w w' := by
  obtain ⟨c0, c1⟩ := umod_bd a0 1200000 (by omega) (by omega)
  obtain ⟨n0, n1⟩ := umod_bd a1 5 (by omega) (by omega)
  obtain ⟨m0, m1⟩ := umod_bd a2 5 (by omega) (by omega)
  obtain ⟨n, hn⟩ := Int.eq_ofNat_of_zero_le n0
  obtain ⟨m, hm⟩ := Int.eq_ofNat_of_zero_le m0
  refine core a0 a1 a2 _ _ n m w rfl hn.symm hm.symm c0 c1 (by omega) (by omega) rfl ?_
  have h := sign_any _ c0
  generalize wrap64 ((IntKind.u64.wrap a0).tmod 1200000) = c at *
  show Case c (linesV (bytesOfL (97 :: (Utf8.encode c).data.toList))).2
  rw [h]
  unfold mayB Case
  by_cases h1 : c = 10
  · left; exact ⟨h1, by simp [h1]⟩
  by_cases h2 : 32 ≤ c
  · by_cases h3 : c ≤ 126
    · right; left; exact ⟨h2, h3, by simp [h2, h3]⟩
    · right; right; right; exact ⟨by omega, by simp [h1, h3]⟩
  · right; right; left; exact ⟨by omega, h1, by simp [h1, h2]⟩

set_option maxRecDepth 100000 in
theorem lifted (os : Os) (started : os.Started) (H : Type) (enc : TypeId × Value → H) :
    ReturnsInHanded {} Try.checked os 5 .any (Rows.textSignsSpec.pre6 enc Try.prog Try.f5 Rows.textSignsRow.domain false) (Rows.textSignsSpec.post enc Try.prog Try.f5 false true false false) := by
  refine returnsInHanded_of_change (C := Try.checked) own started (by kernel_rfl) Try.func5
    (ChangeSpec.witness6 (enc := enc) (C := Try.checked) false ⟨#[], #[.int .i64 0, .int .i64 0, .int .i64 0], []⟩ 8 (by kernel_rfl) (by kernel_rfl) (by kernel_rfl) (by kernel_rfl)) ?_
  intro W base args ds gs before hval0 hW hcnd _
  have hval : ∀ (j : Nat) t v, Try.f5.params[j]? = some t → args[j]? = some v → Value.okWide Try.prog W .any base t v := hval0
  have hW' := hW
  obtain ⟨p, q, hA0, hV, rfl, hfz, hnd⟩ := hW
  have hA : DataW.TrodAll enc Try.prog W 0 (fun _ => true) true Try.f5.params.toList args.toList ds p := hA0
  rw [Try.params5] at hA hval
  obtain ⟨v0, vs0, d0, ds0, p0, q0, hargs, rfl, rfl, h0, r0⟩ := trodAll_cons hA
  obtain ⟨v1, vs1, d1, ds1, p1, q1, rfl, rfl, rfl, h1, r1⟩ := trodAll_cons r0
  obtain ⟨v2, vs2, d2, ds2, p2, q2, rfl, rfl, rfl, h2, r2⟩ := trodAll_cons r1
  obtain ⟨rfl, rfl, rfl⟩ := trodAll_nil r2
  obtain rfl : args = #[v0, v1, v2] := by cases args; simp_all
  obtain ⟨rfl, rfl⟩ := trodVars_none hV
  obtain ⟨a0, rfl, rfl, rfl, w0⟩ := open_int Try.underlying3 (hval 0 3 v0 rfl rfl) h0
  obtain ⟨a1, rfl, rfl, rfl, w1⟩ := open_int Try.underlying3 (hval 1 3 v1 rfl rfl) h1
  obtain ⟨a2, rfl, rfl, rfl, w2⟩ := open_int Try.underlying3 (hval 2 3 v2 rfl rfl) h2
  clear hA0 hval0
  simp only [List.append_nil] at hW'
  refine (walk a0 w0 a1 w1 a2 w2 W).mono fun e W' ⟨he, hg⟩ => ?_
  subst he
  exact ⟨_, rfl, law_post (pa := []) (pv := []) hW' (fun _ _ _ => (trodAll_cons_mk (shut_bool Try.underlying4 _) trodAll_mk0)) (fun sp _ => (trodAll_cons_mk (shut_int Try.underlying3 w0) (trodAll_cons_mk (shut_int Try.underlying3 w1) (trodAll_cons_mk (shut_int Try.underlying3 w2) trodAll_mk0)))) (fun _ _ => rfl) rfl
    hg (ok_one (by kernel_rfl) rfl (okWide_bool_mk Try.underlying4 _))⟩

theorem over : Rows.textSignsRow.holds Try.pinned (OpenSpec.ofChange Rows.textSignsSpec) :=
  OpenClaim.holds_of_wide 5 Try.f5 rfl rfl rfl rfl rfl rfl rfl ⟨rfl, rfl, rfl, rfl, rfl⟩ rfl rfl rfl rfl rfl (by kernel_rfl) Try.func5 (by kernel_rfl)
    (of_decide_eq_true (by kernel_rfl)) (by unfold Func.isWrapper; first | (rw [if_pos (by decide +kernel)]; kernel_rfl) | (rw [if_neg (by decide +kernel)]; exact ⟨rfl, rfl⟩))
    (fun os started H enc _ => lifted os started H enc)

theorem proved : Rows.TextSignsSaid :=
  over
#print axioms proved
end Go.Proofs.Ytpblikbdnbgglaa.textSigns
