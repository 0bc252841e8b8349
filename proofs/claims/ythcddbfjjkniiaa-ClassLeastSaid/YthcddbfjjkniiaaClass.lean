/-
  Package class and its reference: what each call returns, for every integer. No condition but that the argument is a Go int.
-/
import Derived.Test.YthcddbfjjkniiaaRows
import Derived.Test.YthcddbfjjkniiaaLem
import Derived.WalkKit
import Derived.ProofKit
import Derived.OpenShut
import Derived.Handy
import Derived.Lib.Hide
import Derived.Outline
import Derived.BigQuiet
import Derived.Deep.QuietTactic
namespace Go.Proofs.Ythcddbfjjkniiaa
open Go.ChangeShapes Go.WideShapes Go.ChangeAt Go.RowKit
abbrev sz : ByteArray := ⟨#[4, 8, 16, 32]⟩
theorem nx0 (w : World) (ty : TypeId) : (Instr.next (.pointer (some ⟨w.heap.size, 0, none⟩)) true ty).run Try.prog (w.iter ⟨#[4, 8, 16, 32]⟩ 0) = .ok (.tuple #[.bool true, .int .i64 0, .int .i32 4]) (w.iter ⟨#[4, 8, 16, 32]⟩ 1) := run_next_ascii w sz 0 ty (by decide) (by decide)
theorem nx1 (w : World) (ty : TypeId) : (Instr.next (.pointer (some ⟨w.heap.size, 0, none⟩)) true ty).run Try.prog (w.iter ⟨#[4, 8, 16, 32]⟩ 1) = .ok (.tuple #[.bool true, .int .i64 1, .int .i32 8]) (w.iter ⟨#[4, 8, 16, 32]⟩ 2) := run_next_ascii w sz 1 ty (by decide) (by decide)
theorem nx2 (w : World) (ty : TypeId) : (Instr.next (.pointer (some ⟨w.heap.size, 0, none⟩)) true ty).run Try.prog (w.iter ⟨#[4, 8, 16, 32]⟩ 2) = .ok (.tuple #[.bool true, .int .i64 2, .int .i32 16]) (w.iter ⟨#[4, 8, 16, 32]⟩ 3) := run_next_ascii w sz 2 ty (by decide) (by decide)
theorem nx3 (w : World) (ty : TypeId) : (Instr.next (.pointer (some ⟨w.heap.size, 0, none⟩)) true ty).run Try.prog (w.iter ⟨#[4, 8, 16, 32]⟩ 3) = .ok (.tuple #[.bool true, .int .i64 3, .int .i32 32]) (w.iter ⟨#[4, 8, 16, 32]⟩ 4) := run_next_ascii w sz 3 ty (by decide) (by decide)
theorem nx4 (w : World) (ty : TypeId) : (Instr.next (.pointer (some ⟨w.heap.size, 0, none⟩)) true ty).run Try.prog (w.iter ⟨#[4, 8, 16, 32]⟩ 4) = .ok (.tuple #[.bool false]) (w.iter ⟨#[4, 8, 16, 32]⟩ 4) := run_next_end w sz 4 ty (by decide)
attribute [local go_sem] nx0 nx1 nx2 nx3 nx4

def clsOf (n : Int) : Int := if n < 0 then 0 else if n < 4 then 0 else if n < 8 then 1 else if n < 16 then 2 else if n < 32 then 3 else 0
def isCls (n : Int) : Bool := decide (0 ≤ n ∧ n < 32)
def wordsOf (c : Int) : Int := if c = 0 then 4 else if c = 1 then 8 else if c = 2 then 16 else if c = 3 then 32 else 0
def slotsOf (c : Int) : Int := if c = 0 then 8 else if c = 1 then 4 else if c = 2 then 2 else if c = 3 then 1 else 0

theorem of_any (n : Int) (w : World) (hb : -9223372036854775808 ≤ n ∧ n ≤ 9223372036854775807) : Calls Try.prog 23 #[.int .i64 n] w fun e w' => e = .returned (.tuple #[.int .i64 (clsOf n), .bool (isCls n)]) ∧ Below w.heap.size w w' := by
  obtain ⟨h1, h2⟩ := hb
  by_cases a0 : n < 0
  · go_enter Try.func23, Try.ntmps23
    go_wp2
    go_ret2
    refine ⟨?_, by (repeat' (first | (with_reducible exact Below.refl _ _) | (with_reducible assumption) | (with_reducible refine below_iter ?_ ?_ _ _) | (with_reducible refine Below.alloc ?_ ?_ _) | (with_reducible refine Below.drew ?_) | (with_reducible refine below_drewN ?_ _) | (with_reducible refine Below.setCell ?_ ?_ _) | (with_reducible refine below_step ?_ ?_ (by with_reducible assumption)) | (first | (with_reducible exact Nat.le_refl _) | (with_reducible assumption) | (with_reducible refine Nat.le_trans ?_ (Below.size (by with_reducible assumption))) | omega | (simp only [World.size_alloc, World.size_setCell, World.size_drew, size_iter, size_drewN]; done) | (simp only [World.size_alloc, World.size_setCell, World.size_drew, size_iter, size_drewN]; omega))))⟩
    simp [clsOf, isCls, a0]; omega
  have hn : 0 ≤ n := by omega
  by_cases a1 : n < 4
  · go_enter Try.func23, Try.ntmps23
    go_wp2
    go_rounds 5
    go_ret2
    refine ⟨?_, by (repeat' (first | (with_reducible exact Below.refl _ _) | (with_reducible assumption) | (with_reducible refine below_iter ?_ ?_ _ _) | (with_reducible refine Below.alloc ?_ ?_ _) | (with_reducible refine Below.drew ?_) | (with_reducible refine below_drewN ?_ _) | (with_reducible refine Below.setCell ?_ ?_ _) | (with_reducible refine below_step ?_ ?_ (by with_reducible assumption)) | (first | (with_reducible exact Nat.le_refl _) | (with_reducible assumption) | (with_reducible refine Nat.le_trans ?_ (Below.size (by with_reducible assumption))) | omega | (simp only [World.size_alloc, World.size_setCell, World.size_drew, size_iter, size_drewN]; done) | (simp only [World.size_alloc, World.size_setCell, World.size_drew, size_iter, size_drewN]; omega))))⟩
    simp [show clsOf n = 0 by unfold clsOf; omega, show isCls n = true by simp [isCls]; omega]
  by_cases a2 : n < 8
  · go_enter Try.func23, Try.ntmps23
    go_wp2
    go_rounds 5
    go_ret2
    refine ⟨?_, by (repeat' (first | (with_reducible exact Below.refl _ _) | (with_reducible assumption) | (with_reducible refine below_iter ?_ ?_ _ _) | (with_reducible refine Below.alloc ?_ ?_ _) | (with_reducible refine Below.drew ?_) | (with_reducible refine below_drewN ?_ _) | (with_reducible refine Below.setCell ?_ ?_ _) | (with_reducible refine below_step ?_ ?_ (by with_reducible assumption)) | (first | (with_reducible exact Nat.le_refl _) | (with_reducible assumption) | (with_reducible refine Nat.le_trans ?_ (Below.size (by with_reducible assumption))) | omega | (simp only [World.size_alloc, World.size_setCell, World.size_drew, size_iter, size_drewN]; done) | (simp only [World.size_alloc, World.size_setCell, World.size_drew, size_iter, size_drewN]; omega))))⟩
    simp [show clsOf n = 1 by unfold clsOf; omega, show isCls n = true by simp [isCls]; omega]
  by_cases a3 : n < 16
  · go_enter Try.func23, Try.ntmps23
    go_wp2
    go_rounds 5
    go_ret2
    refine ⟨?_, by (repeat' (first | (with_reducible exact Below.refl _ _) | (with_reducible assumption) | (with_reducible refine below_iter ?_ ?_ _ _) | (with_reducible refine Below.alloc ?_ ?_ _) | (with_reducible refine Below.drew ?_) | (with_reducible refine below_drewN ?_ _) | (with_reducible refine Below.setCell ?_ ?_ _) | (with_reducible refine below_step ?_ ?_ (by with_reducible assumption)) | (first | (with_reducible exact Nat.le_refl _) | (with_reducible assumption) | (with_reducible refine Nat.le_trans ?_ (Below.size (by with_reducible assumption))) | omega | (simp only [World.size_alloc, World.size_setCell, World.size_drew, size_iter, size_drewN]; done) | (simp only [World.size_alloc, World.size_setCell, World.size_drew, size_iter, size_drewN]; omega))))⟩
    simp [show clsOf n = 2 by unfold clsOf; omega, show isCls n = true by simp [isCls]; omega]
  by_cases a4 : n < 32
  · go_enter Try.func23, Try.ntmps23
    go_wp2
    go_rounds 5
    go_ret2
    refine ⟨?_, by (repeat' (first | (with_reducible exact Below.refl _ _) | (with_reducible assumption) | (with_reducible refine below_iter ?_ ?_ _ _) | (with_reducible refine Below.alloc ?_ ?_ _) | (with_reducible refine Below.drew ?_) | (with_reducible refine below_drewN ?_ _) | (with_reducible refine Below.setCell ?_ ?_ _) | (with_reducible refine below_step ?_ ?_ (by with_reducible assumption)) | (first | (with_reducible exact Nat.le_refl _) | (with_reducible assumption) | (with_reducible refine Nat.le_trans ?_ (Below.size (by with_reducible assumption))) | omega | (simp only [World.size_alloc, World.size_setCell, World.size_drew, size_iter, size_drewN]; done) | (simp only [World.size_alloc, World.size_setCell, World.size_drew, size_iter, size_drewN]; omega))))⟩
    simp [show clsOf n = 3 by unfold clsOf; omega, show isCls n = true by simp [isCls]; omega]
  · go_enter Try.func23, Try.ntmps23
    go_wp2
    go_rounds 5
    go_ret2
    refine ⟨?_, by (repeat' (first | (with_reducible exact Below.refl _ _) | (with_reducible assumption) | (with_reducible refine below_iter ?_ ?_ _ _) | (with_reducible refine Below.alloc ?_ ?_ _) | (with_reducible refine Below.drew ?_) | (with_reducible refine below_drewN ?_ _) | (with_reducible refine Below.setCell ?_ ?_ _) | (with_reducible refine below_step ?_ ?_ (by with_reducible assumption)) | (first | (with_reducible exact Nat.le_refl _) | (with_reducible assumption) | (with_reducible refine Nat.le_trans ?_ (Below.size (by with_reducible assumption))) | omega | (simp only [World.size_alloc, World.size_setCell, World.size_drew, size_iter, size_drewN]; done) | (simp only [World.size_alloc, World.size_setCell, World.size_drew, size_iter, size_drewN]; omega))))⟩
    simp [show clsOf n = 0 by unfold clsOf; omega, show isCls n = false by simp [isCls]; omega]

theorem words_any (c : Int) (w : World) : Calls Try.prog 26 #[.int .i64 c] w fun e w' => e = .returned (.int .i64 (wordsOf c)) ∧ Below w.heap.size w w' := by
  by_cases a0 : c = 0
  · subst a0
    go_enter Try.func26, Try.ntmps26
    go_wp2
    go_rounds 5
    go_ret
    exact ⟨rfl, by (repeat' (first | (with_reducible exact Below.refl _ _) | (with_reducible assumption) | (with_reducible refine below_iter ?_ ?_ _ _) | (with_reducible refine Below.alloc ?_ ?_ _) | (with_reducible refine Below.drew ?_) | (with_reducible refine below_drewN ?_ _) | (with_reducible refine Below.setCell ?_ ?_ _) | (with_reducible refine below_step ?_ ?_ (by with_reducible assumption)) | (first | (with_reducible exact Nat.le_refl _) | (with_reducible assumption) | (with_reducible refine Nat.le_trans ?_ (Below.size (by with_reducible assumption))) | omega | (simp only [World.size_alloc, World.size_setCell, World.size_drew, size_iter, size_drewN]; done) | (simp only [World.size_alloc, World.size_setCell, World.size_drew, size_iter, size_drewN]; omega))))⟩
  by_cases a1 : c = 1
  · subst a1
    go_enter Try.func26, Try.ntmps26
    go_wp2
    go_rounds 5
    go_ret
    exact ⟨rfl, by (repeat' (first | (with_reducible exact Below.refl _ _) | (with_reducible assumption) | (with_reducible refine below_iter ?_ ?_ _ _) | (with_reducible refine Below.alloc ?_ ?_ _) | (with_reducible refine Below.drew ?_) | (with_reducible refine below_drewN ?_ _) | (with_reducible refine Below.setCell ?_ ?_ _) | (with_reducible refine below_step ?_ ?_ (by with_reducible assumption)) | (first | (with_reducible exact Nat.le_refl _) | (with_reducible assumption) | (with_reducible refine Nat.le_trans ?_ (Below.size (by with_reducible assumption))) | omega | (simp only [World.size_alloc, World.size_setCell, World.size_drew, size_iter, size_drewN]; done) | (simp only [World.size_alloc, World.size_setCell, World.size_drew, size_iter, size_drewN]; omega))))⟩
  by_cases a2 : c = 2
  · subst a2
    go_enter Try.func26, Try.ntmps26
    go_wp2
    go_rounds 5
    go_ret
    exact ⟨rfl, by (repeat' (first | (with_reducible exact Below.refl _ _) | (with_reducible assumption) | (with_reducible refine below_iter ?_ ?_ _ _) | (with_reducible refine Below.alloc ?_ ?_ _) | (with_reducible refine Below.drew ?_) | (with_reducible refine below_drewN ?_ _) | (with_reducible refine Below.setCell ?_ ?_ _) | (with_reducible refine below_step ?_ ?_ (by with_reducible assumption)) | (first | (with_reducible exact Nat.le_refl _) | (with_reducible assumption) | (with_reducible refine Nat.le_trans ?_ (Below.size (by with_reducible assumption))) | omega | (simp only [World.size_alloc, World.size_setCell, World.size_drew, size_iter, size_drewN]; done) | (simp only [World.size_alloc, World.size_setCell, World.size_drew, size_iter, size_drewN]; omega))))⟩
  by_cases a3 : c = 3
  · subst a3
    go_enter Try.func26, Try.ntmps26
    go_wp2
    go_rounds 5
    go_ret
    exact ⟨rfl, by (repeat' (first | (with_reducible exact Below.refl _ _) | (with_reducible assumption) | (with_reducible refine below_iter ?_ ?_ _ _) | (with_reducible refine Below.alloc ?_ ?_ _) | (with_reducible refine Below.drew ?_) | (with_reducible refine below_drewN ?_ _) | (with_reducible refine Below.setCell ?_ ?_ _) | (with_reducible refine below_step ?_ ?_ (by with_reducible assumption)) | (first | (with_reducible exact Nat.le_refl _) | (with_reducible assumption) | (with_reducible refine Nat.le_trans ?_ (Below.size (by with_reducible assumption))) | omega | (simp only [World.size_alloc, World.size_setCell, World.size_drew, size_iter, size_drewN]; done) | (simp only [World.size_alloc, World.size_setCell, World.size_drew, size_iter, size_drewN]; omega))))⟩
  · have e0 : ((0 : Int) == c) = false := by simp; omega
    have e1 : ((1 : Int) == c) = false := by simp; omega
    have e2 : ((2 : Int) == c) = false := by simp; omega
    have e3 : ((3 : Int) == c) = false := by simp; omega
    go_enter Try.func26, Try.ntmps26
    go_wp2
    go_rounds 5
    go_ret
    exact ⟨by simp [wordsOf, a0, a1, a2, a3], by (repeat' (first | (with_reducible exact Below.refl _ _) | (with_reducible assumption) | (with_reducible refine below_iter ?_ ?_ _ _) | (with_reducible refine Below.alloc ?_ ?_ _) | (with_reducible refine Below.drew ?_) | (with_reducible refine below_drewN ?_ _) | (with_reducible refine Below.setCell ?_ ?_ _) | (with_reducible refine below_step ?_ ?_ (by with_reducible assumption)) | (first | (with_reducible exact Nat.le_refl _) | (with_reducible assumption) | (with_reducible refine Nat.le_trans ?_ (Below.size (by with_reducible assumption))) | omega | (simp only [World.size_alloc, World.size_setCell, World.size_drew, size_iter, size_drewN]; done) | (simp only [World.size_alloc, World.size_setCell, World.size_drew, size_iter, size_drewN]; omega))))⟩

theorem slots_any (c : Int) (w : World) : Calls Try.prog 28 #[.int .i64 c] w fun e w' => e = .returned (.int .i64 (slotsOf c)) ∧ Below w.heap.size w w' := by
  by_cases a0 : c = 0
  · subst a0
    go_enter Try.func28, Try.ntmps28
    go_wp2_with (go_at_call 26; refine (words_any _ _).mono ?_; rintro e w' ⟨rfl, hb⟩; simp only [show wordsOf 0 = 4 from rfl])
    go_ret
    exact ⟨rfl, by (repeat' (first | (with_reducible exact Below.refl _ _) | (with_reducible assumption) | (with_reducible refine below_iter ?_ ?_ _ _) | (with_reducible refine Below.alloc ?_ ?_ _) | (with_reducible refine Below.drew ?_) | (with_reducible refine below_drewN ?_ _) | (with_reducible refine Below.setCell ?_ ?_ _) | (with_reducible refine below_step ?_ ?_ (by with_reducible assumption)) | (first | (with_reducible exact Nat.le_refl _) | (with_reducible assumption) | (with_reducible refine Nat.le_trans ?_ (Below.size (by with_reducible assumption))) | omega | (simp only [World.size_alloc, World.size_setCell, World.size_drew, size_iter, size_drewN]; done) | (simp only [World.size_alloc, World.size_setCell, World.size_drew, size_iter, size_drewN]; omega))))⟩
  by_cases a1 : c = 1
  · subst a1
    go_enter Try.func28, Try.ntmps28
    go_wp2_with (go_at_call 26; refine (words_any _ _).mono ?_; rintro e w' ⟨rfl, hb⟩; simp only [show wordsOf 1 = 8 from rfl])
    go_ret
    exact ⟨rfl, by (repeat' (first | (with_reducible exact Below.refl _ _) | (with_reducible assumption) | (with_reducible refine below_iter ?_ ?_ _ _) | (with_reducible refine Below.alloc ?_ ?_ _) | (with_reducible refine Below.drew ?_) | (with_reducible refine below_drewN ?_ _) | (with_reducible refine Below.setCell ?_ ?_ _) | (with_reducible refine below_step ?_ ?_ (by with_reducible assumption)) | (first | (with_reducible exact Nat.le_refl _) | (with_reducible assumption) | (with_reducible refine Nat.le_trans ?_ (Below.size (by with_reducible assumption))) | omega | (simp only [World.size_alloc, World.size_setCell, World.size_drew, size_iter, size_drewN]; done) | (simp only [World.size_alloc, World.size_setCell, World.size_drew, size_iter, size_drewN]; omega))))⟩
  by_cases a2 : c = 2
  · subst a2
    go_enter Try.func28, Try.ntmps28
    go_wp2_with (go_at_call 26; refine (words_any _ _).mono ?_; rintro e w' ⟨rfl, hb⟩; simp only [show wordsOf 2 = 16 from rfl])
    go_ret
    exact ⟨rfl, by (repeat' (first | (with_reducible exact Below.refl _ _) | (with_reducible assumption) | (with_reducible refine below_iter ?_ ?_ _ _) | (with_reducible refine Below.alloc ?_ ?_ _) | (with_reducible refine Below.drew ?_) | (with_reducible refine below_drewN ?_ _) | (with_reducible refine Below.setCell ?_ ?_ _) | (with_reducible refine below_step ?_ ?_ (by with_reducible assumption)) | (first | (with_reducible exact Nat.le_refl _) | (with_reducible assumption) | (with_reducible refine Nat.le_trans ?_ (Below.size (by with_reducible assumption))) | omega | (simp only [World.size_alloc, World.size_setCell, World.size_drew, size_iter, size_drewN]; done) | (simp only [World.size_alloc, World.size_setCell, World.size_drew, size_iter, size_drewN]; omega))))⟩
  by_cases a3 : c = 3
  · subst a3
    go_enter Try.func28, Try.ntmps28
    go_wp2_with (go_at_call 26; refine (words_any _ _).mono ?_; rintro e w' ⟨rfl, hb⟩; simp only [show wordsOf 3 = 32 from rfl])
    go_ret
    exact ⟨rfl, by (repeat' (first | (with_reducible exact Below.refl _ _) | (with_reducible assumption) | (with_reducible refine below_iter ?_ ?_ _ _) | (with_reducible refine Below.alloc ?_ ?_ _) | (with_reducible refine Below.drew ?_) | (with_reducible refine below_drewN ?_ _) | (with_reducible refine Below.setCell ?_ ?_ _) | (with_reducible refine below_step ?_ ?_ (by with_reducible assumption)) | (first | (with_reducible exact Nat.le_refl _) | (with_reducible assumption) | (with_reducible refine Nat.le_trans ?_ (Below.size (by with_reducible assumption))) | omega | (simp only [World.size_alloc, World.size_setCell, World.size_drew, size_iter, size_drewN]; done) | (simp only [World.size_alloc, World.size_setCell, World.size_drew, size_iter, size_drewN]; omega))))⟩
  · have hw : wordsOf c = 0 := by simp [wordsOf, a0, a1, a2, a3]
    go_enter Try.func28, Try.ntmps28
    go_wp2_with (go_at_call 26; refine (words_any _ _).mono ?_; rintro e w' ⟨rfl, hb⟩; simp only [hw])
    go_ret
    exact ⟨by simp [slotsOf, a0, a1, a2, a3], by (repeat' (first | (with_reducible exact Below.refl _ _) | (with_reducible assumption) | (with_reducible refine below_iter ?_ ?_ _ _) | (with_reducible refine Below.alloc ?_ ?_ _) | (with_reducible refine Below.drew ?_) | (with_reducible refine below_drewN ?_ _) | (with_reducible refine Below.setCell ?_ ?_ _) | (with_reducible refine below_step ?_ ?_ (by with_reducible assumption)) | (first | (with_reducible exact Nat.le_refl _) | (with_reducible assumption) | (with_reducible refine Nat.le_trans ?_ (Below.size (by with_reducible assumption))) | omega | (simp only [World.size_alloc, World.size_setCell, World.size_drew, size_iter, size_drewN]; done) | (simp only [World.size_alloc, World.size_setCell, World.size_drew, size_iter, size_drewN]; omega))))⟩

/-! ### The reference -/
theorem ref_words_any (c : Int) (w : World) : Calls Try.prog 27 #[.int .i64 c] w fun e w' => e = .returned (.int .i64 (wordsOf c)) ∧ Below w.heap.size w w' := by
  by_cases h0 : c < 0
  · have hw : wordsOf c = 0 := by unfold wordsOf; omega
    go_enter Try.func27, Try.ntmps27
    go_wp2
    go_ret
    exact ⟨by simp [hw], by (repeat' (first | (with_reducible exact Below.refl _ _) | (with_reducible assumption) | (with_reducible refine below_iter ?_ ?_ _ _) | (with_reducible refine Below.alloc ?_ ?_ _) | (with_reducible refine Below.drew ?_) | (with_reducible refine below_drewN ?_ _) | (with_reducible refine Below.setCell ?_ ?_ _) | (with_reducible refine below_step ?_ ?_ (by with_reducible assumption)) | (first | (with_reducible exact Nat.le_refl _) | (with_reducible assumption) | (with_reducible refine Nat.le_trans ?_ (Below.size (by with_reducible assumption))) | omega | (simp only [World.size_alloc, World.size_setCell, World.size_drew, size_iter, size_drewN]; done) | (simp only [World.size_alloc, World.size_setCell, World.size_drew, size_iter, size_drewN]; omega))))⟩
  by_cases h3 : c > 3
  · have hw : wordsOf c = 0 := by unfold wordsOf; omega
    go_enter Try.func27, Try.ntmps27
    go_wp2
    go_ret
    exact ⟨rfl, by (repeat' (first | (with_reducible exact Below.refl _ _) | (with_reducible assumption) | (with_reducible refine below_iter ?_ ?_ _ _) | (with_reducible refine Below.alloc ?_ ?_ _) | (with_reducible refine Below.drew ?_) | (with_reducible refine below_drewN ?_ _) | (with_reducible refine Below.setCell ?_ ?_ _) | (with_reducible refine below_step ?_ ?_ (by with_reducible assumption)) | (first | (with_reducible exact Nat.le_refl _) | (with_reducible assumption) | (with_reducible refine Nat.le_trans ?_ (Below.size (by with_reducible assumption))) | omega | (simp only [World.size_alloc, World.size_setCell, World.size_drew, size_iter, size_drewN]; done) | (simp only [World.size_alloc, World.size_setCell, World.size_drew, size_iter, size_drewN]; omega))))⟩
  · obtain rfl | rfl | rfl | rfl : c = 0 ∨ c = 1 ∨ c = 2 ∨ c = 3 := by omega
    all_goals
      go_enter Try.func27, Try.ntmps27
      go_wp2
      go_ret
      exact ⟨rfl, by (repeat' (first | (with_reducible exact Below.refl _ _) | (with_reducible assumption) | (with_reducible refine below_iter ?_ ?_ _ _) | (with_reducible refine Below.alloc ?_ ?_ _) | (with_reducible refine Below.drew ?_) | (with_reducible refine below_drewN ?_ _) | (with_reducible refine Below.setCell ?_ ?_ _) | (with_reducible refine below_step ?_ ?_ (by with_reducible assumption)) | (first | (with_reducible exact Nat.le_refl _) | (with_reducible assumption) | (with_reducible refine Nat.le_trans ?_ (Below.size (by with_reducible assumption))) | omega | (simp only [World.size_alloc, World.size_setCell, World.size_drew, size_iter, size_drewN]; done) | (simp only [World.size_alloc, World.size_setCell, World.size_drew, size_iter, size_drewN]; omega))))⟩

theorem ref_slots_any (c : Int) (w : World) : Calls Try.prog 29 #[.int .i64 c] w fun e w' => e = .returned (.int .i64 (slotsOf c)) ∧ Below w.heap.size w w' := by
  by_cases h0 : c < 0
  · have hw : slotsOf c = 0 := by unfold slotsOf; omega
    go_enter Try.func29, Try.ntmps29
    go_wp2
    go_ret
    exact ⟨by simp [hw], by (repeat' (first | (with_reducible exact Below.refl _ _) | (with_reducible assumption) | (with_reducible refine below_iter ?_ ?_ _ _) | (with_reducible refine Below.alloc ?_ ?_ _) | (with_reducible refine Below.drew ?_) | (with_reducible refine below_drewN ?_ _) | (with_reducible refine Below.setCell ?_ ?_ _) | (with_reducible refine below_step ?_ ?_ (by with_reducible assumption)) | (first | (with_reducible exact Nat.le_refl _) | (with_reducible assumption) | (with_reducible refine Nat.le_trans ?_ (Below.size (by with_reducible assumption))) | omega | (simp only [World.size_alloc, World.size_setCell, World.size_drew, size_iter, size_drewN]; done) | (simp only [World.size_alloc, World.size_setCell, World.size_drew, size_iter, size_drewN]; omega))))⟩
  by_cases h3 : c > 3
  · have hw : slotsOf c = 0 := by unfold slotsOf; omega
    go_enter Try.func29, Try.ntmps29
    go_wp2
    go_ret
    exact ⟨rfl, by (repeat' (first | (with_reducible exact Below.refl _ _) | (with_reducible assumption) | (with_reducible refine below_iter ?_ ?_ _ _) | (with_reducible refine Below.alloc ?_ ?_ _) | (with_reducible refine Below.drew ?_) | (with_reducible refine below_drewN ?_ _) | (with_reducible refine Below.setCell ?_ ?_ _) | (with_reducible refine below_step ?_ ?_ (by with_reducible assumption)) | (first | (with_reducible exact Nat.le_refl _) | (with_reducible assumption) | (with_reducible refine Nat.le_trans ?_ (Below.size (by with_reducible assumption))) | omega | (simp only [World.size_alloc, World.size_setCell, World.size_drew, size_iter, size_drewN]; done) | (simp only [World.size_alloc, World.size_setCell, World.size_drew, size_iter, size_drewN]; omega))))⟩
  · have e0 : wordsOf 0 = 4 := rfl
    have e1 : wordsOf 1 = 8 := rfl
    have e2 : wordsOf 2 = 16 := rfl
    have e3 : wordsOf 3 = 32 := rfl
    obtain rfl | rfl | rfl | rfl : c = 0 ∨ c = 1 ∨ c = 2 ∨ c = 3 := by omega
    all_goals
      go_enter Try.func29, Try.ntmps29
      go_wp2_with (go_at_call 27; refine (ref_words_any _ _).mono ?_; rintro e w' ⟨rfl, hb⟩; simp only [e0, e1, e2, e3])
      go_ret
      exact ⟨rfl, by (repeat' (first | (with_reducible exact Below.refl _ _) | (with_reducible assumption) | (with_reducible refine below_iter ?_ ?_ _ _) | (with_reducible refine Below.alloc ?_ ?_ _) | (with_reducible refine Below.drew ?_) | (with_reducible refine below_drewN ?_ _) | (with_reducible refine Below.setCell ?_ ?_ _) | (with_reducible refine below_step ?_ ?_ (by with_reducible assumption)) | (first | (with_reducible exact Nat.le_refl _) | (with_reducible assumption) | (with_reducible refine Nat.le_trans ?_ (Below.size (by with_reducible assumption))) | omega | (simp only [World.size_alloc, World.size_setCell, World.size_drew, size_iter, size_drewN]; done) | (simp only [World.size_alloc, World.size_setCell, World.size_drew, size_iter, size_drewN]; omega))))⟩

theorem ref_of_any (n : Int) (w : World) (hb : -9223372036854775808 ≤ n ∧ n ≤ 9223372036854775807) : Calls Try.prog 24 #[.int .i64 n] w fun e w' => e = .returned (.tuple #[.int .i64 (clsOf n), .bool (isCls n)]) ∧ Below w.heap.size w w' := by
  obtain ⟨h1, h2⟩ := hb
  have e0 : wordsOf 0 = 4 := rfl
  have e1 : wordsOf 1 = 8 := rfl
  have e2 : wordsOf 2 = 16 := rfl
  have e3 : wordsOf 3 = 32 := rfl
  by_cases a0 : n < 0
  · go_enter Try.func24, Try.ntmps24
    go_wp2
    go_rounds 1
    go_ret2
    exact ⟨by simp [show clsOf n = 0 by unfold clsOf; omega, show isCls n = false by simp [isCls]; omega], by (repeat' (first | (with_reducible exact Below.refl _ _) | (with_reducible assumption) | (with_reducible refine below_iter ?_ ?_ _ _) | (with_reducible refine Below.alloc ?_ ?_ _) | (with_reducible refine Below.drew ?_) | (with_reducible refine below_drewN ?_ _) | (with_reducible refine Below.setCell ?_ ?_ _) | (with_reducible refine below_step ?_ ?_ (by with_reducible assumption)) | (first | (with_reducible exact Nat.le_refl _) | (with_reducible assumption) | (with_reducible refine Nat.le_trans ?_ (Below.size (by with_reducible assumption))) | omega | (simp only [World.size_alloc, World.size_setCell, World.size_drew, size_iter, size_drewN]; done) | (simp only [World.size_alloc, World.size_setCell, World.size_drew, size_iter, size_drewN]; omega))))⟩
  have hn : 0 ≤ n := by omega
  have hcl : ∀ k : Int, (k = 0 ∧ n < 4 ∨ k = 1 ∧ 4 ≤ n ∧ n < 8 ∨ k = 2 ∧ 8 ≤ n ∧ n < 16 ∨ k = 3 ∧ 16 ≤ n ∧ n < 32) → clsOf n = k ∧ isCls n = true := fun k h => ⟨by unfold clsOf; omega, by simp [isCls]; omega⟩
  have hno : 32 ≤ n → clsOf n = 0 ∧ isCls n = false := fun h => ⟨by unfold clsOf; omega, by simp [isCls]; omega⟩
  have HC := Lib.hid hcl
  have HN := Lib.hid hno
  clear hcl hno
  go_enter Try.func24, Try.ntmps24
  go_wp2
  refine wp_loop_rounds 5 ?_
  repeat any_goals (rw [rounds_succ]; go_wp2_with (go_at_call 27; refine (ref_words_any _ _).mono ?_; rintro e w' ⟨rfl, hb⟩; simp only [e0, e1, e2, e3]))
  · go_ret2; exact ⟨by simp [HC.out 0 (by omega)], by (repeat' (first | (with_reducible exact Below.refl _ _) | (with_reducible assumption) | (with_reducible refine below_iter ?_ ?_ _ _) | (with_reducible refine Below.alloc ?_ ?_ _) | (with_reducible refine Below.drew ?_) | (with_reducible refine below_drewN ?_ _) | (with_reducible refine Below.setCell ?_ ?_ _) | (with_reducible refine below_step ?_ ?_ (by with_reducible assumption)) | (first | (with_reducible exact Nat.le_refl _) | (with_reducible assumption) | (with_reducible refine Nat.le_trans ?_ (Below.size (by with_reducible assumption))) | omega | (simp only [World.size_alloc, World.size_setCell, World.size_drew, size_iter, size_drewN]; done) | (simp only [World.size_alloc, World.size_setCell, World.size_drew, size_iter, size_drewN]; omega))))⟩
  · go_ret2; exact ⟨by simp [HC.out 1 (by omega)], by (repeat' (first | (with_reducible exact Below.refl _ _) | (with_reducible assumption) | (with_reducible refine below_iter ?_ ?_ _ _) | (with_reducible refine Below.alloc ?_ ?_ _) | (with_reducible refine Below.drew ?_) | (with_reducible refine below_drewN ?_ _) | (with_reducible refine Below.setCell ?_ ?_ _) | (with_reducible refine below_step ?_ ?_ (by with_reducible assumption)) | (first | (with_reducible exact Nat.le_refl _) | (with_reducible assumption) | (with_reducible refine Nat.le_trans ?_ (Below.size (by with_reducible assumption))) | omega | (simp only [World.size_alloc, World.size_setCell, World.size_drew, size_iter, size_drewN]; done) | (simp only [World.size_alloc, World.size_setCell, World.size_drew, size_iter, size_drewN]; omega))))⟩
  · go_ret2; exact ⟨by simp [HC.out 2 (by omega)], by (repeat' (first | (with_reducible exact Below.refl _ _) | (with_reducible assumption) | (with_reducible refine below_iter ?_ ?_ _ _) | (with_reducible refine Below.alloc ?_ ?_ _) | (with_reducible refine Below.drew ?_) | (with_reducible refine below_drewN ?_ _) | (with_reducible refine Below.setCell ?_ ?_ _) | (with_reducible refine below_step ?_ ?_ (by with_reducible assumption)) | (first | (with_reducible exact Nat.le_refl _) | (with_reducible assumption) | (with_reducible refine Nat.le_trans ?_ (Below.size (by with_reducible assumption))) | omega | (simp only [World.size_alloc, World.size_setCell, World.size_drew, size_iter, size_drewN]; done) | (simp only [World.size_alloc, World.size_setCell, World.size_drew, size_iter, size_drewN]; omega))))⟩
  · go_ret2; exact ⟨by simp [HC.out 3 (by omega)], by (repeat' (first | (with_reducible exact Below.refl _ _) | (with_reducible assumption) | (with_reducible refine below_iter ?_ ?_ _ _) | (with_reducible refine Below.alloc ?_ ?_ _) | (with_reducible refine Below.drew ?_) | (with_reducible refine below_drewN ?_ _) | (with_reducible refine Below.setCell ?_ ?_ _) | (with_reducible refine below_step ?_ ?_ (by with_reducible assumption)) | (first | (with_reducible exact Nat.le_refl _) | (with_reducible assumption) | (with_reducible refine Nat.le_trans ?_ (Below.size (by with_reducible assumption))) | omega | (simp only [World.size_alloc, World.size_setCell, World.size_drew, size_iter, size_drewN]; done) | (simp only [World.size_alloc, World.size_setCell, World.size_drew, size_iter, size_drewN]; omega))))⟩
  · go_ret2; exact ⟨by simp [HN.out (by omega)], by (repeat' (first | (with_reducible exact Below.refl _ _) | (with_reducible assumption) | (with_reducible refine below_iter ?_ ?_ _ _) | (with_reducible refine Below.alloc ?_ ?_ _) | (with_reducible refine Below.drew ?_) | (with_reducible refine below_drewN ?_ _) | (with_reducible refine Below.setCell ?_ ?_ _) | (with_reducible refine below_step ?_ ?_ (by with_reducible assumption)) | (first | (with_reducible exact Nat.le_refl _) | (with_reducible assumption) | (with_reducible refine Nat.le_trans ?_ (Below.size (by with_reducible assumption))) | omega | (simp only [World.size_alloc, World.size_setCell, World.size_drew, size_iter, size_drewN]; done) | (simp only [World.size_alloc, World.size_setCell, World.size_drew, size_iter, size_drewN]; omega))))⟩

theorem awake05_any (w : World) : Calls Try.prog 25 #[] w fun e w' => e = .returned (.bool true) ∧ Below w.heap.size w w' := by
  have e0 : clsOf 9 = 2 := rfl
  have e1 : isCls 9 = true := rfl
  have e2 : wordsOf 2 = 16 := rfl
  have e3 : slotsOf 2 = 2 := rfl
  go_enter Try.func25, Try.ntmps25
  go_wp2_with (first | (go_at_call 23; refine (of_any _ _ (by omega)).mono ?_; rintro e_ w_ ⟨rfl, hb⟩; (try simp only [e0, e1])) | (go_at_call 24; refine (ref_of_any _ _ (by omega)).mono ?_; rintro e_ w_ ⟨rfl, hb⟩) | (go_at_call 26; refine (words_any _ _).mono ?_; rintro e_ w_ ⟨rfl, hb⟩; (try simp only [e2])) | (go_at_call 27; refine (ref_words_any _ _).mono ?_; rintro e_ w_ ⟨rfl, hb⟩) | (go_at_call 28; refine (slots_any _ _).mono ?_; rintro e_ w_ ⟨rfl, hb⟩; (try simp only [e3])) | (go_at_call 29; refine (ref_slots_any _ _).mono ?_; rintro e_ w_ ⟨rfl, hb⟩))
  go_ret
  exact ⟨by simp, by (repeat' (first | (with_reducible exact Below.refl _ _) | (with_reducible assumption) | (with_reducible refine below_iter ?_ ?_ _ _) | (with_reducible refine Below.alloc ?_ ?_ _) | (with_reducible refine Below.drew ?_) | (with_reducible refine below_drewN ?_ _) | (with_reducible refine Below.setCell ?_ ?_ _) | (with_reducible refine below_step ?_ ?_ (by with_reducible assumption)) | (first | (with_reducible exact Nat.le_refl _) | (with_reducible assumption) | (with_reducible refine Nat.le_trans ?_ (Below.size (by with_reducible assumption))) | omega | (simp only [World.size_alloc, World.size_setCell, World.size_drew, size_iter, size_drewN]; done) | (simp only [World.size_alloc, World.size_setCell, World.size_drew, size_iter, size_drewN]; omega))))⟩
end Go.Proofs.Ythcddbfjjkniiaa
