/-
  The reference of package record: what each call returns; and that it is the same as package record's.
-/
import Derived.Test.YthcddbfjjkniiaaRecordF
namespace Go.Proofs.Ythcddbfjjkniiaa
open Go.RowKit
def refL (kind : Int) : List ByteArray :=
  if kind = 1 then [⟨#[99, 97, 112]⟩, ⟨#[99, 108, 111, 115, 101, 100]⟩, ⟨#[99, 111, 117, 110, 116]⟩, ⟨#[115, 116, 97, 114, 116]⟩, ⟨#[98, 117, 102]⟩, ⟨#[116, 97, 107, 101, 104, 101, 97, 100]⟩, ⟨#[116, 97, 107, 101, 116, 97, 105, 108]⟩, ⟨#[115, 101, 110, 100, 104, 101, 97, 100]⟩, ⟨#[115, 101, 110, 100, 116, 97, 105, 108]⟩] else
  if kind = 3 then [⟨#[103, 111, 114]⟩, ⟨#[99, 104, 97, 110]⟩, ⟨#[118, 97, 108, 117, 101]⟩, ⟨#[110, 101, 120, 116]⟩, ⟨#[116, 111]⟩, ⟨#[114, 101, 103]⟩, ⟨#[109, 111, 114, 101]⟩] else
  if kind = 4 then [⟨#[105, 100]⟩, ⟨#[115, 116, 97, 116, 117, 115]⟩, ⟨#[112, 99]⟩, ⟨#[97]⟩, ⟨#[98]⟩, ⟨#[99]⟩, ⟨#[100]⟩, ⟨#[101]⟩, ⟨#[102]⟩, ⟨#[115, 117, 100, 111, 103, 115]⟩] else
  if kind = 5 then [⟨#[118, 97, 108, 117, 101]⟩, ⟨#[102, 105, 110, 97, 108]⟩] else
  if kind = 6 then [⟨#[119, 104, 101, 110]⟩, ⟨#[99, 104, 97, 110]⟩] else
  []

theorem refL_no (kind : Int) (h : kind ≠ 1 ∧ kind ≠ 3 ∧ kind ≠ 4 ∧ kind ≠ 5 ∧ kind ≠ 6) : refL kind = [] := by
  obtain ⟨h1, h3, h4, h5, h6⟩ := h
  rw [refL, if_neg h1, if_neg h3, if_neg h4, if_neg h5, if_neg h6]

set_option maxRecDepth 100000 in
theorem ref_fields_any (kind : Int) (w : World) : Calls Try.prog 35 #[.int .i64 kind] w fun e w' => ∃ v, e = .returned v ∧ Sl w' w'.heap.size 1 v (refL kind).length ((refL kind).map Value.string) ∧ Below w.heap.size w w' := by
  by_cases h1 : kind = 1
  · subst h1
    go_enter Try.func35, Try.ntmps35
    go_wp2_with fail
    go_ret
    exact ⟨_, rfl, (Sl.lit w _ 9 9 rfl (by omega) (by unfold maxLen; omega)).more (by simp), by (repeat' (first | (with_reducible exact Below.refl _ _) | (with_reducible assumption) | (with_reducible refine below_iter ?_ ?_ _ _) | (with_reducible refine Below.alloc ?_ ?_ _) | (with_reducible refine Below.drew ?_) | (with_reducible refine below_drewN ?_ _) | (with_reducible refine Below.setCell ?_ ?_ _) | (with_reducible refine below_step ?_ ?_ (by with_reducible assumption)) | (first | (with_reducible exact Nat.le_refl _) | (with_reducible assumption) | (with_reducible refine Nat.le_trans ?_ (Below.size (by with_reducible assumption))) | omega | (simp only [World.size_alloc, World.size_setCell, World.size_drew, size_iter, size_drewN]; done) | (simp only [World.size_alloc, World.size_setCell, World.size_drew, size_iter, size_drewN]; omega))))⟩
  by_cases h3 : kind = 3
  · subst h3
    go_enter Try.func35, Try.ntmps35
    go_wp2_with fail
    go_ret
    exact ⟨_, rfl, (Sl.lit w _ 9 7 rfl (by omega) (by unfold maxLen; omega)).more (by simp), by (repeat' (first | (with_reducible exact Below.refl _ _) | (with_reducible assumption) | (with_reducible refine below_iter ?_ ?_ _ _) | (with_reducible refine Below.alloc ?_ ?_ _) | (with_reducible refine Below.drew ?_) | (with_reducible refine below_drewN ?_ _) | (with_reducible refine Below.setCell ?_ ?_ _) | (with_reducible refine below_step ?_ ?_ (by with_reducible assumption)) | (first | (with_reducible exact Nat.le_refl _) | (with_reducible assumption) | (with_reducible refine Nat.le_trans ?_ (Below.size (by with_reducible assumption))) | omega | (simp only [World.size_alloc, World.size_setCell, World.size_drew, size_iter, size_drewN]; done) | (simp only [World.size_alloc, World.size_setCell, World.size_drew, size_iter, size_drewN]; omega))))⟩
  by_cases h4 : kind = 4
  · subst h4
    go_enter Try.func35, Try.ntmps35
    go_wp2_with fail
    go_ret
    exact ⟨_, rfl, (Sl.lit w _ 9 10 rfl (by omega) (by unfold maxLen; omega)).more (by simp), by (repeat' (first | (with_reducible exact Below.refl _ _) | (with_reducible assumption) | (with_reducible refine below_iter ?_ ?_ _ _) | (with_reducible refine Below.alloc ?_ ?_ _) | (with_reducible refine Below.drew ?_) | (with_reducible refine below_drewN ?_ _) | (with_reducible refine Below.setCell ?_ ?_ _) | (with_reducible refine below_step ?_ ?_ (by with_reducible assumption)) | (first | (with_reducible exact Nat.le_refl _) | (with_reducible assumption) | (with_reducible refine Nat.le_trans ?_ (Below.size (by with_reducible assumption))) | omega | (simp only [World.size_alloc, World.size_setCell, World.size_drew, size_iter, size_drewN]; done) | (simp only [World.size_alloc, World.size_setCell, World.size_drew, size_iter, size_drewN]; omega))))⟩
  by_cases h5 : kind = 5
  · subst h5
    go_enter Try.func35, Try.ntmps35
    go_wp2_with fail
    go_ret
    exact ⟨_, rfl, (Sl.lit w _ 9 2 rfl (by omega) (by unfold maxLen; omega)).more (by simp), by (repeat' (first | (with_reducible exact Below.refl _ _) | (with_reducible assumption) | (with_reducible refine below_iter ?_ ?_ _ _) | (with_reducible refine Below.alloc ?_ ?_ _) | (with_reducible refine Below.drew ?_) | (with_reducible refine below_drewN ?_ _) | (with_reducible refine Below.setCell ?_ ?_ _) | (with_reducible refine below_step ?_ ?_ (by with_reducible assumption)) | (first | (with_reducible exact Nat.le_refl _) | (with_reducible assumption) | (with_reducible refine Nat.le_trans ?_ (Below.size (by with_reducible assumption))) | omega | (simp only [World.size_alloc, World.size_setCell, World.size_drew, size_iter, size_drewN]; done) | (simp only [World.size_alloc, World.size_setCell, World.size_drew, size_iter, size_drewN]; omega))))⟩
  by_cases h6 : kind = 6
  · subst h6
    go_enter Try.func35, Try.ntmps35
    go_wp2_with fail
    go_ret
    exact ⟨_, rfl, (Sl.lit w _ 9 2 rfl (by omega) (by unfold maxLen; omega)).more (by simp), by (repeat' (first | (with_reducible exact Below.refl _ _) | (with_reducible assumption) | (with_reducible refine below_iter ?_ ?_ _ _) | (with_reducible refine Below.alloc ?_ ?_ _) | (with_reducible refine Below.drew ?_) | (with_reducible refine below_drewN ?_ _) | (with_reducible refine Below.setCell ?_ ?_ _) | (with_reducible refine below_step ?_ ?_ (by with_reducible assumption)) | (first | (with_reducible exact Nat.le_refl _) | (with_reducible assumption) | (with_reducible refine Nat.le_trans ?_ (Below.size (by with_reducible assumption))) | omega | (simp only [World.size_alloc, World.size_setCell, World.size_drew, size_iter, size_drewN]; done) | (simp only [World.size_alloc, World.size_setCell, World.size_drew, size_iter, size_drewN]; omega))))⟩
  · have hn := refL_no kind ⟨h1, h3, h4, h5, h6⟩
    have HN := Lib.hid hn
    have e1 : (kind == 1) = false := by rw [beq_eq_false_iff_ne]; exact h1
    have e3 : (kind == 3) = false := by rw [beq_eq_false_iff_ne]; exact h3
    have e4 : (kind == 4) = false := by rw [beq_eq_false_iff_ne]; exact h4
    have e5 : (kind == 5) = false := by rw [beq_eq_false_iff_ne]; exact h5
    have e6 : (kind == 6) = false := by rw [beq_eq_false_iff_ne]; exact h6
    clear h1 h3 h4 h5 h6 hn
    go_enter Try.func35, Try.ntmps35
    go_wp2_with fail
    go_ret
    exact ⟨_, rfl, by rw [HN.out]; exact Sl.nil, by (repeat' (first | (with_reducible exact Below.refl _ _) | (with_reducible assumption) | (with_reducible refine below_iter ?_ ?_ _ _) | (with_reducible refine Below.alloc ?_ ?_ _) | (with_reducible refine Below.drew ?_) | (with_reducible refine below_drewN ?_ _) | (with_reducible refine Below.setCell ?_ ?_ _) | (with_reducible refine below_step ?_ ?_ (by with_reducible assumption)) | (first | (with_reducible exact Nat.le_refl _) | (with_reducible assumption) | (with_reducible refine Nat.le_trans ?_ (Below.size (by with_reducible assumption))) | omega | (simp only [World.size_alloc, World.size_setCell, World.size_drew, size_iter, size_drewN]; done) | (simp only [World.size_alloc, World.size_setCell, World.size_drew, size_iter, size_drewN]; omega))))⟩

theorem line_eq (kind : Int) : lineM kind 150 0 1 0 =
    if (1 : Int) = kind ∧ 0 < 62 then some (0, 62 + 1) else if (1 : Int) + 1 = kind ∧ 63 < 63 then some (63, 63 + 1) else if (1 : Int) + 1 + 1 = kind ∧ 64 < 95 then some (64, 95 + 1)
    else if (1 : Int) + 1 + 1 + 1 = kind ∧ 96 < 127 then some (96, 127 + 1) else if (1 : Int) + 1 + 1 + 1 + 1 = kind ∧ 128 < 139 then some (128, 139 + 1)
    else if (1 : Int) + 1 + 1 + 1 + 1 + 1 = kind ∧ 140 < 149 then some (140, 149 + 1) else none := by kernel_rfl

theorem line_no (kind : Int) (h : kind ≠ 1 ∧ kind ≠ 3 ∧ kind ≠ 4 ∧ kind ≠ 5 ∧ kind ≠ 6) : lineV kind = ByteArray.empty := by
  rw [lineV, line_eq, if_neg (by omega), if_neg (by omega), if_neg (by omega), if_neg (by omega), if_neg (by omega), if_neg (by omega), cutV]

theorem fld_eq (kind : Int) : fldL kind = refL kind := by
  by_cases h1 : kind = 1
  · subst h1; kernel_rfl
  by_cases h3 : kind = 3
  · subst h3; kernel_rfl
  by_cases h4 : kind = 4
  · subst h4; kernel_rfl
  by_cases h5 : kind = 5
  · subst h5; kernel_rfl
  by_cases h6 : kind = 6
  · subst h6; kernel_rfl
  · rw [refL_no kind ⟨h1, h3, h4, h5, h6⟩, fldL, line_no kind ⟨h1, h3, h4, h5, h6⟩]; rfl

/-- How many words a kind has, the same two ways. -/
theorem cnt_eq (kind : Int) : cntE (lineV kind) (lineV kind).size = (refL kind).length := by
  by_cases h1 : kind = 1
  · subst h1; kernel_rfl
  by_cases h3 : kind = 3
  · subst h3; kernel_rfl
  by_cases h4 : kind = 4
  · subst h4; kernel_rfl
  by_cases h5 : kind = 5
  · subst h5; kernel_rfl
  by_cases h6 : kind = 6
  · subst h6; kernel_rfl
  · rw [refL_no kind ⟨h1, h3, h4, h5, h6⟩, line_no kind ⟨h1, h3, h4, h5, h6⟩]; rfl
theorem refL_le (kind : Int) : (refL kind).length ≤ 10 := by
  unfold refL
  repeat' (split; · exact by decide)
  exact by decide

theorem sl_len {w : World} {B n : Nat} {v : Value} {xs : List Value} (h : Sl w B 1 v n xs) : ∃ A c, v = .slice A n c := by
  rcases h.form with ⟨rfl, rfl⟩ | ⟨a, c, rfl, _⟩
  · exact ⟨_, _, rfl⟩
  · exact ⟨_, _, rfl⟩

theorem ref_need_any (kind n : Int) (w : World) : Calls Try.prog 31 #[.int .i64 kind, .int .i64 n] w fun e w' => e = .returned (.tuple #[.int .i64 (needV kind n), .bool (hasV kind n)]) ∧ Below w.heap.size w w' := by
  by_cases h2 : kind = 2
  · subst h2
    by_cases hn : n < 0
    · go_enter Try.func31, Try.ntmps31
      go_wp2_with fail
      go_ret2
      exact ⟨by simp [needV, hasV, hn], by (repeat' (first | (with_reducible exact Below.refl _ _) | (with_reducible assumption) | (with_reducible refine below_iter ?_ ?_ _ _) | (with_reducible refine Below.alloc ?_ ?_ _) | (with_reducible refine Below.drew ?_) | (with_reducible refine below_drewN ?_ _) | (with_reducible refine Below.setCell ?_ ?_ _) | (with_reducible refine below_step ?_ ?_ (by with_reducible assumption)) | (first | (with_reducible exact Nat.le_refl _) | (with_reducible assumption) | (with_reducible refine Nat.le_trans ?_ (Below.size (by with_reducible assumption))) | omega | (simp only [World.size_alloc, World.size_setCell, World.size_drew, size_iter, size_drewN]; done) | (simp only [World.size_alloc, World.size_setCell, World.size_drew, size_iter, size_drewN]; omega))))⟩
    by_cases hn3 : 3 < n
    · go_enter Try.func31, Try.ntmps31
      go_wp2_with fail
      go_ret2
      exact ⟨by simp [needV, hasV, hn, hn3], by (repeat' (first | (with_reducible exact Below.refl _ _) | (with_reducible assumption) | (with_reducible refine below_iter ?_ ?_ _ _) | (with_reducible refine Below.alloc ?_ ?_ _) | (with_reducible refine Below.drew ?_) | (with_reducible refine below_drewN ?_ _) | (with_reducible refine Below.setCell ?_ ?_ _) | (with_reducible refine below_step ?_ ?_ (by with_reducible assumption)) | (first | (with_reducible exact Nat.le_refl _) | (with_reducible assumption) | (with_reducible refine Nat.le_trans ?_ (Below.size (by with_reducible assumption))) | omega | (simp only [World.size_alloc, World.size_setCell, World.size_drew, size_iter, size_drewN]; done) | (simp only [World.size_alloc, World.size_setCell, World.size_drew, size_iter, size_drewN]; omega))))⟩
    · go_enter Try.func31, Try.ntmps31
      go_wp2_with fail
      go_ret2
      exact ⟨by simp [needV, hasV]; omega, by (repeat' (first | (with_reducible exact Below.refl _ _) | (with_reducible assumption) | (with_reducible refine below_iter ?_ ?_ _ _) | (with_reducible refine Below.alloc ?_ ?_ _) | (with_reducible refine Below.drew ?_) | (with_reducible refine below_drewN ?_ _) | (with_reducible refine Below.setCell ?_ ?_ _) | (with_reducible refine below_step ?_ ?_ (by with_reducible assumption)) | (first | (with_reducible exact Nat.le_refl _) | (with_reducible assumption) | (with_reducible refine Nat.le_trans ?_ (Below.size (by with_reducible assumption))) | omega | (simp only [World.size_alloc, World.size_setCell, World.size_drew, size_iter, size_drewN]; done) | (simp only [World.size_alloc, World.size_setCell, World.size_drew, size_iter, size_drewN]; omega))))⟩
  · have hk : (kind == 2) = false := by rw [beq_eq_false_iff_ne]; exact h2
    have hf1 : needV kind n = ((refL kind).length : Int) := by rw [needV, if_neg h2, cnt_eq]
    have hf2 : hasV kind n = decide (0 < ((refL kind).length : Int)) := by rw [hasV, if_neg h2, cnt_eq]
    have HF1 := Lib.hid hf1
    have HF2 := Lib.hid hf2
    have hle := refL_le kind
    clear hf1 hf2 h2
    go_enter Try.func31, Try.ntmps31
    go_wp2_with (go_at_call 35; refine (ref_fields_any _ _).mono ?_; rintro e_ w1 ⟨v, rfl, hs, hb1⟩; obtain ⟨A, c, rfl⟩ := sl_len hs; clear hs)
    go_ret2
    exact ⟨by rw [HF1.out, HF2.out]; simp, by (repeat' (first | (with_reducible exact Below.refl _ _) | (with_reducible assumption) | (with_reducible refine below_iter ?_ ?_ _ _) | (with_reducible refine Below.alloc ?_ ?_ _) | (with_reducible refine Below.drew ?_) | (with_reducible refine below_drewN ?_ _) | (with_reducible refine Below.setCell ?_ ?_ _) | (with_reducible refine below_step ?_ ?_ (by with_reducible assumption)) | (first | (with_reducible exact Nat.le_refl _) | (with_reducible assumption) | (with_reducible refine Nat.le_trans ?_ (Below.size (by with_reducible assumption))) | omega | (simp only [World.size_alloc, World.size_setCell, World.size_drew, size_iter, size_drewN]; done) | (simp only [World.size_alloc, World.size_setCell, World.size_drew, size_iter, size_drewN]; omega))))⟩

/-- A kind's names are as many as its words. -/
theorem awake10_any (w : World) : Calls Try.prog 32 #[] w fun e w' => e = .returned (.bool true) ∧ Below w.heap.size w w' := by
  have n5 : needV 5 0 = 2 := by kernel_rfl
  have s5 : hasV 5 0 = true := by kernel_rfl
  have f5 : fldL 5 = [⟨#[118, 97, 108, 117, 101]⟩, ⟨#[102, 105, 110, 97, 108]⟩] := by kernel_rfl
  have F5 := Lib.hid f5
  clear f5
  go_enter Try.func32, Try.ntmps32
  go_wp2_with (first | (go_at_call 30; refine (need_any _ _ _).mono ?_; rintro e_ w1 ⟨rfl, hb1⟩) | (go_at_call 34; refine (fields_any _ _).mono ?_; rintro e_ w2 ⟨v, rfl, hs, hb2⟩))
  rw [F5.out] at hs
  refine (plain_str _ _ [⟨#[118, 97, 108, 117, 101]⟩, ⟨#[102, 105, 110, 97, 108]⟩] [⟨#[118, 97, 108, 117, 101]⟩, ⟨#[102, 105, 110, 97, 108]⟩] _ (hs.alloc (Nat.le_refl _) _) (Sl.lit w2 _ _ 2 rfl (Nat.le_refl _) (by unfold maxLen; omega))).mono ?_
  rintro e_ w3 ⟨rfl, nq, rfl⟩
  clear hs
  go_wp2_with fail
  go_ret
  exact ⟨by simp, by (repeat' (first | (with_reducible exact Below.refl _ _) | (with_reducible assumption) | (with_reducible refine below_iter ?_ ?_ _ _) | (with_reducible refine Below.alloc ?_ ?_ _) | (with_reducible refine Below.drew ?_) | (with_reducible refine below_drewN ?_ _) | (with_reducible refine Below.setCell ?_ ?_ _) | (with_reducible refine below_step ?_ ?_ (by with_reducible assumption)) | (first | (with_reducible exact Nat.le_refl _) | (with_reducible assumption) | (with_reducible refine Nat.le_trans ?_ (Below.size (by with_reducible assumption))) | omega | (simp only [World.size_alloc, World.size_setCell, World.size_drew, size_iter, size_drewN]; done) | (simp only [World.size_alloc, World.size_setCell, World.size_drew, size_iter, size_drewN]; omega))))⟩
end Go.Proofs.Ythcddbfjjkniiaa
