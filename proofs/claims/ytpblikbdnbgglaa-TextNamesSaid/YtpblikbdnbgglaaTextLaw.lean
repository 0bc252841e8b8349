/-
  Layer 1: what a program that does nothing does not answer; and lists of lines held against each other.
-/
import Derived.Test.YtpblikbdnbgglaaLines
import Derived.Test.YtpblikbdnbgglaaNumber
import Derived.Test.YtpblikbdnbgglaaPlainStr
namespace Go.Proofs.Ytpblikbdnbgglaa
open Go.RowKit

theorem strs_map (l : List (List UInt8)) : strs l = (l.map mkB).map Value.string := rfl
theorem plain_lines (va vb : Value) (la lb : List (List UInt8)) (w : World) {Ba Bb : Nat} (ha : Sl w Ba 1 va la.length (strs la)) (hb : Sl w Bb 1 vb lb.length (strs lb)) :
    Calls Try.prog 17 #[va, vb] w fun e w' => e = .returned (.bool (decide (la = lb))) ∧ ∃ n, w' = w.drewN n := by
  have h := plain_str va vb (la.map mkB) (lb.map mkB) w (by rw [List.length_map]; exact ha) (by rw [List.length_map]; exact hb)
  have e : decide (la.map mkB = lb.map mkB) = decide (la = lb) := by
    have : (la.map mkB = lb.map mkB) ↔ la = lb := ⟨fun h => (List.map_inj_right (f := mkB) (fun a b h => mkB_inj h)).1 h, fun h => by rw [h]⟩
    simp only [this]
  rw [e] at h
  exact h

theorem awake01_any (w : World) : Calls Try.prog 12 #[] w fun e w' => e = .returned (.bool true) ∧ Below w.heap.size w w' := by
  have l1 : linesV ⟨#[120, 10, 32, 106, 32, 48]⟩ = ([[120], [106, 48]], 0) := by kernel_rfl
  have n1 : numV ⟨#[49, 50]⟩ = (12, true) := by kernel_rfl
  have L1 := Lib.hid l1
  have N1 := Lib.hid n1
  clear l1 n1
  go_enter Try.func12, Try.ntmps12
  go_wp2_with fail
  refine (lines_any _ _ (by decide)).mono ?_
  rintro e_ w1 ⟨v, rfl, hs, hb1⟩
  rw [L1.out] at hs ⊢
  have HS := Lib.hid hs
  clear hs
  go_wp2_with fail
  refine (number_any _ _ (by decide)).mono ?_
  rintro e_ w2 ⟨rfl, hb2⟩
  rw [N1.out]
  go_wp2_with fail
  refine (plain_lines _ _ [[120], [106, 48]] [[120], [106, 48]] _ ((HS.out.below hb2).alloc hb2.size _) (Sl.lit w2 _ _ 2 rfl (Nat.le_refl _) (by unfold maxLen; omega))).mono ?_
  rintro e_ w3 ⟨rfl, nq, rfl⟩
  go_wp2_with fail
  go_ret
  exact ⟨by simp, by (repeat' (first | (with_reducible exact Below.refl _ _) | (with_reducible assumption) | (with_reducible refine below_iter ?_ ?_ _ _) | (with_reducible refine Below.alloc ?_ ?_ _) | (with_reducible refine Below.drew ?_) | (with_reducible refine below_drewN ?_ _) | (with_reducible refine Below.setCell ?_ ?_ _) | (with_reducible refine below_step ?_ ?_ (by with_reducible assumption)) | (first | (with_reducible exact Nat.le_refl _) | (with_reducible assumption) | (with_reducible refine Nat.le_trans ?_ (Below.size (by with_reducible assumption))) | (simp only [World.size_alloc, World.size_setCell, World.size_drew, size_iter, size_drewN]) | omega)))⟩
end Go.Proofs.Ytpblikbdnbgglaa
