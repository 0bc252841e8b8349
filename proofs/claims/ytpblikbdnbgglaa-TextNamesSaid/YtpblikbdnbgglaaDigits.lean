/-
  dormousehelp.Digits at numbers from 0 on.
-/
import Derived.Test.YtpblikbdnbgglaaParted2
import Derived.Deep.RegionWith
namespace Go.Proofs.Ytpblikbdnbgglaa
open Go.RowKit

def dg (v : Nat) : UInt8 := UInt8.ofNat (48 + v % 10)
def digsF : Nat → Nat → List UInt8
  | 0, v => [dg v]
  | f + 1, v => if v < 10 then [dg v] else digsF f (v / 10) ++ [dg v]
theorem dg_toNat (v : Nat) : (dg v).toNat = 48 + v % 10 := by unfold dg; rw [UInt8.toNat_ofNat']; omega
theorem digsF_length (f : Nat) : ∀ v, 1 ≤ (digsF f v).length ∧ (digsF f v).length ≤ f + 1 := by
  induction f with
  | zero => intro v; simp [digsF]
  | succ f ih =>
    intro v
    rw [digsF]; split
    · simp
    · have := ih (v / 10); rw [List.length_append]; simp; omega
attribute [local go_sem] conv_one conv_oned
theorem mkB_size (l : List UInt8) : (mkB l).size = l.length := by simp [mkB, ByteArray.size]

set_option maxHeartbeats 2000000 in
set_option maxRecDepth 100000 in
theorem digits_any (f : Nat) : ∀ (v : Nat) (w : World), v < 10 ^ (f + 1) → f < 30 → v ≤ 9223372036854775807 → Calls Try.prog 20 #[.int .i64 (v : Int)] w fun e w' => e = .returned (.string (mkB (digsF f v))) ∧ Below w.heap.size w w' := by
  induction f with
  | zero =>
    intro v w hv _ hm
    have h10 : v < 10 := by simpa using hv
    have e1 : IntKind.u8.wrap (48 + (v : Int)) = ((dg v).toNat : Int) := by rw [IntKind.wrap_u8, dg_toNat]; omega
    have HD : Hid (digsF 0 v = [dg v]) := Lib.hid rfl
    go_enter Try.func20, Try.ntmps20
    go_wp2_with fail
    go_ret
    exact ⟨by rw [HD.out]; rfl, by (repeat' (first | (with_reducible exact Below.refl _ _) | (with_reducible assumption) | (with_reducible refine below_iter ?_ ?_ _ _) | (with_reducible refine Below.alloc ?_ ?_ _) | (with_reducible refine Below.drew ?_) | (with_reducible refine below_drewN ?_ _) | (with_reducible refine Below.setCell ?_ ?_ _) | (with_reducible refine below_step ?_ ?_ (by with_reducible assumption)) | (first | (with_reducible exact Nat.le_refl _) | (with_reducible assumption) | (with_reducible refine Nat.le_trans ?_ (Below.size (by with_reducible assumption))) | (simp only [World.size_alloc, World.size_setCell, World.size_drew, size_iter, size_drewN]) | omega)))⟩
  | succ f ih =>
    intro v w hv hf hm
    by_cases h10 : v < 10
    · have e1 : IntKind.u8.wrap (48 + (v : Int)) = ((dg v).toNat : Int) := by rw [IntKind.wrap_u8, dg_toNat]; omega
      have HD : Hid (digsF (f + 1) v = [dg v]) := Lib.hid (by rw [digsF, if_pos h10])
      clear ih
      go_enter Try.func20, Try.ntmps20
      go_wp2_with fail
      go_ret
      exact ⟨by rw [HD.out]; rfl, by (repeat' (first | (with_reducible exact Below.refl _ _) | (with_reducible assumption) | (with_reducible refine below_iter ?_ ?_ _ _) | (with_reducible refine Below.alloc ?_ ?_ _) | (with_reducible refine Below.drew ?_) | (with_reducible refine below_drewN ?_ _) | (with_reducible refine Below.setCell ?_ ?_ _) | (with_reducible refine below_step ?_ ?_ (by with_reducible assumption)) | (first | (with_reducible exact Nat.le_refl _) | (with_reducible assumption) | (with_reducible refine Nat.le_trans ?_ (Below.size (by with_reducible assumption))) | (simp only [World.size_alloc, World.size_setCell, World.size_drew, size_iter, size_drewN]) | omega)))⟩
    · have e1 : IntKind.u8.wrap (48 + (v : Int) % 10) = ((dg v).toNat : Int) := by rw [IntKind.wrap_u8, dg_toNat]; omega
      have HD : Hid (digsF (f + 1) v = digsF f (v / 10) ++ [dg v]) := Lib.hid (by rw [digsF, if_neg h10])
      have hdv : v / 10 < 10 ^ (f + 1) := by rw [Nat.pow_succ] at hv; omega
      have IH : Hid (∀ W : World, Calls Try.prog 20 #[.int .i64 ((v : Int) / 10)] W fun e w' => e = .returned (.string (mkB (digsF f (v / 10)))) ∧ Below W.heap.size W w') := Lib.hid (fun W => by
        have h := ih (v / 10) W hdv (by omega) (by omega)
        rwa [Int.natCast_ediv] at h)
      have q1 : IntKind.i64.wrap ((v : Int) / 10) = (v : Int) / 10 := IntWalk.i64_in _ (by omega)
      have q2 : IntKind.i64.wrap ((v : Int) % 10) = (v : Int) % 10 := IntWalk.i64_in _ (by omega)
      have q3 : IntKind.i64.wrap (48 + (v : Int) % 10) = 48 + (v : Int) % 10 := IntWalk.i64_in _ (by omega)
      have q0 : (v : Int).tmod 10 = (v : Int) % 10 := Int.tmod_eq_emod_of_nonneg (by omega)
      have hsz : (mkB (digsF f (v / 10))).size + (mkB [dg v]).size ≤ 9223372036854775807 := by
        have := (digsF_length f (v / 10)).2
        rw [mkB_size, mkB_size, List.length_singleton]; omega
      clear ih hv hdv
      go_enter Try.func20, Try.ntmps20
      go_wp2_with fail
      go_region_with ((go_at_call 20; refine (IH.out _).mono ?_; rintro e_ w_ ⟨rfl, hb⟩; (try (have hcv := conv_below hb)); (try (have hcv := conv_belowd hb))))
      all_goals go_wp2_with fail
      all_goals go_ret
      all_goals exact ⟨by rw [HD.out, ← mkB_append]; rfl, by (repeat' (first | (with_reducible exact Below.refl _ _) | (with_reducible assumption) | (with_reducible refine below_iter ?_ ?_ _ _) | (with_reducible refine Below.alloc ?_ ?_ _) | (with_reducible refine Below.drew ?_) | (with_reducible refine below_drewN ?_ _) | (with_reducible refine Below.setCell ?_ ?_ _) | (with_reducible refine below_step ?_ ?_ (by with_reducible assumption)) | (first | (with_reducible exact Nat.le_refl _) | (with_reducible assumption) | (with_reducible refine Nat.le_trans ?_ (Below.size (by with_reducible assumption))) | (simp only [World.size_alloc, World.size_setCell, World.size_drew, size_iter, size_drewN]) | omega)))⟩
end Go.Proofs.Ytpblikbdnbgglaa
