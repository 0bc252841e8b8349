/-
  Package text and its reference: what each call returns, for every string of at most 2^45 bytes.
-/
import Derived.Test.YtpblikbdnbgglaaRows
import Derived.Test.YtpblikbdnbgglaaMem
import Derived.Test.YtpblikbdnbgglaaTextM
import Derived.WalkKit
import Derived.ProofKit
import Derived.Handy
import Derived.Outline
import Derived.WalkSpells
import Derived.Lib.OthersKept
import Derived.WalkSmall
import Derived.OneCell
namespace Go.Proofs.Ytpblikbdnbgglaa
open Go.RowKit

def signsV (s : ByteArray) : Int := if 2000 < (runesOf s).length then 3 else if 0 < wrongs (runesOf s) then 4 else 0

theorem bad_cases (c : Nat) : (c = 10 ∧ badR c = false) ∨ (c ≠ 10 ∧ c < 32 ∧ badR c = true) ∨ (32 ≤ c ∧ 126 < c ∧ badR c = true) ∨ (32 ≤ c ∧ c ≤ 126 ∧ badR c = false) := by
  unfold badR
  by_cases h1 : c = 10
  · left; exact ⟨h1, by simp [h1]⟩
  by_cases h2 : c < 32
  · right; left; exact ⟨h1, h2, by simp [h1, h2]⟩
  by_cases h3 : 126 < c
  · right; right; left; exact ⟨by omega, h3, by simp [h1, h3]⟩
  · right; right; right; exact ⟨by omega, by omega, by simp; omega⟩

set_option maxRecDepth 100000 in
theorem checkSigns_any (s : ByteArray) (w : World) (hs : s.size ≤ maxLen) : Calls Try.prog 31 #[.string s] w fun e w' => e = .returned (.int .i64 (signsV s)) ∧ Below w.heap.size w w' := by
  unfold maxLen at hs
  have HV := Lib.hid (signsV.eq_1 s)
  go_enter Try.func31, Try.ntmps31
  go_wp2_with fail
  go_loopw [3, 4] (fun n m wr => ∃ (f pos : Nat) (l : List Nat), n = .int .i64 (l.length : Int) ∧ m = .int .i64 (wrongs l : Int) ∧ wr = w.iter s pos ∧ l.length ≤ pos ∧ s.size ≤ pos + f ∧ Hid (l ++ runesFrom s f pos = runesOf s)) (fun _ _ wr => s.size - wr.iterPos w.heap.size)
  case atStart => exact ⟨s.size, 0, [], rfl, rfl, rfl, by simp, by omega, Lib.hid rfl⟩
  case round =>
    obtain ⟨f, pos, l, rfl, rfl, rfl, hl, hf, hR⟩ := hrel
    have hle := wrongs_le l
    by_cases hp : pos < s.size
    · have hnx : ∀ ty, (Instr.next (.pointer (some ⟨w.heap.size, 0, none⟩)) true ty).run Try.prog (w.iter s pos) = _ := fun ty => run_next_any w s pos ty hp
      have hwd := width_pos s pos hp
      have hd1 := decode_le s pos
      obtain ⟨f, rfl⟩ : ∃ g, f = g + 1 := ⟨f - 1, by omega⟩
      have HR2 : Hid ((l ++ [(Utf8.decode s pos).1]) ++ runesFrom s f (pos + (Utf8.decode s pos).2) = runesOf s) := Lib.hid (by
        rw [List.append_assoc, List.singleton_append, ← runesFrom_next s f pos hp]; exact hR.out)
      have HW := Lib.hid (wrongs_snoc l (Utf8.decode s pos).1)
      have hbc := bad_cases (Utf8.decode s pos).1
      clear hR
      generalize (Utf8.decode s pos).1 = c at *
      generalize (Utf8.decode s pos).2 = d at *
      rcases hbc with ⟨h1, hb⟩ | ⟨h1, h2, hb⟩ | ⟨h1, h2, hb⟩ | ⟨h1, h2, hb⟩
      · subst h1
        have HB := Lib.hid hb
        clear hb
        go_wp2_with fail
        go_roundw
        case rel => exact ⟨f, pos + d, l ++ [10], by simp, by rw [HW.out, HB.out]; simp, rfl, by simp; omega, by omega, HR2⟩
        case measure => simp; omega
      · have HB := Lib.hid hb
        have e1 : ((c : Int) != 10) = true := by rw [bne_iff_ne]; omega
        clear hb h1
        go_wp2_with fail
        go_roundw
        case rel => exact ⟨f, pos + d, l ++ [c], by simp, by rw [HW.out, HB.out]; simp, rfl, by simp; omega, by omega, HR2⟩
        case measure => simp; omega
      · have HB := Lib.hid hb
        have e1 : ((c : Int) != 10) = true := by rw [bne_iff_ne]; omega
        clear hb
        go_wp2_with fail
        go_roundw
        case rel => exact ⟨f, pos + d, l ++ [c], by simp, by rw [HW.out, HB.out]; simp, rfl, by simp; omega, by omega, HR2⟩
        case measure => simp; omega
      · have HB := Lib.hid hb
        have e1 : ((c : Int) != 10) = true := by rw [bne_iff_ne]; omega
        clear hb
        go_wp2_with fail
        go_roundw
        case rel => exact ⟨f, pos + d, l ++ [c], by simp, by rw [HW.out, HB.out]; simp, rfl, by simp; omega, by omega, HR2⟩
        case measure => simp; omega
    · have hnx : ∀ ty, (Instr.next (.pointer (some ⟨w.heap.size, 0, none⟩)) true ty).run Try.prog (w.iter s pos) = _ := fun ty => run_next_end w s pos ty hp
      have HR2 : Hid (runesOf s = l) := Lib.hid (by have h := hR.out; rw [runesFrom_end s f pos hp, List.append_nil] at h; exact h.symm)
      clear hR
      by_cases h1 : 2000 < l.length
      · go_wp2_with fail
        go_ret
        exact ⟨by rw [HV.out, HR2.out]; simp [h1], by (repeat' (first | (with_reducible exact Below.refl _ _) | (with_reducible assumption) | (with_reducible refine below_iter ?_ ?_ _ _) | (with_reducible refine Below.alloc ?_ ?_ _) | (with_reducible refine Below.drew ?_) | (with_reducible refine below_drewN ?_ _) | (with_reducible refine Below.setCell ?_ ?_ _) | (with_reducible refine below_step ?_ ?_ (by with_reducible assumption)) | (first | (with_reducible exact Nat.le_refl _) | (with_reducible assumption) | (with_reducible refine Nat.le_trans ?_ (Below.size (by with_reducible assumption))) | (simp only [World.size_alloc, World.size_setCell, World.size_drew, size_iter, size_drewN]) | omega)))⟩
      by_cases h2 : 0 < wrongs l
      · go_wp2_with fail
        go_ret
        exact ⟨by rw [HV.out, HR2.out]; simp [h1, h2], by (repeat' (first | (with_reducible exact Below.refl _ _) | (with_reducible assumption) | (with_reducible refine below_iter ?_ ?_ _ _) | (with_reducible refine Below.alloc ?_ ?_ _) | (with_reducible refine Below.drew ?_) | (with_reducible refine below_drewN ?_ _) | (with_reducible refine Below.setCell ?_ ?_ _) | (with_reducible refine below_step ?_ ?_ (by with_reducible assumption)) | (first | (with_reducible exact Nat.le_refl _) | (with_reducible assumption) | (with_reducible refine Nat.le_trans ?_ (Below.size (by with_reducible assumption))) | (simp only [World.size_alloc, World.size_setCell, World.size_drew, size_iter, size_drewN]) | omega)))⟩
      · go_wp2_with fail
        go_ret
        exact ⟨by rw [HV.out, HR2.out]; simp [h1, h2], by (repeat' (first | (with_reducible exact Below.refl _ _) | (with_reducible assumption) | (with_reducible refine below_iter ?_ ?_ _ _) | (with_reducible refine Below.alloc ?_ ?_ _) | (with_reducible refine Below.drew ?_) | (with_reducible refine below_drewN ?_ _) | (with_reducible refine Below.setCell ?_ ?_ _) | (with_reducible refine below_step ?_ ?_ (by with_reducible assumption)) | (first | (with_reducible exact Nat.le_refl _) | (with_reducible assumption) | (with_reducible refine Nat.le_trans ?_ (Below.size (by with_reducible assumption))) | (simp only [World.size_alloc, World.size_setCell, World.size_drew, size_iter, size_drewN]) | omega)))⟩
end Go.Proofs.Ytpblikbdnbgglaa
