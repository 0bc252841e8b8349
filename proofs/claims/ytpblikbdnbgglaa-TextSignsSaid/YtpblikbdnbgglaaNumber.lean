/-
  text.Number and its reference: the number that a string of one to four digits tells; of no other string any.
-/
import Derived.Test.YtpblikbdnbgglaaText
namespace Go.Proofs.Ytpblikbdnbgglaa
open Go.RowKit

def digB (c : UInt8) : Bool := decide (48 ≤ c.toNat ∧ c.toNat ≤ 57)
def numB (l : List UInt8) : Int := l.foldl (fun (n : Int) (c : UInt8) => 10 * n + ((c.toNat : Int) - 48)) 0
def numV (s : ByteArray) : Int × Bool := if s.size = 0 ∨ 4 < s.size then (0, false) else if s.data.toList.all digB then (numB s.data.toList, true) else (0, false)
theorem numB_snoc (l : List UInt8) (c : UInt8) : numB (l ++ [c]) = 10 * numB l + ((c.toNat : Int) - 48) := by simp [numB]
theorem numB_bd (l : List UInt8) : l.all digB = true → 0 ≤ numB l ∧ numB l < 10 ^ l.length := by
  suffices h : ∀ k (l : List UInt8), l.length = k → l.all digB = true → 0 ≤ numB l ∧ numB l < 10 ^ l.length from h l.length l rfl
  intro k
  induction k with
  | zero => intro l hl _; rw [List.length_eq_zero_iff] at hl; subst hl; simp [numB]
  | succ k ih =>
    intro l hl ha
    obtain ⟨l', c, rfl⟩ : ∃ l' c, l = l' ++ [c] := by
      have hne : l ≠ [] := by rintro rfl; simp at hl
      exact ⟨l.dropLast, l.getLast hne, (List.dropLast_concat_getLast hne).symm⟩
    rw [List.length_append] at hl
    simp only [List.all_append, List.all_cons, List.all_nil, Bool.and_true, Bool.and_eq_true] at ha
    have h1 := ih l' (by simpa using hl) ha.1
    have h2 := ha.2
    simp only [digB, decide_eq_true_eq] at h2
    rw [numB_snoc, List.length_append, List.length_singleton, Int.pow_succ]
    omega
/-- The first pos bytes are digits, and tell n. -/
def Told (s : ByteArray) (pos : Nat) (n : Int) : Prop := (s.data.toList.take pos).all digB = true ∧ n = numB (s.data.toList.take pos)
theorem told_next {s : ByteArray} {pos : Nat} {n : Int} (h : Told s pos n) (hp : pos < s.size) (hd : 48 ≤ (s[pos]'hp).toNat ∧ (s[pos]'hp).toNat ≤ 57) : Told s (pos + 1) (10 * n + (((s[pos]'hp).toNat : Int) - 48)) := by
  have hl : pos < s.data.toList.length := by simpa using hp
  have e : s.data.toList.take (pos + 1) = s.data.toList.take pos ++ [s[pos]'hp] := by rw [List.take_succ_eq_append_getElem hl]; rfl
  unfold Told at *
  rw [e, numB_snoc, ← h.2]
  refine ⟨?_, rfl⟩
  rw [List.all_append, h.1]
  simp [digB, hd]
theorem told_bd {s : ByteArray} {pos : Nat} {n : Int} (h : Told s pos n) (hp : pos ≤ 3) : 0 ≤ n ∧ n < 1000 := by
  have h1 := numB_bd _ h.1
  rw [← h.2] at h1
  have h2 : (s.data.toList.take pos).length ≤ 3 := Nat.le_trans (List.length_take_le _ _) hp
  have h3 : (10 : Int) ^ (s.data.toList.take pos).length ≤ 10 ^ 3 := by
    obtain ⟨k, hk⟩ : ∃ k, (s.data.toList.take pos).length = k := ⟨_, rfl⟩
    rw [hk] at h2 ⊢
    have : k = 0 ∨ k = 1 ∨ k = 2 ∨ k = 3 := by omega
    rcases this with rfl | rfl | rfl | rfl <;> decide
  exact ⟨h1.1, by omega⟩
theorem told_end {s : ByteArray} {n : Int} (h : Told s s.size n) (h0 : ¬ (s.size = 0 ∨ 4 < s.size)) : numV s = (n, true) := by
  unfold Told at h
  rw [List.take_of_length_le (by simp)] at h
  rw [numV, if_neg h0, if_pos h.1, h.2]
theorem told_no {s : ByteArray} {pos : Nat} (hp : pos < s.size) (hd : ¬ (48 ≤ (s[pos]'hp).toNat ∧ (s[pos]'hp).toNat ≤ 57)) : numV s = (0, false) := by
  unfold numV
  split
  · rfl
  · rw [if_neg]
    intro h
    rw [List.all_eq_true] at h
    have hl : pos < s.data.toList.length := by simpa using hp
    have := h (s[pos]'hp) (List.mem_iff_getElem.2 ⟨pos, hl, rfl⟩)
    simp only [digB, decide_eq_true_eq] at this
    exact hd this

set_option maxRecDepth 100000 in
theorem number_any (s : ByteArray) (w : World) (hs : s.size ≤ maxLen) :
    Calls Try.prog 15 #[.string s] w fun e w' => e = .returned (.tuple #[.int .i64 (numV s).1, .bool (numV s).2]) ∧ Below w.heap.size w w' := by
  unfold maxLen at hs
  by_cases h0 : s.size = 0
  · have HV : Hid (numV s = (0, false)) := Lib.hid (by rw [numV, if_pos (.inl h0)])
    have hE : s.toList.isEmpty = true := by
      rw [ByteArray.toList_eq]
      have : s.data.toList.length = 0 := by simpa using h0
      rw [List.length_eq_zero_iff.1 this]; rfl
    clear h0
    go_enter Try.func15, Try.ntmps15
    go_wp2_with fail
    go_ret2
    exact ⟨by rw [HV.out]; rfl, by (repeat' (first | (with_reducible exact Below.refl _ _) | (with_reducible assumption) | (with_reducible refine below_iter ?_ ?_ _ _) | (with_reducible refine Below.alloc ?_ ?_ _) | (with_reducible refine Below.drew ?_) | (with_reducible refine below_drewN ?_ _) | (with_reducible refine Below.setCell ?_ ?_ _) | (with_reducible refine below_step ?_ ?_ (by with_reducible assumption)) | (first | (with_reducible exact Nat.le_refl _) | (with_reducible assumption) | (with_reducible refine Nat.le_trans ?_ (Below.size (by with_reducible assumption))) | (simp only [World.size_alloc, World.size_setCell, World.size_drew, size_iter, size_drewN]) | omega)))⟩
  have hE : s.toList.isEmpty = false := by
    rw [ByteArray.toList_eq]
    cases hh : s.data.toList with
    | nil => exact absurd (by have := congrArg List.length hh; simpa using this) h0
    | cons a l => rfl
  by_cases h4 : 4 < s.size
  · have HV : Hid (numV s = (0, false)) := Lib.hid (by rw [numV, if_pos (.inr h4)])
    clear h0
    go_enter Try.func15, Try.ntmps15
    go_wp2_with fail
    go_ret2
    exact ⟨by rw [HV.out]; rfl, by (repeat' (first | (with_reducible exact Below.refl _ _) | (with_reducible assumption) | (with_reducible refine below_iter ?_ ?_ _ _) | (with_reducible refine Below.alloc ?_ ?_ _) | (with_reducible refine Below.drew ?_) | (with_reducible refine below_drewN ?_ _) | (with_reducible refine Below.setCell ?_ ?_ _) | (with_reducible refine below_step ?_ ?_ (by with_reducible assumption)) | (first | (with_reducible exact Nat.le_refl _) | (with_reducible assumption) | (with_reducible refine Nat.le_trans ?_ (Below.size (by with_reducible assumption))) | (simp only [World.size_alloc, World.size_setCell, World.size_drew, size_iter, size_drewN]) | omega)))⟩
  have H0 := Lib.hid (fun h : s.size = 0 ∨ 4 < s.size => h.elim h0 h4)
  have h4' : s.size ≤ 4 := by omega
  clear h0 h4
  go_enter Try.func15, Try.ntmps15
  go_wp2_with fail
  go_loopw [4] (fun n wr => ∃ (pos : Nat) (k : Int), n = .int .i64 k ∧ wr = w.iter s pos ∧ pos ≤ s.size ∧ Hid (Told s pos k)) (fun _ wr => s.size - wr.iterPos w.heap.size)
  case atStart => exact ⟨0, 0, rfl, rfl, by omega, Lib.hid ⟨rfl, rfl⟩⟩
  case round =>
    obtain ⟨pos, k, rfl, rfl, hp0, hT⟩ := hrel
    by_cases hp : pos < s.size
    · obtain ⟨hk0, hk1⟩ := told_bd hT.out (by omega)
      by_cases hc : (s[pos]'hp).toNat < 128
      · have hnx : ∀ ty, (Instr.next (.pointer (some ⟨w.heap.size, 0, none⟩)) true ty).run Try.prog (w.iter s pos) = _ := fun ty => run_next_ascii w s pos ty hp hc
        by_cases hd : 48 ≤ (s[pos]'hp).toNat ∧ (s[pos]'hp).toNat ≤ 57
        · have HT := Lib.hid (told_next hT.out hp hd)
          obtain ⟨hd1, hd2⟩ := hd
          generalize (s[pos]'hp).toNat = c at *
          have e1 : decide ((c : Int) < 48) = false := decide_eq_false (by omega)
          have e2 : decide (57 < (c : Int)) = false := decide_eq_false (by omega)
          clear hT
          go_wp2_with fail
          go_roundw
          case rel => exact ⟨pos + 1, 10 * k + ((c : Int) - 48), by first | rfl | (congr 1; omega), rfl, by omega, HT⟩
          case measure => simp; omega
        · have HV := Lib.hid (told_no hp hd)
          generalize (s[pos]'hp).toNat = c at *
          clear hT
          by_cases hlo : c < 48
          · clear hd
            have e1 : decide ((c : Int) < 48) = true := decide_eq_true (by omega)
            go_wp2_with fail
            go_ret2
            exact ⟨by rw [HV.out]; rfl, by (repeat' (first | (with_reducible exact Below.refl _ _) | (with_reducible assumption) | (with_reducible refine below_iter ?_ ?_ _ _) | (with_reducible refine Below.alloc ?_ ?_ _) | (with_reducible refine Below.drew ?_) | (with_reducible refine below_drewN ?_ _) | (with_reducible refine Below.setCell ?_ ?_ _) | (with_reducible refine below_step ?_ ?_ (by with_reducible assumption)) | (first | (with_reducible exact Nat.le_refl _) | (with_reducible assumption) | (with_reducible refine Nat.le_trans ?_ (Below.size (by with_reducible assumption))) | (simp only [World.size_alloc, World.size_setCell, World.size_drew, size_iter, size_drewN]) | omega)))⟩
          · have e1 : decide ((c : Int) < 48) = false := decide_eq_false (by omega)
            have e2 : decide (57 < (c : Int)) = true := decide_eq_true (by omega)
            clear hd
            go_wp2_with fail
            go_ret2
            exact ⟨by rw [HV.out]; rfl, by (repeat' (first | (with_reducible exact Below.refl _ _) | (with_reducible assumption) | (with_reducible refine below_iter ?_ ?_ _ _) | (with_reducible refine Below.alloc ?_ ?_ _) | (with_reducible refine Below.drew ?_) | (with_reducible refine below_drewN ?_ _) | (with_reducible refine Below.setCell ?_ ?_ _) | (with_reducible refine below_step ?_ ?_ (by with_reducible assumption)) | (first | (with_reducible exact Nat.le_refl _) | (with_reducible assumption) | (with_reducible refine Nat.le_trans ?_ (Below.size (by with_reducible assumption))) | (simp only [World.size_alloc, World.size_setCell, World.size_drew, size_iter, size_drewN]) | omega)))⟩
      · have hnx : ∀ ty, (Instr.next (.pointer (some ⟨w.heap.size, 0, none⟩)) true ty).run Try.prog (w.iter s pos) = _ := fun ty => run_next_any w s pos ty hp
        have hh := decode_high s pos hp (by omega)
        have hd1 := decode_le s pos
        have HV := Lib.hid (told_no hp (by omega))
        clear hT
        generalize (Utf8.decode s pos).1 = c at *
        generalize (Utf8.decode s pos).2 = d at *
        have e1 : decide ((c : Int) < 48) = false := decide_eq_false (by omega)
        have e2 : decide (57 < (c : Int)) = true := decide_eq_true (by omega)
        go_wp2_with fail
        go_ret2
        exact ⟨by rw [HV.out]; rfl, by (repeat' (first | (with_reducible exact Below.refl _ _) | (with_reducible assumption) | (with_reducible refine below_iter ?_ ?_ _ _) | (with_reducible refine Below.alloc ?_ ?_ _) | (with_reducible refine Below.drew ?_) | (with_reducible refine below_drewN ?_ _) | (with_reducible refine Below.setCell ?_ ?_ _) | (with_reducible refine below_step ?_ ?_ (by with_reducible assumption)) | (first | (with_reducible exact Nat.le_refl _) | (with_reducible assumption) | (with_reducible refine Nat.le_trans ?_ (Below.size (by with_reducible assumption))) | (simp only [World.size_alloc, World.size_setCell, World.size_drew, size_iter, size_drewN]) | omega)))⟩
    · have hnx : ∀ ty, (Instr.next (.pointer (some ⟨w.heap.size, 0, none⟩)) true ty).run Try.prog (w.iter s pos) = _ := fun ty => run_next_end w s pos ty hp
      obtain rfl : pos = s.size := by omega
      have HV := Lib.hid (told_end hT.out H0.out)
      clear hT
      go_wp2_with fail
      go_ret2
      exact ⟨by rw [HV.out]; rfl, by (repeat' (first | (with_reducible exact Below.refl _ _) | (with_reducible assumption) | (with_reducible refine below_iter ?_ ?_ _ _) | (with_reducible refine Below.alloc ?_ ?_ _) | (with_reducible refine Below.drew ?_) | (with_reducible refine below_drewN ?_ _) | (with_reducible refine Below.setCell ?_ ?_ _) | (with_reducible refine below_step ?_ ?_ (by with_reducible assumption)) | (first | (with_reducible exact Nat.le_refl _) | (with_reducible assumption) | (with_reducible refine Nat.le_trans ?_ (Below.size (by with_reducible assumption))) | (simp only [World.size_alloc, World.size_setCell, World.size_drew, size_iter, size_drewN]) | omega)))⟩

set_option maxRecDepth 100000 in
theorem ref_number_any (s : ByteArray) (w : World) (hs : s.size ≤ maxLen) :
    Calls Try.prog 16 #[.string s] w fun e w' => e = .returned (.tuple #[.int .i64 (numV s).1, .bool (numV s).2]) ∧ Below w.heap.size w w' := by
  unfold maxLen at hs
  go_enter Try.func16, Try.ntmps16
  go_wp2_with fail
  go_loop [4, 5] (fun n i => ∃ (pos : Nat) (k : Int), n = .int .i64 k ∧ i = .int .i64 pos ∧ pos ≤ s.size ∧ pos ≤ 4 ∧ Hid (Told s pos k)) (fun _ i => s.size - (intOf i).toNat)
  case atStart => exact ⟨0, 0, rfl, rfl, by omega, by omega, Lib.hid ⟨rfl, rfl⟩⟩
  case round =>
    obtain ⟨pos, k, rfl, rfl, hp0, hp4, hT⟩ := hrel
    by_cases hp : pos < s.size
    · by_cases hd : 48 ≤ (s[pos]'hp).toNat ∧ (s[pos]'hp).toNat ≤ 57
      · by_cases h3 : pos ≤ 3
        · obtain ⟨hk0, hk1⟩ := told_bd hT.out h3
          have HT := Lib.hid (told_next hT.out hp hd)
          obtain ⟨hd1, hd2⟩ := hd
          have e1 : decide (((s[pos]'hp).toNat : Int) < 48) = false := decide_eq_false (by omega)
          have e2 : decide (57 < ((s[pos]'hp).toNat : Int)) = false := decide_eq_false (by omega)
          clear hT
          go_wp2_with fail
          go_round
          case rel => exact ⟨pos + 1, _, by first | rfl | (congr 1; omega), by go_num, by omega, by omega, by first | exact HT | (rw [Int.mul_comm]; exact HT)⟩
          case measure => simp [intOf]; omega
        · have HV : Hid (numV s = (0, false)) := Lib.hid (by rw [numV, if_pos (.inr (by omega))])
          obtain ⟨hd1, hd2⟩ := hd
          have e1 : decide (((s[pos]'hp).toNat : Int) < 48) = false := decide_eq_false (by omega)
          have e2 : decide (57 < ((s[pos]'hp).toNat : Int)) = false := decide_eq_false (by omega)
          have e3 : decide (3 < (pos : Int)) = true := decide_eq_true (by omega)
          clear hT
          go_wp2_with fail
          go_ret2
          exact ⟨by rw [HV.out]; rfl, by (repeat' (first | (with_reducible exact Below.refl _ _) | (with_reducible assumption) | (with_reducible refine below_iter ?_ ?_ _ _) | (with_reducible refine Below.alloc ?_ ?_ _) | (with_reducible refine Below.drew ?_) | (with_reducible refine below_drewN ?_ _) | (with_reducible refine Below.setCell ?_ ?_ _) | (with_reducible refine below_step ?_ ?_ (by with_reducible assumption)) | (first | (with_reducible exact Nat.le_refl _) | (with_reducible assumption) | (with_reducible refine Nat.le_trans ?_ (Below.size (by with_reducible assumption))) | (simp only [World.size_alloc, World.size_setCell, World.size_drew, size_iter, size_drewN]) | omega)))⟩
      · have HV := Lib.hid (told_no hp hd)
        clear hT
        by_cases hlo : (s[pos]'hp).toNat < 48
        · clear hd
          have e1 : decide (((s[pos]'hp).toNat : Int) < 48) = true := decide_eq_true (by omega)
          go_wp2_with fail
          go_ret2
          exact ⟨by rw [HV.out]; rfl, by (repeat' (first | (with_reducible exact Below.refl _ _) | (with_reducible assumption) | (with_reducible refine below_iter ?_ ?_ _ _) | (with_reducible refine Below.alloc ?_ ?_ _) | (with_reducible refine Below.drew ?_) | (with_reducible refine below_drewN ?_ _) | (with_reducible refine Below.setCell ?_ ?_ _) | (with_reducible refine below_step ?_ ?_ (by with_reducible assumption)) | (first | (with_reducible exact Nat.le_refl _) | (with_reducible assumption) | (with_reducible refine Nat.le_trans ?_ (Below.size (by with_reducible assumption))) | (simp only [World.size_alloc, World.size_setCell, World.size_drew, size_iter, size_drewN]) | omega)))⟩
        · have e1 : decide (((s[pos]'hp).toNat : Int) < 48) = false := decide_eq_false (by omega)
          have e2 : decide (57 < ((s[pos]'hp).toNat : Int)) = true := decide_eq_true (by omega)
          clear hd
          go_wp2_with fail
          go_ret2
          exact ⟨by rw [HV.out]; rfl, by (repeat' (first | (with_reducible exact Below.refl _ _) | (with_reducible assumption) | (with_reducible refine below_iter ?_ ?_ _ _) | (with_reducible refine Below.alloc ?_ ?_ _) | (with_reducible refine Below.drew ?_) | (with_reducible refine below_drewN ?_ _) | (with_reducible refine Below.setCell ?_ ?_ _) | (with_reducible refine below_step ?_ ?_ (by with_reducible assumption)) | (first | (with_reducible exact Nat.le_refl _) | (with_reducible assumption) | (with_reducible refine Nat.le_trans ?_ (Below.size (by with_reducible assumption))) | (simp only [World.size_alloc, World.size_setCell, World.size_drew, size_iter, size_drewN]) | omega)))⟩
    · obtain rfl : pos = s.size := by omega
      by_cases h0 : s.size = 0
      · have HV : Hid (numV s = (0, false)) := Lib.hid (by rw [numV, if_pos (.inl h0)])
        have hk : k = 0 := by
          have h := hT.out.2
          rw [List.take_of_length_le (by simp)] at h
          have hl : s.data.toList.length = 0 := by simpa using h0
          rw [List.length_eq_zero_iff.1 hl] at h
          exact h
        subst hk
        have e1 : decide ((0 : Int) < (s.size : Int)) = false := decide_eq_false (by omega)
        clear hT
        go_wp2_with fail
        go_ret2
        exact ⟨by rw [HV.out]; first | (simp; done) | (simp; omega), by (repeat' (first | (with_reducible exact Below.refl _ _) | (with_reducible assumption) | (with_reducible refine below_iter ?_ ?_ _ _) | (with_reducible refine Below.alloc ?_ ?_ _) | (with_reducible refine Below.drew ?_) | (with_reducible refine below_drewN ?_ _) | (with_reducible refine Below.setCell ?_ ?_ _) | (with_reducible refine below_step ?_ ?_ (by with_reducible assumption)) | (first | (with_reducible exact Nat.le_refl _) | (with_reducible assumption) | (with_reducible refine Nat.le_trans ?_ (Below.size (by with_reducible assumption))) | (simp only [World.size_alloc, World.size_setCell, World.size_drew, size_iter, size_drewN]) | omega)))⟩
      · have HV := Lib.hid (told_end hT.out (by omega))
        clear hT
        go_wp2_with fail
        go_ret2
        exact ⟨by rw [HV.out]; first | (simp; done) | (simp; omega), by (repeat' (first | (with_reducible exact Below.refl _ _) | (with_reducible assumption) | (with_reducible refine below_iter ?_ ?_ _ _) | (with_reducible refine Below.alloc ?_ ?_ _) | (with_reducible refine Below.drew ?_) | (with_reducible refine below_drewN ?_ _) | (with_reducible refine Below.setCell ?_ ?_ _) | (with_reducible refine below_step ?_ ?_ (by with_reducible assumption)) | (first | (with_reducible exact Nat.le_refl _) | (with_reducible assumption) | (with_reducible refine Nat.le_trans ?_ (Below.size (by with_reducible assumption))) | (simp only [World.size_alloc, World.size_setCell, World.size_drew, size_iter, size_drewN]) | omega)))⟩
end Go.Proofs.Ytpblikbdnbgglaa
