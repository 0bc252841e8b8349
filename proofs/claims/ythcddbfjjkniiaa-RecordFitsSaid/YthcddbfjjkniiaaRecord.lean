/-
  Package record and its reference: what each call returns.
-/
import Derived.Test.YthcddbfjjkniiaaRows
import Derived.Test.YthcddbfjjkniiaaMem
import Derived.Test.YthcddbfjjkniiaaPlainStr
import Derived.WalkKit
import Derived.ProofKit
import Derived.Handy
import Derived.Outline
import Derived.WalkSpells
import Derived.Lib.OthersKept
import Derived.WalkSmall
import Derived.OneCell
namespace Go.Proofs.Ythcddbfjjkniiaa
open Go.RowKit
/-- The names of the words, a line a kind. -/
def namesB : ByteArray := ⟨#[99, 97, 112, 32, 99, 108, 111, 115, 101, 100, 32, 99, 111, 117, 110, 116, 32, 115, 116, 97, 114, 116, 32, 98, 117, 102, 32, 116, 97, 107, 101, 104, 101, 97, 100, 32, 116, 97, 107, 101, 116, 97, 105,
  108, 32, 115, 101, 110, 100, 104, 101, 97, 100, 32, 115, 101, 110, 100, 116, 97, 105, 108, 10, 10, 103, 111, 114, 32, 99, 104, 97, 110, 32, 118, 97, 108, 117, 101, 32, 110, 101, 120, 116, 32, 116,
  111, 32, 114, 101, 103, 32, 109, 111, 114, 101, 10, 105, 100, 32, 115, 116, 97, 116, 117, 115, 32, 112, 99, 32, 97, 32, 98, 32, 99, 32, 100, 32, 101, 32, 102, 32, 115, 117, 100, 111, 103, 115, 10,
  118, 97, 108, 117, 101, 32, 102, 105, 110, 97, 108, 10, 119, 104, 101, 110, 32, 99, 104, 97, 110, 10]⟩
theorem names_size : namesB.size = 150 := by kernel_rfl
theorem names_ascii : ∀ i : Fin namesB.size, (namesB[i.val]'i.isLt).toNat < 128 := by decide +kernel
theorem names_at (i : Nat) (h : i < namesB.size) : (namesB[i]'h).toNat < 128 := names_ascii ⟨i, h⟩

/-- The bounds of the line of a kind, if it has one: f rounds from place pos on. -/
def lineM (kind : Int) : Nat → Nat → Int → Nat → Option (Nat × Nat)
  | 0, _, _, _ => none
  | f + 1, pos, line, frm =>
    if h : pos < namesB.size then
      if (namesB[pos]'h).toNat = 10 then
        if line = kind ∧ frm < pos then some (frm, pos + 1) else lineM kind f (pos + 1) (line + 1) (pos + 1)
      else lineM kind f (pos + 1) line frm
    else none
def cutV : Option (Nat × Nat) → ByteArray
  | some (a, b) => namesB.extract a b
  | none => ByteArray.empty
def lineV (kind : Int) : ByteArray := cutV (lineM kind 150 0 1 0)

theorem lineM_end (kind : Int) (f pos : Nat) (line : Int) (frm : Nat) (h : ¬ pos < namesB.size) : lineM kind f pos line frm = none := by
  cases f with
  | zero => rfl
  | succ f => rw [lineM, dif_neg h]
theorem lineM_skip (kind : Int) (f pos : Nat) (line : Int) (frm : Nat) (h : pos < namesB.size) (h1 : ¬ (namesB[pos]'h).toNat = 10) : lineM kind (f + 1) pos line frm = lineM kind f (pos + 1) line frm := by
  rw [lineM, dif_pos h, if_neg h1]
theorem lineM_next (kind : Int) (f pos : Nat) (line : Int) (frm : Nat) (h : pos < namesB.size) (h1 : (namesB[pos]'h).toNat = 10) (h2 : ¬ (line = kind ∧ frm < pos)) : lineM kind (f + 1) pos line frm = lineM kind f (pos + 1) (line + 1) (pos + 1) := by
  rw [lineM, dif_pos h, if_pos h1, if_neg h2]
theorem lineM_is (kind : Int) (f pos : Nat) (line : Int) (frm : Nat) (h : pos < namesB.size) (h1 : (namesB[pos]'h).toNat = 10) (h2 : line = kind ∧ frm < pos) : lineM kind (f + 1) pos line frm = some (frm, pos + 1) := by
  rw [lineM, dif_pos h, if_pos h1, if_pos h2]

attribute [irreducible] lineM
theorem lineV_of (kind : Int) (o : Option (Nat × Nat)) (h : lineM kind 150 0 1 0 = o) : lineV kind = cutV o := by
  rw [← h]
  exact lineV.eq_1 kind
set_option maxRecDepth 100000 in
theorem lineOf_any (kind : Int) (w : World) : Calls Try.prog 38 #[.int .i64 kind] w fun e w' => e = .returned (.string (lineV kind)) ∧ Below w.heap.size w w' := by
  have hfin : ∀ o, lineM kind 150 0 1 0 = o → lineV kind = cutV o := lineV_of kind
  have HF := Lib.hid hfin
  clear hfin
  have hsz := names_size
  have HZ := Lib.hid hsz
  clear hsz
  go_enter Try.func38, Try.ntmps38
  go_wp2_with fail
  go_loopw [3, 4] (fun line frm wr => ∃ (f pos : Nat) (ln : Int) (fr : Nat), line = .int .i64 ln ∧ frm = .int .i64 fr ∧ wr = w.iter namesB pos ∧ fr ≤ pos ∧ pos ≤ 150 ∧ 1 ≤ ln ∧ ln ≤ pos + 1 ∧ 150 ≤ pos + f ∧ Hid (lineM kind f pos ln fr = lineM kind 150 0 1 0)) (fun _ _ wr => 150 - wr.iterPos w.heap.size)
  case atStart => exact ⟨150, 0, 1, 0, rfl, rfl, by first | (with_reducible rfl) | (unfold namesB; with_reducible rfl) | (simp only [namesB]), by omega, by omega, by omega, by omega, by omega, Lib.hid (Eq.refl _)⟩
  case round =>
    obtain ⟨f, pos, ln, fr, rfl, rfl, rfl, h1, h2, h3, h4, h5, hm⟩ := hrel
    by_cases hp : pos < namesB.size
    · have hp' : pos < 150 := by rw [HZ.out] at hp; exact hp
      obtain ⟨f, rfl⟩ : ∃ g, f = g + 1 := ⟨f - 1, by omega⟩
      have hnx : ∀ ty, (Instr.next (.pointer (some ⟨w.heap.size, 0, none⟩)) true ty).run Try.prog (w.iter namesB pos) = _ := fun ty => run_next_ascii w namesB pos ty hp (names_at pos hp)
      by_cases hc : (namesB[pos]'hp).toNat = 10
      · have hc2 : (((namesB[pos]'hp).toNat : Int) != 10) = false := by rw [bne_eq_false_iff_eq]; omega
        by_cases hk : ln = kind
        · by_cases hf : fr < pos
          · have HS := Lib.hid (HF.out _ ((Hid.out hm).symm.trans (lineM_is kind f pos ln fr hp hc ⟨hk, hf⟩)))
            clear hc hm
            subst hk
            go_wp2_with fail
            go_ret
            exact ⟨by rw [HS.out]; rfl, by (repeat' (first | (with_reducible exact Below.refl _ _) | (with_reducible assumption) | (with_reducible refine below_iter ?_ ?_ _ _) | (with_reducible refine Below.alloc ?_ ?_ _) | (with_reducible refine Below.drew ?_) | (with_reducible refine below_drewN ?_ _) | (with_reducible refine Below.setCell ?_ ?_ _) | (with_reducible refine below_step ?_ ?_ (by with_reducible assumption)) | (first | (with_reducible exact Nat.le_refl _) | (with_reducible assumption) | (with_reducible refine Nat.le_trans ?_ (Below.size (by with_reducible assumption))) | omega | (simp only [World.size_alloc, World.size_setCell, World.size_drew, size_iter, size_drewN]; done) | (simp only [World.size_alloc, World.size_setCell, World.size_drew, size_iter, size_drewN]; omega))))⟩
          · have HS := Lib.hid (lineM_next kind f pos ln fr hp hc (fun h => hf h.2))
            clear hc
            subst hk
            have hff : decide ((fr : Int) < (pos : Int)) = false := decide_eq_false (by omega)
            go_wp2_with fail
            go_roundw
            case rel => exact ⟨f, pos + 1, ln + 1, pos + 1, rfl, rfl, rfl, by omega, by omega, by omega, by omega, by omega, (Hid.out HS).symm.trans hm⟩
            case measure => simp; omega
        · have HS := Lib.hid (lineM_next kind f pos ln fr hp hc (fun h => hk h.1))
          have hk2 : (ln == kind) = false := by rw [beq_eq_false_iff_ne]; exact hk
          clear hc hk
          go_wp2_with fail
          go_roundw
          case rel => exact ⟨f, pos + 1, ln + 1, pos + 1, rfl, rfl, rfl, by omega, by omega, by omega, by omega, by omega, (Hid.out HS).symm.trans hm⟩
          case measure => simp; omega
      · have HS := Lib.hid (lineM_skip kind f pos ln fr hp hc)
        have hc2 : (((namesB[pos]'hp).toNat : Int) != 10) = true := by rw [bne_iff_ne]; omega
        clear hc
        go_wp2_with fail
        go_roundw
        case rel => exact ⟨f, pos + 1, ln, fr, rfl, rfl, rfl, by omega, by omega, by omega, by omega, by omega, (Hid.out HS).symm.trans hm⟩
        case measure => simp; omega
    · have hnx : ∀ ty, (Instr.next (.pointer (some ⟨w.heap.size, 0, none⟩)) true ty).run Try.prog (w.iter namesB pos) = _ := fun ty => run_next_end w namesB pos ty hp
      have HS := Lib.hid (HF.out _ ((Hid.out hm).symm.trans (lineM_end kind f pos ln fr hp)))
      clear hm
      go_wp2_with fail
      go_ret
      exact ⟨by rw [HS.out]; rfl, by (repeat' (first | (with_reducible exact Below.refl _ _) | (with_reducible assumption) | (with_reducible refine below_iter ?_ ?_ _ _) | (with_reducible refine Below.alloc ?_ ?_ _) | (with_reducible refine Below.drew ?_) | (with_reducible refine below_drewN ?_ _) | (with_reducible refine Below.setCell ?_ ?_ _) | (with_reducible refine below_step ?_ ?_ (by with_reducible assumption)) | (first | (with_reducible exact Nat.le_refl _) | (with_reducible assumption) | (with_reducible refine Nat.le_trans ?_ (Below.size (by with_reducible assumption))) | omega | (simp only [World.size_alloc, World.size_setCell, World.size_drew, size_iter, size_drewN]; done) | (simp only [World.size_alloc, World.size_setCell, World.size_drew, size_iter, size_drewN]; omega))))⟩

/-! ### Need -/
def endsB (c : Int) : Bool := decide (c = 32 ∨ c = 10)
theorem ends_any (c : Int) (w : World) : Calls Try.prog 39 #[.int .i32 c] w fun e w' => e = .returned (.bool (endsB c)) ∧ w = w' := by
  by_cases h1 : c = 32
  · subst h1
    go_enter Try.func39, Try.ntmps39
    go_wp2
    go_ret
    exact ⟨rfl, rfl⟩
  by_cases h2 : c = 10
  · subst h2
    go_enter Try.func39, Try.ntmps39
    go_wp2
    go_ret
    exact ⟨rfl, rfl⟩
  · have e1 : (c == 32) = false := by rw [beq_eq_false_iff_ne]; exact h1
    have e2 : (c == 10) = false := by rw [beq_eq_false_iff_ne]; exact h2
    have e3 : endsB c = false := by simp [endsB, h1, h2]
    go_enter Try.func39, Try.ntmps39
    go_wp2
    go_ret
    exact ⟨by simp [e3], rfl⟩

def isEnd (s : ByteArray) (k : Nat) : Bool := endsB (s.get! k).toNat
/-- How many ends there are among the first k bytes. -/
def cntE (s : ByteArray) : Nat → Nat
  | 0 => 0
  | k + 1 => cntE s k + if isEnd s k then 1 else 0
theorem cntE_le (s : ByteArray) (k : Nat) : cntE s k ≤ k := by
  induction k with
  | zero => exact Nat.le_refl _
  | succ k ih => rw [cntE]; split <;> omega
def Ascii (s : ByteArray) : Prop := ∀ i (h : i < s.size), (s[i]'h).toNat < 128
theorem get_at (s : ByteArray) (k : Nat) (h : k < s.size) : s.get! k = s[k]'h := by
  have h' : k < s.data.size := h
  show s.data[k]! = _
  rw [getElem!_pos s.data k h']
  rfl
theorem line_ascii (kind : Int) : Ascii (lineV kind) := by
  unfold lineV
  cases lineM kind 150 0 1 0 with
  | none => intro i h; exact absurd h (by simp [cutV])
  | some p =>
    intro i h
    have e : (cutV (some p))[i]'h = namesB[p.1 + i]'(by have := h; simp [cutV, ByteArray.size_extract] at this; omega) := by
      simp [cutV, ByteArray.getElem_extract]
    rw [e]
    exact names_at _ _
theorem line_size (kind : Int) : (lineV kind).size ≤ 150 := by
  unfold lineV
  cases lineM kind 150 0 1 0 with
  | none => simp [cutV]
  | some p => simp only [cutV, ByteArray.size_extract]; have := names_size; omega

def needV (kind n : Int) : Int := if kind = 2 then (if n < 0 ∨ 3 < n then 0 else n) else (cntE (lineV kind) (lineV kind).size : Int)
def hasV (kind n : Int) : Bool := if kind = 2 then (if n < 0 ∨ 3 < n then false else true) else decide (0 < (cntE (lineV kind) (lineV kind).size : Int))

theorem need_any (kind n : Int) (w : World) : Calls Try.prog 30 #[.int .i64 kind, .int .i64 n] w fun e w' => e = .returned (.tuple #[.int .i64 (needV kind n), .bool (hasV kind n)]) ∧ Below w.heap.size w w' := by
  by_cases h2 : kind = 2
  · subst h2
    by_cases hn : n < 0
    · go_enter Try.func30, Try.ntmps30
      go_wp2_with fail
      go_ret2
      exact ⟨by simp [needV, hasV, hn], by (repeat' (first | (with_reducible exact Below.refl _ _) | (with_reducible assumption) | (with_reducible refine below_iter ?_ ?_ _ _) | (with_reducible refine Below.alloc ?_ ?_ _) | (with_reducible refine Below.drew ?_) | (with_reducible refine below_drewN ?_ _) | (with_reducible refine Below.setCell ?_ ?_ _) | (with_reducible refine below_step ?_ ?_ (by with_reducible assumption)) | (first | (with_reducible exact Nat.le_refl _) | (with_reducible assumption) | (with_reducible refine Nat.le_trans ?_ (Below.size (by with_reducible assumption))) | omega | (simp only [World.size_alloc, World.size_setCell, World.size_drew, size_iter, size_drewN]; done) | (simp only [World.size_alloc, World.size_setCell, World.size_drew, size_iter, size_drewN]; omega))))⟩
    by_cases hn3 : 3 < n
    · go_enter Try.func30, Try.ntmps30
      go_wp2_with fail
      go_ret2
      exact ⟨by simp [needV, hasV, hn, hn3], by (repeat' (first | (with_reducible exact Below.refl _ _) | (with_reducible assumption) | (with_reducible refine below_iter ?_ ?_ _ _) | (with_reducible refine Below.alloc ?_ ?_ _) | (with_reducible refine Below.drew ?_) | (with_reducible refine below_drewN ?_ _) | (with_reducible refine Below.setCell ?_ ?_ _) | (with_reducible refine below_step ?_ ?_ (by with_reducible assumption)) | (first | (with_reducible exact Nat.le_refl _) | (with_reducible assumption) | (with_reducible refine Nat.le_trans ?_ (Below.size (by with_reducible assumption))) | omega | (simp only [World.size_alloc, World.size_setCell, World.size_drew, size_iter, size_drewN]; done) | (simp only [World.size_alloc, World.size_setCell, World.size_drew, size_iter, size_drewN]; omega))))⟩
    · go_enter Try.func30, Try.ntmps30
      go_wp2_with fail
      go_ret2
      exact ⟨by simp [needV, hasV]; omega, by (repeat' (first | (with_reducible exact Below.refl _ _) | (with_reducible assumption) | (with_reducible refine below_iter ?_ ?_ _ _) | (with_reducible refine Below.alloc ?_ ?_ _) | (with_reducible refine Below.drew ?_) | (with_reducible refine below_drewN ?_ _) | (with_reducible refine Below.setCell ?_ ?_ _) | (with_reducible refine below_step ?_ ?_ (by with_reducible assumption)) | (first | (with_reducible exact Nat.le_refl _) | (with_reducible assumption) | (with_reducible refine Nat.le_trans ?_ (Below.size (by with_reducible assumption))) | omega | (simp only [World.size_alloc, World.size_setCell, World.size_drew, size_iter, size_drewN]; done) | (simp only [World.size_alloc, World.size_setCell, World.size_drew, size_iter, size_drewN]; omega))))⟩
  · have hk : (kind == 2) = false := by rw [beq_eq_false_iff_ne]; exact h2
    have hf1 : needV kind n = (cntE (lineV kind) (lineV kind).size : Int) := by rw [needV, if_neg h2]
    have hf2 : hasV kind n = decide (0 < (cntE (lineV kind) (lineV kind).size : Int)) := by rw [hasV, if_neg h2]
    have HF1 := Lib.hid hf1
    have HF2 := Lib.hid hf2
    have HA := Lib.hid (line_ascii kind)
    have hz := line_size kind
    clear hf1 hf2 h2
    go_enter Try.func30, Try.ntmps30
    go_wp2_with (go_at_call 38; refine (lineOf_any _ _).mono ?_; rintro e_ w1 ⟨rfl, hb1⟩)
    generalize lineV kind = s at *
    go_loopw [6] (fun c wr => ∃ pos, c = .int .i64 (cntE s pos : Int) ∧ wr = w1.iter s pos ∧ pos ≤ s.size) (fun _ wr => s.size - wr.iterPos w1.heap.size)
    case atStart => exact ⟨0, rfl, rfl, by omega⟩
    case round =>
      obtain ⟨pos, rfl, rfl, hp0⟩ := hrel
      have hle := cntE_le s pos
      by_cases hp : pos < s.size
      · have hnx : ∀ ty, (Instr.next (.pointer (some ⟨w1.heap.size, 0, none⟩)) true ty).run Try.prog (w1.iter s pos) = _ := fun ty => run_next_ascii w1 s pos ty hp (HA.out pos hp)
        by_cases he : isEnd s pos = true
        · have he2 : endsB ((s[pos]'hp).toNat : Int) = true := by rw [← get_at]; exact he
          have HS : Hid (cntE s (pos + 1) = cntE s pos + 1) := by show _ = _; rw [cntE, if_pos he]
          clear he
          go_wp2_with (go_at_call 39; refine (ends_any _ _).mono ?_; rintro e_ w_ ⟨rfl, rfl⟩)
          go_roundw
          case rel => exact ⟨pos + 1, by rw [HS.out]; go_num, rfl, by omega⟩
          case measure => simp; omega
        · have he1 : isEnd s pos = false := by simpa using he
          have he2 : endsB ((s[pos]'hp).toNat : Int) = false := by rw [← get_at]; exact he1
          have HS : Hid (cntE s (pos + 1) = cntE s pos) := by show _ = _; rw [cntE, if_neg he]; rfl
          clear he he1
          go_wp2_with (go_at_call 39; refine (ends_any _ _).mono ?_; rintro e_ w_ ⟨rfl, rfl⟩)
          go_roundw
          case rel => exact ⟨pos + 1, by rw [HS.out], rfl, by omega⟩
          case measure => simp; omega
      · have hnx : ∀ ty, (Instr.next (.pointer (some ⟨w1.heap.size, 0, none⟩)) true ty).run Try.prog (w1.iter s pos) = _ := fun ty => run_next_end w1 s pos ty hp
        obtain rfl : pos = s.size := by omega
        go_wp2_with fail
        all_goals go_ret2
        all_goals exact ⟨by rw [HF1.out, HF2.out]; simp, by (repeat' (first | (with_reducible exact Below.refl _ _) | (with_reducible assumption) | (with_reducible refine below_iter ?_ ?_ _ _) | (with_reducible refine Below.alloc ?_ ?_ _) | (with_reducible refine Below.drew ?_) | (with_reducible refine below_drewN ?_ _) | (with_reducible refine Below.setCell ?_ ?_ _) | (with_reducible refine below_step ?_ ?_ (by with_reducible assumption)) | (first | (with_reducible exact Nat.le_refl _) | (with_reducible assumption) | (with_reducible refine Nat.le_trans ?_ (Below.size (by with_reducible assumption))) | omega | (simp only [World.size_alloc, World.size_setCell, World.size_drew, size_iter, size_drewN]; done) | (simp only [World.size_alloc, World.size_setCell, World.size_drew, size_iter, size_drewN]; omega))))⟩
end Go.Proofs.Ythcddbfjjkniiaa
