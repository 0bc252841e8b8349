/-
  record.Fields: the names of a kind's words, as a list of strings.
-/
import Derived.Test.YthcddbfjjkniiaaRecord
import Derived.Maps.AppendAt
namespace Go.Proofs.Ythcddbfjjkniiaa
open Go.RowKit

theorem Try.info_str : (Try.prog.info? 9).map (fun i => (i.zero, i.size, i.bytes)) = some (some (.string ⟨#[]⟩), 1, 16) := by kernel_rfl

/-- What has been found behind k bytes, and where the next one begins. -/
def fldM (s : ByteArray) : Nat → List ByteArray × Nat
  | 0 => ([], 0)
  | k + 1 => if isEnd s k then ((fldM s k).1 ++ [s.extract (fldM s k).2 k], k + 1) else fldM s k
theorem fldM_le (s : ByteArray) (k : Nat) : (fldM s k).2 ≤ k ∧ (fldM s k).1.length ≤ k := by
  induction k with
  | zero => exact ⟨Nat.le_refl _, Nat.le_refl _⟩
  | succ k ih =>
    rw [fldM]; split
    · simp; omega
    · omega
def fldL (kind : Int) : List ByteArray := (fldM (lineV kind) (lineV kind).size).1

set_option maxRecDepth 100000 in
theorem fields_any (kind : Int) (w : World) : Calls Try.prog 34 #[.int .i64 kind] w fun e w' => ∃ v, e = .returned v ∧ Sl w' w'.heap.size 1 v (fldL kind).length ((fldL kind).map Value.string) ∧ Below w.heap.size w w' := by
  obtain ⟨i0, hi, hz0, hz1, hz2⟩ := info_parts Try.info_str
  have hf1 : fldL kind = (fldM (lineV kind) (lineV kind).size).1 := rfl
  have HF1 := Lib.hid hf1
  have HA := Lib.hid (line_ascii kind)
  have hz := line_size kind
  clear hf1
  go_enter Try.func34, Try.ntmps34
  go_wp2_with (go_at_call 38; refine (lineOf_any _ _).mono ?_; rintro e_ w1 ⟨rfl, hb1⟩)
  generalize lineV kind = s at *
  go_loopw [4, 5] (fun v fr wr => ∃ pos, fr = .int .i64 ((fldM s pos).2 : Int) ∧ wr.heap[w1.heap.size]? = some (.stringIter s pos) ∧ wr.ownsRow (w1.heap.size + 1) 9 1 v (fldM s pos).1.length ((fldM s pos).1.map Value.string) ∧ Below w1.heap.size w1 wr ∧ pos ≤ s.size) (fun _ _ wr => s.size - wr.iterPos w1.heap.size)
  case atStart => exact ⟨0, rfl, World.iter_heap w1 s 0, World.ownsRow_nil _ _ _ _, by (repeat' (first | (with_reducible exact Below.refl _ _) | (with_reducible assumption) | (with_reducible refine below_iter ?_ ?_ _ _) | (with_reducible refine Below.alloc ?_ ?_ _) | (with_reducible refine Below.drew ?_) | (with_reducible refine below_drewN ?_ _) | (with_reducible refine Below.setCell ?_ ?_ _) | (with_reducible refine below_step ?_ ?_ (by with_reducible assumption)) | (first | (with_reducible exact Nat.le_refl _) | (with_reducible assumption) | (with_reducible refine Nat.le_trans ?_ (Below.size (by with_reducible assumption))) | omega | (simp only [World.size_alloc, World.size_setCell, World.size_drew, size_iter, size_drewN]; done) | (simp only [World.size_alloc, World.size_setCell, World.size_drew, size_iter, size_drewN]; omega)))), by omega⟩
  case round =>
    obtain ⟨pos, rfl, hit, hown, hbw, hp0⟩ := hrel
    obtain ⟨hle, hle2⟩ := fldM_le s pos
    have hpos0 := iterPos_of hit
    by_cases hp : pos < s.size
    · have hnx : ∀ ty, (Instr.next (.pointer (some ⟨w1.heap.size, 0, none⟩)) true ty).run Try.prog wr = _ := fun ty => Lib.run_next_ascii_at wr w1.heap.size s pos ty hit hp (HA.out pos hp)
      have hit2 := Lib.iterAt_heap wr w1.heap.size s pos (pos + 1) hit
      have hbw2 := Lib.below_iterAt hbw (k := w1.heap.size) (Nat.le_refl _) s (pos + 1)
      have hown2 := ownsRow_iterAt hown (k := w1.heap.size) (by omega) s (pos + 1)
      obtain ⟨W1, hW1⟩ : ∃ W1, W1 = wr.iterAt w1.heap.size s (pos + 1) := ⟨_, rfl⟩
      rw [← hW1] at hnx hit2 hbw2 hown2
      have hBlt := lt_of_block hit2
      clear hW1 hit hown hbw
      have HPOS := Lib.hid hpos0
      clear hpos0
      by_cases he : isEnd s pos = true
      · have he2 : endsB ((s[pos]'hp).toNat : Int) = true := by rw [← get_at]; exact he
        have HS : Hid (fldM s (pos + 1) = ((fldM s pos).1 ++ [s.extract (fldM s pos).2 pos], pos + 1)) := by show _ = _; rw [fldM, if_pos he]
        clear he
        generalize (fldM s pos).1 = l at *
        generalize (fldM s pos).2 = fr at *
        go_wp2_with (first
          | (go_at_call 39; refine (ends_any _ _).mono ?_; rintro e_ w_ ⟨rfl, rfl⟩)
          | (at_builtin; refine wpList_append_own _ rfl _ _ 31 rfl (w1.heap.size + 1) 9 i0 (.string ⟨#[]⟩) 1 16 Try.underlying31 hi hz0 hz1 hz2 rfl (by decide) _ _ _ rfl (hown2.alloc _) ⟨W1.heap.size, 0, none⟩ 1 1 [.string (s.extract fr pos)] rfl rfl (cell_one_new _ _ _) (fun x hx => by simp at hx; rcases hx with rfl; rfl) (by unfold maxLen; omega) (by omega) (by simp; omega) ?_; intro v' w3 hown' hgrow3 hnil3
             have hit3 : w3.heap[w1.heap.size]? = some (.stringIter s (pos + 1)) := by
               rw [hgrow3.block w1.heap.size (by simp; omega) (fun h => by have := (hown2.lt _ h.symm).1; omega), Below.heap_alloc _ _ _ hBlt]; exact hit2
             have hbw3 : Below w1.heap.size w1 w3 := Below.grown (hbw2.alloc (by omega) _) hgrow3 (by simp; omega) (fun j hj => by have := (hown2.lt _ hj).1; omega)
             have X := Lib.hid (And.intro hown' (And.intro hit3 hbw3))
             clear hown' hgrow3 hnil3 hit3 hbw3))
        go_roundw
        case rel => exact ⟨pos + 1, by rw [HS.out]; go_num, X.out.2.1, by rw [HS.out]; simpa using X.out.1, X.out.2.2, by omega⟩
        case measure => rw [iterPos_of X.out.2.1, HPOS.out]; omega
      · have he1 : isEnd s pos = false := by simpa using he
        have he2 : endsB ((s[pos]'hp).toNat : Int) = false := by rw [← get_at]; exact he1
        have HS : Hid (fldM s (pos + 1) = fldM s pos) := by show _ = _; rw [fldM, if_neg he]
        clear he he1
        go_wp2_with (go_at_call 39; refine (ends_any _ _).mono ?_; rintro e_ w_ ⟨rfl, rfl⟩)
        go_roundw
        case rel => exact ⟨pos + 1, by rw [HS.out], hit2, by rw [HS.out]; exact hown2, hbw2, by omega⟩
        case measure => rw [iterPos_of hit2, HPOS.out]; omega
    · have hnx : ∀ ty, (Instr.next (.pointer (some ⟨w1.heap.size, 0, none⟩)) true ty).run Try.prog wr = _ := fun ty => Lib.run_next_end_at wr w1.heap.size s pos ty hit hp
      obtain rfl : pos = s.size := by omega
      have HO := Lib.hid (Sl.of_own hown)
      clear hown
      go_wp2_with fail
      go_ret
      exact ⟨_, rfl, by rw [HF1.out]; exact HO.out, by (repeat' (first | (with_reducible exact Below.refl _ _) | (with_reducible assumption) | (with_reducible refine below_iter ?_ ?_ _ _) | (with_reducible refine Below.alloc ?_ ?_ _) | (with_reducible refine Below.drew ?_) | (with_reducible refine below_drewN ?_ _) | (with_reducible refine Below.setCell ?_ ?_ _) | (with_reducible refine below_step ?_ ?_ (by with_reducible assumption)) | (first | (with_reducible exact Nat.le_refl _) | (with_reducible assumption) | (with_reducible refine Nat.le_trans ?_ (Below.size (by with_reducible assumption))) | omega | (simp only [World.size_alloc, World.size_setCell, World.size_drew, size_iter, size_drewN]; done) | (simp only [World.size_alloc, World.size_setCell, World.size_drew, size_iter, size_drewN]; omega))))⟩
end Go.Proofs.Ythcddbfjjkniiaa
