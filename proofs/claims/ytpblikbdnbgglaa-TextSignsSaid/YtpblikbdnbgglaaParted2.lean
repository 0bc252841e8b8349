/-
  text.parted, its loop: the lines of a text whose signs may all stand.
-/
import Derived.Test.YtpblikbdnbgglaaParted
namespace Go.Proofs.Ytpblikbdnbgglaa
open Go.RowKit

def mkB (x : List UInt8) : ByteArray := ⟨x.toArray⟩
def strs (l : List (List UInt8)) : List Value := (l.map mkB).map Value.string
def stAt (s : ByteArray) (pos : Nat) : List (List UInt8) × List UInt8 := partsOf (s.data.toList.take pos)
theorem stAt_next (s : ByteArray) (pos : Nat) (h : pos < s.size) : stAt s (pos + 1) = partStep (stAt s pos) (s[pos]'h) := by
  have h2 : pos < s.data.toList.length := by simpa using h
  unfold stAt
  rw [List.take_succ_eq_append_getElem h2, parts_snoc]
  rfl
theorem stAt_le (s : ByteArray) (pos : Nat) : (stAt s pos).1.length + (stAt s pos).2.length ≤ pos := by
  have h := parts_le (s.data.toList.take pos)
  have h2 := List.length_take_le pos s.data.toList
  unfold stAt
  omega
theorem mkB_toList (x : List UInt8) : (mkB x).toList = x := by rw [ByteArray.toList_eq]; rfl
theorem addLine_eq (l : List (List UInt8)) (x : List UInt8) : addLine (l.map mkB) (mkB x) = (if x = [] then l else l ++ [x]).map mkB := by
  unfold addLine
  rw [mkB_toList]
  cases x with
  | nil => simp
  | cons a x => simp
/-- One byte, as a string. -/
theorem conv_one (W : World) (x : UInt8) : (convert 32 9 (.slice (some ⟨W.heap.size, 0, none⟩) 1 1)).run Try.prog (W.alloc (.cells #[.int .u8 (x.toNat : Int)] 5)) = .ok (.string (mkB [x])) (W.alloc (.cells #[.int .u8 (x.toNat : Int)] 5)) := by
  rw [run_convert_bytes_string (P := Try.prog) _ 32 9 5 _ 1 1 Try.underlying32 Try.underlying5 Try.underlying9]
  have hl : (loadCells ⟨W.heap.size, 0, none⟩ 1).run Try.prog (W.alloc (.cells #[.int .u8 (x.toNat : Int)] 5)) = .ok (([(x.toNat : Int)]).map (Value.int .u8)).toArray (W.alloc (.cells #[.int .u8 (x.toNat : Int)] 5)) := by
    simp [loadCells, go_sem]
  rw [run_bytesToString _ _ _ _ _ hl]
  simp [mkB, ByteArray.push]
theorem conv_at (w : World) (a : Addr) (c : Nat) (x : UInt8) (h : w.cell? a = some (.int .u8 (x.toNat : Int))) : (convert 32 9 (.slice (some a) 1 c)).run Try.prog w = .ok (.string (mkB [x])) w := by
  rw [run_convert_bytes_string (P := Try.prog) _ 32 9 5 _ 1 c Try.underlying32 Try.underlying5 Try.underlying9]
  have hl : (loadCells a 1).run Try.prog w = .ok (([(x.toNat : Int)]).map (Value.int .u8)).toArray w := by
    have h2 := run_loadCells_list (P := Try.prog) w a [Value.int .u8 (x.toNat : Int)] (by
      intro j v hj
      match j, hj with
      | 0, hj => simp at hj; subst hj; simpa [Addr.add] using h)
    simpa using h2
  rw [run_bytesToString _ _ _ _ _ hl]
  simp [mkB, ByteArray.push]
theorem conv_below {W w' : World} {x : UInt8} (hb : Below (W.alloc (.cells #[.int .u8 (x.toNat : Int)] 5)).heap.size (W.alloc (.cells #[.int .u8 (x.toNat : Int)] 5)) w') :
    (convert 32 9 (.slice (some ⟨W.heap.size, 0, none⟩) 1 1)).run Try.prog w' = .ok (.string (mkB [x])) w' :=
  conv_at w' _ 1 x ((hb.cell (by simp)).trans (by simp [go_sem]))
theorem conv_belowd {W w' : World} {x : UInt8} (hb : Below (W.alloc (.cells #[.int .u8 (x.toNat : Int)] 5)).drew.heap.size (W.alloc (.cells #[.int .u8 (x.toNat : Int)] 5)).drew w') :
    (convert 32 9 (.slice (some ⟨W.heap.size, 0, none⟩) 1 1)).run Try.prog w' = .ok (.string (mkB [x])) w' :=
  conv_at w' _ 1 x ((hb.cell (by simp)).trans (by simp [go_sem]))
theorem conv_oned (W : World) (x : UInt8) : (convert 32 9 (.slice (some ⟨W.heap.size, 0, none⟩) 1 1)).run Try.prog (W.alloc (.cells #[.int .u8 (x.toNat : Int)] 5)).drew = .ok (.string (mkB [x])) (W.alloc (.cells #[.int .u8 (x.toNat : Int)] 5)).drew :=
  conv_at _ _ 1 x (by simp [go_sem])
theorem mkB_append (a b : List UInt8) : mkB a ++ mkB b = mkB (a ++ b) := by
  apply Go.WideShapes.bytes_inj
  simp [mkB]
theorem mkB_inj {a b : List UInt8} (h : mkB a = mkB b) : a = b := by
  have := congrArg (fun s : ByteArray => s.data.toList) h
  simpa [mkB] using this

/-- All signs may stand. -/
def Signs (s : ByteArray) : Prop := ∀ i (h : i < s.size), (s[i]'h).toNat < 128

set_option maxHeartbeats 1000000 in
set_option maxRecDepth 100000 in
theorem parted_any (s : ByteArray) (w : World) (hs : s.size < 1000000000000) (hA : Signs s) :
    Calls Try.prog 32 #[.string s] w fun e w' => ∃ v, e = .returned v ∧ (w'.ownsRow (w.heap.size + 2) 9 1 v (closed (partsOf s.data.toList)).length (strs (closed (partsOf s.data.toList))) ∧ Below w.heap.size w w') := by
  have HA := Lib.hid hA
  clear hA
  go_enter Try.func32, Try.ntmps32
  go_wp2_with fail
  go_loopw [3] (fun v wr => ∃ pos, Lib.IsBuilderF 68 5 w.heap.size w.heap.size (Lib.byteCells (stAt s pos).2) wr ∧ wr.heap[w.heap.size + 1]? = some (.stringIter s pos) ∧ wr.ownsRow (w.heap.size + 2) 9 1 v (stAt s pos).1.length (strs (stAt s pos).1) ∧ Below w.heap.size w wr ∧ pos ≤ s.size) (fun _ wr => s.size - wr.iterPos (w.heap.size + 1))
  case atStart =>
    refine ⟨0, (Lib.IsBuilderF.of (Lib.fresh_isBuilder 68 5 w)).alloc _, ?_, World.ownsRow_nil _ _ _ _, ((Below.refl _ w).alloc (Nat.le_refl _) _).alloc (by simp) _, by omega⟩
    have := World.iter_heap (w.alloc (.cells #[.pointer none, .slice none 0 0] 68)) s 0
    simpa using this
  case round =>
    obtain ⟨pos, hI, hit, hown, hbw, hp0⟩ := hrel
    have hsz : w.heap.size + 1 < wr.heap.size := lt_of_block hit
    have hle := stAt_le s pos
    have hpos0 := iterPos_of hit
    by_cases hp : pos < s.size
    · have hc := HA.out pos hp
      have hnx : ∀ ty, (Instr.next (.pointer (some ⟨w.heap.size + 1, 0, none⟩)) true ty).run Try.prog wr = _ := fun ty => Lib.run_next_ascii_at wr (w.heap.size + 1) s pos ty hit hp hc
      have hI2 := hI.iterAt hit (pos + 1)
      have hit2 := Lib.iterAt_heap wr (w.heap.size + 1) s pos (pos + 1) hit
      have hbw2 := Lib.below_iterAt hbw (k := w.heap.size + 1) (by omega) s (pos + 1)
      have hown2 := ownsRow_iterAt hown (k := w.heap.size + 1) (by omega) s (pos + 1)
      have hsz2 : w.heap.size + 2 ≤ (wr.iterAt (w.heap.size + 1) s (pos + 1)).heap.size := by rw [Lib.iterAt_size]; omega
      obtain ⟨W1, hW1⟩ : ∃ W1, W1 = wr.iterAt (w.heap.size + 1) s (pos + 1) := ⟨_, rfl⟩
      rw [← hW1] at hnx hI2 hit2 hbw2 hown2 hsz2
      have HST := Lib.hid (stAt_next s pos hp)
      have HPOS := Lib.hid hpos0
      have HI := Lib.hid hI2
      have HIT := Lib.hid hit2
      have HBW := Lib.hid hbw2
      have HOWN := Lib.hid hown2
      clear hW1 hI hit hown hbw hpos0 hI2 hit2 hbw2 hown2
      generalize stAt s pos = st at *
      obtain ⟨ls, cur⟩ := st
      simp only at HI HOWN hle
      by_cases h10 : (s[pos]'hp) = 10
      · have e10 : ((s[pos]'hp).toNat : Int) = 10 := by rw [h10]; rfl
        have HN : Hid (stAt s (pos + 1) = (if cur = [] then ls else ls ++ [cur], [])) := Lib.hid (by rw [HST.out, partStep, if_pos h10])
        clear HST h10 hc
        rw [e10] at hnx
        clear e10
        go_wp2_with fail
        refine (Try.Builder_String_any_k w.heap.size w.heap.size cur _ HI.out (by omega)).mono ?_
        rintro e W2 ⟨rfl, hI3, hb3, hk3⟩
        have hit3 := hk3.iter HIT.out (by omega)
        have hown3 := row_others HOWN.out (by decide) (fun e => by have := (HOWN.out.lt _ e).1; omega) hk3
        have hsz3 : w.heap.size + 2 ≤ W2.heap.size := Nat.le_trans hsz2 hb3.size
        have HI3 := Lib.hid hI3
        have HIT3 := Lib.hid hit3
        have HOWN3 := Lib.hid hown3
        have HBW3 := Lib.hid (HBW.out.trans hb3)
        clear hI3 hb3 hk3 hit3 hown3
        go_wp2_with fail
        refine (withLine_any (w.heap.size + 2) _ (ls.map mkB) (mkB cur) _ (by rw [List.length_map]; exact HOWN3.out) (by rw [List.length_map]; omega) hsz3).mono ?_
        rintro e W3 ⟨v', rfl, hown4, hg4⟩
        have hI4 := bd_grown HI3.out hg4 (row_kind HOWN3.out)
        have hit4 : W3.heap[w.heap.size + 1]? = some (.stringIter s (pos + 1)) := (hg4.block _ (lt_of_block HIT3.out) (fun e => row_ne HOWN3.out HIT3.out (fun c => by simp) e.symm)).trans HIT3.out
        have hbw4 : Below w.heap.size w W3 := HBW3.out.grown hg4 (by omega) (fun k hk => by have := (HOWN3.out.lt _ hk).1; omega)
        have HI4 := Lib.hid hI4
        have HIT4 := Lib.hid hit4
        have HOWN4 := Lib.hid hown4
        have HBW4 := Lib.hid hbw4
        clear hI4 hit4 hown4 hbw4 hg4
        go_wp2_with fail
        refine (reset_any w.heap.size w.heap.size _ _ HI4.out).mono ?_
        rintro e W4 ⟨rfl, hI5, hb5, hk5⟩
        have HIT5 := Lib.hid (hk5.iter HIT4.out (by omega))
        have HOWN5 := Lib.hid (row_others HOWN4.out (by decide) (fun e => by have := (HOWN4.out.lt _ e).1; omega) hk5)
        have HBW5 := Lib.hid (HBW4.out.trans hb5)
        have HI5 := Lib.hid hI5
        clear hI5 hb5 hk5
        go_wp2_with fail
        go_roundw
        case rel =>
          refine ⟨pos + 1, ?_, HIT5.out, ?_, HBW5.out, by omega⟩
          · rw [HN.out]; exact HI5.out
          · rw [HN.out]
            have h := HOWN5.out
            rw [addLine_eq] at h
            simpa [strs] using h
        case measure => rw [iterPos_of HIT5.out, HPOS.out]; omega
      by_cases h32 : (s[pos]'hp) = 32
      · have e32 : ((s[pos]'hp).toNat : Int) = 32 := by rw [h32]; rfl
        have HN : Hid (stAt s (pos + 1) = (ls, cur)) := Lib.hid (by rw [HST.out, partStep, if_neg h10, if_pos h32])
        clear HST h10 h32 hc
        rw [e32] at hnx
        clear e32
        go_wp2_with fail
        go_roundw
        case rel => exact ⟨pos + 1, by rw [HN.out]; exact HI.out, HIT.out, by rw [HN.out]; exact HOWN.out, HBW.out, by omega⟩
        case measure => rw [iterPos_of HIT.out, HPOS.out]; omega
      · have HN : Hid (stAt s (pos + 1) = (ls, cur ++ [s[pos]'hp])) := Lib.hid (by rw [HST.out, partStep, if_neg h10, if_neg h32])
        have e1 : (((s[pos]'hp).toNat : Int) == 10) = false := by
          rw [beq_eq_false_iff_ne]
          intro e
          exact h10 (UInt8.toNat_inj.1 (by show _ = 10; omega))
        have e2 : (((s[pos]'hp).toNat : Int) == 32) = false := by
          rw [beq_eq_false_iff_ne]
          intro e
          exact h32 (UInt8.toNat_inj.1 (by show _ = 32; omega))
        clear HST h10 h32
        have hb1 : 0 ≤ ((s[pos]'hp).toNat : Int) := by omega
        have hb2 : ((s[pos]'hp).toNat : Int) ≤ 127 := by omega
        have HCU : Hid (Lib.byteCells cur ++ [.int .u8 ((s[pos]'hp).toNat : Int)] = Lib.byteCells (cur ++ [s[pos]'hp])) := Lib.hid (by simp [Lib.byteCells])
        clear hc
        generalize hcc : ((s[pos]'hp).toNat : Int) = c at *
        clear hcc
        go_wp2_with fail
        refine (writeRune_ascii w.heap.size w.heap.size _ c _ HI.out ⟨hb1, hb2⟩ (by simp [Lib.byteCells]; omega) (by omega)).mono ?_
        rintro e W2 ⟨rfl, hI3, hb3, hk3⟩
        have HIT3 := Lib.hid (hk3.iter HIT.out (by omega))
        have HOWN3 := Lib.hid (row_others HOWN.out (by decide) (fun e => by have := (HOWN.out.lt _ e).1; omega) hk3)
        have HBW3 := Lib.hid (HBW.out.trans hb3)
        have HI3 := Lib.hid hI3
        clear hI3 hb3 hk3
        go_wp2_with fail
        go_roundw
        case rel =>
          refine ⟨pos + 1, ?_, HIT3.out, by rw [HN.out]; exact HOWN3.out, HBW3.out, by omega⟩
          rw [HN.out]
          have h := HI3.out
          rw [HCU.out] at h
          exact .inr h
        case measure => rw [iterPos_of HIT3.out, HPOS.out]; omega
    · have hnx : ∀ ty, (Instr.next (.pointer (some ⟨w.heap.size + 1, 0, none⟩)) true ty).run Try.prog wr = _ := fun ty => Lib.run_next_end_at wr (w.heap.size + 1) s pos ty hit hp
      obtain rfl : pos = s.size := by omega
      have hfin : stAt s s.size = partsOf s.data.toList := by
        unfold stAt
        rw [List.take_of_length_le (by simp)]
      rw [hfin] at hI hown hle
      clear hfin
      generalize hst : partsOf s.data.toList = st at *
      obtain ⟨ls, cur⟩ := st
      simp only at hI hown hle
      have HQ := Lib.hid hst
      clear hst
      have HI := Lib.hid hI
      have HIT := Lib.hid hit
      have HOWN := Lib.hid hown
      have HBW := Lib.hid hbw
      clear hI hit hown hbw hpos0
      go_wp2_with fail
      refine (Try.Builder_String_any_k w.heap.size w.heap.size cur _ HI.out (by omega)).mono ?_
      rintro e W2 ⟨rfl, hI3, hb3, hk3⟩
      have hown3 := row_others HOWN.out (by decide) (fun e => by have := (HOWN.out.lt _ e).1; omega) hk3
      have hsz3 : w.heap.size + 2 ≤ W2.heap.size := Nat.le_trans (by omega) hb3.size
      have HOWN3 := Lib.hid hown3
      have HBW3 := Lib.hid (HBW.out.trans hb3)
      clear hI3 hb3 hk3 hown3
      go_wp2_with fail
      refine (withLine_any (w.heap.size + 2) _ (ls.map mkB) (mkB cur) _ (by rw [List.length_map]; exact HOWN3.out) (by rw [List.length_map]; omega) hsz3).mono ?_
      rintro e W3 ⟨v', rfl, hown4, hg4⟩
      have hbw4 : Below w.heap.size w W3 := HBW3.out.grown hg4 (by omega) (fun k hk => by have := (HOWN3.out.lt _ hk).1; omega)
      have HOWN4 := Lib.hid hown4
      have HBW4 := Lib.hid hbw4
      clear hown4 hbw4 hg4
      go_wp2_with fail
      go_ret
      refine ⟨_, rfl, ?_, HBW4.out⟩
      have h := HOWN4.out
      rw [addLine_eq, List.length_map] at h
      rw [HQ.out]
      exact h
end Go.Proofs.Ytpblikbdnbgglaa
