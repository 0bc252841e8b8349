/-
  text.Lines and its reference: for every string of fewer than 10^12 bytes both answer the same: the lines, or why not.
-/
import Derived.Test.YtpblikbdnbgglaaParted2
namespace Go.Proofs.Ytpblikbdnbgglaa
open Go.RowKit

theorem signs_of (s : ByteArray) (h : ¬ 0 < wrongs (runesOf s)) : Signs s := by
  have hb := runes_bytes s s.size 0 (by omega) (by unfold runesOf at h; omega)
  rw [List.drop_zero] at hb
  intro i hi
  have hw : wrongs (runesOf s) = 0 := by omega
  unfold wrongs runesOf at hw
  rw [hb, List.countP_eq_zero] at hw
  have hm : (s[i]'hi).toNat ∈ s.data.toList.map UInt8.toNat := by
    refine List.mem_map.2 ⟨s[i]'hi, ?_, rfl⟩
    have h2 : i < s.data.toList.length := by simpa using hi
    exact List.mem_iff_getElem.2 ⟨i, h2, rfl⟩
  have hb := hw _ hm
  rcases bad_cases (s[i]'hi).toNat with ⟨h1, _⟩ | ⟨_, _, h2⟩ | ⟨_, _, h2⟩ | ⟨_, h1, _⟩
  · omega
  · exact absurd h2 hb
  · exact absurd h2 hb
  · omega

theorem strs_length (l : List (List UInt8)) : (strs l).length = l.length := by simp [strs]

set_option maxRecDepth 100000 in
theorem lines_any (s : ByteArray) (w : World) (hs : s.size < 1000000000000) :
    Calls Try.prog 13 #[.string s] w fun e w' => ∃ v, e = .returned (.tuple #[v, .int .i64 (linesV s).2]) ∧ (Sl w' w'.heap.size 1 v (linesV s).1.length (strs (linesV s).1) ∧ Below w.heap.size w w') := by
  have hse := signsV.eq_1 s
  have hle := linesV.eq_1 s
  by_cases h1 : 2000 < (runesOf s).length
  · rw [if_pos h1] at hse hle
    have HL := Lib.hid hle
    have HS := Lib.hid hse
    clear hle h1 hse
    go_enter Try.func13, Try.ntmps13
    go_wp2_with fail
    refine (checkSigns_any s _ (by unfold maxLen; omega)).mono ?_
    rintro e w1 ⟨rfl, hb1⟩
    rw [HS.out]
    go_wp2_with fail
    go_ret2
    exact ⟨_, by rw [HL.out]; rfl, by rw [HL.out]; exact Sl.nil, by (repeat' (first | (with_reducible exact Below.refl _ _) | (with_reducible assumption) | (with_reducible refine below_iter ?_ ?_ _ _) | (with_reducible refine Below.alloc ?_ ?_ _) | (with_reducible refine Below.drew ?_) | (with_reducible refine below_drewN ?_ _) | (with_reducible refine Below.setCell ?_ ?_ _) | (with_reducible refine below_step ?_ ?_ (by with_reducible assumption)) | (first | (with_reducible exact Nat.le_refl _) | (with_reducible assumption) | (with_reducible refine Nat.le_trans ?_ (Below.size (by with_reducible assumption))) | (simp only [World.size_alloc, World.size_setCell, World.size_drew, size_iter, size_drewN]) | omega)))⟩
  rw [if_neg h1] at hse hle
  by_cases h2 : 0 < wrongs (runesOf s)
  · rw [if_pos h2] at hse hle
    have HL := Lib.hid hle
    have HS := Lib.hid hse
    clear hle h1 h2 hse
    go_enter Try.func13, Try.ntmps13
    go_wp2_with fail
    refine (checkSigns_any s _ (by unfold maxLen; omega)).mono ?_
    rintro e w1 ⟨rfl, hb1⟩
    rw [HS.out]
    go_wp2_with fail
    go_ret2
    exact ⟨_, by rw [HL.out]; rfl, by rw [HL.out]; exact Sl.nil, by (repeat' (first | (with_reducible exact Below.refl _ _) | (with_reducible assumption) | (with_reducible refine below_iter ?_ ?_ _ _) | (with_reducible refine Below.alloc ?_ ?_ _) | (with_reducible refine Below.drew ?_) | (with_reducible refine below_drewN ?_ _) | (with_reducible refine Below.setCell ?_ ?_ _) | (with_reducible refine below_step ?_ ?_ (by with_reducible assumption)) | (first | (with_reducible exact Nat.le_refl _) | (with_reducible assumption) | (with_reducible refine Nat.le_trans ?_ (Below.size (by with_reducible assumption))) | (simp only [World.size_alloc, World.size_setCell, World.size_drew, size_iter, size_drewN]) | omega)))⟩
  rw [if_neg h2] at hse hle
  have hA := signs_of s h2
  have HA := Lib.hid hA
  have HS := Lib.hid hse
  clear h1 h2 hse hA
  have hpl := parts_le s.data.toList
  have hlen : (closed (partsOf s.data.toList)).length ≤ s.size + 1 := by
    have e : s.data.toList.length = s.size := by simp
    unfold closed
    split
    · omega
    · simp; omega
  clear hpl
  have HL := Lib.hid hle
  clear hle
  go_enter Try.func13, Try.ntmps13
  go_wp2_with fail
  refine (checkSigns_any s _ (by unfold maxLen; omega)).mono ?_
  rintro e w1 ⟨rfl, hb1⟩
  rw [HS.out]
  go_wp2_with fail
  refine (parted_any s _ hs HA.out).mono ?_
  rintro e w2 ⟨v, rfl, hown, hb2⟩
  have HO := Lib.hid (Sl.of_own hown)
  obtain ⟨A, c, rfl⟩ := (Sl.of_own hown).is_slice
  clear hown
  generalize closed (partsOf s.data.toList) = ls at *
  by_cases h7 : ls.length = 0
  · have HV := HL.out
    rw [if_pos h7] at HV
    have HV2 := Lib.hid HV
    have e7 : ((ls.length : Int) == 0) = true := by rw [beq_iff_eq]; omega
    clear HV HL h7
    go_wp2_with fail
    go_ret2
    exact ⟨_, by rw [HV2.out]; rfl, by rw [HV2.out]; exact Sl.nil, by (repeat' (first | (with_reducible exact Below.refl _ _) | (with_reducible assumption) | (with_reducible refine below_iter ?_ ?_ _ _) | (with_reducible refine Below.alloc ?_ ?_ _) | (with_reducible refine Below.drew ?_) | (with_reducible refine below_drewN ?_ _) | (with_reducible refine Below.setCell ?_ ?_ _) | (with_reducible refine below_step ?_ ?_ (by with_reducible assumption)) | (first | (with_reducible exact Nat.le_refl _) | (with_reducible assumption) | (with_reducible refine Nat.le_trans ?_ (Below.size (by with_reducible assumption))) | (simp only [World.size_alloc, World.size_setCell, World.size_drew, size_iter, size_drewN]) | omega)))⟩
  have e7 : ((ls.length : Int) == 0) = false := by rw [beq_eq_false_iff_ne]; omega
  by_cases h60 : 60 < ls.length
  · have HV := HL.out
    rw [if_neg h7, if_pos h60] at HV
    have HV2 := Lib.hid HV
    clear HV HL h7
    go_wp2_with fail
    go_ret2
    exact ⟨_, by rw [HV2.out]; rfl, by rw [HV2.out]; exact Sl.nil, by (repeat' (first | (with_reducible exact Below.refl _ _) | (with_reducible assumption) | (with_reducible refine below_iter ?_ ?_ _ _) | (with_reducible refine Below.alloc ?_ ?_ _) | (with_reducible refine Below.drew ?_) | (with_reducible refine below_drewN ?_ _) | (with_reducible refine Below.setCell ?_ ?_ _) | (with_reducible refine below_step ?_ ?_ (by with_reducible assumption)) | (first | (with_reducible exact Nat.le_refl _) | (with_reducible assumption) | (with_reducible refine Nat.le_trans ?_ (Below.size (by with_reducible assumption))) | (simp only [World.size_alloc, World.size_setCell, World.size_drew, size_iter, size_drewN]) | omega)))⟩
  · have HV := HL.out
    rw [if_neg h7, if_neg h60] at HV
    have HV2 := Lib.hid HV
    clear HV HL h7
    go_wp2_with fail
    go_ret2
    exact ⟨_, by rw [HV2.out]; rfl, by rw [HV2.out]; exact HO.out, by (repeat' (first | (with_reducible exact Below.refl _ _) | (with_reducible assumption) | (with_reducible refine below_iter ?_ ?_ _ _) | (with_reducible refine Below.alloc ?_ ?_ _) | (with_reducible refine Below.drew ?_) | (with_reducible refine below_drewN ?_ _) | (with_reducible refine Below.setCell ?_ ?_ _) | (with_reducible refine below_step ?_ ?_ (by with_reducible assumption)) | (first | (with_reducible exact Nat.le_refl _) | (with_reducible assumption) | (with_reducible refine Nat.le_trans ?_ (Below.size (by with_reducible assumption))) | (simp only [World.size_alloc, World.size_setCell, World.size_drew, size_iter, size_drewN]) | omega)))⟩

/-- The runes up to a place, where all of them are bytes that may stand. -/
def Upto (s : ByteArray) (f pos : Nat) : Prop := (s.data.toList.take pos).map UInt8.toNat ++ runesFrom s f pos = runesOf s ∧ wrongs ((s.data.toList.take pos).map UInt8.toNat) = 0
theorem upto_start (s : ByteArray) : Upto s s.size 0 := ⟨rfl, rfl⟩
theorem upto_next {s : ByteArray} {f pos : Nat} (h : Upto s (f + 1) pos) (hp : pos < s.size) (ha : (s[pos]'hp).toNat < 128) (hb : badR (s[pos]'hp).toNat = false) : Upto s f (pos + 1) := by
  obtain ⟨h1, h2⟩ := h
  have hl : pos < s.data.toList.length := by simpa using hp
  have e : (s.data.toList.take (pos + 1)).map UInt8.toNat = (s.data.toList.take pos).map UInt8.toNat ++ [(s[pos]'hp).toNat] := by
    rw [List.take_succ_eq_append_getElem hl, List.map_append]; rfl
  rw [runesFrom_next s f pos hp, decode_ascii s pos hp ha] at h1
  refine ⟨?_, ?_⟩
  · rw [e, List.append_assoc]; exact h1
  · rw [e, wrongs_snoc, h2, hb]; rfl
theorem upto_bad {s : ByteArray} {f pos : Nat} (h : Upto s (f + 1) pos) (hp : pos < s.size) (hb : badR (Utf8.decode s pos).1 = true) : 0 < wrongs (runesOf s) := by
  obtain ⟨h1, h2⟩ := h
  rw [runesFrom_next s f pos hp] at h1
  rw [← h1]
  simp [wrongs, hb]; omega
theorem upto_end {s : ByteArray} {f : Nat} (h : Upto s f s.size) : ¬ 0 < wrongs (runesOf s) := by
  obtain ⟨h1, h2⟩ := h
  rw [runesFrom_end s f _ (by omega), List.append_nil] at h1
  rw [← h1]; omega

attribute [local go_sem] conv_one
set_option maxHeartbeats 1000000 in
set_option maxRecDepth 100000 in
theorem ref_lines_any (s : ByteArray) (w : World) (hs : s.size < 1000000000000) :
    Calls Try.prog 14 #[.string s] w fun e w' => ∃ v, e = .returned (.tuple #[v, .int .i64 (linesV s).2]) ∧ (Sl w' w'.heap.size 1 v (linesV s).1.length (strs (linesV s).1) ∧ Below w.heap.size w w') := by
  obtain ⟨i0, hi, hz0, hz1, hz2⟩ := info_parts info_str
  have HLE := Lib.hid (linesV.eq_1 s)
  go_enter Try.func14, Try.ntmps14
  go_wp2_with fail
  go_loopw [4] (fun n wr => ∃ (f pos : Nat) (l : List Nat), n = .int .i64 (l.length : Int) ∧ wr = w.iter s pos ∧ l.length ≤ pos ∧ s.size ≤ pos + f ∧ Hid (l ++ runesFrom s f pos = runesOf s)) (fun _ wr => s.size - wr.iterPos w.heap.size)
  case atStart => exact ⟨s.size, 0, [], rfl, rfl, by simp, by omega, Lib.hid rfl⟩
  case round =>
    obtain ⟨f, pos, l, rfl, rfl, hl, hf, hR⟩ := hrel
    by_cases hp : pos < s.size
    · have hnx : ∀ ty, (Instr.next (.pointer (some ⟨w.heap.size, 0, none⟩)) true ty).run Try.prog (w.iter s pos) = _ := fun ty => run_next_any w s pos ty hp
      have hwd := width_pos s pos hp
      obtain ⟨f, rfl⟩ : ∃ g, f = g + 1 := ⟨f - 1, by omega⟩
      have HR2 : Hid ((l ++ [(Utf8.decode s pos).1]) ++ runesFrom s f (pos + (Utf8.decode s pos).2) = runesOf s) := Lib.hid (by
        rw [List.append_assoc, List.singleton_append, ← runesFrom_next s f pos hp]; exact hR.out)
      clear hR
      generalize (Utf8.decode s pos).1 = c at *
      generalize (Utf8.decode s pos).2 = d at *
      go_wp2_with fail
      go_roundw
      case rel => exact ⟨f, pos + d, l ++ [c], by simp, rfl, by simp; omega, by omega, HR2⟩
      case measure => simp; omega
    · have hnx : ∀ ty, (Instr.next (.pointer (some ⟨w.heap.size, 0, none⟩)) true ty).run Try.prog (w.iter s pos) = _ := fun ty => run_next_end w s pos ty hp
      have HR2 : Hid (runesOf s = l) := Lib.hid (by have h := hR.out; rw [runesFrom_end s f pos hp, List.append_nil] at h; exact h.symm)
      clear hR
      by_cases h1 : 2000 < l.length
      · have HL : Hid (linesV s = ([], 3)) := Lib.hid (by rw [HLE.out, HR2.out, if_pos h1])
        go_wp2_with fail
        go_ret2
        exact ⟨_, by rw [HL.out]; rfl, by rw [HL.out]; exact Sl.nil, by (repeat' (first | (with_reducible exact Below.refl _ _) | (with_reducible assumption) | (with_reducible refine below_iter ?_ ?_ _ _) | (with_reducible refine Below.alloc ?_ ?_ _) | (with_reducible refine Below.drew ?_) | (with_reducible refine below_drewN ?_ _) | (with_reducible refine Below.setCell ?_ ?_ _) | (with_reducible refine below_step ?_ ?_ (by with_reducible assumption)) | (first | (with_reducible exact Nat.le_refl _) | (with_reducible assumption) | (with_reducible refine Nat.le_trans ?_ (Below.size (by with_reducible assumption))) | (simp only [World.size_alloc, World.size_setCell, World.size_drew, size_iter, size_drewN]) | omega)))⟩
      have HN1 := Lib.hid h1
      have HW1 : Hid (Below w.heap.size w (w.iter s pos)) := Lib.hid (by (repeat' (first | (with_reducible exact Below.refl _ _) | (with_reducible assumption) | (with_reducible refine below_iter ?_ ?_ _ _) | (with_reducible refine Below.alloc ?_ ?_ _) | (with_reducible refine Below.drew ?_) | (with_reducible refine below_drewN ?_ _) | (with_reducible refine Below.setCell ?_ ?_ _) | (with_reducible refine below_step ?_ ?_ (by with_reducible assumption)) | (first | (with_reducible exact Nat.le_refl _) | (with_reducible assumption) | (with_reducible refine Nat.le_trans ?_ (Below.size (by with_reducible assumption))) | (simp only [World.size_alloc, World.size_setCell, World.size_drew, size_iter, size_drewN]) | omega))))
      go_wp2_with fail
      clear h1
      have hz1' : (w.iter s pos).heap.size = w.heap.size + 1 := size_iter _ _ _
      generalize w.iter s pos = w1 at *
      have HZ := Lib.hid hz1'
      have hsz1 : w.heap.size + 1 ≤ w1.heap.size := by omega
      clear hz1'
      go_loopw [5, 6] (fun v ln wr => ∃ (f pos : Nat) (cur : List UInt8), ln = .string (mkB cur) ∧ Hid (cur = (stAt s pos).2) ∧ wr.heap[w1.heap.size]? = some (.stringIter s pos) ∧ wr.ownsRow (w1.heap.size + 1) 9 1 v (stAt s pos).1.length (strs (stAt s pos).1) ∧ Below w1.heap.size w1 wr ∧ pos ≤ s.size ∧ s.size ≤ pos + f ∧ Hid (Upto s f pos)) (fun _ _ wr => s.size - wr.iterPos w1.heap.size)
      case atStart => exact ⟨s.size, 0, [], rfl, Lib.hid rfl, World.iter_heap w1 s 0, World.ownsRow_nil _ _ _ _, by (repeat' (first | (with_reducible exact Below.refl _ _) | (with_reducible assumption) | (with_reducible refine below_iter ?_ ?_ _ _) | (with_reducible refine Below.alloc ?_ ?_ _) | (with_reducible refine Below.drew ?_) | (with_reducible refine below_drewN ?_ _) | (with_reducible refine Below.setCell ?_ ?_ _) | (with_reducible refine below_step ?_ ?_ (by with_reducible assumption)) | (first | (with_reducible exact Nat.le_refl _) | (with_reducible assumption) | (with_reducible refine Nat.le_trans ?_ (Below.size (by with_reducible assumption))) | (simp only [World.size_alloc, World.size_setCell, World.size_drew, size_iter, size_drewN]) | omega))), by omega, by omega, Lib.hid (upto_start s)⟩
      case round =>
        obtain ⟨f, pos, cur, rfl, hcur, hit, hown, hbw, hp0, hf, hU⟩ := hrel
        have hsz : w1.heap.size < wr.heap.size := lt_of_block hit
        have hle := stAt_le s pos
        have hpos0 := iterPos_of hit
        by_cases hp : pos < s.size
        · obtain ⟨f, rfl⟩ : ∃ g, f = g + 1 := ⟨f - 1, by omega⟩
          by_cases hc : (s[pos]'hp).toNat < 128
          · have hnx : ∀ ty, (Instr.next (.pointer (some ⟨w1.heap.size, 0, none⟩)) true ty).run Try.prog wr = _ := fun ty => Lib.run_next_ascii_at wr w1.heap.size s pos ty hit hp hc
            have hit2 := Lib.iterAt_heap wr w1.heap.size s pos (pos + 1) hit
            have hbw2 := Lib.below_iterAt hbw (k := w1.heap.size) (Nat.le_refl _) s (pos + 1)
            have hown2 := ownsRow_iterAt hown (k := w1.heap.size) (by omega) s (pos + 1)
            have hsz2 : w1.heap.size + 1 ≤ (wr.iterAt w1.heap.size s (pos + 1)).heap.size := by rw [Lib.iterAt_size]; omega
            obtain ⟨W1, hW1⟩ : ∃ W1, W1 = wr.iterAt w1.heap.size s (pos + 1) := ⟨_, rfl⟩
            rw [← hW1] at hnx hit2 hbw2 hown2 hsz2
            have HST := Lib.hid (stAt_next s pos hp)
            have HPOS := Lib.hid hpos0
            have HIT := Lib.hid hit2
            have HBW := Lib.hid hbw2
            have HOWN := Lib.hid hown2
            clear hW1 hit hown hbw hpos0 hit2 hbw2 hown2
            generalize stAt s pos = st at *
            obtain ⟨ls, cur'⟩ := st
            simp only at HOWN hle hcur
            obtain rfl : cur = cur' := hcur.out
            clear hcur
            rcases bad_cases (s[pos]'hp).toNat with ⟨h10, hb⟩ | ⟨h10, h32, hb⟩ | ⟨h32, h126, hb⟩ | ⟨h32, h126, hb⟩
            · have HU := Lib.hid (upto_next hU.out hp hc hb)
              have h10' : s[pos]'hp = 10 := UInt8.toNat_inj.1 h10
              have HN : Hid (stAt s (pos + 1) = (if cur = [] then ls else ls ++ [cur], [])) := Lib.hid (by rw [HST.out, partStep, if_pos h10'])
              have e10 : ((s[pos]'hp).toNat : Int) = 10 := by rw [h10]; rfl
              rw [e10] at hnx
              clear hb hU HST h10 h10' e10 hc
              cases cur with
              | nil =>
                have hE : (mkB []).toList.isEmpty = true := by rw [mkB_toList]; rfl
                go_wp2_with fail
                go_roundw
                case rel => exact ⟨f, pos + 1, [], rfl, Lib.hid (by rw [HN.out]), HIT.out, by rw [HN.out]; exact HOWN.out, HBW.out, by omega, by omega, HU⟩
                case measure => rw [iterPos_of HIT.out, HPOS.out]; omega
              | cons x xs =>
                have hE : (mkB (x :: xs)).toList.isEmpty = false := by rw [mkB_toList]; rfl
                have HX : Hid ((if x :: xs = [] then ls else ls ++ [x :: xs]) = ls ++ [x :: xs]) := Lib.hid (if_neg (by simp))
                generalize x :: xs = cu at *
                go_wp2_with (at_builtin; refine wpList_append_own _ rfl _ _ 23 rfl (w1.heap.size + 1) 9 i0 (.string ⟨#[]⟩) 1 16 Try.underlying23 hi hz0 hz1 hz2 rfl (by decide) _ _ _ rfl (HOWN.out.alloc _) ⟨W1.heap.size, 0, none⟩ 1 1 [.string (mkB cu)] rfl rfl (cell_one_new _ _ _) (fun u hu => by simp at hu; rcases hu with rfl; rfl) (by unfold maxLen; omega) (by omega) (by simp; omega) ?_; intro v' w3 hown' hgrow3 hnil3; have X := Lib.hid (And.intro hown' (Lib.grownBy_trans (World.grownBy_alloc W1 _ _) hgrow3)); clear hown' hgrow3 hnil3)
                have hit4 : w3.heap[w1.heap.size]? = some (.stringIter s (pos + 1)) := (X.out.2.block _ (lt_of_block HIT.out) (fun e => row_ne HOWN.out HIT.out (fun c => by simp) e.symm)).trans HIT.out
                have hbw4 : Below w1.heap.size w1 w3 := HBW.out.grown X.out.2 (by omega) (fun k hk => by have := (HOWN.out.lt _ hk).1; omega)
                have HIT4 := Lib.hid hit4
                have HBW4 := Lib.hid hbw4
                clear hit4 hbw4
                go_roundw
                case rel => exact ⟨f, pos + 1, [], rfl, Lib.hid (by rw [HN.out]), HIT4.out, by rw [HN.out, HX.out]; have h := X.out.1; simpa [strs] using h, HBW4.out, by omega, by omega, HU⟩
                case measure => rw [iterPos_of HIT4.out, HPOS.out]; omega
            · have HL : Hid (linesV s = ([], 4)) := Lib.hid (by rw [HLE.out, HR2.out, if_neg HN1.out, ← HR2.out, if_pos (upto_bad hU.out hp (by rw [decode_ascii s pos hp hc]; exact hb))])
              have e1 : (((s[pos]'hp).toNat : Int) != 10) = true := by rw [bne_iff_ne]; omega
              clear hb hU HST
              go_wp2_with fail
              go_ret2
              exact ⟨_, by rw [HL.out]; rfl, by rw [HL.out]; exact Sl.nil, by have h1 := HW1.out; have h2 := HBW.out; clear HW1 HBW; (repeat' (first | (with_reducible exact Below.refl _ _) | (with_reducible assumption) | (with_reducible refine below_iter ?_ ?_ _ _) | (with_reducible refine Below.alloc ?_ ?_ _) | (with_reducible refine Below.drew ?_) | (with_reducible refine below_drewN ?_ _) | (with_reducible refine Below.setCell ?_ ?_ _) | (with_reducible refine below_step ?_ ?_ (by with_reducible assumption)) | (first | (with_reducible exact Nat.le_refl _) | (with_reducible assumption) | (with_reducible refine Nat.le_trans ?_ (Below.size (by with_reducible assumption))) | (simp only [World.size_alloc, World.size_setCell, World.size_drew, size_iter, size_drewN]) | omega)))⟩
            · have HL : Hid (linesV s = ([], 4)) := Lib.hid (by rw [HLE.out, HR2.out, if_neg HN1.out, ← HR2.out, if_pos (upto_bad hU.out hp (by rw [decode_ascii s pos hp hc]; exact hb))])
              have e1 : (((s[pos]'hp).toNat : Int) != 10) = true := by rw [bne_iff_ne]; omega
              clear hb hU HST
              go_wp2_with fail
              go_ret2
              exact ⟨_, by rw [HL.out]; rfl, by rw [HL.out]; exact Sl.nil, by have h1 := HW1.out; have h2 := HBW.out; clear HW1 HBW; (repeat' (first | (with_reducible exact Below.refl _ _) | (with_reducible assumption) | (with_reducible refine below_iter ?_ ?_ _ _) | (with_reducible refine Below.alloc ?_ ?_ _) | (with_reducible refine Below.drew ?_) | (with_reducible refine below_drewN ?_ _) | (with_reducible refine Below.setCell ?_ ?_ _) | (with_reducible refine below_step ?_ ?_ (by with_reducible assumption)) | (first | (with_reducible exact Nat.le_refl _) | (with_reducible assumption) | (with_reducible refine Nat.le_trans ?_ (Below.size (by with_reducible assumption))) | (simp only [World.size_alloc, World.size_setCell, World.size_drew, size_iter, size_drewN]) | omega)))⟩
            · by_cases hs32 : (s[pos]'hp).toNat = 32
              · have HU := Lib.hid (upto_next hU.out hp hc hb)
                have h32' : s[pos]'hp = 32 := UInt8.toNat_inj.1 hs32
                have HN : Hid (stAt s (pos + 1) = (ls, cur)) := Lib.hid (by rw [HST.out, partStep, if_neg (by rw [h32']; decide), if_pos h32'])
                have e32 : ((s[pos]'hp).toNat : Int) = 32 := by rw [hs32]; rfl
                rw [e32] at hnx
                clear hb hU HST hs32 h32' e32 hc h32 h126
                go_wp2_with fail
                go_roundw
                case rel => exact ⟨f, pos + 1, cur, rfl, Lib.hid (by rw [HN.out]), HIT.out, by rw [HN.out]; exact HOWN.out, HBW.out, by omega, by omega, HU⟩
                case measure => rw [iterPos_of HIT.out, HPOS.out]; omega
              · have HU := Lib.hid (upto_next hU.out hp hc hb)
                have HN : Hid (stAt s (pos + 1) = (ls, cur ++ [s[pos]'hp])) := Lib.hid (by
                  rw [HST.out, partStep, if_neg (by intro e; rw [e] at h32; exact absurd h32 (by decide)), if_neg (by intro e; rw [e] at hs32; exact hs32 rfl)])
                have e1 : (((s[pos]'hp).toNat : Int) != 10) = true := by rw [bne_iff_ne]; omega
                have e2 : (((s[pos]'hp).toNat : Int) != 32) = true := by rw [bne_iff_ne]; omega
                have e3 : (((s[pos]'hp).toNat : Int) == 10) = false := by rw [beq_eq_false_iff_ne]; omega
                have esz : (mkB cur).size + (mkB [s[pos]'hp]).size ≤ 9223372036854775807 := by
                  have q1 : (mkB cur).size = cur.length := by simp [mkB, ByteArray.size]
                  have q2 : (mkB [s[pos]'hp]).size = 1 := rfl
                  omega
                clear hb hU HST hs32
                go_wp2_with fail
                go_roundw
                case rel => exact ⟨f, pos + 1, cur ++ [s[pos]'hp], by rw [mkB_append], Lib.hid (by rw [HN.out]), (Below.heap_alloc _ _ _ (lt_of_block HIT.out)).trans HIT.out, by rw [HN.out]; exact HOWN.out.alloc _, HBW.out.alloc (by omega) _, by omega, by omega, HU⟩
                case measure => rw [iterPos_of ((Below.heap_alloc _ _ _ (lt_of_block HIT.out)).trans HIT.out), HPOS.out]; omega
          · have hh := decode_high s pos hp (by omega)
            have hd1 := decode_le s pos
            have hnx : ∀ ty, (Instr.next (.pointer (some ⟨w1.heap.size, 0, none⟩)) true ty).run Try.prog wr = _ := fun ty => Lib.run_next_any_at wr w1.heap.size s pos ty hit hp
            have HL : Hid (linesV s = ([], 4)) := Lib.hid (by rw [HLE.out, HR2.out, if_neg HN1.out, ← HR2.out, if_pos (upto_bad hU.out hp (by unfold badR; simp; omega))])
            have hbw2 := Lib.below_iterAt hbw (k := w1.heap.size) (Nat.le_refl _) s (pos + (Utf8.decode s pos).2)
            obtain ⟨W1, hW1⟩ : ∃ W1, W1 = wr.iterAt w1.heap.size s (pos + (Utf8.decode s pos).2) := ⟨_, rfl⟩
            rw [← hW1] at hnx hbw2
            have HBW := Lib.hid hbw2
            clear hW1 hbw2 hit hown hbw hU hpos0 hcur
            generalize (Utf8.decode s pos).1 = c at *
            generalize (Utf8.decode s pos).2 = d at *
            have e1 : ((c : Int) != 10) = true := by rw [bne_iff_ne]; omega
            go_wp2_with fail
            go_ret2
            exact ⟨_, by rw [HL.out]; rfl, by rw [HL.out]; exact Sl.nil, by have h1 := HW1.out; have h2 := HBW.out; clear HW1 HBW; (repeat' (first | (with_reducible exact Below.refl _ _) | (with_reducible assumption) | (with_reducible refine below_iter ?_ ?_ _ _) | (with_reducible refine Below.alloc ?_ ?_ _) | (with_reducible refine Below.drew ?_) | (with_reducible refine below_drewN ?_ _) | (with_reducible refine Below.setCell ?_ ?_ _) | (with_reducible refine below_step ?_ ?_ (by with_reducible assumption)) | (first | (with_reducible exact Nat.le_refl _) | (with_reducible assumption) | (with_reducible refine Nat.le_trans ?_ (Below.size (by with_reducible assumption))) | (simp only [World.size_alloc, World.size_setCell, World.size_drew, size_iter, size_drewN]) | omega)))⟩
        · have hnx : ∀ ty, (Instr.next (.pointer (some ⟨w1.heap.size, 0, none⟩)) true ty).run Try.prog wr = _ := fun ty => Lib.run_next_end_at wr w1.heap.size s pos ty hit hp
          obtain rfl : pos = s.size := by omega
          have hno := upto_end hU.out
          have hfin : stAt s s.size = partsOf s.data.toList := by
            unfold stAt
            rw [List.take_of_length_le (by simp)]
          have HL := HLE.out
          rw [HR2.out, if_neg HN1.out, ← HR2.out, if_neg hno] at HL
          rw [hfin] at hown hle hcur
          generalize partsOf s.data.toList = st at *
          obtain ⟨ls, cur'⟩ := st
          simp only at hown hle hcur
          obtain rfl : cur = cur' := hcur.out
          have HBW := Lib.hid hbw
          clear hno hfin hcur hbw hpos0 hU hit
          cases cur with
          | nil =>
            have hE : (mkB []).toList.isEmpty = true := by rw [mkB_toList]; rfl
            have hcl : closed (ls, ([] : List UInt8)) = ls := by simp [closed]
            rw [hcl] at HL
            clear hcl
            have HO := Lib.hid ((Sl.of_own hown).more (Nat.le_refl _))
            obtain ⟨A, c, hv⟩ := (Sl.of_own hown).is_slice
            clear hown
            subst hv
            by_cases h7 : ls.length = 0
            · rw [if_pos h7] at HL
              have HL2 := Lib.hid HL
              have e7 : ((ls.length : Int) == 0) = true := by rw [beq_iff_eq]; omega
              clear HL h7
              go_wp2_with fail
              go_ret2
              exact ⟨_, by rw [HL2.out]; rfl, by rw [HL2.out]; exact Sl.nil, by have h1 := HW1.out; have h2 := HBW.out; clear HW1 HBW; (repeat' (first | (with_reducible exact Below.refl _ _) | (with_reducible assumption) | (with_reducible refine below_iter ?_ ?_ _ _) | (with_reducible refine Below.alloc ?_ ?_ _) | (with_reducible refine Below.drew ?_) | (with_reducible refine below_drewN ?_ _) | (with_reducible refine Below.setCell ?_ ?_ _) | (with_reducible refine below_step ?_ ?_ (by with_reducible assumption)) | (first | (with_reducible exact Nat.le_refl _) | (with_reducible assumption) | (with_reducible refine Nat.le_trans ?_ (Below.size (by with_reducible assumption))) | (simp only [World.size_alloc, World.size_setCell, World.size_drew, size_iter, size_drewN]) | omega)))⟩
            rw [if_neg h7] at HL
            have e7 : ((ls.length : Int) == 0) = false := by rw [beq_eq_false_iff_ne]; omega
            clear h7
            by_cases h60 : 60 < ls.length
            · rw [if_pos h60] at HL
              have HL2 := Lib.hid HL
              clear HL
              go_wp2_with fail
              go_ret2
              exact ⟨_, by rw [HL2.out]; rfl, by rw [HL2.out]; exact Sl.nil, by have h1 := HW1.out; have h2 := HBW.out; clear HW1 HBW; (repeat' (first | (with_reducible exact Below.refl _ _) | (with_reducible assumption) | (with_reducible refine below_iter ?_ ?_ _ _) | (with_reducible refine Below.alloc ?_ ?_ _) | (with_reducible refine Below.drew ?_) | (with_reducible refine below_drewN ?_ _) | (with_reducible refine Below.setCell ?_ ?_ _) | (with_reducible refine below_step ?_ ?_ (by with_reducible assumption)) | (first | (with_reducible exact Nat.le_refl _) | (with_reducible assumption) | (with_reducible refine Nat.le_trans ?_ (Below.size (by with_reducible assumption))) | (simp only [World.size_alloc, World.size_setCell, World.size_drew, size_iter, size_drewN]) | omega)))⟩
            · rw [if_neg h60] at HL
              have HL2 := Lib.hid HL
              clear HL
              go_wp2_with fail
              go_ret2
              exact ⟨_, by rw [HL2.out]; rfl, by rw [HL2.out]; exact HO.out, by have h1 := HW1.out; have h2 := HBW.out; clear HW1 HBW; (repeat' (first | (with_reducible exact Below.refl _ _) | (with_reducible assumption) | (with_reducible refine below_iter ?_ ?_ _ _) | (with_reducible refine Below.alloc ?_ ?_ _) | (with_reducible refine Below.drew ?_) | (with_reducible refine below_drewN ?_ _) | (with_reducible refine Below.setCell ?_ ?_ _) | (with_reducible refine below_step ?_ ?_ (by with_reducible assumption)) | (first | (with_reducible exact Nat.le_refl _) | (with_reducible assumption) | (with_reducible refine Nat.le_trans ?_ (Below.size (by with_reducible assumption))) | (simp only [World.size_alloc, World.size_setCell, World.size_drew, size_iter, size_drewN]) | omega)))⟩
          | cons x xs =>
            have hE : (mkB (x :: xs)).toList.isEmpty = false := by rw [mkB_toList]; rfl
            have hcl : closed (ls, x :: xs) = ls ++ [x :: xs] := by simp [closed]
            rw [hcl] at HL
            clear hcl
            have HOWN := Lib.hid hown
            clear hown
            have hsz1 : w1.heap.size < wr.heap.size := hsz
            generalize x :: xs = cu at *
            rw [if_neg (by simp)] at HL
            have e7 : ((ls.length : Int) + 1 == 0) = false := by rw [beq_eq_false_iff_ne]; omega
            have HLEN : Hid ((ls ++ [cu]).length = ls.length + 1) := Lib.hid (by simp)
            rw [HLEN.out] at HL
            by_cases h60 : 60 < ls.length + 1
            · rw [if_pos h60] at HL
              have HL2 := Lib.hid HL
              clear HL
              go_wp2_with (at_builtin; refine wpList_append_own _ rfl _ _ 23 rfl (w1.heap.size + 1) 9 i0 (.string ⟨#[]⟩) 1 16 Try.underlying23 hi hz0 hz1 hz2 rfl (by decide) _ _ _ rfl (HOWN.out.alloc _) ⟨wr.heap.size, 0, none⟩ 1 1 [.string (mkB cu)] rfl rfl (cell_one_new _ _ _) (fun u hu => by simp at hu; rcases hu with rfl; rfl) (by unfold maxLen; omega) (by omega) (by simp; omega) ?_; intro v' w3 hown' hgrow3 hnil3; have X := Lib.hid (And.intro hown' (Lib.grownBy_trans (World.grownBy_alloc wr _ _) hgrow3)); clear hown' hgrow3 hnil3; (obtain ⟨A, c, hv⟩ := (Sl.of_own X.out.1).is_slice); subst hv)
              go_ret2
              exact ⟨_, by rw [HL2.out]; rfl, by rw [HL2.out]; exact Sl.nil, by have h1 := HW1.out; have h2 := HBW.out; have h3 : Below w1.heap.size w1 w3 := h2.grown X.out.2 (by omega) (fun k hk => by have := (HOWN.out.lt _ hk).1; omega); clear HW1 HBW h2; (repeat' (first | (with_reducible exact Below.refl _ _) | (with_reducible assumption) | (with_reducible refine below_iter ?_ ?_ _ _) | (with_reducible refine Below.alloc ?_ ?_ _) | (with_reducible refine Below.drew ?_) | (with_reducible refine below_drewN ?_ _) | (with_reducible refine Below.setCell ?_ ?_ _) | (with_reducible refine below_step ?_ ?_ (by with_reducible assumption)) | (first | (with_reducible exact Nat.le_refl _) | (with_reducible assumption) | (with_reducible refine Nat.le_trans ?_ (Below.size (by with_reducible assumption))) | (simp only [World.size_alloc, World.size_setCell, World.size_drew, size_iter, size_drewN]) | omega)))⟩
            · rw [if_neg h60] at HL
              have HL2 := Lib.hid HL
              clear HL
              go_wp2_with (at_builtin; refine wpList_append_own _ rfl _ _ 23 rfl (w1.heap.size + 1) 9 i0 (.string ⟨#[]⟩) 1 16 Try.underlying23 hi hz0 hz1 hz2 rfl (by decide) _ _ _ rfl (HOWN.out.alloc _) ⟨wr.heap.size, 0, none⟩ 1 1 [.string (mkB cu)] rfl rfl (cell_one_new _ _ _) (fun u hu => by simp at hu; rcases hu with rfl; rfl) (by unfold maxLen; omega) (by omega) (by simp; omega) ?_; intro v' w3 hown' hgrow3 hnil3; have X := Lib.hid (And.intro hown' (Lib.grownBy_trans (World.grownBy_alloc wr _ _) hgrow3)); clear hown' hgrow3 hnil3; (obtain ⟨A, c, hv⟩ := (Sl.of_own X.out.1).is_slice); subst hv)
              go_ret2
              exact ⟨_, by rw [HL2.out]; rfl, by rw [HL2.out]; have h := Sl.of_own X.out.1; simpa [strs] using h, by have h1 := HW1.out; have h2 := HBW.out; have h3 : Below w1.heap.size w1 w3 := h2.grown X.out.2 (by omega) (fun k hk => by have := (HOWN.out.lt _ hk).1; omega); clear HW1 HBW h2; (repeat' (first | (with_reducible exact Below.refl _ _) | (with_reducible assumption) | (with_reducible refine below_iter ?_ ?_ _ _) | (with_reducible refine Below.alloc ?_ ?_ _) | (with_reducible refine Below.drew ?_) | (with_reducible refine below_drewN ?_ _) | (with_reducible refine Below.setCell ?_ ?_ _) | (with_reducible refine below_step ?_ ?_ (by with_reducible assumption)) | (first | (with_reducible exact Nat.le_refl _) | (with_reducible assumption) | (with_reducible refine Nat.le_trans ?_ (Below.size (by with_reducible assumption))) | (simp only [World.size_alloc, World.size_setCell, World.size_drew, size_iter, size_drewN]) | omega)))⟩
end Go.Proofs.Ytpblikbdnbgglaa
