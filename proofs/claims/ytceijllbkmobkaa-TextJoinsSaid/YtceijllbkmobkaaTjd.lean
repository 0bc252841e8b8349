/-
  Layer 1: TextJoins.
-/
import Derived.Test.YtceijllbkmobkaaTjc
import Derived.Test.YtceijllbkmobkaaLxSplit
namespace Go.Proofs.Ytceijllbkmobkaa
open Go Go.LX
set_option maxRecDepth 100000
set_option linter.unusedVariables false
set_option linter.unusedSimpArgs false

/-- What has been joined behind i lines. -/
def Joined (sb : List UInt8) (ls : List (List UInt8)) (i : Nat) : Prop := partsOf sb = (ls, []) ∧ Good8 sb ∧ sb.length ≤ 36 * i ∧ ls.length ≤ i
theorem joined_next {sb x : List UInt8} {ls : List (List UInt8)} {i : Nat} (n : Nat) (h : Joined sb ls i) (hx : Clean x) (hl : x.length ≤ 30) : Joined (sb ++ segA n ++ x ++ segB n) (addL ls x) (i + 1) := by
  obtain ⟨h1, h2, h3, h4⟩ := h
  have h5 := seg_le n
  refine ⟨join_step _ _ _ _ h1 hx, good_app (good_app (good_app h2 (good_a n)) (good_clean hx)) (good_b n), by simp only [List.length_append]; omega, ?_⟩
  unfold addL; split
  · omega
  · rw [List.length_append]; simp; omega
/-- The line that q bytes of a string make. -/
def lineTo (x : ByteArray) (q : Nat) : List UInt8 := (x.data.toList.take q).map sgn
theorem lineTo_next (x : ByteArray) (q : Nat) (h : q < x.size) : lineTo x (q + 1) = lineTo x q ++ [sgn (x[q]'h)] := by
  have hl : q < x.data.toList.length := by simpa using h
  unfold lineTo
  rw [List.take_succ_eq_append_getElem hl, List.map_append]; rfl
theorem lineTo_le (x : ByteArray) (q : Nat) : (lineTo x q).length ≤ q := by
  unfold lineTo; rw [List.length_map]; exact List.length_take_le _ _
theorem get_at (x : ByteArray) (i : Nat) (h : i < x.size) : x.get! i = x[i]'h := by
  cases x
  exact getElem!_pos _ _ _
theorem bol_app2 (a b : List UInt8) : bytesOfL a ++ bytesOfL b = bytesOfL (a ++ b) := by
  apply ByteArray.ext
  rw [ByteArray.data_append]
  show a.toArray ++ b.toArray = (a ++ b).toArray
  simp
set_option maxHeartbeats 8000000 in
theorem textJoins_law (ss : List ByteArray) (zs : List Int) (k1 k2 : Int) (L1 L2 : List PV) (hk1 : k1 = ss.length) (hL1 : PreS L1 ss) (hs1 : ∀ x ∈ ss, (x.size : Int) ≤ 9223372036854775807) (hk2 : k2 = zs.length) (hL2 : L2 = zs.map fun z => PV.int .i64 (.sym z)) (hz2 : ∀ z ∈ zs, -9223372036854775808 ≤ z ∧ z ≤ 9223372036854775807) (hb1 : k1 ≤ 9223372036854775807) (hb2 : k2 ≤ 9223372036854775807) :
    CallF (fun _ => Try.prog) 3 [.p (.vsl (.sym k1) true L1), .p (.vsl (.sym k2) true L2)] [] 0 (fun r _ _ => r = .p (.bool true)) := by
  obtain ⟨ll, hll⟩ : ∃ ll : List (List UInt8) → Int, ∀ l, ll l = l.length := ⟨_, fun _ => rfl⟩
  have ll0 : ll [] = 0 := by rw [hll]; rfl
  have J0 : Joined [] [] (0 : Int).toNat := ⟨rfl, fun c hc => absurd hc (by simp), by simp, by simp⟩
  have y00 : (⟨#[]⟩ : ByteArray) = bytesOfL [] := rfl
  refine callF_of_body tok Try.func3 (by kernel_rfl) rfl rfl rfl ?_; conv => cbv
  refine LoopF.mk (fun kk s => ∃ (i j : Int) (LL : List PV) (y : ByteArray) (sb : List UInt8) (ls : List (List UInt8)), s = ⟨.p (.vsl (.sym k1) true L1) :: .p (.vsl (.sym k2) true L2) :: (undefs 3 ++ .sl 0 9 1 (.lit 0) (.sym j) :: .p (.str fun _ => y) :: .p (.int .i64 (.sym i)) :: undefs 98), [(0, .pure true LL)], 1⟩ ∧ y = bytesOfL sb ∧ LL = spv ls ∧ j = ll ls ∧ Joined sb ls i.toNat ∧ 0 ≤ i ∧ i ≤ 20 ∧ kk = (20 - i).toNat) 20 _
    (Re.of [] [0] (by first | exact Nat.zero_le _ | exact Nat.le_refl _ | decide | (dsimp only; decide)) rfl rfl (by (try (conv => cbv)); (repeat' (first | exact trivial | rfl | exact SEq.mk rfl | (exact SEq.mk (by first | assumption | (symm; assumption))) | (simp only [I.val]; done) | (simp only [I.val]; omega) | omega | assumption | (refine And.intro ?_ ?_) | exact Or.inl rfl | exact Or.inr (by assumption) | exact List.Mem.head _ | exact List.Mem.tail _ (List.Mem.head _) | exact ⟨_, rfl⟩ | exact ⟨_, rfl, Or.inl rfl⟩ | (refine ⟨_, rfl, Or.inr ?_⟩; (try (conv => cbv))) | (simp only [I.val] at *; first | omega | (subst_vars; rfl) | simp_all) | (refine Or.inr ?_; (try (conv => cbv)))))) (by (try (conv => cbv)); (repeat' (first | exact trivial | rfl | exact SEq.mk rfl | (exact SEq.mk (by first | assumption | (symm; assumption))) | (simp only [I.val]; done) | (simp only [I.val]; omega) | omega | assumption | (refine And.intro ?_ ?_) | exact Or.inl rfl | exact Or.inr (by assumption) | exact List.Mem.head _ | exact List.Mem.tail _ (List.Mem.head _) | exact ⟨_, rfl⟩ | exact ⟨_, rfl, Or.inl rfl⟩ | (refine ⟨_, rfl, Or.inr ?_⟩; (try (conv => cbv))) | (simp only [I.val] at *; first | omega | (subst_vars; rfl) | simp_all) | (refine Or.inr ?_; (try (conv => cbv))))))) ⟨0, 0, [], ⟨#[]⟩, [], [], rfl, y00, rfl, ll0.symm, J0, by omega, by omega, by omega⟩ ?_
  clear J0 y00
  rintro kk s ⟨i, j, LL, y, sb, ls, rfl, hy, hLL, hj, hJ, hi0, hi1, hkk⟩
  conv => cbv
  refine Br.mk (fun gi => ?_) (fun gi => ?_)
  · have gi : i < k1 := gi
    conv => cbv
    refine Br.mk (fun gi2 => ?_) (fun gi2 => ?_)
    · have gi2 : i < 20 := gi2
      obtain ⟨k', rfl⟩ : ∃ k', kk = k' + 1 := ⟨kk - 1, by omega⟩
      obtain ⟨x, hx⟩ : ∃ x, ss[i.toNat]? = some x := ⟨_, List.getElem?_eq_getElem (by omega)⟩
      have hxs := hs1 x (List.mem_of_getElem? hx)
      have hcx := hL1 _ _ hx
      conv => cbv
      have y20 : (⟨#[]⟩ : ByteArray) = bytesOfL (lineTo x (0 : Int).toNat) := rfl
      refine LoopF.mk (fun kk s => ∃ (q : Int) (y2 : ByteArray), s = ⟨.p (.vsl (.sym k1) true L1) :: .p (.vsl (.sym k2) true L2) :: (undefs 3 ++ .sl 0 9 1 (.lit 0) (.sym j) :: .p (.str fun _ => y) :: .p (.int .i64 (.sym i)) :: .p (.str fun _ => y2) :: .p (.int .i64 (.sym q)) :: undefs 96), [(0, .pure true LL)], 1⟩ ∧ y2 = bytesOfL (lineTo x q.toNat) ∧ 0 ≤ q ∧ q ≤ 30 ∧ q ≤ x.size ∧ kk = (30 - q).toNat) 30 _
        (Re.of [(0, 0)] [] (by first | exact Nat.zero_le _ | exact Nat.le_refl _ | decide | (dsimp only; decide)) rfl rfl (by (try (conv => cbv)); (repeat' (first | exact trivial | rfl | exact SEq.mk rfl | (exact SEq.mk (by first | assumption | (symm; assumption))) | (simp only [I.val]; done) | (simp only [I.val]; omega) | omega | assumption | (refine And.intro ?_ ?_) | exact Or.inl rfl | exact Or.inr (by assumption) | exact List.Mem.head _ | exact List.Mem.tail _ (List.Mem.head _) | exact ⟨_, rfl⟩ | exact ⟨_, rfl, Or.inl rfl⟩ | (refine ⟨_, rfl, Or.inr ?_⟩; (try (conv => cbv))) | (simp only [I.val] at *; first | omega | (subst_vars; rfl) | simp_all) | (refine Or.inr ?_; (try (conv => cbv)))))) (by (try (conv => cbv)); (repeat' (first | exact trivial | rfl | exact SEq.mk rfl | (exact SEq.mk (by first | assumption | (symm; assumption))) | (simp only [I.val]; done) | (simp only [I.val]; omega) | omega | assumption | (refine And.intro ?_ ?_) | exact Or.inl rfl | exact Or.inr (by assumption) | exact List.Mem.head _ | exact List.Mem.tail _ (List.Mem.head _) | exact ⟨_, rfl⟩ | exact ⟨_, rfl, Or.inl rfl⟩ | (refine ⟨_, rfl, Or.inr ?_⟩; (try (conv => cbv))) | (simp only [I.val] at *; first | omega | (subst_vars; rfl) | simp_all) | (refine Or.inr ?_; (try (conv => cbv))))))) ⟨0, ⟨#[]⟩, rfl, y20, by omega, by omega, by omega, by omega⟩ ?_
      clear y20
      rintro kq s ⟨q, y2, rfl, hy2, hq0, hq30, hqx, hkq⟩
      conv => cbv
      refine Need.mk ⟨hi0, by show i < k1; omega⟩ ?_
      conv => cbv
      refine Cell.at i _ hcx (by simp [I.val]) rfl ?_
      conv => cbv
      refine Sum.mk fun xs hxs2 => ?_
      have hxs2 : xs = (x.size : Int) := hxs2
      conv => cbv
      refine Br.mk (fun gq => ?_) (fun gq => ?_)
      · have gq : q < xs := gq
        conv => cbv
        refine Br.mk (fun gq2 => ?_) (fun gq2 => ?_)
        · have gq2 : q < 30 := gq2
          obtain ⟨kq', rfl⟩ : ∃ k', kq = k' + 1 := ⟨kq - 1, by omega⟩
          conv => cbv
          refine Need.mk ⟨hi0, by show i < k1; omega⟩ ?_
          conv => cbv
          refine Cell.at i _ hcx (by simp [I.val]) rfl ?_
          conv => cbv
          refine Need.mk ⟨hq0, by show q < (x.size : Int); omega⟩ ?_
          conv => cbv
          refine Sum.mk fun b hb => ?_
          have hxq : q.toNat < x.size := by omega
          have hb : b = ((x[q.toNat]'hxq).toNat : Int) := by
            have hb : b = ((x.get! q.toNat).toNat : Int) := hb
            rw [hb, get_at x q.toNat hxq]
          have hb256 : (x[q.toNat]'hxq).toNat < 256 := (x[q.toNat]'hxq).toNat_lt
          conv => cbv
          refine Sum.mk fun b2 hb2 => ?_
          have hb2 : b2 = b % 94 := (show b2 = b.tmod 94 from hb2).trans (Int.tmod_eq_emod_of_nonneg (by omega))
          conv => cbv
          refine Fit.mk (by show (0 : Int) ≤ 33 + b2; omega) (by show 33 + b2 ≤ 255; omega) fun b3 hb3 => ?_
          have hb3 : b3 = 33 + b2 := hb3
          have hb4 : b3 = ((sgn (x[q.toNat]'hxq)).toNat : Int) := by rw [sgn_toNat]; omega
          clear hb2 hb3 hb
          conv => cbv
          refine Need.mk (by show (1 : Int) ≤ ((1 : Nat) : Int); decide) ?_
          conv => cbv
          refine Bytes.mk [sgn (x[q.toNat]'hxq)] ⟨hb4, trivial⟩ fun z1 hz1 => ?_
          have hz1s : (z1.size : Int) = 1 := by rw [hz1]; rfl
          have hln : y2.size ≤ 30 := by rw [hy2, bol_size]; have := lineTo_le x q.toNat; omega
          conv => cbv
          refine Need.mk (by show y2.size + z1.size ≤ 9223372036854775807; omega) ?_
          conv => cbv
          refine Str.mk fun y3 hy3 => ?_
          have hy3 : y3 = y2 ++ z1 := hy3
          have hy4 : y3 = bytesOfL (lineTo x (q.toNat + 1)) := by rw [hy3, hy2, hz1, lineTo_next x q.toNat hxq, bol_app]
          conv => cbv
          refine Fit.mk (by show (-9223372036854775808 : Int) ≤ q + 1; omega) (by show q + 1 ≤ 9223372036854775807; omega) fun q2 hq2 => ?_
          have hq2 : q2 = q + 1 := hq2
          rw [show q.toNat + 1 = q2.toNat by omega] at hy4
          have hA1 : q2 ≤ 30 := by omega
          have hA2 : q2 ≤ (x.size : Int) := by omega
          have hA3 : kq' = (30 - q2).toNat := by omega
          conv => cbv
          refine Again.mk kq' _ (Nat.lt_succ_self _) (Re.of [(0, 0)] [] (by first | exact Nat.zero_le _ | exact Nat.le_refl _ | decide | (dsimp only; decide)) rfl rfl (by (try (conv => cbv)); (repeat' (first | exact trivial | rfl | exact SEq.mk rfl | (exact SEq.mk (by first | assumption | (symm; assumption))) | (simp only [I.val]; done) | (simp only [I.val]; omega) | omega | assumption | (refine And.intro ?_ ?_) | exact Or.inl rfl | exact Or.inr (by assumption) | exact List.Mem.head _ | exact List.Mem.tail _ (List.Mem.head _) | exact ⟨_, rfl⟩ | exact ⟨_, rfl, Or.inl rfl⟩ | (refine ⟨_, rfl, Or.inr ?_⟩; (try (conv => cbv))) | (simp only [I.val] at *; first | omega | (subst_vars; rfl) | simp_all) | (refine Or.inr ?_; (try (conv => cbv)))))) (by (try (conv => cbv)); (repeat' (first | exact trivial | rfl | exact SEq.mk rfl | (exact SEq.mk (by first | assumption | (symm; assumption))) | (simp only [I.val]; done) | (simp only [I.val]; omega) | omega | assumption | (refine And.intro ?_ ?_) | exact Or.inl rfl | exact Or.inr (by assumption) | exact List.Mem.head _ | exact List.Mem.tail _ (List.Mem.head _) | exact ⟨_, rfl⟩ | exact ⟨_, rfl, Or.inl rfl⟩ | (refine ⟨_, rfl, Or.inr ?_⟩; (try (conv => cbv))) | (simp only [I.val] at *; first | omega | (subst_vars; rfl) | simp_all) | (refine Or.inr ?_; (try (conv => cbv))))))) ⟨q2, y3, rfl, hy4, by omega, hA1, hA2, hA3⟩
        · have gq2 : ¬ q < 30 := gq2
          have hline : lineTo x q.toNat = mkLine x.data.toList := by
            have h30 : q.toNat = 30 := by omega
            unfold mkLine lineTo; rw [h30]
          rw [hline] at hy2
          conv => cbv
          refine Br.mk (fun gz => ?_) (fun gz => ?_)
          · have gz : i < k2 := gz
            obtain ⟨v, hv⟩ : ∃ v, zs[i.toNat]? = some v := ⟨_, List.getElem?_eq_getElem (by omega)⟩
            have hvb := hz2 v (List.mem_of_getElem? hv)
            have hcv : L2[i.toNat]? = some (.int .i64 (.sym v)) := by rw [hL2, List.getElem?_map, hv]; rfl
            conv => cbv
            refine Need.mk ⟨hi0, by show i < k2; omega⟩ ?_
            conv => cbv
            refine Cell.at i _ hcv (by simp [I.val]) rfl ?_
            conv => cbv
            refine Fit.wrap fun xz hxz => ?_
            have hxz : xz = IntKind.u64.wrap v := hxz
            have hxz0 : 0 ≤ xz := by rw [hxz]; simp [IntKind.wrap, IntKind.bits, IntKind.signed]; omega
            clear hxz
            conv => cbv
            refine Sum.mk fun yz hyz => ?_
            have hyz : yz = xz % 5 := (show yz = xz.tmod 5 from hyz).trans (Int.tmod_eq_emod_of_nonneg hxz0)
            conv => cbv
            refine Fit.mk (by show (-9223372036854775808 : Int) ≤ yz; omega) (by show yz ≤ 9223372036854775807; omega) fun n5 hn5 => ?_
            have hn5 : n5 = yz := hn5
            have hn0 : 0 ≤ n5 := by omega
            obtain ⟨nn, hnn⟩ : ∃ nn, n5.toNat = nn := ⟨_, rfl⟩
            have hnn4 : nn ≤ 4 := by omega
            have hn55 : n5 ≤ 4 := by omega
            clear hn5 hyz hxz0
            obtain ⟨yA, hyA⟩ : ∃ yA, yA = bytesOfL (segA nn) := ⟨_, rfl⟩
            obtain ⟨yB, hyB⟩ : ∃ yB, yB = bytesOfL (segB nn) := ⟨_, rfl⟩
            have hseg := seg_le nn
            have hyAs : yA.size ≤ 4 := by rw [hyA, bol_size]; exact hseg.1
            have hyBs : yB.size ≤ 2 := by rw [hyB, bol_size]; exact hseg.2
            have hyl : y.size ≤ 720 := by rw [hy, bol_size]; have := hJ.2.2.1; omega
            have hy2l : y2.size ≤ 30 := by rw [hy2, bol_size]; exact line_le _
            have hlA : ([.str fun _ => ⟨#[]⟩, .str fun _ => ⟨#[32]⟩, .str fun _ => ⟨#[10]⟩, .str fun _ => ⟨#[10, 32, 32, 10]⟩, .str fun _ => ⟨#[32, 32, 32]⟩] : List PV)[nn]? = some (.str fun _ => yA) := by
              have : nn = 0 ∨ nn = 1 ∨ nn = 2 ∨ nn = 3 ∨ nn = 4 := by omega
              rcases this with e | e | e | e | e <;> (rw [e] at hyA ⊢; rw [hyA]; rfl)
            have hlB : ([.str fun _ => ⟨#[10]⟩, .str fun _ => ⟨#[32, 10]⟩, .str fun _ => ⟨#[10, 10]⟩, .str fun _ => ⟨#[10, 32]⟩, .str fun _ => ⟨#[10]⟩] : List PV)[nn]? = some (.str fun _ => yB) := by
              have : nn = 0 ∨ nn = 1 ∨ nn = 2 ∨ nn = 3 ∨ nn = 4 := by omega
              rcases this with e | e | e | e | e <;> (rw [e] at hyB ⊢; rw [hyB]; rfl)
            conv => cbv
            refine drawF_of_any (by kernel_rfl) (drawAny_split 1 8 (by kernel_rfl) (any_of_drawn tok [(1, [9, 6, 2, 0]), (8, [7, 5, 4, 3, 9, 6, 2, 0])] [0, 2, 6, 9, 1, 3, 4, 5, 7, 8, 10, 11, 12, 13] (by kernel_rfl) ?_) (any_of_drawn tok [(8, [9, 6, 2, 0]), (1, [11, 10, 9, 6, 2, 0])] [0, 2, 6, 9, 8, 10, 11, 1, 3, 4, 5, 7, 12, 13] (by kernel_rfl) ?_))
            · conv => cbv
              refine Need.mk ⟨hn0, (show n5 < 5 by omega)⟩ ?_
              conv => cbv
              refine Cell.at n5 nn hlA (by simp [I.val]) hnn ?_
              conv => cbv
              refine Need.mk (by show y.size + yA.size ≤ 9223372036854775807; omega) ?_
              conv => cbv
              refine Str.mk fun s1 hs1 => ?_
              have hs1 : s1 = y ++ yA := hs1
              have hss1 : s1.size = y.size + yA.size := by rw [hs1, ByteArray.size_append]
              conv => cbv
              refine Need.mk (by show s1.size + y2.size ≤ 9223372036854775807; omega) ?_
              conv => cbv
              refine Str.mk fun s2 hs2 => ?_
              have hs2 : s2 = s1 ++ y2 := hs2
              have hss2 : s2.size = s1.size + y2.size := by rw [hs2, ByteArray.size_append]
              conv => cbv
              refine Need.mk ⟨hn0, (show n5 < 5 by omega)⟩ ?_
              conv => cbv
              refine Cell.at n5 nn hlB (by simp [I.val]) hnn ?_
              conv => cbv
              refine Need.mk (by show s2.size + yB.size ≤ 9223372036854775807; omega) ?_
              conv => cbv
              refine Str.mk fun s3 hs3 => ?_
              have hs3 : s3 = s2 ++ yB := hs3
              have hss3 : s3.size = s2.size + yB.size := by rw [hs3, ByteArray.size_append]
              conv => cbv
              have hs3f : s3 = bytesOfL (sb ++ segA nn ++ mkLine x.data.toList ++ segB nn) := by rw [hs3, hs2, hs1, hy, hyA, hy2, hyB, bol_app2, bol_app2, bol_app2]
              have hJ2 := joined_next nn hJ (line_clean x.data.toList) (line_le x.data.toList)
              have hjl : (LL.length : Int) = j := by rw [hLL, spv_length, hj, hll]
              have hjb : j ≤ 20 := by rw [hj, hll]; have := hJ.2.2.2; omega
              have hj00 : 0 ≤ j := by omega
              refine Br.mk (fun ge => ?_) (fun ge => ?_)
              · have ge : ¬ y2 = ⟨#[]⟩ := ge
                have hne : ¬ mkLine x.data.toList = [] := fun h => ge (by rw [hy2, h]; rfl)
                rw [addL, if_neg hne] at hJ2
                conv => cbv
                refine Room.new rfl ?_
                conv => cbv
                refine Room.new ⟨?_, ?_, ?_⟩ ?_
                · show (LL.length : Int) = j * 1; omega
                · show (j + 1) * 16 ≤ 140737488355328; omega
                · show j + 1 ≤ 9223372036854775807; omega
                conv => cbv
                refine Upd.mk fun L9 hL9 => ?_
                have hL9 : L9 = LL ++ [.str fun _ => y2] := hL9
                have hL9 : L9 = spv (ls ++ [mkLine x.data.toList]) := by rw [hL9, hLL, hy2, spv_app]
                conv => cbv
                refine Sum.mk fun j9 hj9 => ?_
                have hj9 : j9 = j + 1 := hj9
                have hj9 : j9 = ll (ls ++ [mkLine x.data.toList]) := by rw [hj9, hj, hll, hll, List.length_append]; rfl
                conv => cbv
                refine Fit.mk (by show (-9223372036854775808 : Int) ≤ i + 1; omega) (by show i + 1 ≤ 9223372036854775807; omega) fun i2 hi2 => ?_
                have hi2 : i2 = i + 1 := hi2
                rw [show i.toNat + 1 = i2.toNat by omega] at hJ2
                conv => cbv
                refine Again.mk k' _ (Nat.lt_succ_self _) (Re.of [(4, 0)] [] (by first | exact Nat.zero_le _ | exact Nat.le_refl _ | decide | (dsimp only; decide)) rfl rfl (by (try (conv => cbv)); (repeat' (first | exact trivial | rfl | exact SEq.mk rfl | (exact SEq.mk (by first | assumption | (symm; assumption))) | (simp only [I.val]; done) | (simp only [I.val]; omega) | omega | assumption | (refine And.intro ?_ ?_) | exact Or.inl rfl | exact Or.inr (by assumption) | exact List.Mem.head _ | exact List.Mem.tail _ (List.Mem.head _) | exact ⟨_, rfl⟩ | exact ⟨_, rfl, Or.inl rfl⟩ | (refine ⟨_, rfl, Or.inr ?_⟩; (try (conv => cbv))) | (simp only [I.val] at *; first | omega | (subst_vars; rfl) | simp_all) | (refine Or.inr ?_; (try (conv => cbv)))))) (by (try (conv => cbv)); (repeat' (first | exact trivial | rfl | exact SEq.mk rfl | (exact SEq.mk (by first | assumption | (symm; assumption))) | (simp only [I.val]; done) | (simp only [I.val]; omega) | omega | assumption | (refine And.intro ?_ ?_) | exact Or.inl rfl | exact Or.inr (by assumption) | exact List.Mem.head _ | exact List.Mem.tail _ (List.Mem.head _) | exact ⟨_, rfl⟩ | exact ⟨_, rfl, Or.inl rfl⟩ | (refine ⟨_, rfl, Or.inr ?_⟩; (try (conv => cbv))) | (simp only [I.val] at *; first | omega | (subst_vars; rfl) | simp_all) | (refine Or.inr ?_; (try (conv => cbv))))))) ⟨i2, j9, L9, s3, _, _, rfl, hs3f, hL9, hj9, hJ2, by omega, by omega, by omega⟩
              · have ge : y2 = ⟨#[]⟩ := Classical.byContradiction ge
                have hne : mkLine x.data.toList = [] := (bol_nil _).1 (by rw [← hy2]; exact ge)
                rw [addL, if_pos hne] at hJ2
                conv => cbv
                refine Fit.mk (by show (-9223372036854775808 : Int) ≤ i + 1; omega) (by show i + 1 ≤ 9223372036854775807; omega) fun i2 hi2 => ?_
                have hi2 : i2 = i + 1 := hi2
                rw [show i.toNat + 1 = i2.toNat by omega] at hJ2
                conv => cbv
                refine Again.mk k' _ (Nat.lt_succ_self _) (Re.of [(0, 0)] [] (by first | exact Nat.zero_le _ | exact Nat.le_refl _ | decide | (dsimp only; decide)) rfl rfl (by (try (conv => cbv)); (repeat' (first | exact trivial | rfl | exact SEq.mk rfl | (exact SEq.mk (by first | assumption | (symm; assumption))) | (simp only [I.val]; done) | (simp only [I.val]; omega) | omega | assumption | (refine And.intro ?_ ?_) | exact Or.inl rfl | exact Or.inr (by assumption) | exact List.Mem.head _ | exact List.Mem.tail _ (List.Mem.head _) | exact ⟨_, rfl⟩ | exact ⟨_, rfl, Or.inl rfl⟩ | (refine ⟨_, rfl, Or.inr ?_⟩; (try (conv => cbv))) | (simp only [I.val] at *; first | omega | (subst_vars; rfl) | simp_all) | (refine Or.inr ?_; (try (conv => cbv)))))) (by (try (conv => cbv)); (repeat' (first | exact trivial | rfl | exact SEq.mk rfl | (exact SEq.mk (by first | assumption | (symm; assumption))) | (simp only [I.val]; done) | (simp only [I.val]; omega) | omega | assumption | (refine And.intro ?_ ?_) | exact Or.inl rfl | exact Or.inr (by assumption) | exact List.Mem.head _ | exact List.Mem.tail _ (List.Mem.head _) | exact ⟨_, rfl⟩ | exact ⟨_, rfl, Or.inl rfl⟩ | (refine ⟨_, rfl, Or.inr ?_⟩; (try (conv => cbv))) | (simp only [I.val] at *; first | omega | (subst_vars; rfl) | simp_all) | (refine Or.inr ?_; (try (conv => cbv))))))) ⟨i2, j, LL, s3, _, _, rfl, hs3f, hLL, hj, hJ2, by omega, by omega, by omega⟩
            · conv => cbv
              refine Need.mk ⟨hn0, (show n5 < 5 by omega)⟩ ?_
              conv => cbv
              refine Cell.at n5 nn hlB (by simp [I.val]) hnn ?_
              conv => cbv
              refine Need.mk ⟨hn0, (show n5 < 5 by omega)⟩ ?_
              conv => cbv
              refine Cell.at n5 nn hlA (by simp [I.val]) hnn ?_
              conv => cbv
              refine Need.mk (by show y.size + yA.size ≤ 9223372036854775807; omega) ?_
              conv => cbv
              refine Str.mk fun s1 hs1 => ?_
              have hs1 : s1 = y ++ yA := hs1
              have hss1 : s1.size = y.size + yA.size := by rw [hs1, ByteArray.size_append]
              conv => cbv
              refine Need.mk (by show s1.size + y2.size ≤ 9223372036854775807; omega) ?_
              conv => cbv
              refine Str.mk fun s2 hs2 => ?_
              have hs2 : s2 = s1 ++ y2 := hs2
              have hss2 : s2.size = s1.size + y2.size := by rw [hs2, ByteArray.size_append]
              conv => cbv
              refine Need.mk (by show s2.size + yB.size ≤ 9223372036854775807; omega) ?_
              conv => cbv
              refine Str.mk fun s3 hs3 => ?_
              have hs3 : s3 = s2 ++ yB := hs3
              have hss3 : s3.size = s2.size + yB.size := by rw [hs3, ByteArray.size_append]
              conv => cbv
              have hs3f : s3 = bytesOfL (sb ++ segA nn ++ mkLine x.data.toList ++ segB nn) := by rw [hs3, hs2, hs1, hy, hyA, hy2, hyB, bol_app2, bol_app2, bol_app2]
              have hJ2 := joined_next nn hJ (line_clean x.data.toList) (line_le x.data.toList)
              have hjl : (LL.length : Int) = j := by rw [hLL, spv_length, hj, hll]
              have hjb : j ≤ 20 := by rw [hj, hll]; have := hJ.2.2.2; omega
              have hj00 : 0 ≤ j := by omega
              refine Br.mk (fun ge => ?_) (fun ge => ?_)
              · have ge : ¬ y2 = ⟨#[]⟩ := ge
                have hne : ¬ mkLine x.data.toList = [] := fun h => ge (by rw [hy2, h]; rfl)
                rw [addL, if_neg hne] at hJ2
                conv => cbv
                refine Room.new rfl ?_
                conv => cbv
                refine Room.new ⟨?_, ?_, ?_⟩ ?_
                · show (LL.length : Int) = j * 1; omega
                · show (j + 1) * 16 ≤ 140737488355328; omega
                · show j + 1 ≤ 9223372036854775807; omega
                conv => cbv
                refine Upd.mk fun L9 hL9 => ?_
                have hL9 : L9 = LL ++ [.str fun _ => y2] := hL9
                have hL9 : L9 = spv (ls ++ [mkLine x.data.toList]) := by rw [hL9, hLL, hy2, spv_app]
                conv => cbv
                refine Sum.mk fun j9 hj9 => ?_
                have hj9 : j9 = j + 1 := hj9
                have hj9 : j9 = ll (ls ++ [mkLine x.data.toList]) := by rw [hj9, hj, hll, hll, List.length_append]; rfl
                conv => cbv
                refine Fit.mk (by show (-9223372036854775808 : Int) ≤ i + 1; omega) (by show i + 1 ≤ 9223372036854775807; omega) fun i2 hi2 => ?_
                have hi2 : i2 = i + 1 := hi2
                rw [show i.toNat + 1 = i2.toNat by omega] at hJ2
                conv => cbv
                refine Again.mk k' _ (Nat.lt_succ_self _) (Re.of [(4, 0)] [] (by first | exact Nat.zero_le _ | exact Nat.le_refl _ | decide | (dsimp only; decide)) rfl rfl (by (try (conv => cbv)); (repeat' (first | exact trivial | rfl | exact SEq.mk rfl | (exact SEq.mk (by first | assumption | (symm; assumption))) | (simp only [I.val]; done) | (simp only [I.val]; omega) | omega | assumption | (refine And.intro ?_ ?_) | exact Or.inl rfl | exact Or.inr (by assumption) | exact List.Mem.head _ | exact List.Mem.tail _ (List.Mem.head _) | exact ⟨_, rfl⟩ | exact ⟨_, rfl, Or.inl rfl⟩ | (refine ⟨_, rfl, Or.inr ?_⟩; (try (conv => cbv))) | (simp only [I.val] at *; first | omega | (subst_vars; rfl) | simp_all) | (refine Or.inr ?_; (try (conv => cbv)))))) (by (try (conv => cbv)); (repeat' (first | exact trivial | rfl | exact SEq.mk rfl | (exact SEq.mk (by first | assumption | (symm; assumption))) | (simp only [I.val]; done) | (simp only [I.val]; omega) | omega | assumption | (refine And.intro ?_ ?_) | exact Or.inl rfl | exact Or.inr (by assumption) | exact List.Mem.head _ | exact List.Mem.tail _ (List.Mem.head _) | exact ⟨_, rfl⟩ | exact ⟨_, rfl, Or.inl rfl⟩ | (refine ⟨_, rfl, Or.inr ?_⟩; (try (conv => cbv))) | (simp only [I.val] at *; first | omega | (subst_vars; rfl) | simp_all) | (refine Or.inr ?_; (try (conv => cbv))))))) ⟨i2, j9, L9, s3, _, _, rfl, hs3f, hL9, hj9, hJ2, by omega, by omega, by omega⟩
              · have ge : y2 = ⟨#[]⟩ := Classical.byContradiction ge
                have hne : mkLine x.data.toList = [] := (bol_nil _).1 (by rw [← hy2]; exact ge)
                rw [addL, if_pos hne] at hJ2
                conv => cbv
                refine Fit.mk (by show (-9223372036854775808 : Int) ≤ i + 1; omega) (by show i + 1 ≤ 9223372036854775807; omega) fun i2 hi2 => ?_
                have hi2 : i2 = i + 1 := hi2
                rw [show i.toNat + 1 = i2.toNat by omega] at hJ2
                conv => cbv
                refine Again.mk k' _ (Nat.lt_succ_self _) (Re.of [(0, 0)] [] (by first | exact Nat.zero_le _ | exact Nat.le_refl _ | decide | (dsimp only; decide)) rfl rfl (by (try (conv => cbv)); (repeat' (first | exact trivial | rfl | exact SEq.mk rfl | (exact SEq.mk (by first | assumption | (symm; assumption))) | (simp only [I.val]; done) | (simp only [I.val]; omega) | omega | assumption | (refine And.intro ?_ ?_) | exact Or.inl rfl | exact Or.inr (by assumption) | exact List.Mem.head _ | exact List.Mem.tail _ (List.Mem.head _) | exact ⟨_, rfl⟩ | exact ⟨_, rfl, Or.inl rfl⟩ | (refine ⟨_, rfl, Or.inr ?_⟩; (try (conv => cbv))) | (simp only [I.val] at *; first | omega | (subst_vars; rfl) | simp_all) | (refine Or.inr ?_; (try (conv => cbv)))))) (by (try (conv => cbv)); (repeat' (first | exact trivial | rfl | exact SEq.mk rfl | (exact SEq.mk (by first | assumption | (symm; assumption))) | (simp only [I.val]; done) | (simp only [I.val]; omega) | omega | assumption | (refine And.intro ?_ ?_) | exact Or.inl rfl | exact Or.inr (by assumption) | exact List.Mem.head _ | exact List.Mem.tail _ (List.Mem.head _) | exact ⟨_, rfl⟩ | exact ⟨_, rfl, Or.inl rfl⟩ | (refine ⟨_, rfl, Or.inr ?_⟩; (try (conv => cbv))) | (simp only [I.val] at *; first | omega | (subst_vars; rfl) | simp_all) | (refine Or.inr ?_; (try (conv => cbv))))))) ⟨i2, j, LL, s3, _, _, rfl, hs3f, hLL, hj, hJ2, by omega, by omega, by omega⟩
          · have hnn4 : (0 : Nat) ≤ 4 := by decide
            obtain ⟨yA, hyA⟩ : ∃ yA, yA = bytesOfL (segA 0) := ⟨_, rfl⟩
            obtain ⟨yB, hyB⟩ : ∃ yB, yB = bytesOfL (segB 0) := ⟨_, rfl⟩
            have hseg := seg_le 0
            have hyAs : yA.size ≤ 4 := by rw [hyA, bol_size]; exact hseg.1
            have hyBs : yB.size ≤ 2 := by rw [hyB, bol_size]; exact hseg.2
            have hyl : y.size ≤ 720 := by rw [hy, bol_size]; have := hJ.2.2.1; omega
            have hy2l : y2.size ≤ 30 := by rw [hy2, bol_size]; exact line_le _
            have hlA : ([.str fun _ => ⟨#[]⟩, .str fun _ => ⟨#[32]⟩, .str fun _ => ⟨#[10]⟩, .str fun _ => ⟨#[10, 32, 32, 10]⟩, .str fun _ => ⟨#[32, 32, 32]⟩] : List PV)[0]? = some (.str fun _ => yA) := by
              rw [hyA]; rfl
            have hlB : ([.str fun _ => ⟨#[10]⟩, .str fun _ => ⟨#[32, 10]⟩, .str fun _ => ⟨#[10, 10]⟩, .str fun _ => ⟨#[10, 32]⟩, .str fun _ => ⟨#[10]⟩] : List PV)[0]? = some (.str fun _ => yB) := by
              rw [hyB]; rfl
            conv => cbv
            refine drawF_of_any (by kernel_rfl) (drawAny_split 1 8 (by kernel_rfl) (any_of_drawn tok [(1, [9, 6, 2, 0]), (8, [7, 5, 4, 3, 9, 6, 2, 0])] [0, 2, 6, 9, 1, 3, 4, 5, 7, 8, 10, 11, 12, 13] (by kernel_rfl) ?_) (any_of_drawn tok [(8, [9, 6, 2, 0]), (1, [11, 10, 9, 6, 2, 0])] [0, 2, 6, 9, 8, 10, 11, 1, 3, 4, 5, 7, 12, 13] (by kernel_rfl) ?_))
            · conv => cbv
              refine Need.mk ⟨(by decide), (by decide)⟩ ?_
              conv => cbv
              refine Need.mk (by have h := hyAs; rw [hyA] at h; show y.size + (bytesOfL (segA 0)).size ≤ 9223372036854775807; omega) ?_
              conv => cbv
              refine Str.mk fun s1 hs1 => ?_
              have hs1 : s1 = y ++ yA := by rw [hyA]; exact hs1
              have hss1 : s1.size = y.size + yA.size := by rw [hs1, ByteArray.size_append]
              conv => cbv
              refine Need.mk (by show s1.size + y2.size ≤ 9223372036854775807; omega) ?_
              conv => cbv
              refine Str.mk fun s2 hs2 => ?_
              have hs2 : s2 = s1 ++ y2 := hs2
              have hss2 : s2.size = s1.size + y2.size := by rw [hs2, ByteArray.size_append]
              conv => cbv
              refine Need.mk ⟨(by decide), (by decide)⟩ ?_
              conv => cbv
              refine Need.mk (by have h := hyBs; rw [hyB] at h; show s2.size + (bytesOfL (segB 0)).size ≤ 9223372036854775807; omega) ?_
              conv => cbv
              refine Str.mk fun s3 hs3 => ?_
              have hs3 : s3 = s2 ++ yB := by rw [hyB]; exact hs3
              have hss3 : s3.size = s2.size + yB.size := by rw [hs3, ByteArray.size_append]
              conv => cbv
              have hs3f : s3 = bytesOfL (sb ++ segA 0 ++ mkLine x.data.toList ++ segB 0) := by rw [hs3, hs2, hs1, hy, hyA, hy2, hyB, bol_app2, bol_app2, bol_app2]
              have hJ2 := joined_next 0 hJ (line_clean x.data.toList) (line_le x.data.toList)
              have hjl : (LL.length : Int) = j := by rw [hLL, spv_length, hj, hll]
              have hjb : j ≤ 20 := by rw [hj, hll]; have := hJ.2.2.2; omega
              have hj00 : 0 ≤ j := by omega
              refine Br.mk (fun ge => ?_) (fun ge => ?_)
              · have ge : ¬ y2 = ⟨#[]⟩ := ge
                have hne : ¬ mkLine x.data.toList = [] := fun h => ge (by rw [hy2, h]; rfl)
                rw [addL, if_neg hne] at hJ2
                conv => cbv
                refine Room.new rfl ?_
                conv => cbv
                refine Room.new ⟨?_, ?_, ?_⟩ ?_
                · show (LL.length : Int) = j * 1; omega
                · show (j + 1) * 16 ≤ 140737488355328; omega
                · show j + 1 ≤ 9223372036854775807; omega
                conv => cbv
                refine Upd.mk fun L9 hL9 => ?_
                have hL9 : L9 = LL ++ [.str fun _ => y2] := hL9
                have hL9 : L9 = spv (ls ++ [mkLine x.data.toList]) := by rw [hL9, hLL, hy2, spv_app]
                conv => cbv
                refine Sum.mk fun j9 hj9 => ?_
                have hj9 : j9 = j + 1 := hj9
                have hj9 : j9 = ll (ls ++ [mkLine x.data.toList]) := by rw [hj9, hj, hll, hll, List.length_append]; rfl
                conv => cbv
                refine Fit.mk (by show (-9223372036854775808 : Int) ≤ i + 1; omega) (by show i + 1 ≤ 9223372036854775807; omega) fun i2 hi2 => ?_
                have hi2 : i2 = i + 1 := hi2
                rw [show i.toNat + 1 = i2.toNat by omega] at hJ2
                conv => cbv
                refine Again.mk k' _ (Nat.lt_succ_self _) (Re.of [(4, 0)] [] (by first | exact Nat.zero_le _ | exact Nat.le_refl _ | decide | (dsimp only; decide)) rfl rfl (by (try (conv => cbv)); (repeat' (first | exact trivial | rfl | exact SEq.mk rfl | (exact SEq.mk (by first | assumption | (symm; assumption))) | (simp only [I.val]; done) | (simp only [I.val]; omega) | omega | assumption | (refine And.intro ?_ ?_) | exact Or.inl rfl | exact Or.inr (by assumption) | exact List.Mem.head _ | exact List.Mem.tail _ (List.Mem.head _) | exact ⟨_, rfl⟩ | exact ⟨_, rfl, Or.inl rfl⟩ | (refine ⟨_, rfl, Or.inr ?_⟩; (try (conv => cbv))) | (simp only [I.val] at *; first | omega | (subst_vars; rfl) | simp_all) | (refine Or.inr ?_; (try (conv => cbv)))))) (by (try (conv => cbv)); (repeat' (first | exact trivial | rfl | exact SEq.mk rfl | (exact SEq.mk (by first | assumption | (symm; assumption))) | (simp only [I.val]; done) | (simp only [I.val]; omega) | omega | assumption | (refine And.intro ?_ ?_) | exact Or.inl rfl | exact Or.inr (by assumption) | exact List.Mem.head _ | exact List.Mem.tail _ (List.Mem.head _) | exact ⟨_, rfl⟩ | exact ⟨_, rfl, Or.inl rfl⟩ | (refine ⟨_, rfl, Or.inr ?_⟩; (try (conv => cbv))) | (simp only [I.val] at *; first | omega | (subst_vars; rfl) | simp_all) | (refine Or.inr ?_; (try (conv => cbv))))))) ⟨i2, j9, L9, s3, _, _, rfl, hs3f, hL9, hj9, hJ2, by omega, by omega, by omega⟩
              · have ge : y2 = ⟨#[]⟩ := Classical.byContradiction ge
                have hne : mkLine x.data.toList = [] := (bol_nil _).1 (by rw [← hy2]; exact ge)
                rw [addL, if_pos hne] at hJ2
                conv => cbv
                refine Fit.mk (by show (-9223372036854775808 : Int) ≤ i + 1; omega) (by show i + 1 ≤ 9223372036854775807; omega) fun i2 hi2 => ?_
                have hi2 : i2 = i + 1 := hi2
                rw [show i.toNat + 1 = i2.toNat by omega] at hJ2
                conv => cbv
                refine Again.mk k' _ (Nat.lt_succ_self _) (Re.of [(0, 0)] [] (by first | exact Nat.zero_le _ | exact Nat.le_refl _ | decide | (dsimp only; decide)) rfl rfl (by (try (conv => cbv)); (repeat' (first | exact trivial | rfl | exact SEq.mk rfl | (exact SEq.mk (by first | assumption | (symm; assumption))) | (simp only [I.val]; done) | (simp only [I.val]; omega) | omega | assumption | (refine And.intro ?_ ?_) | exact Or.inl rfl | exact Or.inr (by assumption) | exact List.Mem.head _ | exact List.Mem.tail _ (List.Mem.head _) | exact ⟨_, rfl⟩ | exact ⟨_, rfl, Or.inl rfl⟩ | (refine ⟨_, rfl, Or.inr ?_⟩; (try (conv => cbv))) | (simp only [I.val] at *; first | omega | (subst_vars; rfl) | simp_all) | (refine Or.inr ?_; (try (conv => cbv)))))) (by (try (conv => cbv)); (repeat' (first | exact trivial | rfl | exact SEq.mk rfl | (exact SEq.mk (by first | assumption | (symm; assumption))) | (simp only [I.val]; done) | (simp only [I.val]; omega) | omega | assumption | (refine And.intro ?_ ?_) | exact Or.inl rfl | exact Or.inr (by assumption) | exact List.Mem.head _ | exact List.Mem.tail _ (List.Mem.head _) | exact ⟨_, rfl⟩ | exact ⟨_, rfl, Or.inl rfl⟩ | (refine ⟨_, rfl, Or.inr ?_⟩; (try (conv => cbv))) | (simp only [I.val] at *; first | omega | (subst_vars; rfl) | simp_all) | (refine Or.inr ?_; (try (conv => cbv))))))) ⟨i2, j, LL, s3, _, _, rfl, hs3f, hLL, hj, hJ2, by omega, by omega, by omega⟩
            · conv => cbv
              refine Need.mk ⟨(by decide), (by decide)⟩ ?_
              conv => cbv
              refine Need.mk ⟨(by decide), (by decide)⟩ ?_
              conv => cbv
              refine Need.mk (by have h := hyAs; rw [hyA] at h; show y.size + (bytesOfL (segA 0)).size ≤ 9223372036854775807; omega) ?_
              conv => cbv
              refine Str.mk fun s1 hs1 => ?_
              have hs1 : s1 = y ++ yA := by rw [hyA]; exact hs1
              have hss1 : s1.size = y.size + yA.size := by rw [hs1, ByteArray.size_append]
              conv => cbv
              refine Need.mk (by show s1.size + y2.size ≤ 9223372036854775807; omega) ?_
              conv => cbv
              refine Str.mk fun s2 hs2 => ?_
              have hs2 : s2 = s1 ++ y2 := hs2
              have hss2 : s2.size = s1.size + y2.size := by rw [hs2, ByteArray.size_append]
              conv => cbv
              refine Need.mk (by have h := hyBs; rw [hyB] at h; show s2.size + (bytesOfL (segB 0)).size ≤ 9223372036854775807; omega) ?_
              conv => cbv
              refine Str.mk fun s3 hs3 => ?_
              have hs3 : s3 = s2 ++ yB := by rw [hyB]; exact hs3
              have hss3 : s3.size = s2.size + yB.size := by rw [hs3, ByteArray.size_append]
              conv => cbv
              have hs3f : s3 = bytesOfL (sb ++ segA 0 ++ mkLine x.data.toList ++ segB 0) := by rw [hs3, hs2, hs1, hy, hyA, hy2, hyB, bol_app2, bol_app2, bol_app2]
              have hJ2 := joined_next 0 hJ (line_clean x.data.toList) (line_le x.data.toList)
              have hjl : (LL.length : Int) = j := by rw [hLL, spv_length, hj, hll]
              have hjb : j ≤ 20 := by rw [hj, hll]; have := hJ.2.2.2; omega
              have hj00 : 0 ≤ j := by omega
              refine Br.mk (fun ge => ?_) (fun ge => ?_)
              · have ge : ¬ y2 = ⟨#[]⟩ := ge
                have hne : ¬ mkLine x.data.toList = [] := fun h => ge (by rw [hy2, h]; rfl)
                rw [addL, if_neg hne] at hJ2
                conv => cbv
                refine Room.new rfl ?_
                conv => cbv
                refine Room.new ⟨?_, ?_, ?_⟩ ?_
                · show (LL.length : Int) = j * 1; omega
                · show (j + 1) * 16 ≤ 140737488355328; omega
                · show j + 1 ≤ 9223372036854775807; omega
                conv => cbv
                refine Upd.mk fun L9 hL9 => ?_
                have hL9 : L9 = LL ++ [.str fun _ => y2] := hL9
                have hL9 : L9 = spv (ls ++ [mkLine x.data.toList]) := by rw [hL9, hLL, hy2, spv_app]
                conv => cbv
                refine Sum.mk fun j9 hj9 => ?_
                have hj9 : j9 = j + 1 := hj9
                have hj9 : j9 = ll (ls ++ [mkLine x.data.toList]) := by rw [hj9, hj, hll, hll, List.length_append]; rfl
                conv => cbv
                refine Fit.mk (by show (-9223372036854775808 : Int) ≤ i + 1; omega) (by show i + 1 ≤ 9223372036854775807; omega) fun i2 hi2 => ?_
                have hi2 : i2 = i + 1 := hi2
                rw [show i.toNat + 1 = i2.toNat by omega] at hJ2
                conv => cbv
                refine Again.mk k' _ (Nat.lt_succ_self _) (Re.of [(4, 0)] [] (by first | exact Nat.zero_le _ | exact Nat.le_refl _ | decide | (dsimp only; decide)) rfl rfl (by (try (conv => cbv)); (repeat' (first | exact trivial | rfl | exact SEq.mk rfl | (exact SEq.mk (by first | assumption | (symm; assumption))) | (simp only [I.val]; done) | (simp only [I.val]; omega) | omega | assumption | (refine And.intro ?_ ?_) | exact Or.inl rfl | exact Or.inr (by assumption) | exact List.Mem.head _ | exact List.Mem.tail _ (List.Mem.head _) | exact ⟨_, rfl⟩ | exact ⟨_, rfl, Or.inl rfl⟩ | (refine ⟨_, rfl, Or.inr ?_⟩; (try (conv => cbv))) | (simp only [I.val] at *; first | omega | (subst_vars; rfl) | simp_all) | (refine Or.inr ?_; (try (conv => cbv)))))) (by (try (conv => cbv)); (repeat' (first | exact trivial | rfl | exact SEq.mk rfl | (exact SEq.mk (by first | assumption | (symm; assumption))) | (simp only [I.val]; done) | (simp only [I.val]; omega) | omega | assumption | (refine And.intro ?_ ?_) | exact Or.inl rfl | exact Or.inr (by assumption) | exact List.Mem.head _ | exact List.Mem.tail _ (List.Mem.head _) | exact ⟨_, rfl⟩ | exact ⟨_, rfl, Or.inl rfl⟩ | (refine ⟨_, rfl, Or.inr ?_⟩; (try (conv => cbv))) | (simp only [I.val] at *; first | omega | (subst_vars; rfl) | simp_all) | (refine Or.inr ?_; (try (conv => cbv))))))) ⟨i2, j9, L9, s3, _, _, rfl, hs3f, hL9, hj9, hJ2, by omega, by omega, by omega⟩
              · have ge : y2 = ⟨#[]⟩ := Classical.byContradiction ge
                have hne : mkLine x.data.toList = [] := (bol_nil _).1 (by rw [← hy2]; exact ge)
                rw [addL, if_pos hne] at hJ2
                conv => cbv
                refine Fit.mk (by show (-9223372036854775808 : Int) ≤ i + 1; omega) (by show i + 1 ≤ 9223372036854775807; omega) fun i2 hi2 => ?_
                have hi2 : i2 = i + 1 := hi2
                rw [show i.toNat + 1 = i2.toNat by omega] at hJ2
                conv => cbv
                refine Again.mk k' _ (Nat.lt_succ_self _) (Re.of [(0, 0)] [] (by first | exact Nat.zero_le _ | exact Nat.le_refl _ | decide | (dsimp only; decide)) rfl rfl (by (try (conv => cbv)); (repeat' (first | exact trivial | rfl | exact SEq.mk rfl | (exact SEq.mk (by first | assumption | (symm; assumption))) | (simp only [I.val]; done) | (simp only [I.val]; omega) | omega | assumption | (refine And.intro ?_ ?_) | exact Or.inl rfl | exact Or.inr (by assumption) | exact List.Mem.head _ | exact List.Mem.tail _ (List.Mem.head _) | exact ⟨_, rfl⟩ | exact ⟨_, rfl, Or.inl rfl⟩ | (refine ⟨_, rfl, Or.inr ?_⟩; (try (conv => cbv))) | (simp only [I.val] at *; first | omega | (subst_vars; rfl) | simp_all) | (refine Or.inr ?_; (try (conv => cbv)))))) (by (try (conv => cbv)); (repeat' (first | exact trivial | rfl | exact SEq.mk rfl | (exact SEq.mk (by first | assumption | (symm; assumption))) | (simp only [I.val]; done) | (simp only [I.val]; omega) | omega | assumption | (refine And.intro ?_ ?_) | exact Or.inl rfl | exact Or.inr (by assumption) | exact List.Mem.head _ | exact List.Mem.tail _ (List.Mem.head _) | exact ⟨_, rfl⟩ | exact ⟨_, rfl, Or.inl rfl⟩ | (refine ⟨_, rfl, Or.inr ?_⟩; (try (conv => cbv))) | (simp only [I.val] at *; first | omega | (subst_vars; rfl) | simp_all) | (refine Or.inr ?_; (try (conv => cbv))))))) ⟨i2, j, LL, s3, _, _, rfl, hs3f, hLL, hj, hJ2, by omega, by omega, by omega⟩
      · have gq : ¬ q < xs := gq
        have hline : lineTo x q.toNat = mkLine x.data.toList := by
          have hl : x.data.toList.length = x.size := by simp
          unfold mkLine lineTo
          rw [List.take_of_length_le (by omega), List.take_of_length_le (by omega)]
        rw [hline] at hy2
        conv => cbv
        refine Br.mk (fun gz => ?_) (fun gz => ?_)
        · have gz : i < k2 := gz
          obtain ⟨v, hv⟩ : ∃ v, zs[i.toNat]? = some v := ⟨_, List.getElem?_eq_getElem (by omega)⟩
          have hvb := hz2 v (List.mem_of_getElem? hv)
          have hcv : L2[i.toNat]? = some (.int .i64 (.sym v)) := by rw [hL2, List.getElem?_map, hv]; rfl
          conv => cbv
          refine Need.mk ⟨hi0, by show i < k2; omega⟩ ?_
          conv => cbv
          refine Cell.at i _ hcv (by simp [I.val]) rfl ?_
          conv => cbv
          refine Fit.wrap fun xz hxz => ?_
          have hxz : xz = IntKind.u64.wrap v := hxz
          have hxz0 : 0 ≤ xz := by rw [hxz]; simp [IntKind.wrap, IntKind.bits, IntKind.signed]; omega
          clear hxz
          conv => cbv
          refine Sum.mk fun yz hyz => ?_
          have hyz : yz = xz % 5 := (show yz = xz.tmod 5 from hyz).trans (Int.tmod_eq_emod_of_nonneg hxz0)
          conv => cbv
          refine Fit.mk (by show (-9223372036854775808 : Int) ≤ yz; omega) (by show yz ≤ 9223372036854775807; omega) fun n5 hn5 => ?_
          have hn5 : n5 = yz := hn5
          have hn0 : 0 ≤ n5 := by omega
          obtain ⟨nn, hnn⟩ : ∃ nn, n5.toNat = nn := ⟨_, rfl⟩
          have hnn4 : nn ≤ 4 := by omega
          have hn55 : n5 ≤ 4 := by omega
          clear hn5 hyz hxz0
          obtain ⟨yA, hyA⟩ : ∃ yA, yA = bytesOfL (segA nn) := ⟨_, rfl⟩
          obtain ⟨yB, hyB⟩ : ∃ yB, yB = bytesOfL (segB nn) := ⟨_, rfl⟩
          have hseg := seg_le nn
          have hyAs : yA.size ≤ 4 := by rw [hyA, bol_size]; exact hseg.1
          have hyBs : yB.size ≤ 2 := by rw [hyB, bol_size]; exact hseg.2
          have hyl : y.size ≤ 720 := by rw [hy, bol_size]; have := hJ.2.2.1; omega
          have hy2l : y2.size ≤ 30 := by rw [hy2, bol_size]; exact line_le _
          have hlA : ([.str fun _ => ⟨#[]⟩, .str fun _ => ⟨#[32]⟩, .str fun _ => ⟨#[10]⟩, .str fun _ => ⟨#[10, 32, 32, 10]⟩, .str fun _ => ⟨#[32, 32, 32]⟩] : List PV)[nn]? = some (.str fun _ => yA) := by
            have : nn = 0 ∨ nn = 1 ∨ nn = 2 ∨ nn = 3 ∨ nn = 4 := by omega
            rcases this with e | e | e | e | e <;> (rw [e] at hyA ⊢; rw [hyA]; rfl)
          have hlB : ([.str fun _ => ⟨#[10]⟩, .str fun _ => ⟨#[32, 10]⟩, .str fun _ => ⟨#[10, 10]⟩, .str fun _ => ⟨#[10, 32]⟩, .str fun _ => ⟨#[10]⟩] : List PV)[nn]? = some (.str fun _ => yB) := by
            have : nn = 0 ∨ nn = 1 ∨ nn = 2 ∨ nn = 3 ∨ nn = 4 := by omega
            rcases this with e | e | e | e | e <;> (rw [e] at hyB ⊢; rw [hyB]; rfl)
          conv => cbv
          refine drawF_of_any (by kernel_rfl) (drawAny_split 1 8 (by kernel_rfl) (any_of_drawn tok [(1, [9, 6, 2, 0]), (8, [7, 5, 4, 3, 9, 6, 2, 0])] [0, 2, 6, 9, 1, 3, 4, 5, 7, 8, 10, 11, 12, 13] (by kernel_rfl) ?_) (any_of_drawn tok [(8, [9, 6, 2, 0]), (1, [11, 10, 9, 6, 2, 0])] [0, 2, 6, 9, 8, 10, 11, 1, 3, 4, 5, 7, 12, 13] (by kernel_rfl) ?_))
          · conv => cbv
            refine Need.mk ⟨hn0, (show n5 < 5 by omega)⟩ ?_
            conv => cbv
            refine Cell.at n5 nn hlA (by simp [I.val]) hnn ?_
            conv => cbv
            refine Need.mk (by show y.size + yA.size ≤ 9223372036854775807; omega) ?_
            conv => cbv
            refine Str.mk fun s1 hs1 => ?_
            have hs1 : s1 = y ++ yA := hs1
            have hss1 : s1.size = y.size + yA.size := by rw [hs1, ByteArray.size_append]
            conv => cbv
            refine Need.mk (by show s1.size + y2.size ≤ 9223372036854775807; omega) ?_
            conv => cbv
            refine Str.mk fun s2 hs2 => ?_
            have hs2 : s2 = s1 ++ y2 := hs2
            have hss2 : s2.size = s1.size + y2.size := by rw [hs2, ByteArray.size_append]
            conv => cbv
            refine Need.mk ⟨hn0, (show n5 < 5 by omega)⟩ ?_
            conv => cbv
            refine Cell.at n5 nn hlB (by simp [I.val]) hnn ?_
            conv => cbv
            refine Need.mk (by show s2.size + yB.size ≤ 9223372036854775807; omega) ?_
            conv => cbv
            refine Str.mk fun s3 hs3 => ?_
            have hs3 : s3 = s2 ++ yB := hs3
            have hss3 : s3.size = s2.size + yB.size := by rw [hs3, ByteArray.size_append]
            conv => cbv
            have hs3f : s3 = bytesOfL (sb ++ segA nn ++ mkLine x.data.toList ++ segB nn) := by rw [hs3, hs2, hs1, hy, hyA, hy2, hyB, bol_app2, bol_app2, bol_app2]
            have hJ2 := joined_next nn hJ (line_clean x.data.toList) (line_le x.data.toList)
            have hjl : (LL.length : Int) = j := by rw [hLL, spv_length, hj, hll]
            have hjb : j ≤ 20 := by rw [hj, hll]; have := hJ.2.2.2; omega
            have hj00 : 0 ≤ j := by omega
            refine Br.mk (fun ge => ?_) (fun ge => ?_)
            · have ge : ¬ y2 = ⟨#[]⟩ := ge
              have hne : ¬ mkLine x.data.toList = [] := fun h => ge (by rw [hy2, h]; rfl)
              rw [addL, if_neg hne] at hJ2
              conv => cbv
              refine Room.new rfl ?_
              conv => cbv
              refine Room.new ⟨?_, ?_, ?_⟩ ?_
              · show (LL.length : Int) = j * 1; omega
              · show (j + 1) * 16 ≤ 140737488355328; omega
              · show j + 1 ≤ 9223372036854775807; omega
              conv => cbv
              refine Upd.mk fun L9 hL9 => ?_
              have hL9 : L9 = LL ++ [.str fun _ => y2] := hL9
              have hL9 : L9 = spv (ls ++ [mkLine x.data.toList]) := by rw [hL9, hLL, hy2, spv_app]
              conv => cbv
              refine Sum.mk fun j9 hj9 => ?_
              have hj9 : j9 = j + 1 := hj9
              have hj9 : j9 = ll (ls ++ [mkLine x.data.toList]) := by rw [hj9, hj, hll, hll, List.length_append]; rfl
              conv => cbv
              refine Fit.mk (by show (-9223372036854775808 : Int) ≤ i + 1; omega) (by show i + 1 ≤ 9223372036854775807; omega) fun i2 hi2 => ?_
              have hi2 : i2 = i + 1 := hi2
              rw [show i.toNat + 1 = i2.toNat by omega] at hJ2
              conv => cbv
              refine Again.mk k' _ (Nat.lt_succ_self _) (Re.of [(4, 0)] [] (by first | exact Nat.zero_le _ | exact Nat.le_refl _ | decide | (dsimp only; decide)) rfl rfl (by (try (conv => cbv)); (repeat' (first | exact trivial | rfl | exact SEq.mk rfl | (exact SEq.mk (by first | assumption | (symm; assumption))) | (simp only [I.val]; done) | (simp only [I.val]; omega) | omega | assumption | (refine And.intro ?_ ?_) | exact Or.inl rfl | exact Or.inr (by assumption) | exact List.Mem.head _ | exact List.Mem.tail _ (List.Mem.head _) | exact ⟨_, rfl⟩ | exact ⟨_, rfl, Or.inl rfl⟩ | (refine ⟨_, rfl, Or.inr ?_⟩; (try (conv => cbv))) | (simp only [I.val] at *; first | omega | (subst_vars; rfl) | simp_all) | (refine Or.inr ?_; (try (conv => cbv)))))) (by (try (conv => cbv)); (repeat' (first | exact trivial | rfl | exact SEq.mk rfl | (exact SEq.mk (by first | assumption | (symm; assumption))) | (simp only [I.val]; done) | (simp only [I.val]; omega) | omega | assumption | (refine And.intro ?_ ?_) | exact Or.inl rfl | exact Or.inr (by assumption) | exact List.Mem.head _ | exact List.Mem.tail _ (List.Mem.head _) | exact ⟨_, rfl⟩ | exact ⟨_, rfl, Or.inl rfl⟩ | (refine ⟨_, rfl, Or.inr ?_⟩; (try (conv => cbv))) | (simp only [I.val] at *; first | omega | (subst_vars; rfl) | simp_all) | (refine Or.inr ?_; (try (conv => cbv))))))) ⟨i2, j9, L9, s3, _, _, rfl, hs3f, hL9, hj9, hJ2, by omega, by omega, by omega⟩
            · have ge : y2 = ⟨#[]⟩ := Classical.byContradiction ge
              have hne : mkLine x.data.toList = [] := (bol_nil _).1 (by rw [← hy2]; exact ge)
              rw [addL, if_pos hne] at hJ2
              conv => cbv
              refine Fit.mk (by show (-9223372036854775808 : Int) ≤ i + 1; omega) (by show i + 1 ≤ 9223372036854775807; omega) fun i2 hi2 => ?_
              have hi2 : i2 = i + 1 := hi2
              rw [show i.toNat + 1 = i2.toNat by omega] at hJ2
              conv => cbv
              refine Again.mk k' _ (Nat.lt_succ_self _) (Re.of [(0, 0)] [] (by first | exact Nat.zero_le _ | exact Nat.le_refl _ | decide | (dsimp only; decide)) rfl rfl (by (try (conv => cbv)); (repeat' (first | exact trivial | rfl | exact SEq.mk rfl | (exact SEq.mk (by first | assumption | (symm; assumption))) | (simp only [I.val]; done) | (simp only [I.val]; omega) | omega | assumption | (refine And.intro ?_ ?_) | exact Or.inl rfl | exact Or.inr (by assumption) | exact List.Mem.head _ | exact List.Mem.tail _ (List.Mem.head _) | exact ⟨_, rfl⟩ | exact ⟨_, rfl, Or.inl rfl⟩ | (refine ⟨_, rfl, Or.inr ?_⟩; (try (conv => cbv))) | (simp only [I.val] at *; first | omega | (subst_vars; rfl) | simp_all) | (refine Or.inr ?_; (try (conv => cbv)))))) (by (try (conv => cbv)); (repeat' (first | exact trivial | rfl | exact SEq.mk rfl | (exact SEq.mk (by first | assumption | (symm; assumption))) | (simp only [I.val]; done) | (simp only [I.val]; omega) | omega | assumption | (refine And.intro ?_ ?_) | exact Or.inl rfl | exact Or.inr (by assumption) | exact List.Mem.head _ | exact List.Mem.tail _ (List.Mem.head _) | exact ⟨_, rfl⟩ | exact ⟨_, rfl, Or.inl rfl⟩ | (refine ⟨_, rfl, Or.inr ?_⟩; (try (conv => cbv))) | (simp only [I.val] at *; first | omega | (subst_vars; rfl) | simp_all) | (refine Or.inr ?_; (try (conv => cbv))))))) ⟨i2, j, LL, s3, _, _, rfl, hs3f, hLL, hj, hJ2, by omega, by omega, by omega⟩
          · conv => cbv
            refine Need.mk ⟨hn0, (show n5 < 5 by omega)⟩ ?_
            conv => cbv
            refine Cell.at n5 nn hlB (by simp [I.val]) hnn ?_
            conv => cbv
            refine Need.mk ⟨hn0, (show n5 < 5 by omega)⟩ ?_
            conv => cbv
            refine Cell.at n5 nn hlA (by simp [I.val]) hnn ?_
            conv => cbv
            refine Need.mk (by show y.size + yA.size ≤ 9223372036854775807; omega) ?_
            conv => cbv
            refine Str.mk fun s1 hs1 => ?_
            have hs1 : s1 = y ++ yA := hs1
            have hss1 : s1.size = y.size + yA.size := by rw [hs1, ByteArray.size_append]
            conv => cbv
            refine Need.mk (by show s1.size + y2.size ≤ 9223372036854775807; omega) ?_
            conv => cbv
            refine Str.mk fun s2 hs2 => ?_
            have hs2 : s2 = s1 ++ y2 := hs2
            have hss2 : s2.size = s1.size + y2.size := by rw [hs2, ByteArray.size_append]
            conv => cbv
            refine Need.mk (by show s2.size + yB.size ≤ 9223372036854775807; omega) ?_
            conv => cbv
            refine Str.mk fun s3 hs3 => ?_
            have hs3 : s3 = s2 ++ yB := hs3
            have hss3 : s3.size = s2.size + yB.size := by rw [hs3, ByteArray.size_append]
            conv => cbv
            have hs3f : s3 = bytesOfL (sb ++ segA nn ++ mkLine x.data.toList ++ segB nn) := by rw [hs3, hs2, hs1, hy, hyA, hy2, hyB, bol_app2, bol_app2, bol_app2]
            have hJ2 := joined_next nn hJ (line_clean x.data.toList) (line_le x.data.toList)
            have hjl : (LL.length : Int) = j := by rw [hLL, spv_length, hj, hll]
            have hjb : j ≤ 20 := by rw [hj, hll]; have := hJ.2.2.2; omega
            have hj00 : 0 ≤ j := by omega
            refine Br.mk (fun ge => ?_) (fun ge => ?_)
            · have ge : ¬ y2 = ⟨#[]⟩ := ge
              have hne : ¬ mkLine x.data.toList = [] := fun h => ge (by rw [hy2, h]; rfl)
              rw [addL, if_neg hne] at hJ2
              conv => cbv
              refine Room.new rfl ?_
              conv => cbv
              refine Room.new ⟨?_, ?_, ?_⟩ ?_
              · show (LL.length : Int) = j * 1; omega
              · show (j + 1) * 16 ≤ 140737488355328; omega
              · show j + 1 ≤ 9223372036854775807; omega
              conv => cbv
              refine Upd.mk fun L9 hL9 => ?_
              have hL9 : L9 = LL ++ [.str fun _ => y2] := hL9
              have hL9 : L9 = spv (ls ++ [mkLine x.data.toList]) := by rw [hL9, hLL, hy2, spv_app]
              conv => cbv
              refine Sum.mk fun j9 hj9 => ?_
              have hj9 : j9 = j + 1 := hj9
              have hj9 : j9 = ll (ls ++ [mkLine x.data.toList]) := by rw [hj9, hj, hll, hll, List.length_append]; rfl
              conv => cbv
              refine Fit.mk (by show (-9223372036854775808 : Int) ≤ i + 1; omega) (by show i + 1 ≤ 9223372036854775807; omega) fun i2 hi2 => ?_
              have hi2 : i2 = i + 1 := hi2
              rw [show i.toNat + 1 = i2.toNat by omega] at hJ2
              conv => cbv
              refine Again.mk k' _ (Nat.lt_succ_self _) (Re.of [(4, 0)] [] (by first | exact Nat.zero_le _ | exact Nat.le_refl _ | decide | (dsimp only; decide)) rfl rfl (by (try (conv => cbv)); (repeat' (first | exact trivial | rfl | exact SEq.mk rfl | (exact SEq.mk (by first | assumption | (symm; assumption))) | (simp only [I.val]; done) | (simp only [I.val]; omega) | omega | assumption | (refine And.intro ?_ ?_) | exact Or.inl rfl | exact Or.inr (by assumption) | exact List.Mem.head _ | exact List.Mem.tail _ (List.Mem.head _) | exact ⟨_, rfl⟩ | exact ⟨_, rfl, Or.inl rfl⟩ | (refine ⟨_, rfl, Or.inr ?_⟩; (try (conv => cbv))) | (simp only [I.val] at *; first | omega | (subst_vars; rfl) | simp_all) | (refine Or.inr ?_; (try (conv => cbv)))))) (by (try (conv => cbv)); (repeat' (first | exact trivial | rfl | exact SEq.mk rfl | (exact SEq.mk (by first | assumption | (symm; assumption))) | (simp only [I.val]; done) | (simp only [I.val]; omega) | omega | assumption | (refine And.intro ?_ ?_) | exact Or.inl rfl | exact Or.inr (by assumption) | exact List.Mem.head _ | exact List.Mem.tail _ (List.Mem.head _) | exact ⟨_, rfl⟩ | exact ⟨_, rfl, Or.inl rfl⟩ | (refine ⟨_, rfl, Or.inr ?_⟩; (try (conv => cbv))) | (simp only [I.val] at *; first | omega | (subst_vars; rfl) | simp_all) | (refine Or.inr ?_; (try (conv => cbv))))))) ⟨i2, j9, L9, s3, _, _, rfl, hs3f, hL9, hj9, hJ2, by omega, by omega, by omega⟩
            · have ge : y2 = ⟨#[]⟩ := Classical.byContradiction ge
              have hne : mkLine x.data.toList = [] := (bol_nil _).1 (by rw [← hy2]; exact ge)
              rw [addL, if_pos hne] at hJ2
              conv => cbv
              refine Fit.mk (by show (-9223372036854775808 : Int) ≤ i + 1; omega) (by show i + 1 ≤ 9223372036854775807; omega) fun i2 hi2 => ?_
              have hi2 : i2 = i + 1 := hi2
              rw [show i.toNat + 1 = i2.toNat by omega] at hJ2
              conv => cbv
              refine Again.mk k' _ (Nat.lt_succ_self _) (Re.of [(0, 0)] [] (by first | exact Nat.zero_le _ | exact Nat.le_refl _ | decide | (dsimp only; decide)) rfl rfl (by (try (conv => cbv)); (repeat' (first | exact trivial | rfl | exact SEq.mk rfl | (exact SEq.mk (by first | assumption | (symm; assumption))) | (simp only [I.val]; done) | (simp only [I.val]; omega) | omega | assumption | (refine And.intro ?_ ?_) | exact Or.inl rfl | exact Or.inr (by assumption) | exact List.Mem.head _ | exact List.Mem.tail _ (List.Mem.head _) | exact ⟨_, rfl⟩ | exact ⟨_, rfl, Or.inl rfl⟩ | (refine ⟨_, rfl, Or.inr ?_⟩; (try (conv => cbv))) | (simp only [I.val] at *; first | omega | (subst_vars; rfl) | simp_all) | (refine Or.inr ?_; (try (conv => cbv)))))) (by (try (conv => cbv)); (repeat' (first | exact trivial | rfl | exact SEq.mk rfl | (exact SEq.mk (by first | assumption | (symm; assumption))) | (simp only [I.val]; done) | (simp only [I.val]; omega) | omega | assumption | (refine And.intro ?_ ?_) | exact Or.inl rfl | exact Or.inr (by assumption) | exact List.Mem.head _ | exact List.Mem.tail _ (List.Mem.head _) | exact ⟨_, rfl⟩ | exact ⟨_, rfl, Or.inl rfl⟩ | (refine ⟨_, rfl, Or.inr ?_⟩; (try (conv => cbv))) | (simp only [I.val] at *; first | omega | (subst_vars; rfl) | simp_all) | (refine Or.inr ?_; (try (conv => cbv))))))) ⟨i2, j, LL, s3, _, _, rfl, hs3f, hLL, hj, hJ2, by omega, by omega, by omega⟩
        · have hnn4 : (0 : Nat) ≤ 4 := by decide
          obtain ⟨yA, hyA⟩ : ∃ yA, yA = bytesOfL (segA 0) := ⟨_, rfl⟩
          obtain ⟨yB, hyB⟩ : ∃ yB, yB = bytesOfL (segB 0) := ⟨_, rfl⟩
          have hseg := seg_le 0
          have hyAs : yA.size ≤ 4 := by rw [hyA, bol_size]; exact hseg.1
          have hyBs : yB.size ≤ 2 := by rw [hyB, bol_size]; exact hseg.2
          have hyl : y.size ≤ 720 := by rw [hy, bol_size]; have := hJ.2.2.1; omega
          have hy2l : y2.size ≤ 30 := by rw [hy2, bol_size]; exact line_le _
          have hlA : ([.str fun _ => ⟨#[]⟩, .str fun _ => ⟨#[32]⟩, .str fun _ => ⟨#[10]⟩, .str fun _ => ⟨#[10, 32, 32, 10]⟩, .str fun _ => ⟨#[32, 32, 32]⟩] : List PV)[0]? = some (.str fun _ => yA) := by
            rw [hyA]; rfl
          have hlB : ([.str fun _ => ⟨#[10]⟩, .str fun _ => ⟨#[32, 10]⟩, .str fun _ => ⟨#[10, 10]⟩, .str fun _ => ⟨#[10, 32]⟩, .str fun _ => ⟨#[10]⟩] : List PV)[0]? = some (.str fun _ => yB) := by
            rw [hyB]; rfl
          conv => cbv
          refine drawF_of_any (by kernel_rfl) (drawAny_split 1 8 (by kernel_rfl) (any_of_drawn tok [(1, [9, 6, 2, 0]), (8, [7, 5, 4, 3, 9, 6, 2, 0])] [0, 2, 6, 9, 1, 3, 4, 5, 7, 8, 10, 11, 12, 13] (by kernel_rfl) ?_) (any_of_drawn tok [(8, [9, 6, 2, 0]), (1, [11, 10, 9, 6, 2, 0])] [0, 2, 6, 9, 8, 10, 11, 1, 3, 4, 5, 7, 12, 13] (by kernel_rfl) ?_))
          · conv => cbv
            refine Need.mk ⟨(by decide), (by decide)⟩ ?_
            conv => cbv
            refine Need.mk (by have h := hyAs; rw [hyA] at h; show y.size + (bytesOfL (segA 0)).size ≤ 9223372036854775807; omega) ?_
            conv => cbv
            refine Str.mk fun s1 hs1 => ?_
            have hs1 : s1 = y ++ yA := by rw [hyA]; exact hs1
            have hss1 : s1.size = y.size + yA.size := by rw [hs1, ByteArray.size_append]
            conv => cbv
            refine Need.mk (by show s1.size + y2.size ≤ 9223372036854775807; omega) ?_
            conv => cbv
            refine Str.mk fun s2 hs2 => ?_
            have hs2 : s2 = s1 ++ y2 := hs2
            have hss2 : s2.size = s1.size + y2.size := by rw [hs2, ByteArray.size_append]
            conv => cbv
            refine Need.mk ⟨(by decide), (by decide)⟩ ?_
            conv => cbv
            refine Need.mk (by have h := hyBs; rw [hyB] at h; show s2.size + (bytesOfL (segB 0)).size ≤ 9223372036854775807; omega) ?_
            conv => cbv
            refine Str.mk fun s3 hs3 => ?_
            have hs3 : s3 = s2 ++ yB := by rw [hyB]; exact hs3
            have hss3 : s3.size = s2.size + yB.size := by rw [hs3, ByteArray.size_append]
            conv => cbv
            have hs3f : s3 = bytesOfL (sb ++ segA 0 ++ mkLine x.data.toList ++ segB 0) := by rw [hs3, hs2, hs1, hy, hyA, hy2, hyB, bol_app2, bol_app2, bol_app2]
            have hJ2 := joined_next 0 hJ (line_clean x.data.toList) (line_le x.data.toList)
            have hjl : (LL.length : Int) = j := by rw [hLL, spv_length, hj, hll]
            have hjb : j ≤ 20 := by rw [hj, hll]; have := hJ.2.2.2; omega
            have hj00 : 0 ≤ j := by omega
            refine Br.mk (fun ge => ?_) (fun ge => ?_)
            · have ge : ¬ y2 = ⟨#[]⟩ := ge
              have hne : ¬ mkLine x.data.toList = [] := fun h => ge (by rw [hy2, h]; rfl)
              rw [addL, if_neg hne] at hJ2
              conv => cbv
              refine Room.new rfl ?_
              conv => cbv
              refine Room.new ⟨?_, ?_, ?_⟩ ?_
              · show (LL.length : Int) = j * 1; omega
              · show (j + 1) * 16 ≤ 140737488355328; omega
              · show j + 1 ≤ 9223372036854775807; omega
              conv => cbv
              refine Upd.mk fun L9 hL9 => ?_
              have hL9 : L9 = LL ++ [.str fun _ => y2] := hL9
              have hL9 : L9 = spv (ls ++ [mkLine x.data.toList]) := by rw [hL9, hLL, hy2, spv_app]
              conv => cbv
              refine Sum.mk fun j9 hj9 => ?_
              have hj9 : j9 = j + 1 := hj9
              have hj9 : j9 = ll (ls ++ [mkLine x.data.toList]) := by rw [hj9, hj, hll, hll, List.length_append]; rfl
              conv => cbv
              refine Fit.mk (by show (-9223372036854775808 : Int) ≤ i + 1; omega) (by show i + 1 ≤ 9223372036854775807; omega) fun i2 hi2 => ?_
              have hi2 : i2 = i + 1 := hi2
              rw [show i.toNat + 1 = i2.toNat by omega] at hJ2
              conv => cbv
              refine Again.mk k' _ (Nat.lt_succ_self _) (Re.of [(4, 0)] [] (by first | exact Nat.zero_le _ | exact Nat.le_refl _ | decide | (dsimp only; decide)) rfl rfl (by (try (conv => cbv)); (repeat' (first | exact trivial | rfl | exact SEq.mk rfl | (exact SEq.mk (by first | assumption | (symm; assumption))) | (simp only [I.val]; done) | (simp only [I.val]; omega) | omega | assumption | (refine And.intro ?_ ?_) | exact Or.inl rfl | exact Or.inr (by assumption) | exact List.Mem.head _ | exact List.Mem.tail _ (List.Mem.head _) | exact ⟨_, rfl⟩ | exact ⟨_, rfl, Or.inl rfl⟩ | (refine ⟨_, rfl, Or.inr ?_⟩; (try (conv => cbv))) | (simp only [I.val] at *; first | omega | (subst_vars; rfl) | simp_all) | (refine Or.inr ?_; (try (conv => cbv)))))) (by (try (conv => cbv)); (repeat' (first | exact trivial | rfl | exact SEq.mk rfl | (exact SEq.mk (by first | assumption | (symm; assumption))) | (simp only [I.val]; done) | (simp only [I.val]; omega) | omega | assumption | (refine And.intro ?_ ?_) | exact Or.inl rfl | exact Or.inr (by assumption) | exact List.Mem.head _ | exact List.Mem.tail _ (List.Mem.head _) | exact ⟨_, rfl⟩ | exact ⟨_, rfl, Or.inl rfl⟩ | (refine ⟨_, rfl, Or.inr ?_⟩; (try (conv => cbv))) | (simp only [I.val] at *; first | omega | (subst_vars; rfl) | simp_all) | (refine Or.inr ?_; (try (conv => cbv))))))) ⟨i2, j9, L9, s3, _, _, rfl, hs3f, hL9, hj9, hJ2, by omega, by omega, by omega⟩
            · have ge : y2 = ⟨#[]⟩ := Classical.byContradiction ge
              have hne : mkLine x.data.toList = [] := (bol_nil _).1 (by rw [← hy2]; exact ge)
              rw [addL, if_pos hne] at hJ2
              conv => cbv
              refine Fit.mk (by show (-9223372036854775808 : Int) ≤ i + 1; omega) (by show i + 1 ≤ 9223372036854775807; omega) fun i2 hi2 => ?_
              have hi2 : i2 = i + 1 := hi2
              rw [show i.toNat + 1 = i2.toNat by omega] at hJ2
              conv => cbv
              refine Again.mk k' _ (Nat.lt_succ_self _) (Re.of [(0, 0)] [] (by first | exact Nat.zero_le _ | exact Nat.le_refl _ | decide | (dsimp only; decide)) rfl rfl (by (try (conv => cbv)); (repeat' (first | exact trivial | rfl | exact SEq.mk rfl | (exact SEq.mk (by first | assumption | (symm; assumption))) | (simp only [I.val]; done) | (simp only [I.val]; omega) | omega | assumption | (refine And.intro ?_ ?_) | exact Or.inl rfl | exact Or.inr (by assumption) | exact List.Mem.head _ | exact List.Mem.tail _ (List.Mem.head _) | exact ⟨_, rfl⟩ | exact ⟨_, rfl, Or.inl rfl⟩ | (refine ⟨_, rfl, Or.inr ?_⟩; (try (conv => cbv))) | (simp only [I.val] at *; first | omega | (subst_vars; rfl) | simp_all) | (refine Or.inr ?_; (try (conv => cbv)))))) (by (try (conv => cbv)); (repeat' (first | exact trivial | rfl | exact SEq.mk rfl | (exact SEq.mk (by first | assumption | (symm; assumption))) | (simp only [I.val]; done) | (simp only [I.val]; omega) | omega | assumption | (refine And.intro ?_ ?_) | exact Or.inl rfl | exact Or.inr (by assumption) | exact List.Mem.head _ | exact List.Mem.tail _ (List.Mem.head _) | exact ⟨_, rfl⟩ | exact ⟨_, rfl, Or.inl rfl⟩ | (refine ⟨_, rfl, Or.inr ?_⟩; (try (conv => cbv))) | (simp only [I.val] at *; first | omega | (subst_vars; rfl) | simp_all) | (refine Or.inr ?_; (try (conv => cbv))))))) ⟨i2, j, LL, s3, _, _, rfl, hs3f, hLL, hj, hJ2, by omega, by omega, by omega⟩
          · conv => cbv
            refine Need.mk ⟨(by decide), (by decide)⟩ ?_
            conv => cbv
            refine Need.mk ⟨(by decide), (by decide)⟩ ?_
            conv => cbv
            refine Need.mk (by have h := hyAs; rw [hyA] at h; show y.size + (bytesOfL (segA 0)).size ≤ 9223372036854775807; omega) ?_
            conv => cbv
            refine Str.mk fun s1 hs1 => ?_
            have hs1 : s1 = y ++ yA := by rw [hyA]; exact hs1
            have hss1 : s1.size = y.size + yA.size := by rw [hs1, ByteArray.size_append]
            conv => cbv
            refine Need.mk (by show s1.size + y2.size ≤ 9223372036854775807; omega) ?_
            conv => cbv
            refine Str.mk fun s2 hs2 => ?_
            have hs2 : s2 = s1 ++ y2 := hs2
            have hss2 : s2.size = s1.size + y2.size := by rw [hs2, ByteArray.size_append]
            conv => cbv
            refine Need.mk (by have h := hyBs; rw [hyB] at h; show s2.size + (bytesOfL (segB 0)).size ≤ 9223372036854775807; omega) ?_
            conv => cbv
            refine Str.mk fun s3 hs3 => ?_
            have hs3 : s3 = s2 ++ yB := by rw [hyB]; exact hs3
            have hss3 : s3.size = s2.size + yB.size := by rw [hs3, ByteArray.size_append]
            conv => cbv
            have hs3f : s3 = bytesOfL (sb ++ segA 0 ++ mkLine x.data.toList ++ segB 0) := by rw [hs3, hs2, hs1, hy, hyA, hy2, hyB, bol_app2, bol_app2, bol_app2]
            have hJ2 := joined_next 0 hJ (line_clean x.data.toList) (line_le x.data.toList)
            have hjl : (LL.length : Int) = j := by rw [hLL, spv_length, hj, hll]
            have hjb : j ≤ 20 := by rw [hj, hll]; have := hJ.2.2.2; omega
            have hj00 : 0 ≤ j := by omega
            refine Br.mk (fun ge => ?_) (fun ge => ?_)
            · have ge : ¬ y2 = ⟨#[]⟩ := ge
              have hne : ¬ mkLine x.data.toList = [] := fun h => ge (by rw [hy2, h]; rfl)
              rw [addL, if_neg hne] at hJ2
              conv => cbv
              refine Room.new rfl ?_
              conv => cbv
              refine Room.new ⟨?_, ?_, ?_⟩ ?_
              · show (LL.length : Int) = j * 1; omega
              · show (j + 1) * 16 ≤ 140737488355328; omega
              · show j + 1 ≤ 9223372036854775807; omega
              conv => cbv
              refine Upd.mk fun L9 hL9 => ?_
              have hL9 : L9 = LL ++ [.str fun _ => y2] := hL9
              have hL9 : L9 = spv (ls ++ [mkLine x.data.toList]) := by rw [hL9, hLL, hy2, spv_app]
              conv => cbv
              refine Sum.mk fun j9 hj9 => ?_
              have hj9 : j9 = j + 1 := hj9
              have hj9 : j9 = ll (ls ++ [mkLine x.data.toList]) := by rw [hj9, hj, hll, hll, List.length_append]; rfl
              conv => cbv
              refine Fit.mk (by show (-9223372036854775808 : Int) ≤ i + 1; omega) (by show i + 1 ≤ 9223372036854775807; omega) fun i2 hi2 => ?_
              have hi2 : i2 = i + 1 := hi2
              rw [show i.toNat + 1 = i2.toNat by omega] at hJ2
              conv => cbv
              refine Again.mk k' _ (Nat.lt_succ_self _) (Re.of [(4, 0)] [] (by first | exact Nat.zero_le _ | exact Nat.le_refl _ | decide | (dsimp only; decide)) rfl rfl (by (try (conv => cbv)); (repeat' (first | exact trivial | rfl | exact SEq.mk rfl | (exact SEq.mk (by first | assumption | (symm; assumption))) | (simp only [I.val]; done) | (simp only [I.val]; omega) | omega | assumption | (refine And.intro ?_ ?_) | exact Or.inl rfl | exact Or.inr (by assumption) | exact List.Mem.head _ | exact List.Mem.tail _ (List.Mem.head _) | exact ⟨_, rfl⟩ | exact ⟨_, rfl, Or.inl rfl⟩ | (refine ⟨_, rfl, Or.inr ?_⟩; (try (conv => cbv))) | (simp only [I.val] at *; first | omega | (subst_vars; rfl) | simp_all) | (refine Or.inr ?_; (try (conv => cbv)))))) (by (try (conv => cbv)); (repeat' (first | exact trivial | rfl | exact SEq.mk rfl | (exact SEq.mk (by first | assumption | (symm; assumption))) | (simp only [I.val]; done) | (simp only [I.val]; omega) | omega | assumption | (refine And.intro ?_ ?_) | exact Or.inl rfl | exact Or.inr (by assumption) | exact List.Mem.head _ | exact List.Mem.tail _ (List.Mem.head _) | exact ⟨_, rfl⟩ | exact ⟨_, rfl, Or.inl rfl⟩ | (refine ⟨_, rfl, Or.inr ?_⟩; (try (conv => cbv))) | (simp only [I.val] at *; first | omega | (subst_vars; rfl) | simp_all) | (refine Or.inr ?_; (try (conv => cbv))))))) ⟨i2, j9, L9, s3, _, _, rfl, hs3f, hL9, hj9, hJ2, by omega, by omega, by omega⟩
            · have ge : y2 = ⟨#[]⟩ := Classical.byContradiction ge
              have hne : mkLine x.data.toList = [] := (bol_nil _).1 (by rw [← hy2]; exact ge)
              rw [addL, if_pos hne] at hJ2
              conv => cbv
              refine Fit.mk (by show (-9223372036854775808 : Int) ≤ i + 1; omega) (by show i + 1 ≤ 9223372036854775807; omega) fun i2 hi2 => ?_
              have hi2 : i2 = i + 1 := hi2
              rw [show i.toNat + 1 = i2.toNat by omega] at hJ2
              conv => cbv
              refine Again.mk k' _ (Nat.lt_succ_self _) (Re.of [(0, 0)] [] (by first | exact Nat.zero_le _ | exact Nat.le_refl _ | decide | (dsimp only; decide)) rfl rfl (by (try (conv => cbv)); (repeat' (first | exact trivial | rfl | exact SEq.mk rfl | (exact SEq.mk (by first | assumption | (symm; assumption))) | (simp only [I.val]; done) | (simp only [I.val]; omega) | omega | assumption | (refine And.intro ?_ ?_) | exact Or.inl rfl | exact Or.inr (by assumption) | exact List.Mem.head _ | exact List.Mem.tail _ (List.Mem.head _) | exact ⟨_, rfl⟩ | exact ⟨_, rfl, Or.inl rfl⟩ | (refine ⟨_, rfl, Or.inr ?_⟩; (try (conv => cbv))) | (simp only [I.val] at *; first | omega | (subst_vars; rfl) | simp_all) | (refine Or.inr ?_; (try (conv => cbv)))))) (by (try (conv => cbv)); (repeat' (first | exact trivial | rfl | exact SEq.mk rfl | (exact SEq.mk (by first | assumption | (symm; assumption))) | (simp only [I.val]; done) | (simp only [I.val]; omega) | omega | assumption | (refine And.intro ?_ ?_) | exact Or.inl rfl | exact Or.inr (by assumption) | exact List.Mem.head _ | exact List.Mem.tail _ (List.Mem.head _) | exact ⟨_, rfl⟩ | exact ⟨_, rfl, Or.inl rfl⟩ | (refine ⟨_, rfl, Or.inr ?_⟩; (try (conv => cbv))) | (simp only [I.val] at *; first | omega | (subst_vars; rfl) | simp_all) | (refine Or.inr ?_; (try (conv => cbv))))))) ⟨i2, j, LL, s3, _, _, rfl, hs3f, hLL, hj, hJ2, by omega, by omega, by omega⟩
    · have gi2 : ¬ i < 20 := gi2
      have hcl : closed (partsOf sb) = ls := by rw [hJ.1]; rfl
      have hsl : sb.length ≤ 2000 := by have := hJ.2.2.1; omega
      have hll2 : ls.length ≤ 60 := by have := hJ.2.2.2; omega
      have hjL : j = ls.length := by rw [hj, hll]
      conv => cbv
      by_cases hls : ls = []
      · have hj0 : j = 0 := by rw [hjL, hls]; rfl
        refine callF_frame (lines_none sb y hy hJ.2.1 hsl (hcl.trans hls)) [] rfl trivial rfl rfl (fun r h' n' ⟨e1, e2, e3⟩ => ?_)
        subst e1 e2 e3
        conv => cbv
        refine Br.mk (fun g => ?_) (fun g => ?_)
        case refine_2 =>
          have gf : False := g hj0
          cases gf
        conv => cbv
        refine callF_frame awake01_lx [] rfl trivial rfl rfl (fun r h' n' ⟨e1, e2, e3⟩ => ?_)
        subst e1 e2 e3
        conv => cbv
        refine Br.mk (fun g => ?_) (fun g => ?_)
        case refine_2 =>
          have gf : False := g rfl
          cases gf
        conv => cbv
        refine RetF.mk [.p (.bool true)] [] 0 (Re.of [] [] (by first | exact Nat.zero_le _ | exact Nat.le_refl _ | decide | (dsimp only; decide)) rfl rfl (by (try (conv => cbv)); (repeat' (first | exact trivial | rfl | exact SEq.mk rfl | (exact SEq.mk (by first | assumption | (symm; assumption))) | (simp only [I.val]; done) | (simp only [I.val]; omega) | omega | assumption | (refine And.intro ?_ ?_) | exact Or.inl rfl | exact Or.inr (by assumption) | exact List.Mem.head _ | exact List.Mem.tail _ (List.Mem.head _) | exact ⟨_, rfl⟩ | exact ⟨_, rfl, Or.inl rfl⟩ | (refine ⟨_, rfl, Or.inr ?_⟩; (try (conv => cbv))) | (simp only [I.val] at *; first | omega | (subst_vars; rfl) | simp_all) | (refine Or.inr ?_; (try (conv => cbv)))))) (by (try (conv => cbv)); (repeat' (first | exact trivial | rfl | exact SEq.mk rfl | (exact SEq.mk (by first | assumption | (symm; assumption))) | (simp only [I.val]; done) | (simp only [I.val]; omega) | omega | assumption | (refine And.intro ?_ ?_) | exact Or.inl rfl | exact Or.inr (by assumption) | exact List.Mem.head _ | exact List.Mem.tail _ (List.Mem.head _) | exact ⟨_, rfl⟩ | exact ⟨_, rfl, Or.inl rfl⟩ | (refine ⟨_, rfl, Or.inr ?_⟩; (try (conv => cbv))) | (simp only [I.val] at *; first | omega | (subst_vars; rfl) | simp_all) | (refine Or.inr ?_; (try (conv => cbv))))))) rfl rfl
      · have hj0 : ¬ j = 0 := by
          have := List.length_pos_iff.2 hls
          omega
        refine callF_frame (lines_lx sb y ls j hy hJ.2.1 hsl hcl.symm hjL hll2 hls) [] rfl trivial rfl rfl (fun r h' n' hrr => ?_)
        obtain ⟨L', e1, e2, e3, hL'⟩ := hrr
        subst e1 e2 e3
        conv => cbv
        refine Br.mk (fun g => ?_) (fun g => ?_)
        case refine_1 =>
          have gf : False := hj0 g
          cases gf
        conv => cbv
        refine callF_frame awake01_lx [] rfl trivial rfl rfl (fun r h' n' ⟨e1, e2, e3⟩ => ?_)
        subst e1 e2 e3
        conv => cbv
        refine Br.mk (fun g => ?_) (fun g => ?_)
        case refine_2 =>
          have gf : False := g rfl
          cases gf
        conv => cbv
        refine callF_lend (plainstr_lx (ls.map bytesOfL) (ls.map bytesOfL) j j L' LL (by rw [List.length_map]; exact hjL) (by rw [List.length_map]; exact hjL) (by rw [hL']; exact preS_spv _) (by rw [hLL]; exact preS_spv _) (by rw [List.length_map]; omega)) (by simp [lends, lendV, hget, I.val, pvle]) (fun r h' n' ⟨⟨b, e1, _⟩, e2, e3⟩ => by subst e1 e2; exact ⟨trivial, trivial⟩) (fun r h' n' hrr => ?_)
        obtain ⟨⟨b, e1, hb⟩, e2, e3⟩ := hrr
        obtain rfl : b = true := hb.2 rfl
        subst e1 e2 e3
        conv => cbv
        refine RetF.mk [.p (.bool true)] [] 0 (Re.of [] [] (by first | exact Nat.zero_le _ | exact Nat.le_refl _ | decide | (dsimp only; decide)) rfl rfl (by (try (conv => cbv)); (repeat' (first | exact trivial | rfl | exact SEq.mk rfl | (exact SEq.mk (by first | assumption | (symm; assumption))) | (simp only [I.val]; done) | (simp only [I.val]; omega) | omega | assumption | (refine And.intro ?_ ?_) | exact Or.inl rfl | exact Or.inr (by assumption) | exact List.Mem.head _ | exact List.Mem.tail _ (List.Mem.head _) | exact ⟨_, rfl⟩ | exact ⟨_, rfl, Or.inl rfl⟩ | (refine ⟨_, rfl, Or.inr ?_⟩; (try (conv => cbv))) | (simp only [I.val] at *; first | omega | (subst_vars; rfl) | simp_all) | (refine Or.inr ?_; (try (conv => cbv)))))) (by (try (conv => cbv)); (repeat' (first | exact trivial | rfl | exact SEq.mk rfl | (exact SEq.mk (by first | assumption | (symm; assumption))) | (simp only [I.val]; done) | (simp only [I.val]; omega) | omega | assumption | (refine And.intro ?_ ?_) | exact Or.inl rfl | exact Or.inr (by assumption) | exact List.Mem.head _ | exact List.Mem.tail _ (List.Mem.head _) | exact ⟨_, rfl⟩ | exact ⟨_, rfl, Or.inl rfl⟩ | (refine ⟨_, rfl, Or.inr ?_⟩; (try (conv => cbv))) | (simp only [I.val] at *; first | omega | (subst_vars; rfl) | simp_all) | (refine Or.inr ?_; (try (conv => cbv))))))) rfl rfl
  · have gi : ¬ i < k1 := gi
    have hcl : closed (partsOf sb) = ls := by rw [hJ.1]; rfl
    have hsl : sb.length ≤ 2000 := by have := hJ.2.2.1; omega
    have hll2 : ls.length ≤ 60 := by have := hJ.2.2.2; omega
    have hjL : j = ls.length := by rw [hj, hll]
    conv => cbv
    by_cases hls : ls = []
    · have hj0 : j = 0 := by rw [hjL, hls]; rfl
      refine callF_frame (lines_none sb y hy hJ.2.1 hsl (hcl.trans hls)) [] rfl trivial rfl rfl (fun r h' n' ⟨e1, e2, e3⟩ => ?_)
      subst e1 e2 e3
      conv => cbv
      refine Br.mk (fun g => ?_) (fun g => ?_)
      case refine_2 =>
        have gf : False := g hj0
        cases gf
      conv => cbv
      refine callF_frame awake01_lx [] rfl trivial rfl rfl (fun r h' n' ⟨e1, e2, e3⟩ => ?_)
      subst e1 e2 e3
      conv => cbv
      refine Br.mk (fun g => ?_) (fun g => ?_)
      case refine_2 =>
        have gf : False := g rfl
        cases gf
      conv => cbv
      refine RetF.mk [.p (.bool true)] [] 0 (Re.of [] [] (by first | exact Nat.zero_le _ | exact Nat.le_refl _ | decide | (dsimp only; decide)) rfl rfl (by (try (conv => cbv)); (repeat' (first | exact trivial | rfl | exact SEq.mk rfl | (exact SEq.mk (by first | assumption | (symm; assumption))) | (simp only [I.val]; done) | (simp only [I.val]; omega) | omega | assumption | (refine And.intro ?_ ?_) | exact Or.inl rfl | exact Or.inr (by assumption) | exact List.Mem.head _ | exact List.Mem.tail _ (List.Mem.head _) | exact ⟨_, rfl⟩ | exact ⟨_, rfl, Or.inl rfl⟩ | (refine ⟨_, rfl, Or.inr ?_⟩; (try (conv => cbv))) | (simp only [I.val] at *; first | omega | (subst_vars; rfl) | simp_all) | (refine Or.inr ?_; (try (conv => cbv)))))) (by (try (conv => cbv)); (repeat' (first | exact trivial | rfl | exact SEq.mk rfl | (exact SEq.mk (by first | assumption | (symm; assumption))) | (simp only [I.val]; done) | (simp only [I.val]; omega) | omega | assumption | (refine And.intro ?_ ?_) | exact Or.inl rfl | exact Or.inr (by assumption) | exact List.Mem.head _ | exact List.Mem.tail _ (List.Mem.head _) | exact ⟨_, rfl⟩ | exact ⟨_, rfl, Or.inl rfl⟩ | (refine ⟨_, rfl, Or.inr ?_⟩; (try (conv => cbv))) | (simp only [I.val] at *; first | omega | (subst_vars; rfl) | simp_all) | (refine Or.inr ?_; (try (conv => cbv))))))) rfl rfl
    · have hj0 : ¬ j = 0 := by
        have := List.length_pos_iff.2 hls
        omega
      refine callF_frame (lines_lx sb y ls j hy hJ.2.1 hsl hcl.symm hjL hll2 hls) [] rfl trivial rfl rfl (fun r h' n' hrr => ?_)
      obtain ⟨L', e1, e2, e3, hL'⟩ := hrr
      subst e1 e2 e3
      conv => cbv
      refine Br.mk (fun g => ?_) (fun g => ?_)
      case refine_1 =>
        have gf : False := hj0 g
        cases gf
      conv => cbv
      refine callF_frame awake01_lx [] rfl trivial rfl rfl (fun r h' n' ⟨e1, e2, e3⟩ => ?_)
      subst e1 e2 e3
      conv => cbv
      refine Br.mk (fun g => ?_) (fun g => ?_)
      case refine_2 =>
        have gf : False := g rfl
        cases gf
      conv => cbv
      refine callF_lend (plainstr_lx (ls.map bytesOfL) (ls.map bytesOfL) j j L' LL (by rw [List.length_map]; exact hjL) (by rw [List.length_map]; exact hjL) (by rw [hL']; exact preS_spv _) (by rw [hLL]; exact preS_spv _) (by rw [List.length_map]; omega)) (by simp [lends, lendV, hget, I.val, pvle]) (fun r h' n' ⟨⟨b, e1, _⟩, e2, e3⟩ => by subst e1 e2; exact ⟨trivial, trivial⟩) (fun r h' n' hrr => ?_)
      obtain ⟨⟨b, e1, hb⟩, e2, e3⟩ := hrr
      obtain rfl : b = true := hb.2 rfl
      subst e1 e2 e3
      conv => cbv
      refine RetF.mk [.p (.bool true)] [] 0 (Re.of [] [] (by first | exact Nat.zero_le _ | exact Nat.le_refl _ | decide | (dsimp only; decide)) rfl rfl (by (try (conv => cbv)); (repeat' (first | exact trivial | rfl | exact SEq.mk rfl | (exact SEq.mk (by first | assumption | (symm; assumption))) | (simp only [I.val]; done) | (simp only [I.val]; omega) | omega | assumption | (refine And.intro ?_ ?_) | exact Or.inl rfl | exact Or.inr (by assumption) | exact List.Mem.head _ | exact List.Mem.tail _ (List.Mem.head _) | exact ⟨_, rfl⟩ | exact ⟨_, rfl, Or.inl rfl⟩ | (refine ⟨_, rfl, Or.inr ?_⟩; (try (conv => cbv))) | (simp only [I.val] at *; first | omega | (subst_vars; rfl) | simp_all) | (refine Or.inr ?_; (try (conv => cbv)))))) (by (try (conv => cbv)); (repeat' (first | exact trivial | rfl | exact SEq.mk rfl | (exact SEq.mk (by first | assumption | (symm; assumption))) | (simp only [I.val]; done) | (simp only [I.val]; omega) | omega | assumption | (refine And.intro ?_ ?_) | exact Or.inl rfl | exact Or.inr (by assumption) | exact List.Mem.head _ | exact List.Mem.tail _ (List.Mem.head _) | exact ⟨_, rfl⟩ | exact ⟨_, rfl, Or.inl rfl⟩ | (refine ⟨_, rfl, Or.inr ?_⟩; (try (conv => cbv))) | (simp only [I.val] at *; first | omega | (subst_vars; rfl) | simp_all) | (refine Or.inr ?_; (try (conv => cbv))))))) rfl rfl
end Go.Proofs.Ytceijllbkmobkaa
