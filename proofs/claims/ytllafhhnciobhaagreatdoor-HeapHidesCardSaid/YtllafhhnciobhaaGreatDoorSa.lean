/-
  Layer 6: classes and marks.
-/
import Derived.Test.YtllafhhnciobhaaGreatDoorBu
import Derived.Test.YtllafhhnciobhaaGreatDoorShelf

import Derived.Laws.RangeAny

namespace Go.Proofs.YtllafhhnciobhaaGreatDoor

open Go Go.LX
set_option maxRecDepth 100000
set_option linter.unusedVariables false
set_option linter.unusedSimpArgs false

theorem dec_at (l : List UInt8) (hl : ∀ c ∈ l, c.toNat < 128) (i : Nat) (c : UInt8) (h : l[i]? = some c) : Utf8.decode ⟨l.toArray⟩ i = (c.toNat, 1) := by
  have hi := (List.getElem?_eq_some_iff.1 h).1
  have hc : l[i] = c := (List.getElem?_eq_some_iff.1 h).2
  have hsz : i < (ByteArray.mk l.toArray).size := by show i < l.toArray.size; simpa using hi
  have hg : (ByteArray.mk l.toArray)[i]'hsz = c := by show l.toArray[i]'_ = c; simpa using hc
  have := decode_ascii ⟨l.toArray⟩ i hsz (by rw [hg]; exact hl c (List.mem_of_getElem? h))
  rw [this, hg]
def wordsOf (c : Int) : Int := if c = 0 then 4 else if c = 1 then 8 else if c = 2 then 16 else if c = 3 then 32 else 0
def slotsOf (c : Int) : Nat := if c = 0 then 8 else if c = 1 then 4 else if c = 2 then 2 else if c = 3 then 1 else 0
set_option maxHeartbeats 2000000 in
theorem words_lx (c w : Int) (hw : w = wordsOf c) : CallF (fun _ => Tryz.prog) 59 [.p (.int .i64 (.sym c))] [] 0 (fun r h n => r = .p (.int .i64 (.sym w)) ∧ h = [] ∧ n = 0) := by
  obtain ⟨Z, hZ⟩ : ∃ Z : List UInt8, Z = [4, 8, 16, 32] := ⟨_, rfl⟩
  refine callF_of_body tok Tryz.func59 (by kernel_rfl) rfl rfl rfl ?_; conv => cbv
  refine LoopF.mk (fun k s => ∃ pos : Int, s = ⟨.p (.int .i64 (.sym c)) :: .undef :: .undef :: .undef :: .undef :: .ptr 0 (.lit 0) :: undefs 9, [(0, .iter (fun _ => ⟨#[4, 8, 16, 32]⟩) (.sym pos))], 1⟩ ∧ 0 ≤ pos ∧ pos ≤ 4 ∧ (c < 0 ∨ pos ≤ c) ∧ k = (4 - pos).toNat) 4 _
    (Re.at [(0, 0)] []) ⟨0, rfl, by omega, by omega, by omega, by omega⟩ ?_
  rintro k s ⟨pos, rfl, h0, h4, hno, hk⟩
  conv => cbv
  by_cases hend : pos = 4
  · have hw0 : w = 0 := by
      rw [hw, wordsOf, if_neg (by omega), if_neg (by omega), if_neg (by omega), if_neg (by omega)]
    refine NextS.over (by show (4 : Int) ≤ pos; omega) ?_
    conv => cbv
    refine RetF.mk [.p (.int .i64 (.sym w))] [] 0 (Re.at [] []) rfl ⟨rfl, rfl, rfl⟩
  · obtain ⟨x, hx⟩ : ∃ x, ([4, 8, 16, 32] : List UInt8)[pos.toNat]? = some x := ⟨_, List.getElem?_eq_getElem (by simp; omega)⟩
    have hd := dec_at [4, 8, 16, 32] (by decide) pos.toNat x hx
    have hxw : c = pos → (x.toNat : Int) = w := by
      intro e
      have : pos = 0 ∨ pos = 1 ∨ pos = 2 ∨ pos = 3 := by omega
      rcases this with e2 | e2 | e2 | e2 <;> (rw [e2] at hx; rw [hw, e, e2]; have hx := Option.some.inj hx; rw [← hx]; decide)
    refine NextS.more (by show pos < (4 : Int); omega) ?_
    intro r p' hr hp
    have hr : r = (x.toNat : Int) := by
      have : r = ((Utf8.decode ⟨#[4, 8, 16, 32]⟩ pos.toNat).1 : Int) := hr
      rw [this, hd]
    have hp : p' = pos + 1 := by
      have : p' = pos + ((Utf8.decode ⟨#[4, 8, 16, 32]⟩ pos.toNat).2 : Int) := hp
      rw [this, hd]; rfl
    have hx256 : x.toNat < 256 := x.toNat_lt
    obtain ⟨k', rfl⟩ : ∃ k', k = k' + 1 := ⟨k - 1, by omega⟩
    conv => cbv
    refine Br.mk (fun g => ?_) (fun g => ?_)
    · have g : pos = c := g
      conv => cbv
      refine Fit.mk (by show (-9223372036854775808 : Int) ≤ r; omega) (by show r ≤ 9223372036854775807; omega) fun q hq => ?_
      have hq : q = r := hq
      have hqw : q = w := by rw [hq, hr]; exact hxw g.symm
      conv => cbv
      refine RetF.mk [.p (.int .i64 (.sym w))] [] 0 (Re.at [] []) rfl ⟨rfl, rfl, rfl⟩
    · have g : ¬ pos = c := g
      conv => cbv
      refine Again.mk k' _ (Nat.lt_succ_self _) (Re.at [(0, 0)] []) ⟨p', rfl, by omega, by omega, by omega, by omega⟩
/-- The marks of a row, as a text. -/
def mkB (l : List Bool) : List UInt8 := l.map fun b => if b then 120 else 46
theorem mkB_low (l : List Bool) : ∀ c ∈ mkB l, c.toNat < 128 := by
  intro c hc
  obtain ⟨b, _, rfl⟩ := List.mem_map.1 hc
  cases b <;> decide
theorem mk_size (l : List UInt8) : (ByteArray.mk l.toArray).size = l.length := by show l.toArray.size = _; simp
theorem mkB_length (l : List Bool) : (mkB l).length = l.length := List.length_map _
theorem firstUnused_lx (l : List Bool) (z : ByteArray) (hz : z = ⟨(mkB l).toArray⟩) (hl : l.length ≤ 100) : CallF (fun _ => Tryz.prog) 107 [.p (.str fun _ => z)] [] 0
    (fun r h n => (∃ (v : Int) (b : Bool), r = .tup [.p (.int .i64 (.sym v)), .p (.bool b)] ∧ ((b = true ∧ ∃ i : Nat, v = i ∧ l[i]? = some false ∧ ∀ j, j < i → l[j]? = some true) ∨ (b = false ∧ v = 0 ∧ false ∉ l))) ∧ h = [] ∧ n = 0) := by
  refine callF_of_body tok Tryz.func107 (by kernel_rfl) rfl rfl rfl ?_; conv => cbv
  obtain ⟨N, hN⟩ : ∃ N : Int, N = l.length := ⟨_, rfl⟩
  refine LoopF.mk (fun k s => ∃ (pos : Int), s = ⟨.p (.str fun _ => z) :: .undef :: .undef :: .undef :: .undef :: .undef :: .undef :: .ptr 0 (.lit 0) :: undefs 7, [(0, .iter (fun _ => z) (.sym pos))], 1⟩ ∧ 0 ≤ pos ∧ pos ≤ N ∧ (∀ j : Nat, (j : Int) < pos → l[j]? = some true) ∧ k = (N - pos).toNat) N.toNat _
    (Re.at [(0, 0)] []) ⟨0, rfl, by omega, by omega, fun j hj => absurd hj (by omega), by omega⟩ ?_
  rintro k s ⟨pos, rfl, h0, h1, hinv, hk⟩
  have hzs : (z.size : Int) = N := by rw [hz, mk_size, mkB_length, hN]
  conv => cbv
  by_cases hend : pos = N
  · refine NextS.over (by show (z.size : Int) ≤ pos; omega) ?_
    conv => cbv
    refine RetF.mk [.p (.int .i64 (.sym 0)), .p (.bool false)] [] 0 (Re.at [] []) rfl ⟨⟨0, false, rfl, .inr ⟨rfl, rfl, fun h => ?_⟩⟩, rfl, rfl⟩
    obtain ⟨j, hj⟩ := List.getElem?_of_mem h
    have := (List.getElem?_eq_some_iff.1 hj).1
    rw [hinv j (by omega)] at hj
    cases hj
  · obtain ⟨b, hb⟩ : ∃ b, l[pos.toNat]? = some b := ⟨_, List.getElem?_eq_getElem (by omega)⟩
    have hx : (mkB l)[pos.toNat]? = some (if b then 120 else 46) := by rw [mkB, List.getElem?_map, hb]; rfl
    have hd := dec_at (mkB l) (mkB_low l) pos.toNat _ hx
    rw [← hz] at hd
    refine NextS.more (by show pos < (z.size : Int); omega) ?_
    intro r p' hr hp
    have hr : r = (if b then 120 else 46) := by
      have : r = ((Utf8.decode z pos.toNat).1 : Int) := hr
      rw [this, hd]; cases b <;> rfl
    have hp : p' = pos + 1 := by
      have : p' = pos + ((Utf8.decode z pos.toNat).2 : Int) := hp
      rw [this, hd]; rfl
    obtain ⟨k', rfl⟩ : ∃ k', k = k' + 1 := ⟨k - 1, by omega⟩
    conv => cbv
    refine Br.mk (fun g => ?_) (fun g => ?_)
    · have g : r = 46 := g
      have hbf : b = false := by
        cases b with
        | false => rfl
        | true => simp at hr; omega
      conv => cbv
      refine RetF.mk [.p (.int .i64 (.sym pos)), .p (.bool true)] [] 0 (Re.at [] []) rfl ⟨⟨pos, true, rfl, .inl ⟨rfl, pos.toNat, (Int.toNat_of_nonneg h0).symm, by rw [hb, hbf], fun j hj => hinv j (by omega)⟩⟩, rfl, rfl⟩
    · have g : ¬ r = 46 := g
      have hbt : b = true := by
        cases b with
        | true => rfl
        | false => simp at hr; omega
      have hinv2 : ∀ j : Nat, (j : Int) < p' → l[j]? = some true := fun j hj => by
        by_cases e : (j : Int) = pos
        · rw [show j = pos.toNat by omega, hb, hbt]
        · exact hinv j (by omega)
      conv => cbv
      refine Again.mk k' _ (Nat.lt_succ_self _) (Re.at [(0, 0)] []) ⟨p', rfl, by omega, by omega, hinv2, by omega⟩
theorem countUsed_lx (l : List Bool) (z : ByteArray) (hz : z = ⟨(mkB l).toArray⟩) (hl : l.length ≤ 100) : CallF (fun _ => Tryz.prog) 116 [.p (.str fun _ => z)] [] 0
    (fun r h n => (∃ v : Int, r = .p (.int .i64 (.sym v)) ∧ v = l.count true) ∧ h = [] ∧ n = 0) := by
  refine callF_of_body tok Tryz.func116 (by kernel_rfl) rfl rfl rfl ?_; conv => cbv
  obtain ⟨N, hN⟩ : ∃ N : Int, N = l.length := ⟨_, rfl⟩
  refine LoopF.mk (fun k s => ∃ (pos cnt : Int), s = ⟨.p (.str fun _ => z) :: .undef :: .undef :: .p (.int .i64 (.sym cnt)) :: .undef :: .undef :: .undef :: .ptr 0 (.lit 0) :: undefs 8, [(0, .iter (fun _ => z) (.sym pos))], 1⟩ ∧ 0 ≤ pos ∧ pos ≤ N ∧ cnt = (l.take pos.toNat).count true ∧ k = (N - pos).toNat) N.toNat _
    (Re.at [(0, 0)] []) ⟨0, 0, rfl, by omega, by omega, by simp, by omega⟩ ?_
  rintro k s ⟨pos, cnt, rfl, h0, h1, hinv, hk⟩
  have hzs : (z.size : Int) = N := by rw [hz, mk_size, mkB_length, hN]
  conv => cbv
  by_cases hend : pos = N
  · refine NextS.over (by show (z.size : Int) ≤ pos; omega) ?_
    conv => cbv
    refine RetF.mk [.p (.int .i64 (.sym cnt))] [] 0 (Re.at [] []) rfl ⟨⟨cnt, rfl, ?_⟩, rfl, rfl⟩
    rw [hinv, List.take_of_length_le (by omega)]
  · obtain ⟨b, hb⟩ : ∃ b, l[pos.toNat]? = some b := ⟨_, List.getElem?_eq_getElem (by omega)⟩
    have hx : (mkB l)[pos.toNat]? = some (if b then 120 else 46) := by rw [mkB, List.getElem?_map, hb]; rfl
    have hd := dec_at (mkB l) (mkB_low l) pos.toNat _ hx
    rw [← hz] at hd
    refine NextS.more (by show pos < (z.size : Int); omega) ?_
    intro r p' hr hp
    have hr : r = (if b then 120 else 46) := by
      have : r = ((Utf8.decode z pos.toNat).1 : Int) := hr
      rw [this, hd]; cases b <;> rfl
    have hp : p' = pos + 1 := by
      have : p' = pos + ((Utf8.decode z pos.toNat).2 : Int) := hp
      rw [this, hd]; rfl
    obtain ⟨k', rfl⟩ : ∃ k', k = k' + 1 := ⟨k - 1, by omega⟩
    conv => cbv
    refine Br.mk (fun g => ?_) (fun g => ?_)
    · have g : r = 120 := g
      have hbt : b = true := by
        cases b with
        | true => rfl
        | false => simp at hr; omega
      have hcl := List.count_le_length (a := true) (l := l.take pos.toNat)
      have htl : (l.take pos.toNat).length ≤ 100 := by rw [List.length_take]; omega
      conv => cbv
      refine Fit.mk (by show (-9223372036854775808 : Int) ≤ cnt + 1; omega) (by show cnt + 1 ≤ 9223372036854775807; omega) fun c2 hc2 => ?_
      have hc2 : c2 = cnt + 1 := hc2
      have q : c2 = (l.take p'.toNat).count true := by
        rw [show p'.toNat = pos.toNat + 1 by omega, List.take_add_one, hb, hbt, List.count_append, hc2, hinv]; simp
      conv => cbv
      refine Again.mk k' _ (Nat.lt_succ_self _) (Re.at [(0, 0)] []) ⟨p', c2, rfl, by omega, by omega, q, by omega⟩
    · have g : ¬ r = 120 := g
      have hbf : b = false := by
        cases b with
        | false => rfl
        | true => simp at hr; omega
      have q : cnt = (l.take p'.toNat).count true := by
        rw [show p'.toNat = pos.toNat + 1 by omega, List.take_add_one, hb, hbf, List.count_append, hinv]; simp
      conv => cbv
      refine Again.mk k' _ (Nat.lt_succ_self _) (Re.at [(0, 0)] []) ⟨p', cnt, rfl, by omega, by omega, q, by omega⟩
theorem slots_lx (c k : Int) (hk : k = slotsOf c) : CallF (fun _ => Tryz.prog) 57 [.p (.int .i64 (.sym c))] [] 0 (fun r h n => r = .p (.int .i64 (.sym k)) ∧ h = [] ∧ n = 0) := by
  obtain ⟨w, hw⟩ : ∃ w, w = wordsOf c := ⟨_, rfl⟩
  refine callF_of_body tok Tryz.func57 (by kernel_rfl) rfl rfl rfl ?_; conv => cbv
  refine callF_frame (words_lx c w hw) [] rfl trivial rfl rfl (fun r h' n' ⟨e1, e2, e3⟩ => ?_)
  subst e1 e2 e3
  conv => cbv
  have hk2 : k = (if w = 0 then 0 else (32 : Int).tdiv w) := by
    rw [hk, hw, slotsOf, wordsOf]
    by_cases h0 : c = 0
    · rw [if_pos h0, if_pos h0]; rfl
    · by_cases h1 : c = 1
      · rw [if_neg h0, if_pos h1, if_neg h0, if_pos h1]; rfl
      · by_cases h2 : c = 2
        · rw [if_neg h0, if_neg h1, if_pos h2, if_neg h0, if_neg h1, if_pos h2]; rfl
        · by_cases h3 : c = 3
          · rw [if_neg h0, if_neg h1, if_neg h2, if_pos h3, if_neg h0, if_neg h1, if_neg h2, if_pos h3]; rfl
          · rw [if_neg h0, if_neg h1, if_neg h2, if_neg h3, if_neg h0, if_neg h1, if_neg h2, if_neg h3]; rfl
  have hk8 : 0 ≤ k ∧ k ≤ 8 := by
    rw [hk]; unfold slotsOf; split
    · omega
    · split
      · omega
      · split
        · omega
        · split <;> omega
  refine Br.mk (fun g => ?_) (fun g => ?_)
  · have g : w = 0 := g
    rw [if_pos g] at hk2
    conv => cbv
    refine RetF.mk [.p (.int .i64 (.sym k))] [] 0 (Re.at [] []) rfl ⟨rfl, rfl, rfl⟩
  · have g : ¬ w = 0 := g
    rw [if_neg g] at hk2
    conv => cbv
    refine Need.mk (show w ≠ 0 from g) ?_
    conv => cbv
    refine Fit.mk (by show (-9223372036854775808 : Int) ≤ Int.tdiv 32 w; omega) (by show Int.tdiv 32 w ≤ 9223372036854775807; omega) fun q hq => ?_
    have hq : q = Int.tdiv 32 w := hq
    have hqk : q = k := by rw [hq, hk2]
    conv => cbv
    refine RetF.mk [.p (.int .i64 (.sym k))] [] 0 (Re.at [] []) rfl ⟨rfl, rfl, rfl⟩
end Go.Proofs.YtllafhhnciobhaaGreatDoor
