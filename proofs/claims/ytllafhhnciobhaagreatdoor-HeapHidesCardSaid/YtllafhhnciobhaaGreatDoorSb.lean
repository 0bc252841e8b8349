/-
  Layer 6: rows of slots.
-/
import Derived.Test.YtllafhhnciobhaaGreatDoorSa

import Derived.Lib.Repeat

namespace Go.Proofs.YtllafhhnciobhaaGreatDoor

open Go Go.LX
set_option maxRecDepth 100000
set_option linter.unusedVariables false
set_option linter.unusedSimpArgs false

abbrev Rw := Int × List Bool
def rpv : List Rw → List PV
  | [] => []
  | (c, l) :: R => .int .i64 (.sym c) :: .str (fun _ => ⟨(mkB l).toArray⟩) :: rpv R
theorem rpv_length : ∀ R : List Rw, (rpv R).length = 2 * R.length
  | [] => rfl
  | (c, l) :: R => by simp [rpv, rpv_length R]; omega
theorem rpv_get : ∀ (R : List Rw) (i : Nat) (e : Rw), R[i]? = some e → (rpv R)[2 * i]? = some (.int .i64 (.sym e.1)) ∧ (rpv R)[2 * i + 1]? = some (.str fun _ => ⟨(mkB e.2).toArray⟩)
  | [], i, e, h => by simp at h
  | (c, l) :: R, 0, e, h => by simp at h; subst h; exact ⟨rfl, rfl⟩
  | (c, l) :: R, i + 1, e, h => by
    have := rpv_get R i e (by simpa using h)
    rw [show 2 * (i + 1) = 2 * i + 1 + 1 by omega]
    simpa [rpv] using this
theorem repeatL_dot : ∀ k, Lib.repeatL [46] k = mkB (List.replicate k false)
  | 0 => rfl
  | k + 1 => by rw [Lib.repeatL, repeatL_dot k, List.replicate_succ]; rfl
theorem repeat_lx (k : Nat) (z : ByteArray) (hz : z = ⟨(mkB (List.replicate k false)).toArray⟩) (hk : k ≤ 100) :
    CallF (fun _ => Tryz.prog) 117 [.p (.str fun _ => ⟨#[46]⟩), .p (.int .i64 (.sym k))] [] 0 (fun r h n => r = .p (.str fun _ => z) ∧ h = [] ∧ n = 0) := by
  refine callF_calls (K := fun r => r = .p (.str fun _ => z)) ⟨_, _, Tryz.func117, by kernel_rfl, rfl⟩ fun c w xs hr hN hl hrel => ?_
  have h0 := hrel 0 _ rfl
  have h1 := hrel 1 _ rfl
  obtain ⟨x, y, rfl⟩ : ∃ x y, xs = #[x, y] := by
    rcases xs with ⟨l⟩
    match l, hl with
    | [x, y], _ => exact ⟨x, y, rfl⟩
  have hx : x = .string ⟨#[46]⟩ := LR.inv_str h0
  have hy : y = .int .i64 k := LR.inv_int h1
  subst hx hy
  refine (Tryz.strings_Repeat ⟨#[46]⟩ k w (by omega) (by show 1 * k ≤ _; omega)).mono fun e w' ⟨he, hw⟩ => ?_
  have hzz : (⟨(Lib.repeatL [46] k).toArray⟩ : ByteArray) = z := by rw [hz, repeatL_dot]
  have he : e = .returned (.string ⟨(Lib.repeatL [46] k).toArray⟩) := he
  rw [hzz] at he
  exact ⟨_, _, he, rfl, hw, fun c' => .p _ _ (.str _)⟩
theorem unusedRow_lx (c : Int) (z : ByteArray) (hz : z = ⟨(mkB (List.replicate (slotsOf c) false)).toArray⟩) : CallF (fun _ => Tryz.prog) 106 [.p (.int .i64 (.sym c))] [] 0 (fun r h n => r = .agg [.p (.int .i64 (.sym c)), .p (.str fun _ => z)] ∧ h = [] ∧ n = 0) := by
  obtain ⟨k, hk⟩ : ∃ k : Int, k = slotsOf c := ⟨_, rfl⟩
  have hk8 : slotsOf c ≤ 8 := by
    unfold slotsOf; split
    · omega
    · split
      · omega
      · split
        · omega
        · split <;> omega
  refine callF_of_body tok Tryz.func106 (by kernel_rfl) rfl rfl rfl ?_; conv => cbv
  refine callF_frame (slots_lx c k hk) [] rfl trivial rfl rfl (fun r h' n' ⟨e1, e2, e3⟩ => ?_)
  subst e1 e2 e3
  obtain ⟨q, hq⟩ : ∃ q, q = slotsOf c := ⟨_, rfl⟩
  rw [← hq] at hk hk8 hz
  subst hk
  conv => cbv
  refine callF_frame (repeat_lx q z hz (by omega)) [] rfl trivial rfl rfl (fun r h' n' ⟨e1, e2, e3⟩ => ?_)
  subst e1 e2 e3
  conv => cbv
  refine RetF.mk [.agg [.p (.int .i64 (.sym c)), .p (.str fun _ => z)]] [] 0 (Re.at [] []) rfl ⟨rfl, rfl, rfl⟩
theorem spanNew_bad (n : Int) (hn : n < 2 ∨ 128 < n) : CallF (fun _ => Tryz.prog) 73 [.p (.int .i64 (.sym n))] [] 0 (fun r h m => (∃ e : Int, r = .tup [.p .nilp, .p (.int .i64 (.sym e))] ∧ e ≠ 0) ∧ h = [] ∧ m = 0) := by
  refine callF_of_body tok Tryz.func73 (by kernel_rfl) rfl rfl rfl ?_; conv => cbv
  refine Br.mk (fun g1 => ?_) (fun g1 => ?_)
  · conv => cbv
    refine RetF.mk [.p .nilp, .p (.int .i64 (.sym 1))] [] 0 (Re.at [] []) rfl ⟨⟨1, rfl, by decide⟩, rfl, rfl⟩
  · have g1 : ¬ n < 2 := g1
    conv => cbv
    refine Br.mk (fun g2 => ?_) (fun g2 => ?_)
    · conv => cbv
      refine RetF.mk [.p .nilp, .p (.int .i64 (.sym 1))] [] 0 (Re.at [] []) rfl ⟨⟨1, rfl, by decide⟩, rfl, rfl⟩
    · have g2 : ¬ 128 < n := g2
      have gf : False := by omega
      cases gf
theorem rpv_zero : ∀ k, pvles (repsP [.int .i64 (.lit 0), .str fun _ => ⟨#[]⟩] k) (rpv (List.replicate k (0, [])))
  | 0 => trivial
  | k + 1 => by
    rw [repsP, List.replicate_succ, rpv]
    exact ⟨by simp [pvle, I.val], SEq.mk rfl, rpv_zero k⟩
theorem spanNew_lx (n : Int) (h2 : 2 ≤ n) (h8 : n ≤ 128) (L : List PV) (hL : L = rpv (List.replicate n.toNat (0, []))) : CallF (fun _ => Tryz.prog) 73 [.p (.int .i64 (.sym n))] [] 0
    (fun r h m => r = .tup [.ptr 0 (.lit 0), .p (.int .i64 (.lit 0))] ∧ h = [(0, .mix [.sl 1 101 2 (.lit 0) (.sym n)]), (1, .pure true L)] ∧ m = 2) := by
  refine callF_of_body tok Tryz.func73 (by kernel_rfl) rfl rfl rfl ?_; conv => cbv
  refine Br.mk (fun g1 => ?_) (fun g1 => ?_)
  · have gf : False := by have g1 : n < 2 := g1; omega
    cases gf
  · conv => cbv
    refine Br.mk (fun g2 => ?_) (fun g2 => ?_)
    · have gf : False := by have g2 : 128 < n := g2; omega
      cases gf
    · conv => cbv
      refine Need.mk ⟨by show 0 ≤ n; omega, Int.le_refl _, by show n * 24 ≤ 140737488355328; omega, by show n ≤ 9223372036854775807; omega⟩ ?_
      conv => cbv
      refine Upd.mk fun L0 hL0 => ?_
      have hle : pvles L0 L := by
        have hL0 : L0 = repsP [.int .i64 (.lit 0), .str fun _ => ⟨#[]⟩] n.toNat := hL0
        rw [hL0, hL]; exact rpv_zero _
      clear hL0 hL
      unfold pvles at hle
      conv => cbv
      refine RetF.mk [.ptr 0 (.lit 0), .p (.int .i64 (.lit 0))] [(0, .mix [.sl 1 101 2 (.lit 0) (.sym n)]), (1, .pure true L)] 2 (Re.at [(1, 0), (0, 1)] []) rfl ⟨rfl, rfl, rfl⟩
theorem rpv_upd : ∀ (R : List Rw) (i : Nat) (c : Int) (l l2 : List Bool), R[i]? = some (c, l) → updL (rpv R) (2 * i + 1) [.str fun _ => ⟨(mkB l2).toArray⟩] = rpv (R.set i (c, l2))
  | [], i, c, l, l2, h => by simp at h
  | (c1, l1) :: R, 0, c, l, l2, h => by
    simp at h
    obtain ⟨rfl, rfl⟩ := h
    rfl
  | (c1, l1) :: R, i + 1, c, l, l2, h => by
    have ih := rpv_upd R i c l l2 (by simpa using h)
    simp only [updL] at ih ⊢
    rw [List.set_cons_succ, rpv, rpv, ← ih, show 2 * (i + 1) + 1 = 2 * i + 1 + 1 + 1 by omega, List.set_cons_succ, List.set_cons_succ]
set_option maxHeartbeats 2000000 in
theorem mark_lx (R : List Rw) (n i j sg cl : Int) (l : List Bool) (L : List PV) (hL : L = rpv R) (hn : n = R.length) (hi0 : 0 ≤ i) (hi : R[i.toNat]? = some (cl, l)) (hll : l.length ≤ 8) (hR : R.length ≤ 1000) (b : Bool) (hs : sg = if b then 120 else 46) :
    CallF (fun _ => Tryz.prog) 108 [.ptr 0 (.lit 0), .p (.int .i64 (.sym i)), .p (.int .i64 (.sym j)), .p (.int .i32 (.sym sg))] [(0, .mix [.sl 1 101 2 (.lit 0) (.sym n)]), (1, .pure true L)] 2
      (fun r h n' => ∃ L' : List PV, r = .tup [] ∧ h = [(0, .mix [.sl 1 101 2 (.lit 0) (.sym n)]), (1, .pure true L')] ∧ n' = 2 ∧ L' = rpv (R.set i.toNat (cl, if 0 ≤ j then l.set j.toNat b else l))) := by
  have hiR : i.toNat < R.length := (List.getElem?_eq_some_iff.1 hi).1
  obtain ⟨y, hy⟩ : ∃ y : ByteArray, y = ⟨(mkB l).toArray⟩ := ⟨_, rfl⟩
  obtain ⟨c1, c2⟩ := rpv_get R i.toNat _ hi
  dsimp only at c1 c2
  rw [← hL] at c1 c2
  rw [← hy] at c2
  refine callF_of_body tok Tryz.func108 (by kernel_rfl) rfl rfl rfl ?_; conv => cbv
  refine Need.mk ⟨hi0, by show i < n; omega⟩ ?_
  conv => cbv
  refine Sum.mk fun w hw => ?_
  have hw : w = i * 2 := hw
  conv => cbv
  refine Sum.mk fun a ha => ?_
  have ha : a = w + 1 := ha
  conv => cbv
  refine Cell.at a _ c2 (by simp [I.val]) (by omega) ?_
  conv => cbv
  obtain ⟨l2, hl2⟩ : ∃ l2, l2 = (if 0 ≤ j then l.set j.toNat b else l) := ⟨_, rfl⟩
  have hl2l : l2.length = l.length := by rw [hl2]; split <;> simp
  obtain ⟨N, hN⟩ : ∃ N : Int, N = l.length := ⟨_, rfl⟩
  have hys : (y.size : Int) = N := by rw [hy, mk_size, mkB_length, hN]
  have hsg : 0 ≤ sg ∧ sg ≤ 127 ∧ sg.toNat.toUInt8 = (if b then 120 else 46) := by cases b <;> simp at hs <;> subst hs <;> decide
  refine LoopF.mk (fun k s => ∃ (pos q : Int) (M : List PV) (t : ByteArray), s = ⟨.ptr 0 (.lit 0) :: .p (.int .i64 (.sym i)) :: .p (.int .i64 (.sym j)) :: .p (.int .i32 (.sym sg)) :: (undefs 4 ++ .ptr 2 (.lit 0) :: (undefs 10 ++ .ptr 3 (.lit 0) :: undefs 18)), [(3, .iter (fun _ => y) (.sym pos)), (2, .bld 138 [.sl 4 5 1 (.lit 0) (.sym q)]), (4, .pure true M), (0, .mix [.sl 1 101 2 (.lit 0) (.sym n)]), (1, .pure true L)], 5⟩ ∧ 0 ≤ pos ∧ pos ≤ N ∧ M = bytesPV t ∧ q = t.size ∧ t = ⟨(mkB (l2.take pos.toNat)).toArray⟩ ∧ k = (N - pos).toNat) N.toNat _
    (Re.at [(0, 0), (1, 1), (2, 2), (3, 3)] [4]) ⟨0, 0, [], ⟨#[]⟩, rfl, by omega, by omega, rfl, rfl, rfl, by omega⟩ ?_
  rintro k s ⟨pos, q, M, t, rfl, h0, h1, hM, hq, ht, hk⟩
  have hts : t.size ≤ 8 := by rw [ht, mk_size, mkB_length, List.length_take]; omega
  conv => cbv
  by_cases hend : pos = N
  · refine NextS.over (by show (y.size : Int) ≤ pos; omega) ?_
    conv => cbv
    refine drawn_sound tok (by kernel_rfl) [(5, [4, 3, 2, 1, 0]), (8, [])] [0, 1, 2, 3, 4, 5, 6, 7, 8] (by kernel_rfl) ?_; conv => cbv
    refine callF_frame (string_lx q M t hM hq) [(0, 2), (1, 4)] rfl (by simp [hmapOk, nget, hget, renB, okB, renV, renVs, rn, okVs, okV]) rfl rfl (fun r h' n' ⟨e1, e2, e3⟩ => ?_)
    subst e1 e2 e3
    conv => cbv
    refine Need.mk ⟨hi0, by show i < n; omega⟩ ?_
    conv => cbv
    refine Sum.mk fun w2 hw2 => ?_
    have hw2 : w2 = i * 2 := hw2
    conv => cbv
    refine Sum.mk fun a2 ha2 => ?_
    have ha2 : a2 = w2 + 1 := ha2
    have hLl : L.length = 2 * R.length := by rw [hL, rpv_length]
    conv => cbv
    refine Need.mk (by show a2 + ((1 : Nat) : Int) ≤ (L.length : Int); omega) ?_
    conv => cbv
    refine Upd.mk fun L2 hL2 => ?_
    have hL2 : L2 = updL L a2.toNat [.str fun _ => t] := hL2
    have q1 : L2 = rpv (R.set i.toNat (cl, l2)) := by
      have ht2 : t = ⟨(mkB l2).toArray⟩ := by rw [ht, List.take_of_length_le (by omega)]
      rw [hL2, hL, show a2.toNat = 2 * i.toNat + 1 by omega, ht2]
      exact rpv_upd R i.toNat cl l l2 hi
    rw [hl2] at q1
    clear hL2
    conv => cbv
    refine RetF.mk [] [(0, .mix [.sl 1 101 2 (.lit 0) (.sym n)]), (1, .pure true L2)] 2 (Re.at [(0, 0), (1, 1)] []) rfl ⟨L2, rfl, rfl, rfl, q1⟩
  · obtain ⟨x, hb⟩ : ∃ x, l[pos.toNat]? = some x := ⟨_, List.getElem?_eq_getElem (by omega)⟩
    have hx : (mkB l)[pos.toNat]? = some (if x then 120 else 46) := by rw [mkB, List.getElem?_map, hb]; rfl
    have hd := dec_at (mkB l) (mkB_low l) pos.toNat _ hx
    rw [← hy] at hd
    refine NextS.more (by show pos < (y.size : Int); omega) ?_
    intro r p' hr hp
    have hr : r = (if x then 120 else 46) := by
      have : r = ((Utf8.decode y pos.toNat).1 : Int) := hr
      rw [this, hd]; cases x <;> rfl
    have hp : p' = pos + 1 := by
      have : p' = pos + ((Utf8.decode y pos.toNat).2 : Int) := hp
      rw [this, hd]; rfl
    have hrg : 0 ≤ r ∧ r ≤ 127 ∧ r.toNat.toUInt8 = (if x then 120 else 46) := by cases x <;> simp at hr <;> subst hr <;> decide
    have hnx : ∀ (v : Bool), l2[pos.toNat]? = some v → t ++ ⟨#[if v then 120 else 46]⟩ = ⟨(mkB (l2.take p'.toNat)).toArray⟩ := by
      intro v hv
      rw [show p'.toNat = pos.toNat + 1 by omega, List.take_add_one, hv, ht]
      apply ByteArray.ext
      apply Array.ext'
      simp [ByteArray.data_append, mkB]
    obtain ⟨k', rfl⟩ : ∃ k', k = k' + 1 := ⟨k - 1, by omega⟩
    conv => cbv
    refine Br.mk (fun g => ?_) (fun g => ?_)
    · have g : pos = j := g
      have hv : l2[pos.toNat]? = some b := by
        rw [hl2, if_pos (by omega), ← g, List.getElem?_set_self (by omega)]
      have hn2 := hnx b hv
      rw [← hsg.2.2] at hn2
      conv => cbv
      refine callF_frame (writeRune_lx q sg M t hM hq hsg.1 hsg.2.1 (by omega)) [(0, 2), (1, 4)] rfl (by simp [hmapOk, nget, hget, renB, okB, renV, renVs, rn, okVs, okV]) rfl rfl (fun r h' n' ⟨m2, k2, L2, e1, e2, e3, hL2, hk2⟩ => ?_)
      subst e1 e2 e3
      conv => cbv
      refine Again.mk k' _ (Nat.lt_succ_self _) (Re.at [(0, 0), (1, 1), (2, 2), (3, 3), (5, 4)] []) ⟨p', k2, L2, _, rfl, by omega, by omega, hL2, hk2, hn2, by omega⟩
    · have g : ¬ pos = j := g
      have hv : l2[pos.toNat]? = some x := by
        rw [hl2]
        split
        · rw [List.getElem?_set_ne (by omega)]; exact hb
        · exact hb
      have hn2 := hnx x hv
      rw [← hrg.2.2] at hn2
      conv => cbv
      refine callF_frame (writeRune_lx q r M t hM hq hrg.1 hrg.2.1 (by omega)) [(0, 2), (1, 4)] rfl (by simp [hmapOk, nget, hget, renB, okB, renV, renVs, rn, okVs, okV]) rfl rfl (fun r h' n' ⟨m2, k2, L2, e1, e2, e3, hL2, hk2⟩ => ?_)
      subst e1 e2 e3
      conv => cbv
      refine Again.mk k' _ (Nat.lt_succ_self _) (Re.at [(0, 0), (1, 1), (2, 2), (3, 3), (5, 4)] []) ⟨p', k2, L2, _, rfl, by omega, by omega, hL2, hk2, hn2, by omega⟩
theorem rpv_upd2 : ∀ (R : List Rw) (i : Nat) (c : Int) (l2 : List Bool) (z : ByteArray), z = ⟨(mkB l2).toArray⟩ → i < R.length → updL (rpv R) (2 * i) [.int .i64 (.sym c), .str fun _ => z] = rpv (R.set i (c, l2))
  | [], i, c, l2, z, _, h => by simp at h
  | (c1, l1) :: R, 0, c, l2, z, hz, _ => by subst hz; rfl
  | (c1, l1) :: R, i + 1, c, l2, z, hz, h => by
    have ih := rpv_upd2 R i c l2 z hz (by simpa using h)
    simp only [updL] at ih ⊢
    rw [List.set_cons_succ, rpv, rpv, ← ih]
    rfl
/-- What becomes of rows in which a slot is asked for. -/
inductive Alloced (R : List Rw) (c : Int) : Int → Int → Bool → List Rw → Prop
  | no (h : slotsOf c = 0) : Alloced R c 0 0 false R
  | old (i s : Nat) (l : List Bool) (h0 : slotsOf c ≠ 0) (hi : R[i]? = some (c, l)) (hs : l[s]? = some false) (h1 : ∀ j, j < s → l[j]? = some true) (h2 : ∀ (j : Nat), j < i → ∀ (m : List Bool), R[j]? = some (c, m) → false ∉ m) : Alloced R c i s true (R.set i (c, l.set s true))
  | fresh (i : Nat) (d : Int) (h0 : slotsOf c ≠ 0) (h2 : ∀ (j : Nat) (m : List Bool), R[j]? = some (c, m) → false ∉ m) (hi : R[i]? = some (d, [])) (h3 : ∀ (j : Nat), j < i → ∀ (d' : Int), R[j]? ≠ some (d', [])) : Alloced R c i 0 true (R.set i (c, (List.replicate (slotsOf c) false).set 0 true))
  | full (h0 : slotsOf c ≠ 0) (h2 : ∀ (j : Nat) (m : List Bool), R[j]? = some (c, m) → false ∉ m) (h3 : ∀ (j : Nat) (d' : Int), R[j]? ≠ some (d', [])) : Alloced R c 0 0 false R
theorem mkB_nil (l : List Bool) : (⟨(mkB l).toArray⟩ : ByteArray) = ⟨#[]⟩ ↔ l = [] := by
  constructor
  · intro h
    have h2 : (mkB l).toArray = #[] := congrArg ByteArray.data h
    have h3 : mkB l = [] := by simpa using h2
    exact List.map_eq_nil_iff.1 h3
  · rintro rfl; rfl
set_option maxHeartbeats 4000000 in
theorem alloc_lx (R : List Rw) (n c : Int) (L : List PV) (hL : L = rpv R) (hn : n = R.length) (hR : R.length ≤ 1000) (hm : ∀ e ∈ R, e.2.length ≤ 8) :
    CallF (fun _ => Tryz.prog) 91 [.ptr 0 (.lit 0), .p (.int .i64 (.sym c))] [(0, .mix [.sl 1 101 2 (.lit 0) (.sym n)]), (1, .pure true L)] 2
      (fun r h n' => ∃ (i s : Int) (b : Bool) (L' : List PV) (R' : List Rw), r = .tup [.p (.int .i64 (.sym i)), .p (.int .i64 (.sym s)), .p (.bool b)] ∧ h = [(0, .mix [.sl 1 101 2 (.lit 0) (.sym n)]), (1, .pure true L')] ∧ n' = 2 ∧ L' = rpv R' ∧ Alloced R c i s b R') := by
  obtain ⟨z, hz⟩ : ∃ z : ByteArray, z = ⟨(mkB (List.replicate (slotsOf c) false)).toArray⟩ := ⟨_, rfl⟩
  have hz0 : z = ⟨#[]⟩ ↔ slotsOf c = 0 := by rw [hz, mkB_nil]; simp
  refine callF_of_body tok Tryz.func91 (by kernel_rfl) rfl rfl rfl ?_; conv => cbv
  refine callF_frame (unusedRow_lx c z hz) [] rfl trivial rfl rfl (fun r h' n' ⟨e1, e2, e3⟩ => ?_)
  subst e1 e2 e3
  conv => cbv
  refine Br.mk (fun g => ?_) (fun g => ?_)
  · have h0 := hz0.1 g
    conv => cbv
    refine RetF.mk [.p (.int .i64 (.sym 0)), .p (.int .i64 (.sym 0)), .p (.bool false)] [(0, .mix [.sl 1 101 2 (.lit 0) (.sym n)]), (1, .pure true L)] 2 (Re.at [(0, 0), (1, 1)] []) rfl ⟨0, 0, false, L, R, rfl, rfl, rfl, hL, .no h0⟩
  · have h0 : slotsOf c ≠ 0 := fun h => g (hz0.2 h)
    conv => cbv
    refine LoopF.mk (fun k s => ∃ i : Int, s = ⟨.ptr 0 (.lit 0) :: .p (.int .i64 (.sym c)) :: (undefs 5 ++ .ptr 2 (.lit 0) :: (undefs 18 ++ .sl 1 101 2 (.lit 0) (.sym n) :: .p (.int .i64 (.sym n)) :: .p (.int .i64 (.sym i)) :: undefs 49)), [(2, .pure false [.int .i64 (.sym c), .str fun _ => z]), (0, .mix [.sl 1 101 2 (.lit 0) (.sym n)]), (1, .pure true L)], 3⟩ ∧ 0 ≤ i ∧ i ≤ n ∧ (∀ (j : Nat), (j : Int) < i → ∀ (m : List Bool), R[j]? = some (c, m) → false ∉ m) ∧ k = (n - i).toNat) n.toNat _
      (Re.at [(0, 0), (1, 1), (2, 2)] []) ⟨0, rfl, by omega, by omega, fun j hj => absurd hj (by omega), by omega⟩ ?_
    rintro k s ⟨i, rfl, hi0, hi1, hno, hk⟩
    conv => cbv
    refine Br.mk (fun gi => ?_) (fun gi => ?_)
    · have gi : i < n := gi
      obtain ⟨⟨d, m⟩, he⟩ : ∃ e, R[i.toNat]? = some e := ⟨_, List.getElem?_eq_getElem (by omega)⟩
      have hml : m.length ≤ 8 := hm _ (List.mem_of_getElem? he)
      obtain ⟨y, hy⟩ : ∃ y : ByteArray, y = ⟨(mkB m).toArray⟩ := ⟨_, rfl⟩
      obtain ⟨c1, c2⟩ := rpv_get R i.toNat _ he
      dsimp only at c1 c2
      rw [← hL] at c1 c2
      rw [← hy] at c2
      obtain ⟨k', rfl⟩ : ∃ k', k = k' + 1 := ⟨k - 1, by omega⟩
      conv => cbv
      refine Need.mk ⟨hi0, gi⟩ ?_
      conv => cbv
      refine Sum.mk fun w hw => ?_
      have hw : w = i * 2 := hw
      conv => cbv
      refine Cell.at (w + 0) _ c1 rfl (by omega) ?_
      conv => cbv
      refine Cell.at (w + 1) _ c2 rfl (by omega) ?_
      conv => cbv
      refine callF_val (firstUnused_lx m y hy (by omega)) (by simp [ales, ale, renVs, renV, pvle_refl]) rfl (fun r ⟨v, b, hr, _⟩ => by subst hr; rfl) (fun r hrr => ?_)
      obtain ⟨v, b, hr, hb⟩ := hrr
      subst hr
      cases b with
      | true =>
        obtain ⟨q, hv, hq, hq2⟩ : ∃ q : Nat, v = q ∧ m[q]? = some false ∧ ∀ j, j < q → m[j]? = some true := by
          rcases hb with ⟨_, h⟩ | ⟨h, _⟩
          · exact h
          · cases h
        clear hb
        conv => cbv
        refine Br.mk (fun gd => ?_) (fun gd => ?_)
        · have gd : d = c := gd
          obtain ⟨L9, hL9⟩ : ∃ L9, L9 = rpv (R.set i.toNat (d, if 0 ≤ v then m.set v.toNat true else m)) := ⟨_, rfl⟩
          have hset : (if 0 ≤ v then m.set v.toNat true else m) = m.set q true := by rw [if_pos (by omega), show v.toNat = q by omega]
          rw [hset] at hL9
          have hAl : Alloced R c i v true (R.set i.toNat (d, m.set q true)) := by
            have := Alloced.old (R := R) (c := c) i.toNat q m h0 (gd ▸ he) hq hq2 (fun j hj m' hm' => hno j (by omega) m' hm')
            rw [gd, show i = (i.toNat : Int) by omega, hv]; exact this
          conv => cbv
          refine CallF.le (args0 := [.ptr 0 (.lit 0), .p (.int .i64 (.sym i)), .p (.int .i64 (.sym v)), .p (.int .i32 (.sym 120))]) (callF_frame (mark_lx R n i v 120 d m L hL hn hi0 he hml hR true rfl) [(0, 0), (1, 1)] rfl (by simp [hmapOk, nget, hget, renB, okB, renV, renVs, rn, okVs, okV]) rfl rfl (fun r h' n' hrr => ?_)) (by simp [ales, ale, pvle, I.val])
          obtain ⟨L2, e1, e2, e3, hL2⟩ := hrr
          rw [hset] at hL2
          subst e1 e2 e3
          conv => cbv
          refine RetF.mk [.p (.int .i64 (.sym i)), .p (.int .i64 (.sym v)), .p (.bool true)] [(0, .mix [.sl 1 101 2 (.lit 0) (.sym n)]), (1, .pure true L2)] 2 (Re.at [(0, 0), (1, 1)] []) rfl ⟨i, v, true, L2, _, rfl, rfl, rfl, hL2, hAl⟩
        · have gd : ¬ d = c := gd
          conv => cbv
          refine Fit.mk (by show (-9223372036854775808 : Int) ≤ i + 1; omega) (by show i + 1 ≤ 9223372036854775807; omega) fun i2 hi2 => ?_
          have hi2 : i2 = i + 1 := hi2
          have hno2 : ∀ (j : Nat), (j : Int) < i2 → ∀ (m : List Bool), R[j]? = some (c, m) → false ∉ m := fun j hj m' hm' => by
            by_cases e : (j : Int) = i
            · rw [show j = i.toNat by omega, he] at hm'
              have hm' := Option.some.inj hm'
              exact absurd (congrArg Prod.fst hm') gd
            · exact hno j (by omega) m' hm'
          have q1 : 0 ≤ i2 := by omega
          have q2 : i2 ≤ n := by omega
          have q3 : k' = (n - i2).toNat := by omega
          clear hk hi2
          conv => cbv
          refine Again.mk k' _ (Nat.lt_succ_self _) (Re.at [(0, 0), (1, 1), (2, 2)] []) ⟨i2, rfl, q1, q2, hno2, q3⟩
      | false =>
        have hfn : false ∉ m := by
          rcases hb with ⟨h, _⟩ | ⟨_, _, h⟩
          · cases h
          · exact h
        clear hb
        conv => cbv
        refine Fit.mk (by show (-9223372036854775808 : Int) ≤ i + 1; omega) (by show i + 1 ≤ 9223372036854775807; omega) fun i2 hi2 => ?_
        have hi2 : i2 = i + 1 := hi2
        have hno2 : ∀ (j : Nat), (j : Int) < i2 → ∀ (m : List Bool), R[j]? = some (c, m) → false ∉ m := fun j hj m' hm' => by
          by_cases e : (j : Int) = i
          · rw [show j = i.toNat by omega, he] at hm'
            have hm' := Option.some.inj hm'
            have h2 : m = m' := congrArg Prod.snd hm'; rw [← h2]; exact hfn
          · exact hno j (by omega) m' hm'
        have q1 : 0 ≤ i2 := by omega
        have q2 : i2 ≤ n := by omega
        have q3 : k' = (n - i2).toNat := by omega
        clear hk hi2
        conv => cbv
        refine Again.mk k' _ (Nat.lt_succ_self _) (Re.at [(0, 0), (1, 1), (2, 2)] []) ⟨i2, rfl, q1, q2, hno2, q3⟩
    · have gi : ¬ i < n := gi
      have hall : ∀ (j : Nat) (m : List Bool), R[j]? = some (c, m) → false ∉ m := fun j m' hm' => hno j (by have := (List.getElem?_eq_some_iff.1 hm').1; omega) m' hm'
      clear hno hk hi0 hi1 gi
      conv => cbv
      refine LoopF.mk (fun k s => ∃ i : Int, s = ⟨.ptr 0 (.lit 0) :: .p (.int .i64 (.sym c)) :: (undefs 5 ++ .ptr 2 (.lit 0) :: (undefs 48 ++ .sl 1 101 2 (.lit 0) (.sym n) :: .p (.int .i64 (.sym n)) :: .p (.int .i64 (.sym i)) :: undefs 19)), [(2, .pure false [.int .i64 (.sym c), .str fun _ => z]), (0, .mix [.sl 1 101 2 (.lit 0) (.sym n)]), (1, .pure true L)], 3⟩ ∧ 0 ≤ i ∧ i ≤ n ∧ (∀ (j : Nat), (j : Int) < i → ∀ (d : Int), R[j]? ≠ some (d, [])) ∧ k = (n - i).toNat) n.toNat _
        (Re.at [(0, 0), (1, 1), (2, 2)] []) ⟨0, rfl, by omega, by omega, fun j hj => absurd hj (by omega), by omega⟩ ?_
      rintro k s ⟨i, rfl, hi0, hi1, hno, hk⟩
      conv => cbv
      refine Br.mk (fun gi => ?_) (fun gi => ?_)
      · have gi : i < n := gi
        obtain ⟨⟨d, m⟩, he⟩ : ∃ e, R[i.toNat]? = some e := ⟨_, List.getElem?_eq_getElem (by omega)⟩
        have hml : m.length ≤ 8 := hm _ (List.mem_of_getElem? he)
        obtain ⟨y, hy⟩ : ∃ y : ByteArray, y = ⟨(mkB m).toArray⟩ := ⟨_, rfl⟩
        obtain ⟨c1, c2⟩ := rpv_get R i.toNat _ he
        dsimp only at c1 c2
        rw [← hL] at c1 c2
        rw [← hy] at c2
        obtain ⟨k', rfl⟩ : ∃ k', k = k' + 1 := ⟨k - 1, by omega⟩
        conv => cbv
        refine Need.mk ⟨hi0, gi⟩ ?_
        conv => cbv
        refine Sum.mk fun w hw => ?_
        have hw : w = i * 2 := hw
        conv => cbv
        refine Cell.at (w + 0) _ c1 rfl (by omega) ?_
        conv => cbv
        refine Cell.at (w + 1) _ c2 rfl (by omega) ?_
        conv => cbv
        refine Br.mk (fun gm => ?_) (fun gm => ?_)
        · have hm0 : m = [] := (mkB_nil m).1 (hy.symm.trans gm)
          subst hm0
          obtain ⟨RR, hRR⟩ : ∃ RR, RR = R.set i.toNat (c, List.replicate (slotsOf c) false) := ⟨_, rfl⟩
          have hRl : RR.length = R.length := by rw [hRR, List.length_set]
          have hiR : i.toNat < R.length := by omega
          have hRi : RR[i.toNat]? = some (c, List.replicate (slotsOf c) false) := by rw [hRR, List.getElem?_set_self hiR]
          have hs8 : (List.replicate (slotsOf c) false).length ≤ 8 := by
            rw [List.length_replicate]
            unfold slotsOf; split
            · omega
            · split
              · omega
              · split
                · omega
                · split <;> omega
          have hAl : Alloced R c i 0 true (RR.set i.toNat (c, (List.replicate (slotsOf c) false).set 0 true)) := by
            have := Alloced.fresh (R := R) (c := c) i.toNat d h0 hall he (fun j hj d' => hno j (by omega) d')
            rw [hRR, List.set_set, show i = (i.toNat : Int) by omega]; exact this
          have hLl : L.length = 2 * R.length := by rw [hL, rpv_length]
          conv => cbv
          refine drawn_sound tok (by kernel_rfl) [(7, [])] [0, 1, 2, 3, 4, 5, 6, 7] (by kernel_rfl) ?_; conv => cbv
          refine Need.mk ⟨hi0, gi⟩ ?_
          conv => cbv
          refine Sum.mk fun w2 hw2 => ?_
          have hw2 : w2 = i * 2 := hw2
          conv => cbv
          refine Need.mk (by show w2 + ((2 : Nat) : Int) ≤ (L.length : Int); omega) ?_
          conv => cbv
          refine Upd.mk fun L2 hL2 => ?_
          have hL2 : L2 = updL L w2.toNat [.int .i64 (.sym c), .str fun _ => z] := hL2
          have hL2 : L2 = rpv RR := by rw [hL2, hL, show w2.toNat = 2 * i.toNat by omega, hRR]; exact rpv_upd2 R i.toNat c _ z hz hiR
          have hn2 : n = RR.length := by omega
          have hRR2 : RR.length ≤ 1000 := by omega
          conv => cbv
          refine CallF.le (args0 := [.ptr 0 (.lit 0), .p (.int .i64 (.sym i)), .p (.int .i64 (.sym 0)), .p (.int .i32 (.sym 120))]) (callF_frame (mark_lx RR n i 0 120 c _ L2 hL2 hn2 hi0 hRi hs8 hRR2 true rfl) [(0, 0), (1, 1)] rfl (by simp [hmapOk, nget, hget, renB, okB, renV, renVs, rn, okVs, okV]) rfl rfl (fun r h' n' hrr => ?_)) (by simp [ales, ale, pvle, I.val])
          obtain ⟨L3, e1, e2, e3, hL3⟩ := hrr
          rw [if_pos (Int.le_refl 0)] at hL3
          subst e1 e2 e3
          conv => cbv
          refine RetF.mk [.p (.int .i64 (.sym i)), .p (.int .i64 (.sym 0)), .p (.bool true)] [(0, .mix [.sl 1 101 2 (.lit 0) (.sym n)]), (1, .pure true L3)] 2 (Re.at [(0, 0), (1, 1)] []) rfl ⟨i, 0, true, L3, _, rfl, rfl, rfl, hL3, hAl⟩
        · have hmn : m ≠ [] := fun h => gm (hy.trans ((mkB_nil m).2 h))
          conv => cbv
          refine Fit.mk (by show (-9223372036854775808 : Int) ≤ i + 1; omega) (by show i + 1 ≤ 9223372036854775807; omega) fun i2 hi2 => ?_
          have hi2 : i2 = i + 1 := hi2
          have hno2 : ∀ (j : Nat), (j : Int) < i2 → ∀ (d : Int), R[j]? ≠ some (d, []) := fun j hj d' hm' => by
            by_cases e : (j : Int) = i
            · rw [show j = i.toNat by omega, he] at hm'
              exact hmn (congrArg Prod.snd (Option.some.inj hm'))
            · exact hno j (by omega) d' hm'
          have q1 : 0 ≤ i2 := by omega
          have q2 : i2 ≤ n := by omega
          have q3 : k' = (n - i2).toNat := by omega
          clear hk hi2
          conv => cbv
          refine Again.mk k' _ (Nat.lt_succ_self _) (Re.at [(0, 0), (1, 1), (2, 2)] []) ⟨i2, rfl, q1, q2, hno2, q3⟩
      · have gi : ¬ i < n := gi
        have hall2 : ∀ (j : Nat) (d' : Int), R[j]? ≠ some (d', []) := fun j d' hm' => hno j (by have := (List.getElem?_eq_some_iff.1 hm').1; omega) d' hm'
        conv => cbv
        refine RetF.mk [.p (.int .i64 (.sym 0)), .p (.int .i64 (.sym 0)), .p (.bool false)] [(0, .mix [.sl 1 101 2 (.lit 0) (.sym n)]), (1, .pure true L)] 2 (Re.at [(0, 0), (1, 1)] []) rfl ⟨0, 0, false, L, R, rfl, rfl, rfl, hL, .full h0 hall hall2⟩
end Go.Proofs.YtllafhhnciobhaaGreatDoor
