/-
  Layer 3: Load of any text; few.
-/
import Derived.Test.YtfjdifeofnpcnaaDoorBf

import Derived.Test.YtfjdifeofnpcnaaDoorUl

import Derived.Test.YtfjdifeofnpcnaaDoorCb

namespace Go.Proofs.YtfjdifeofnpcnaaDoor

open Go Go.LX
set_option maxRecDepth 100000
set_option linter.unusedVariables false
set_option linter.unusedSimpArgs false
theorem read_cs {z : ByteArray} {l : List Is} {a : Int} (h : decodeV z = (l, a, 0)) : ∀ x ∈ l, Shp x ∧ x.cs.length ≤ 500 := by
  obtain ⟨⟨ls, v⟩, hlv⟩ : ∃ x, linesV z = x := ⟨_, rfl⟩
  have h0 := h
  rw [decodeV, hlv] at h
  split at h
  · rename_i hv
    have hv : v = 0 := hv
    subst hv
    have h : decsV ls 0 [] = (l, a, 0) := h
    obtain ⟨l', e1, e2, e3⟩ := decs_inv _ _ _ _ _ h
    rw [List.nil_append] at e1
    subst e1
    obtain ⟨h1, _, _, h4⟩ := map_lines _ _ e2
    intro x hx
    refine ⟨h1 x hx, ?_⟩
    obtain ⟨t, ht, hl⟩ := h4 x hx
    have h5 := (lines_ok hlv t ht).2.1
    have h6 := shp_cs (h1 x hx)
    omega
  · rename_i hv
    obtain ⟨_, h2⟩ := Prod.mk.inj h
    exact absurd (Prod.mk.inj h2).2 hv
theorem read_x64 {z : ByteArray} {l : List Is} {a : Int} (h : decodeV z = (l, a, 0)) : ∀ x ∈ l, XI64 x := fun x hx => shp_x64 (read_cs h x hx).1 (by have := (read_cs h x hx).2; omega)
theorem valid_det {l : List Is} {a e a2 e2 : Int} (h : ValidP l a e) (h2 : ValidP l a2 e2) : a = a2 ∧ e = e2 := by
  rcases h with ⟨h0, ha, he⟩ | ⟨h0, ha, he⟩ | ⟨h0, h1, hp, ha, he⟩ | ⟨h0, h1, i, x, hx, hp, ha, he⟩
  · rcases h2 with ⟨g0, ga, ge⟩ | ⟨g0, ga, ge⟩ | ⟨g0, g1, gp, ga, ge⟩ | ⟨g0, g1, j, y, hy, gp, ga, ge⟩
    · omega
    · rw [h0] at g0; simp at g0
    · exact absurd h0 g0
    · exact absurd h0 g0
  · rcases h2 with ⟨g0, ga, ge⟩ | ⟨g0, ga, ge⟩ | ⟨g0, g1, gp, ga, ge⟩ | ⟨g0, g1, j, y, hy, gp, ga, ge⟩
    · rw [g0] at h0; simp at h0
    · omega
    · omega
    · omega
  · obtain ⟨k1, k2⟩ := valid_good h2 h0 h1 hp
    omega
  · rcases he with ⟨q, r⟩ | ⟨q, q2, r⟩
    · obtain ⟨k1, k2⟩ := valid_bad h2 h0 h1 i x hx hp 5 (.inl ⟨q, rfl⟩)
      omega
    · obtain ⟨k1, k2⟩ := valid_bad h2 h0 h1 i x hx hp 6 (.inr ⟨q, q2, rfl⟩)
      omega
theorem decode_bd {z : ByteArray} {l : List Is} {a e : Int} (h : decodeV z = (l, a, e)) : l.length ≤ 60 ∧ ∀ x ∈ l, x.cs.length ≤ 2001 := by
  by_cases he : e = 0
  · subst he
    exact ⟨(read_good h).2.2.1, fun x hx => by have := (read_cs h x hx).2; omega⟩
  · rw [read_bad h he]; simp
/-- What Load tells. -/
def LoadP (z : ByteArray) (xs : List Is) (a e : Int) : Prop := ∃ l a1 e1, decodeV z = (l, a1, e1) ∧ ((e1 ≠ 0 ∧ xs = [] ∧ a = a1 ∧ e = e1) ∨ (e1 = 0 ∧ ∃ a2 e2, ValidP l a2 e2 ∧ ((e2 ≠ 0 ∧ xs = [] ∧ a = a2 ∧ e = e2) ∨ (e2 = 0 ∧ xs = l ∧ a = 0 ∧ e = 0))))
theorem LoadP.det {z : ByteArray} {xs ys : List Is} {a e a2 e2 : Int} (h : LoadP z xs a e) (h2 : LoadP z ys a2 e2) : xs = ys ∧ a = a2 ∧ e = e2 := by
  obtain ⟨l, b, c, hd, h⟩ := h
  obtain ⟨l', b', c', hd', h2⟩ := h2
  obtain ⟨q1, q2⟩ := Prod.mk.inj (hd.symm.trans hd')
  obtain ⟨q3, q4⟩ := Prod.mk.inj q2
  subst q1 q3 q4
  rcases h with ⟨p1, p2, p3, p4⟩ | ⟨p1, va, ve, hv, h⟩ <;> rcases h2 with ⟨r1, r2, r3, r4⟩ | ⟨r1, va', ve', hv', h2⟩
  · exact ⟨p2.trans r2.symm, by omega, by omega⟩
  · exact absurd r1 p1
  · exact absurd p1 r1
  · obtain ⟨k1, k2⟩ := valid_det hv hv'
    subst k1 k2
    rcases h with ⟨p2, p3, p4, p5⟩ | ⟨p2, p3, p4, p5⟩ <;> rcases h2 with ⟨r2, r3, r4, r5⟩ | ⟨r2, r3, r4, r5⟩
    · exact ⟨p3.trans r3.symm, by omega, by omega⟩
    · exact absurd r2 p2
    · exact absurd p2 r2
    · exact ⟨p3.trans r3.symm, by omega, by omega⟩
inductive LoadR (z : ByteArray) : LV → Prop
  | mk (k a e : Int) (L : List PV) (xs : List Is) (h : LoadP z xs a e) (hk : k = xs.length) (hL : L = isV xs) : LoadR z (.tup [.p (.vsl (.sym k) true L), .p (.int .i64 (.sym a)), .p (.int .i64 (.sym e))])
set_option maxHeartbeats 2000000 in
theorem load_lx (z : ByteArray) (hz : z.size ≤ 3000) (o : Unit → Obj) (ho : IsPow o) : CallF (fun _ => Tryd.prog) 21 [.p (.str fun _ => z)] [(0, .fix 0 o)] 1 (fun r h n => LoadR z r ∧ h = [(0, .fix 0 o)] ∧ n = 1) := by
  refine callF_of_body tok Tryd.func21 (by kernel_rfl) rfl rfl rfl ?_; conv => cbv
  refine callF_frame (decode_lx z (by omega)) [] rfl trivial rfl rfl (fun r2 h' n' hrr => ?_)
  obtain ⟨e1, e2, e3⟩ := hrr
  subst e2 e3
  obtain ⟨D, hD⟩ : ∃ D, D = decodeV z := ⟨_, rfl⟩
  rw [← hD] at e1
  cases e1 with
  | mk k a e L xs hx hk hL =>
  have hdz := hD.symm.trans hx
  have hb := decode_bd hdz
  conv => cbv
  refine Br.mk (fun g => ?_) (fun g => ?_)
  · have g : ¬ e = 0 := g
    conv => cbv
    refine RetF.mk [.p (.vsl (.sym 0) true []), .p (.int .i64 (.sym a)), .p (.int .i64 (.sym e))] [(0, .fix 0 o)] 1 (Re.at [(0, 0)] []) rfl ⟨.mk 0 a e [] [] ⟨xs, a, e, hdz, .inl ⟨g, rfl, rfl, rfl⟩⟩ rfl rfl, rfl, rfl⟩
  have g : e = 0 := Classical.byContradiction g
  rw [g] at hdz
  conv => cbv
  refine callF_frame (valid_lx xs k L o ho hk hL (by omega) (read_x64 hdz)) [(0, 0)] rfl (by simp [hmapOk, nget, hget, renB, okB, renV, renVs, rn, okVs, okV]) rfl rfl (fun r2 h' n' hrr => ?_)
  obtain ⟨⟨a2, e2, d1, hv⟩, d2, d3⟩ := hrr
  subst d1 d2 d3
  conv => cbv
  refine Br.mk (fun g2 => ?_) (fun g2 => ?_)
  · have g2 : ¬ e2 = 0 := g2
    conv => cbv
    refine RetF.mk [.p (.vsl (.sym 0) true []), .p (.int .i64 (.sym a2)), .p (.int .i64 (.sym e2))] [(0, .fix 0 o)] 1 (Re.at [(0, 0)] []) rfl ⟨.mk 0 a2 e2 [] [] ⟨xs, a, 0, hdz, .inr ⟨rfl, a2, e2, hv, .inl ⟨g2, rfl, rfl, rfl⟩⟩⟩ rfl rfl, rfl, rfl⟩
  have g2 : e2 = 0 := Classical.byContradiction g2
  conv => cbv
  refine RetF.mk [.p (.vsl (.sym k) true L), .p (.int .i64 (.sym 0)), .p (.int .i64 (.sym 0))] [(0, .fix 0 o)] 1 (Re.at [(0, 0)] []) rfl ⟨.mk k 0 0 L xs ⟨xs, a, 0, hdz, .inr ⟨rfl, a2, e2, hv, .inr ⟨g2, rfl, rfl, rfl⟩⟩⟩ hk hL, rfl, rfl⟩
theorem loadP_good {z : ByteArray} {l xs : List Is} {a e : Int} (h : LoadP z xs a e) (hd : decodeV z = (l, 0, 0)) (hv : ∀ a e, ValidP l a e → a = 0 ∧ e = 0) : xs = l ∧ a = 0 ∧ e = 0 := by
  obtain ⟨l', b, c, hd', h⟩ := h
  obtain ⟨q1, q2⟩ := Prod.mk.inj (hd.symm.trans hd')
  obtain ⟨q3, q4⟩ := Prod.mk.inj q2
  subst q1 q3 q4
  rcases h with ⟨p1, _⟩ | ⟨_, va, ve, hvv, h⟩
  · exact absurd rfl p1
  · have := hv va ve hvv
    rcases h with ⟨p2, _⟩ | ⟨_, p3⟩
    · exact absurd this.2 p2
    · exact p3
set_option maxHeartbeats 2000000 in
theorem few_lx (A : List Is) (k : Int) (L : List PV) (hk : k = A.length) (hL : L = isV A) (hA : A.length ≤ maxLen) : CallF (fun _ => Tryd.prog) 17 [.p (.vsl (.sym k) true L)] [] 0 (fun r h n' => (∃ b : Bool, r = .p (.bool b)) ∧ h = [] ∧ n' = 0) := by
  have hA : A.length ≤ 9223372036854775807 := hA
  refine callF_of_body tok Tryd.func17 (by kernel_rfl) rfl rfl rfl ?_; conv => cbv
  refine LoopF.mk (fun kk s => ∃ (i n : Int), s = ⟨.p (.vsl (.sym k) true L) :: (undefs 2 ++ .p (.int .i64 (.sym n)) :: .p (.int .i64 (.sym i)) :: undefs 17), [], 0⟩ ∧ 0 ≤ i ∧ i ≤ k ∧ kk = (k - i).toNat) k.toNat _
    (Re.at [] []) ⟨0, 0, rfl, by omega, by omega, by omega⟩ ?_
  rintro kk s ⟨i, n, rfl, hi0, hik, hkk⟩
  conv => cbv
  refine Br.mk (fun g => ?_) (fun g => ?_)
  case refine_2 =>
    have g : ¬ i < k := g
    conv => cbv
    refine Br.mk (fun g2 => ?_) (fun g2 => ?_)
    · conv => cbv
      refine RetF.mk [.p (.bool true)] [] 0 (Re.at [] []) rfl ⟨⟨true, rfl⟩, rfl, rfl⟩
    · conv => cbv
      refine RetF.mk [.p (.bool false)] [] 0 (Re.at [] []) rfl ⟨⟨false, rfl⟩, rfl, rfl⟩
  have g : i < k := g
  obtain ⟨x, hx⟩ : ∃ x, A[i.toNat]? = some x := ⟨_, List.getElem?_eq_getElem (by omega)⟩
  have hxg := isV_get hx
  rw [← hL] at hxg
  obtain ⟨xk, hxk⟩ : ∃ q, q = ((x.cs.length : Nat) : Int) := ⟨_, rfl⟩
  obtain ⟨xl, hxl⟩ : ∃ q, q = csV x.cs := ⟨_, rfl⟩
  rw [← hxk, ← hxl] at hxg
  obtain ⟨k', rfl⟩ : ∃ k', kk = k' + 1 := ⟨kk - 1, by omega⟩
  conv => cbv
  refine Fit.wrap fun n1 hn1 => ?_
  conv => cbv
  refine Need.mk ⟨by show (0 : Int) ≤ i; omega, by show i < k; omega⟩ ?_
  conv => cbv
  refine Sum.mk fun w hw => ?_
  have hw : w = i * 5 := hw
  conv => cbv
  refine Sum.mk fun w4 hw4 => ?_
  have hw4 : w4 = w + 4 := hw4
  conv => cbv
  refine Cell.at w4 (i.toNat * 5 + 4) hxg.2.2.2.2 (by simp [I.val]) (by omega) ?_
  conv => cbv
  refine Fit.wrap fun n2 hn2 => ?_
  conv => cbv
  refine Fit.mk (by show (-9223372036854775808 : Int) ≤ i + 1; omega) (by show i + 1 ≤ 9223372036854775807; omega) fun i1 hi1 => ?_
  have hi1 : i1 = i + 1 := hi1
  conv => cbv
  refine Again.mk k' _ (Nat.lt_succ_self _) (Re.at [] []) ⟨i1, n2, rfl, by omega, by omega, by omega⟩
end Go.Proofs.YtfjdifeofnpcnaaDoor
