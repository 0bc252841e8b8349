/-
  Law 2, CodeTells.
-/
import Derived.Test.YtnbloimkagabjaaDoorEd

import Derived.Test.YtnbloimkagabjaaDoorLxI

namespace Go.Proofs.YtnbloimkagabjaaDoor

open Go Go.LX
set_option maxRecDepth 100000
set_option linter.unusedVariables false
set_option linter.unusedSimpArgs false
theorem i64_wf {a : Int} (h : (Lit.int .i64 a).wf = true) : I64 a := by
  have : -9223372036854775808 ≤ a ∧ a ≤ 9223372036854775807 := by simpa [Lit.wf, IntKind.min, IntKind.max, IntKind.signed, IntKind.bits] using h
  exact this
set_option maxHeartbeats 2000000 in
theorem codeTells_lx (z : ByteArray) (A : List Is) (k : Int) (L : List PV) (o : Unit → Obj) (ho : IsPow o) (hk : k = A.length) (hL : L = isV A) (hwf : ∀ x ∈ A, x.wf ∧ (∀ c ∈ x.cs, c.wf) ∧ x.cs.length ≤ maxLen) (hm : A.length ≤ maxLen) (hz : z.size ≤ maxLen) :
    CallF (fun _ => Tryd.prog) 3 [.p (.str fun _ => z), .p (.vsl (.sym k) true L)] [(0, .fix 0 o)] 1 (fun r h n => r = .p (.bool true)) := by
  refine callF_of_body tok Tryd.func3 (by kernel_rfl) rfl rfl rfl ?_; conv => cbv
  refine Sum.mk fun zn hzn => ?_
  have hzn : zn = z.size := hzn
  refine Br.mk (fun g => ?_) (fun g => ?_)
  · conv => cbv
    refine callF_frame (awake02_lx o ho) [(0, 0)] rfl (by simp [hmapOk, nget, hget, renB, okB, renV, renVs, rn, okVs, okV]) rfl rfl (fun r2 h' n' ⟨e1, e2, e3⟩ => ?_)
    subst e1 e2 e3
    conv => cbv
    refine RetF.mk [.p (.bool true)] [(0, .fix 0 o)] 1 (Re.at [(0, 0)] []) rfl rfl
  have g : ¬ 5000 < zn := g
  conv => cbv
  refine Br.mk (fun g => ?_) (fun g => ?_)
  · conv => cbv
    refine callF_frame (awake02_lx o ho) [(0, 0)] rfl (by simp [hmapOk, nget, hget, renB, okB, renV, renVs, rn, okVs, okV]) rfl rfl (fun r2 h' n' ⟨e1, e2, e3⟩ => ?_)
    subst e1 e2 e3
    conv => cbv
    refine RetF.mk [.p (.bool true)] [(0, .fix 0 o)] 1 (Re.at [(0, 0)] []) rfl rfl
  have g2 : ¬ 70 < k := g
  conv => cbv
  refine LoopF.mk (fun kk s => ∃ i : Int, s = ⟨.p (.str fun _ => z) :: .p (.vsl (.sym k) true L) :: (undefs 3 ++ .p (.int .i64 (.sym i)) :: undefs 81), [(0, .fix 0 o)], 1⟩ ∧ 0 ≤ i ∧ i ≤ k ∧ (∀ x ∈ A.take i.toNat, x.cs.length ≤ 20) ∧ kk = (k - i).toNat) k.toNat _
    (Re.at [(0, 0)] []) ⟨0, rfl, by omega, by omega, by simp, by omega⟩ ?_
  rintro kk s ⟨i, rfl, h0, h1, ht, hkk⟩
  conv => cbv
  refine Br.mk (fun g3 => ?_) (fun g3 => ?_)
  · have g3 : i < k := g3
    obtain ⟨x, hx⟩ : ∃ x, A[i.toNat]? = some x := ⟨_, List.getElem?_eq_getElem (by omega)⟩
    have hxg := isV_get hx
    rw [← hL] at hxg
    obtain ⟨xk, hxk⟩ : ∃ q, q = ((x.cs.length : Nat) : Int) := ⟨_, rfl⟩
    obtain ⟨xl, hxl⟩ : ∃ q, q = csV x.cs := ⟨_, rfl⟩
    rw [← hxk, ← hxl] at hxg
    obtain ⟨k', rfl⟩ : ∃ k', kk = k' + 1 := ⟨kk - 1, by omega⟩
    conv => cbv
    refine Need.mk ⟨by show (0 : Int) ≤ i; omega, by show i < k; omega⟩ ?_
    conv => cbv
    refine Sum.mk fun w hw => ?_
    have hw : w = i * 5 := hw
    conv => cbv
    refine Sum.mk fun w4 hw4 => ?_
    have hw4 : w4 = w + 4 := hw4
    conv => cbv
    refine Cell.at w4 (i.toNat * 5 + 4) hxg.2.2.2.2 (by simp [I.val]) (by omega) ?_
    conv => cbv
    refine Br.mk (fun g4 => ?_) (fun g4 => ?_)
    · conv => cbv
      refine callF_frame (awake02_lx o ho) [(0, 0)] rfl (by simp [hmapOk, nget, hget, renB, okB, renV, renVs, rn, okVs, okV]) rfl rfl (fun r2 h' n' ⟨e1, e2, e3⟩ => ?_)
      subst e1 e2 e3
      conv => cbv
      refine RetF.mk [.p (.bool true)] [(0, .fix 0 o)] 1 (Re.at [(0, 0)] []) rfl rfl
    have g4 : ¬ 20 < xk := g4
    conv => cbv
    refine Fit.mk (by show (-9223372036854775808 : Int) ≤ i + 1; omega) (by show i + 1 ≤ 9223372036854775807; omega) fun i1 hi1 => ?_
    have hi1 : i1 = i + 1 := hi1
    conv => cbv
    refine Again.mk k' _ (Nat.lt_succ_self _) (Re.at [(0, 0)] []) ⟨i1, rfl, by omega, by omega, ?_, by omega⟩
    intro y hy
    rw [show i1.toNat = i.toNat + 1 by omega, List.take_add_one, hx] at hy
    rcases List.mem_append.1 hy with hy | hy
    · exact ht y hy
    · obtain rfl : y = x := by simpa using hy
      omega
  have g3 : ¬ i < k := g3
  have hall : ∀ x ∈ A, x.cs.length ≤ 20 := by
    rw [List.take_of_length_le (by omega)] at ht; exact ht
  clear ht
  have hX : ∀ x ∈ A, XI64 x ∧ x.cs.length ≤ 20 := by
    intro x hx
    obtain ⟨q1, q2, q3⟩ := hwf x hx
    have q4 := hall x hx
    exact ⟨⟨i64_wf q1.1, i64_wf q1.2.2.2, by omega, fun c hc => i64_wf (q2 c hc).2.2.2⟩, q4⟩
  conv => cbv
  refine callF_frame (decode_lx z (by omega)) [] rfl trivial rfl rfl (fun r2 h' n' hrr => ?_)
  obtain ⟨e1, e2, e3⟩ := hrr
  subst e2 e3
  obtain ⟨D1, hD1⟩ : ∃ D, D = decodeV z := ⟨_, rfl⟩
  rw [← hD1] at e1
  cases e1 with
  | mk k1 a1 e1 L1 x1 hx1 hk1 hL1 =>
  conv => cbv
  refine callF_frame (rDecode_lx z (by omega)) [] rfl trivial rfl rfl (fun r2 h' n' hrr => ?_)
  obtain ⟨e2, e3, e4⟩ := hrr
  subst e3 e4
  rw [← hD1] at e2
  cases e2 with
  | mk k2 a2 e2 L2 x2 hx2 hk2 hL2 =>
  conv => cbv
  refine callF_frame (write_lx A 20 k L o ho hk hL (by omega) hX) [(0, 0)] rfl (by simp [hmapOk, nget, hget, renB, okB, renV, renVs, rn, okVs, okV]) rfl rfl (fun r2 h' n' hrr => ?_)
  obtain ⟨⟨y3, e3, d1, hW3⟩, d2, d3⟩ := hrr
  subst d1 d2 d3
  conv => cbv
  refine callF_frame (rWrite_lx A 20 k L hk hL (by omega) (by omega) (by omega) hX) [] rfl trivial rfl rfl (fun r2 h' n' hrr => ?_)
  obtain ⟨⟨y4, e4, d1, hW4⟩, d2, d3⟩ := hrr
  subst d1 d2 d3
  obtain ⟨hy34, he34⟩ := hW3.det hW4
  obtain ⟨r1, r2⟩ := Prod.mk.inj (hx1.symm.trans hx2)
  obtain ⟨r3, r4⟩ := Prod.mk.inj r2
  conv => cbv
  refine callF_frame (awake02_lx o ho) [(0, 0)] rfl (by simp [hmapOk, nget, hget, renB, okB, renV, renVs, rn, okVs, okV]) rfl rfl (fun r2 h' n' ⟨d1, d2, d3⟩ => ?_)
  subst d1 d2 d3
  have hb1 := decode_bound (hD1.symm.trans hx1)
  subst r1
  conv => cbv
  refine callF_frame (instrs_lx x1 x1 k1 k2 L1 L2 hk1 hk2 hL1 hL2 (by omega) (fun x hx => by have := hb1.2 x hx; omega)) [] rfl trivial rfl rfl (fun r2 h' n' hrr => ?_)
  obtain ⟨⟨q, d1, hq⟩, d2, d3⟩ := hrr
  subst d1 d2 d3
  cases q with
  | false =>
    have := hq.2 rfl
    cases this
  | true =>
  conv => cbv
  refine Br.yes (by show a1 = a2; exact r3) ?_
  conv => cbv
  refine Br.yes (by show e1 = e2; exact r4) ?_
  conv => cbv
  refine Br.yes (by show y3 = y4; exact hy34) ?_
  conv => cbv
  refine Br.mk (fun g9 => ?_) (fun g9 => ?_)
  · conv => cbv
    refine RetF.mk [.p (.bool true)] [(0, .fix 0 o)] 1 (Re.at [(0, 0)] []) rfl rfl
  · have g9 : ¬ e3 = e4 := g9
    exact absurd he34 g9
end Go.Proofs.YtnbloimkagabjaaDoor
