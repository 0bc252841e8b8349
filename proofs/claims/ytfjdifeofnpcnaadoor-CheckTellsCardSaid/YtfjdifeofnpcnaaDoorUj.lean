/-
  Law 3, CheckTells.
-/
import Derived.Test.YtfjdifeofnpcnaaDoorUi

import Derived.Test.YtfjdifeofnpcnaaDoorLxI

namespace Go.Proofs.YtfjdifeofnpcnaaDoor

open Go Go.LX
set_option maxRecDepth 100000
set_option linter.unusedVariables false
set_option linter.unusedSimpArgs false
theorem wfI64 {a : Int} (h : (Lit.int .i64 a).wf = true) : I64 a := by
  have : -9223372036854775808 ≤ a ∧ a ≤ 9223372036854775807 := by simpa [Lit.wf, IntKind.min, IntKind.max, IntKind.signed, IntKind.bits] using h
  exact this
theorem wfXW {x : Is} (h : x.wf ∧ (∀ c ∈ x.cs, c.wf) ∧ x.cs.length ≤ maxLen) : XW x := ⟨wfI64 h.1.1, wfI64 h.1.2.2.2, fun c hc => wfI64 (h.2.1 c hc).2.2.2⟩
theorem loadP_bd {z : ByteArray} {xs : List Is} {a e : Int} (h : LoadP z xs a e) : xs.length ≤ 60 ∧ ∀ x ∈ xs, x.cs.length ≤ 2001 := by
  obtain ⟨l', b, c, hd, h⟩ := h
  have hb := decode_bd hd
  rcases h with ⟨_, h, _⟩ | ⟨hc, va, ve, _, ⟨_, h, _⟩ | ⟨_, h, _⟩⟩
  · rw [h]; simp
  · rw [h]; simp
  · rw [h]; exact hb
set_option maxHeartbeats 2000000 in
theorem rLoad_lx (z : ByteArray) (hz : z.size ≤ 3000) : CallF (fun _ => Tryd.prog) 22 [.p (.str fun _ => z)] [] 0 (fun r h n => LoadR z r ∧ h = [] ∧ n = 0) := by
  refine callF_of_body tok Tryd.func22 (by kernel_rfl) rfl rfl rfl ?_; conv => cbv
  refine callF_frame (rDecode_lx z (by omega)) [] rfl trivial rfl rfl (fun r2 h' n' hrr => ?_)
  obtain ⟨e1, e2, e3⟩ := hrr
  subst e2 e3
  obtain ⟨D, hD⟩ : ∃ D, D = decodeV z := ⟨_, rfl⟩
  rw [← hD] at e1
  cases e1 with
  | mk k a e L xs hx hk hL =>
  have hdz := hD.symm.trans hx
  have hb := decode_bd hdz
  conv => cbv
  refine Br.mk (fun g => ?_) (fun g => ?_)
  · have g : ¬ e = 0 := g
    conv => cbv
    refine RetF.mk [.p (.vsl (.sym 0) true []), .p (.int .i64 (.sym a)), .p (.int .i64 (.sym e))] [] 0 (Re.at [] []) rfl ⟨.mk 0 a e [] [] ⟨xs, a, e, hdz, .inl ⟨g, rfl, rfl, rfl⟩⟩ rfl rfl, rfl, rfl⟩
  have g : e = 0 := Classical.byContradiction g
  rw [g] at hdz
  conv => cbv
  refine callF_frame (rValid_lx xs k L hk hL (fun x hx => ⟨(read_x64 hdz x hx).w, Nat.le_trans (hb.2 x hx) (by decide)⟩)) [] rfl trivial rfl rfl (fun r2 h' n' hrr => ?_)
  obtain ⟨⟨a2, e2, d1, hv⟩, d2, d3⟩ := hrr
  subst d1 d2 d3
  conv => cbv
  refine Br.mk (fun g2 => ?_) (fun g2 => ?_)
  · have g2 : ¬ e2 = 0 := g2
    conv => cbv
    refine RetF.mk [.p (.vsl (.sym 0) true []), .p (.int .i64 (.sym a2)), .p (.int .i64 (.sym e2))] [] 0 (Re.at [] []) rfl ⟨.mk 0 a2 e2 [] [] ⟨xs, a, 0, hdz, .inr ⟨rfl, a2, e2, hv, .inl ⟨g2, rfl, rfl, rfl⟩⟩⟩ rfl rfl, rfl, rfl⟩
  have g2 : e2 = 0 := Classical.byContradiction g2
  conv => cbv
  refine RetF.mk [.p (.vsl (.sym k) true L), .p (.int .i64 (.sym 0)), .p (.int .i64 (.sym e2))] [] 0 (Re.at [] []) rfl ⟨.mk k 0 e2 L xs ⟨xs, a, 0, hdz, .inr ⟨rfl, a2, e2, hv, .inr ⟨g2, rfl, rfl, g2⟩⟩⟩ hk hL, rfl, rfl⟩
set_option maxHeartbeats 8000000 in
theorem checkTells_lx (A : List Is) (z : ByteArray) (k : Int) (L : List PV) (o : Unit → Obj) (ho : IsPow o) (hk : k = A.length) (hL : L = isV A) (hwf : ∀ x ∈ A, x.wf ∧ (∀ c ∈ x.cs, c.wf) ∧ x.cs.length ≤ maxLen) (hm : A.length ≤ maxLen) (hz : z.size ≤ maxLen) :
    CallF (fun _ => Tryd.prog) 6 [.p (.vsl (.sym k) true L), .p (.str fun _ => z)] [(0, .fix 0 o)] 1 (fun r h n => r = .p (.bool true)) := by
  refine callF_of_body tok Tryd.func6 (by kernel_rfl) rfl rfl rfl ?_; conv => cbv
  refine callF_frame (few_lx A k L hk hL hm) [] rfl trivial rfl rfl (fun r2 h' n' hrr => ?_)
  obtain ⟨⟨fb, e1⟩, e2, e3⟩ := hrr
  subst e1 e2 e3
  cases fb with
  | false =>
    conv => cbv
    refine callF_frame (awake03_lx o ho) [(0, 0)] rfl (by simp [hmapOk, nget, hget, renB, okB, renV, renVs, rn, okVs, okV]) rfl rfl (fun r2 h' n' ⟨e1, e2, e3⟩ => ?_)
    subst e1 e2 e3
    conv => cbv
    refine RetF.mk [.p (.bool true)] [(0, .fix 0 o)] 1 (Re.at [(0, 0)] []) rfl rfl
  | true =>
  conv => cbv
  refine Sum.mk fun zn hzn => ?_
  have hzn : zn = z.size := hzn
  conv => cbv
  refine Br.mk (fun g => ?_) (fun g => ?_)
  · conv => cbv
    refine callF_frame (awake03_lx o ho) [(0, 0)] rfl (by simp [hmapOk, nget, hget, renB, okB, renV, renVs, rn, okVs, okV]) rfl rfl (fun r2 h' n' ⟨e1, e2, e3⟩ => ?_)
    subst e1 e2 e3
    conv => cbv
    refine RetF.mk [.p (.bool true)] [(0, .fix 0 o)] 1 (Re.at [(0, 0)] []) rfl rfl
  have g : ¬ 3000 < zn := g
  conv => cbv
  refine callF_frame (validW_lx A k L o ho hk hL (fun x hx => wfXW (hwf x hx))) [(0, 0)] rfl (by simp [hmapOk, nget, hget, renB, okB, renV, renVs, rn, okVs, okV]) rfl rfl (fun r2 h' n' hrr => ?_)
  obtain ⟨⟨a1, e1, d1, hv1⟩, d2, d3⟩ := hrr
  subst d1 d2 d3
  conv => cbv
  refine callF_frame (rValid_lx A k L hk hL (fun x hx => ⟨wfXW (hwf x hx), (hwf x hx).2.2⟩)) [] rfl trivial rfl rfl (fun r2 h' n' hrr => ?_)
  obtain ⟨⟨a2, e2, d1, hv2⟩, d2, d3⟩ := hrr
  subst d1 d2 d3
  obtain ⟨p1, p2⟩ := valid_det hv1 hv2
  conv => cbv
  refine callF_frame (load_lx z (by omega) o ho) [(0, 0)] rfl (by simp [hmapOk, nget, hget, renB, okB, renV, renVs, rn, okVs, okV]) rfl rfl (fun r2 h' n' hrr => ?_)
  obtain ⟨f1, f2, f3⟩ := hrr
  subst f2 f3
  cases f1 with
  | mk k3 a3 e3 L3 x3 h3 hk3 hL3 =>
  conv => cbv
  refine callF_frame (rLoad_lx z (by omega)) [] rfl trivial rfl rfl (fun r2 h' n' hrr => ?_)
  obtain ⟨f1, f2, f3⟩ := hrr
  subst f2 f3
  cases f1 with
  | mk k4 a4 e4 L4 x4 h4 hk4 hL4 =>
  obtain ⟨p3, p4, p5⟩ := h3.det h4
  have hb3 := loadP_bd h3
  conv => cbv
  refine callF_frame (awake03_lx o ho) [(0, 0)] rfl (by simp [hmapOk, nget, hget, renB, okB, renV, renVs, rn, okVs, okV]) rfl rfl (fun r2 h' n' ⟨e1, e2, e3⟩ => ?_)
  subst e1 e2 e3
  conv => cbv
  refine Br.yes (by show a1 = a2; exact p1) ?_
  conv => cbv
  refine Br.yes (by show e1 = e2; exact p2) ?_
  conv => cbv
  refine callF_frame (instrs_lx x3 x4 k3 k4 L3 L4 hk3 hk4 hL3 hL4 (by omega) (fun x hx => by have := hb3.2 x hx; omega)) [] rfl trivial rfl rfl (fun r2 h' n' hrr => ?_)
  obtain ⟨⟨q2, d1, hq2⟩, d2, d3⟩ := hrr
  subst d1 d2 d3
  cases q2 with
  | false =>
    have := hq2.2 p3
    cases this
  | true =>
  conv => cbv
  refine Br.yes (by show a3 = a4; exact p4) ?_
  conv => cbv
  refine Br.mk (fun g9 => ?_) (fun g9 => ?_)
  · conv => cbv
    refine RetF.mk [.p (.bool true)] [(0, .fix 0 o)] 1 (Re.at [(0, 0)] []) rfl rfl
  · have g9 : ¬ e3 = e4 := g9
    exact absurd p5 g9
end Go.Proofs.YtfjdifeofnpcnaaDoor
