/-
  Law 3, CheckBack.
-/
import Derived.Test.YtfjdifeofnpcnaaDoorUf

namespace Go.Proofs.YtfjdifeofnpcnaaDoor

open Go Go.LX
set_option maxRecDepth 100000
set_option linter.unusedVariables false
set_option linter.unusedSimpArgs false
theorem valid_zero {l : List Is} {a : Int} (h : ValidP l a 0) : a = 0 := by
  rcases h with ⟨_, _, h⟩ | ⟨_, _, h⟩ | ⟨_, _, _, h, _⟩ | ⟨_, _, i, x, _, _, _, ⟨_, h⟩ | ⟨_, _, h⟩⟩ <;> omega
set_option maxHeartbeats 8000000 in
theorem checkBack_lx (A : List Is) (z : ByteArray) (k : Int) (L : List PV) (o : Unit → Obj) (ho : IsPow o) (hk : k = A.length) (hL : L = isV A) (hwf : ∀ x ∈ A, x.wf ∧ (∀ c ∈ x.cs, c.wf) ∧ x.cs.length ≤ maxLen) (hm : A.length ≤ maxLen) (hz : z.size ≤ maxLen) :
    CallF (fun _ => Tryd.prog) 7 [.p (.vsl (.sym k) true L), .p (.str fun _ => z)] [(0, .fix 0 o)] 1 (fun r h n => r = .p (.bool true)) := by
  refine callF_of_body tok Tryd.func7 (by kernel_rfl) rfl rfl rfl ?_; conv => cbv
  refine callF_frame (few_lx A k L hk hL hm) [] rfl trivial rfl rfl (fun r2 h' n' hrr => ?_)
  obtain ⟨⟨fb, e1⟩, e2, e3⟩ := hrr
  subst e1 e2 e3
  cases fb with
  | false =>
    conv => cbv
    refine callF_frame (awake03_lx o ho) [(0, 0)] rfl (by simp [hmapOk, nget, hget, renB, okB, renV, renVs, rn, okVs, okV]) rfl rfl (fun r2 h' n' ⟨e1, e2, e3⟩ => ?_)
    subst e1 e2 e3
    conv => cbv
    refine RetF.mk [.p (.bool true)] [(0, .fix 0 o)] 1 (Re.at [(0, 0)] []) rfl rfl
  | true =>
  conv => cbv
  refine Sum.mk fun zn hzn => ?_
  have hzn : zn = z.size := hzn
  conv => cbv
  refine Br.mk (fun g => ?_) (fun g => ?_)
  · conv => cbv
    refine callF_frame (awake03_lx o ho) [(0, 0)] rfl (by simp [hmapOk, nget, hget, renB, okB, renV, renVs, rn, okVs, okV]) rfl rfl (fun r2 h' n' ⟨e1, e2, e3⟩ => ?_)
    subst e1 e2 e3
    conv => cbv
    refine RetF.mk [.p (.bool true)] [(0, .fix 0 o)] 1 (Re.at [(0, 0)] []) rfl rfl
  have g : ¬ 3000 < zn := g
  conv => cbv
  refine callF_frame (load_lx z (by omega) o ho) [(0, 0)] rfl (by simp [hmapOk, nget, hget, renB, okB, renV, renVs, rn, okVs, okV]) rfl rfl (fun r2 h' n' hrr => ?_)
  obtain ⟨e1, e2, e3⟩ := hrr
  subst e2 e3
  cases e1 with
  | mk k1 a1 e1 L1 x1 h1 hk1 hL1 =>
  have hx1 : ∀ x ∈ x1, XI64 x := by
    obtain ⟨l', b, c, hd, h⟩ := h1
    rcases h with ⟨_, h, _⟩ | ⟨hc, va, ve, _, ⟨_, h, _⟩ | ⟨_, h, _⟩⟩
    · rw [h]; intro x hx; cases hx
    · rw [h]; intro x hx; cases hx
    · rw [h]; rw [hc] at hd; exact read_x64 hd
  conv => cbv
  refine callF_frame (validW_lx x1 k1 L1 o ho hk1 hL1 (fun x hx => (hx1 x hx).w)) [(0, 0)] rfl (by simp [hmapOk, nget, hget, renB, okB, renV, renVs, rn, okVs, okV]) rfl rfl (fun r2 h' n' hrr => ?_)
  obtain ⟨⟨a2, e2, d1, hv2⟩, d2, d3⟩ := hrr
  subst d1 d2 d3
  conv => cbv
  refine callF_frame (code_lx A k L hk hL (fun x hx => (hwf x hx).2.2)) [] rfl trivial rfl rfl (fun r2 h' n' hrr => ?_)
  obtain ⟨⟨k3, L3, d1, hk3, hL3⟩, d2, d3⟩ := hrr
  subst d1 d2 d3
  conv => cbv
  refine callF_frame (validW_lx (codeV A) k3 L3 o ho hk3 hL3 (fun x hx => (codeV_x64 A x hx).1.w)) [(0, 0)] rfl (by simp [hmapOk, nget, hget, renB, okB, renV, renVs, rn, okVs, okV]) rfl rfl (fun r2 h' n' hrr => ?_)
  obtain ⟨⟨a4, e4, d1, hv4⟩, d2, d3⟩ := hrr
  subst d1 d2 d3
  obtain ⟨ha4, he4⟩ := codeV_valid A hv4
  conv => cbv
  refine callF_frame (text_lx A k L hk hL (fun x hx => (hwf x hx).2.2)) [] rfl trivial rfl rfl (fun r2 h' n' hrr => ?_)
  obtain ⟨⟨y, d1, hy⟩, d2, d3⟩ := hrr
  subst d1 d2 d3
  have hok := codeV_okay A
  have hdy : decodeV y = (codeV A, 0, 0) := by rw [hy]; exact okay_dec hok
  have hys : y.size ≤ 2000 := by rw [hy, bol_size]; exact hok.2.2.1
  conv => cbv
  refine callF_frame (load_lx y (by omega) o ho) [(0, 0)] rfl (by simp [hmapOk, nget, hget, renB, okB, renV, renVs, rn, okVs, okV]) rfl rfl (fun r2 h' n' hrr => ?_)
  obtain ⟨f1, f2, f3⟩ := hrr
  subst f2 f3
  cases f1 with
  | mk k5 a5 e5 L5 x5 h5 hk5 hL5 =>
  obtain ⟨p1, p2, p3⟩ := loadP_good h5 hdy (fun a e h => codeV_valid A h)
  have hB40 := codeV_40 A
  conv => cbv
  refine callF_frame (awake03_lx o ho) [(0, 0)] rfl (by simp [hmapOk, nget, hget, renB, okB, renV, renVs, rn, okVs, okV]) rfl rfl (fun r2 h' n' ⟨e1, e2, e3⟩ => ?_)
  subst e1 e2 e3
  conv => cbv
  refine Br.mk (fun g9 => ?_) (fun g9 => ?_)
  · have g9 : ¬ e1 = 0 := g9
    have hnil : x1 = [] := by
      obtain ⟨l', b, c, hd, h⟩ := h1
      rcases h with ⟨_, h, _⟩ | ⟨hc, va, ve, _, ⟨_, h, _⟩ | ⟨_, _, _, h⟩⟩
      · exact h
      · exact h
      · exact absurd h g9
    conv => cbv
    refine Br.yes (by show k1 = 0; rw [hk1, hnil]; rfl) ?_
    conv => cbv
    refine Br.yes (by show e4 = 0; exact he4) ?_
    conv => cbv
    refine Br.yes (by show a4 = 0; exact ha4) ?_
    conv => cbv
    refine Br.yes (by show e5 = 0; exact p3) ?_
    conv => cbv
    refine Br.yes (by show a5 = 0; exact p2) ?_
    conv => cbv
    refine callF_frame (instrs_lx x5 (codeV A) k5 k3 L5 L3 hk5 hk3 hL5 hL3 (by rw [p1]; omega) (fun x hx => by rw [p1] at hx; have := (codeV_x64 A x hx).2; omega)) [] rfl trivial rfl rfl (fun r2 h' n' hrr => ?_)
    obtain ⟨⟨q2, d1, hq2⟩, d2, d3⟩ := hrr
    subst d1 d2 d3
    cases q2 with
    | false =>
      have := hq2.2 p1
      cases this
    | true =>
    conv => cbv
    refine RetF.mk [.p (.bool true)] [(0, .fix 0 o)] 1 (Re.at [(0, 0)] []) rfl rfl
  · have g9 : e1 = 0 := Classical.byContradiction g9
    have hz2 : a2 = 0 ∧ e2 = 0 := by
      obtain ⟨l', b, c, hd, h⟩ := h1
      rcases h with ⟨hc, _, _, h⟩ | ⟨hc, va, ve, hv, ⟨hc2, _, _, h⟩ | ⟨hc2, h, _, _⟩⟩
      · omega
      · omega
      · rw [h] at hv2
        obtain ⟨q1, q2⟩ := valid_det hv2 hv
        rw [hc2] at q2
        rw [q2] at hv2
        exact ⟨valid_zero hv2, q2⟩
    conv => cbv
    refine Br.yes (by show e2 = 0; exact hz2.2) ?_
    conv => cbv
    refine Br.yes (by show a2 = 0; exact hz2.1) ?_
    conv => cbv
    refine Br.yes (by show e4 = 0; exact he4) ?_
    conv => cbv
    refine Br.yes (by show a4 = 0; exact ha4) ?_
    conv => cbv
    refine Br.yes (by show e5 = 0; exact p3) ?_
    conv => cbv
    refine Br.yes (by show a5 = 0; exact p2) ?_
    conv => cbv
    refine callF_frame (instrs_lx x5 (codeV A) k5 k3 L5 L3 hk5 hk3 hL5 hL3 (by rw [p1]; omega) (fun x hx => by rw [p1] at hx; have := (codeV_x64 A x hx).2; omega)) [] rfl trivial rfl rfl (fun r2 h' n' hrr => ?_)
    obtain ⟨⟨q2, d1, hq2⟩, d2, d3⟩ := hrr
    subst d1 d2 d3
    cases q2 with
    | false =>
      have := hq2.2 p1
      cases this
    | true =>
    conv => cbv
    refine RetF.mk [.p (.bool true)] [(0, .fix 0 o)] 1 (Re.at [(0, 0)] []) rfl rfl
end Go.Proofs.YtfjdifeofnpcnaaDoor
