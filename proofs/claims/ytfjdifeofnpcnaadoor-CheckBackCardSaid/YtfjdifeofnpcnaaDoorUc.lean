/-
  Law 2, CodeBack.
-/
import Derived.Test.YtfjdifeofnpcnaaDoorUb

import Derived.Test.YtfjdifeofnpcnaaDoorBf

import Derived.Test.YtfjdifeofnpcnaaDoorLxI

namespace Go.Proofs.YtfjdifeofnpcnaaDoor

open Go Go.LX
set_option maxRecDepth 100000
set_option linter.unusedVariables false
set_option linter.unusedSimpArgs false
theorem shp_num {x : Is} (h : Shp x) : (1 ≤ x.op ∧ x.op ≤ 22) ∧ (0 ≤ x.n ∧ x.n ≤ 9999) ∧ ∀ c ∈ x.cs, 0 ≤ c.to ∧ c.to ≤ 9999 := by
  unfold Shp at h
  split at h
  · rename_i h21
    refine ⟨by omega, by omega, fun c hc => ?_⟩
    have h1 := (cshp_mem h.2.2.2.2 c hc).2.1 110 (by unfold cshape; split <;> simp)
    exact h1
  · rename_i h21
    obtain ⟨h1, h2, h3⟩ := h
    refine ⟨h1, ?_, by rw [h2]; simp⟩
    have gn : x.f.get 110 = x.n := rfl
    have gd : x.f.get 100 = x.n := rfl
    rcases shape_cases x.op with e | e | e | e | e | e <;> rw [e] at h3
    · have q3 := h3.2 110 (by decide); rw [gn] at q3; omega
    · have q3 := h3.1 110 (by simp); rw [gn] at q3; simp [inR] at q3; omega
    · have q3 := h3.1 110 (by simp); rw [gn] at q3; simp [inR] at q3; omega
    · have q3 := h3.2 110 (by decide); rw [gn] at q3; omega
    · have q3 := h3.1 100 (by simp); rw [gd] at q3; simp [inR] at q3; omega
    · have q3 := h3.2 110 (by decide); rw [gn] at q3; omega
theorem shp_x64 {x : Is} (h : Shp x) (hc : x.cs.length ≤ 520) : XI64 x := by
  obtain ⟨h1, h2, h3⟩ := shp_num h
  refine ⟨by unfold I64; omega, by unfold I64; omega, hc, fun c hcm => ?_⟩
  have := h3 c hcm
  unfold I64; omega
theorem codeV_x64 (l : List Is) : ∀ x ∈ codeV l, XI64 x ∧ x.cs.length ≤ 3 := by
  intro x hx
  have h := codeV_good l x hx
  exact ⟨shp_x64 h.shp (by have := h.cs; omega), h.cs⟩
theorem codeV_40 (l : List Is) : 0 < (codeV l).length ∧ (codeV l).length ≤ 40 := by rw [codeV_len]; exact firstV_len l
theorem WroteP.okay {l : List Is} {y : ByteArray} {e : Int} (h : WroteP l y e) (hok : Okay l) : y = bytesOfL (joinL (l.map lineOf)) ∧ e = 0 := by
  rcases h with ⟨_, h1, h2⟩ | ⟨h1, _⟩ | ⟨_, h1, _⟩
  · exact ⟨h1, h2⟩
  · exact absurd h1 hok.1
  · exact absurd hok h1
set_option maxHeartbeats 4000000 in
theorem codeBack_lx (A : List Is) (z : ByteArray) (k : Int) (L : List PV) (o : Unit → Obj) (ho : IsPow o) (hk : k = A.length) (hL : L = isV A) (hwf : ∀ x ∈ A, x.wf ∧ (∀ c ∈ x.cs, c.wf) ∧ x.cs.length ≤ maxLen) (hm : A.length ≤ maxLen) (hz : z.size ≤ maxLen) :
    CallF (fun _ => Tryd.prog) 3 [.p (.vsl (.sym k) true L), .p (.str fun _ => z)] [(0, .fix 0 o)] 1 (fun r h n => r = .p (.bool true)) := by
  refine callF_of_body tok Tryd.func3 (by kernel_rfl) rfl rfl rfl ?_; conv => cbv
  refine Sum.mk fun zn hzn => ?_
  have hzn : zn = z.size := hzn
  refine Br.mk (fun g => ?_) (fun g => ?_)
  · conv => cbv
    refine callF_frame (awake02_lx o ho) [(0, 0)] rfl (by simp [hmapOk, nget, hget, renB, okB, renV, renVs, rn, okVs, okV]) rfl rfl (fun r2 h' n' ⟨e1, e2, e3⟩ => ?_)
    subst e1 e2 e3
    conv => cbv
    refine RetF.mk [.p (.bool true)] [(0, .fix 0 o)] 1 (Re.at [(0, 0)] []) rfl rfl
  have g : ¬ 1900 < zn := g
  conv => cbv
  refine Br.mk (fun g2 => ?_) (fun g2 => ?_)
  · conv => cbv
    refine callF_frame (awake02_lx o ho) [(0, 0)] rfl (by simp [hmapOk, nget, hget, renB, okB, renV, renVs, rn, okVs, okV]) rfl rfl (fun r2 h' n' ⟨e1, e2, e3⟩ => ?_)
    subst e1 e2 e3
    conv => cbv
    refine RetF.mk [.p (.bool true)] [(0, .fix 0 o)] 1 (Re.at [(0, 0)] []) rfl rfl
  have g2 : ¬ 60 < k := g2
  conv => cbv
  refine callF_frame (code_lx A k L hk hL (fun x hx => (hwf x hx).2.2)) [] rfl trivial rfl rfl (fun r2 h' n' hrr => ?_)
  obtain ⟨⟨k2, L2, e1, hk2, hL2⟩, e2, e3⟩ := hrr
  subst e1 e2 e3
  obtain ⟨B, hB⟩ : ∃ B, B = codeV A := ⟨_, rfl⟩
  have hBok : Okay B := by rw [hB]; exact codeV_okay A
  have hBx : ∀ x ∈ B, XI64 x ∧ x.cs.length ≤ 3 := by rw [hB]; exact codeV_x64 A
  have hBl : 0 < B.length ∧ B.length ≤ 40 := by rw [hB]; exact codeV_40 A
  rw [← hB] at hk2 hL2
  conv => cbv
  refine callF_frame (write_lx B 3 k2 L2 o ho hk2 hL2 (by omega) hBx) [(0, 0)] rfl (by simp [hmapOk, nget, hget, renB, okB, renV, renVs, rn, okVs, okV]) rfl rfl (fun r2 h' n' hrr => ?_)
  obtain ⟨⟨y3, e3, d1, hW3⟩, d2, d3⟩ := hrr
  subst d1 d2 d3
  obtain ⟨hy3, he3⟩ := hW3.okay hBok
  have hd3 : decodeV y3 = (B, 0, 0) := by rw [hy3]; exact okay_dec hBok
  have hys : y3.size ≤ 2000 := by rw [hy3, bol_size]; exact hBok.2.2.1
  conv => cbv
  refine callF_frame (decode_lx y3 (by omega)) [] rfl trivial rfl rfl (fun r2 h' n' hrr => ?_)
  obtain ⟨e1, e2, e3⟩ := hrr
  subst e2 e3
  rw [hd3] at e1
  cases e1 with
  | mk k1 a1 e1 L1 x1 hx1 hk1 hL1 =>
  obtain ⟨r1, r2⟩ := Prod.mk.inj hx1
  obtain ⟨r3, r4⟩ := Prod.mk.inj r2
  conv => cbv
  refine callF_frame (awake02_lx o ho) [(0, 0)] rfl (by simp [hmapOk, nget, hget, renB, okB, renV, renVs, rn, okVs, okV]) rfl rfl (fun r2 h' n' ⟨d1, d2, d3⟩ => ?_)
  subst d1 d2 d3
  conv => cbv
  refine Br.no (by show ¬ ¬ e3 = 0; simp [he3]) ?_
  conv => cbv
  refine Br.no (by show ¬ ¬ e1 = 0; simp [← r4]) ?_
  conv => cbv
  refine Br.no (by show ¬ ¬ a1 = 0; simp [← r3]) ?_
  conv => cbv
  refine callF_frame (instrs_lx x1 B k1 k2 L1 L2 hk1 hk2 hL1 hL2 (by rw [← r1]; omega) (fun x hx => by rw [← r1] at hx; have := (hBx x hx).2; omega)) [] rfl trivial rfl rfl (fun r2 h' n' hrr => ?_)
  obtain ⟨⟨q, d1, hq⟩, d2, d3⟩ := hrr
  subst d1 d2 d3
  cases q with
  | false =>
    have := hq.2 r1.symm
    cases this
  | true =>
  conv => cbv
  refine callF_frame (decode_lx z (by omega)) [] rfl trivial rfl rfl (fun r2 h' n' hrr => ?_)
  obtain ⟨e4, e5, e6⟩ := hrr
  subst e5 e6
  obtain ⟨D1, hD1⟩ : ∃ D, D = decodeV z := ⟨_, rfl⟩
  rw [← hD1] at e4
  cases e4 with
  | mk k4 a4 e4 L4 x4 hx4 hk4 hL4 =>
  have hdz : decodeV z = (x4, a4, e4) := hD1.symm.trans hx4
  conv => cbv
  refine Br.mk (fun g4 => ?_) (fun g4 => ?_)
  · have g4 : ¬ e4 = 0 := g4
    have hnil := read_bad hdz g4
    conv => cbv
    refine Br.yes (by show k4 = 0; rw [hk4, hnil]; rfl) ?_
    conv => cbv
    refine RetF.mk [.p (.bool true)] [(0, .fix 0 o)] 1 (Re.at [(0, 0)] []) rfl rfl
  have g4 : e4 = 0 := Classical.byContradiction g4
  rw [g4] at hdz
  obtain ⟨hok4, hcs4⟩ := read_okay hdz (by omega)
  have h4x : ∀ x ∈ x4, XI64 x ∧ x.cs.length ≤ 500 := fun x hx => ⟨shp_x64 (hok4.2.1 x hx) (by have := hcs4 x hx; omega), hcs4 x hx⟩
  have h460 := hok4.2.2.2
  have hmul : x4.length * (64 * 500 + 65) ≤ 3000000 := Nat.le_trans (Nat.mul_le_mul_right _ h460) (by decide)
  conv => cbv
  refine callF_frame (write_lx x4 500 k4 L4 o ho hk4 hL4 hmul h4x) [(0, 0)] rfl (by simp [hmapOk, nget, hget, renB, okB, renV, renVs, rn, okVs, okV]) rfl rfl (fun r2 h' n' hrr => ?_)
  obtain ⟨⟨y5, e5, d1, hW5⟩, d2, d3⟩ := hrr
  subst d1 d2 d3
  obtain ⟨hy5, he5⟩ := hW5.okay hok4
  have hd5 : decodeV y5 = (x4, 0, 0) := by rw [hy5]; exact okay_dec hok4
  have hys5 : y5.size ≤ 2000 := by rw [hy5, bol_size]; exact hok4.2.2.1
  conv => cbv
  refine callF_frame (decode_lx y5 (by omega)) [] rfl trivial rfl rfl (fun r2 h' n' hrr => ?_)
  obtain ⟨e6, e7, e8⟩ := hrr
  subst e7 e8
  rw [hd5] at e6
  cases e6 with
  | mk k6 a6 e6 L6 x6 hx6 hk6 hL6 =>
  obtain ⟨s1, s2⟩ := Prod.mk.inj hx6
  obtain ⟨s3, s4⟩ := Prod.mk.inj s2
  conv => cbv
  refine Br.yes (by show e5 = 0; exact he5) ?_
  conv => cbv
  refine Br.yes (by show e6 = 0; exact s4.symm) ?_
  conv => cbv
  refine callF_frame (instrs_lx x6 x4 k6 k4 L6 L4 hk6 hk4 hL6 hL4 (by rw [← s1]; omega) (fun x hx => by rw [← s1] at hx; have := hcs4 x hx; omega)) [] rfl trivial rfl rfl (fun r2 h' n' hrr => ?_)
  obtain ⟨⟨q2, d1, hq2⟩, d2, d3⟩ := hrr
  subst d1 d2 d3
  cases q2 with
  | false =>
    have := hq2.2 s1.symm
    cases this
  | true =>
  conv => cbv
  refine RetF.mk [.p (.bool true)] [(0, .fix 0 o)] 1 (Re.at [(0, 0)] []) rfl rfl
end Go.Proofs.YtfjdifeofnpcnaaDoor
