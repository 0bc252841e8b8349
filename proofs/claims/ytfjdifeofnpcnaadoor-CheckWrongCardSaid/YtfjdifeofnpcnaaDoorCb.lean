/-
  Layer 3: Load; awake.
-/
import Derived.Test.YtfjdifeofnpcnaaDoorCa

import Derived.Test.YtfjdifeofnpcnaaDoorKw

namespace Go.Proofs.YtfjdifeofnpcnaaDoor

open Go Go.LX
set_option maxRecDepth 100000
set_option linter.unusedVariables false
set_option linter.unusedSimpArgs false

theorem okay_one (x : Is) (hX : XI64 x) (h0 : x.cs.length ≤ 20) : Okay [x] ↔ Shp x := by
  constructor
  · intro h; exact h.2.1 x (by simp)
  · intro h
    refine ⟨by simp, fun y hy => by rw [List.mem_singleton] at hy; subst hy; exact h, ?_, by show 1 ≤ 60; decide⟩
    have := join_len [x] x.cs.length (fun y hy => by rw [List.mem_singleton] at hy; subst hy; exact ⟨hX, Nat.le_refl _⟩)
    have h2 : [x].length = 1 := rfl
    rw [h2] at this
    omega
theorem may_plain (op a b n : Int) (hop : I64 op) (hn : I64 n) : MayP ⟨op, a, b, n, []⟩ ↔ n ≤ mostV op ∧ Shp ⟨op, a, b, n, []⟩ := by
  unfold MayP
  rw [okay_one _ ⟨hop, hn, by show 0 ≤ 520; decide, by simp⟩ (by show 0 ≤ 20; decide)]
  simp
theorem lead_plain (op a b n m : Int) : LeadP ⟨op, a, b, n, []⟩ m ↔ ((op = 10 ∨ op = 11 ∨ op = 12) → n < m) := by
  unfold LeadP
  show (if op = 10 ∨ op = 11 ∨ op = 12 then n < m else _) ↔ _
  by_cases h : op = 10 ∨ op = 11 ∨ op = 12
  · rw [if_pos h]; exact ⟨fun x _ => x, fun x => x h⟩
  · rw [if_neg h]; exact ⟨fun _ x => absurd x h, fun _ c hc => by simp at hc⟩
theorem valid_bad {l : List Is} {a e : Int} (h : ValidP l a e) (h0 : l ≠ []) (h1 : l.length ≤ 60) (i : Nat) (x : Is) (hx : l[i]? = some x) (hp : ∀ y ∈ l.take i, MayP y ∧ LeadP y l.length) (e2 : Int) (hb : (¬ MayP x ∧ e2 = 5) ∨ (MayP x ∧ ¬ LeadP x l.length ∧ e2 = 6)) : a = (i : Int) + 1 ∧ e = e2 := by
  have hnot : ¬ (MayP x ∧ LeadP x l.length) := by
    rintro ⟨p, q⟩
    rcases hb with ⟨r, _⟩ | ⟨_, r, _⟩
    · exact r p
    · exact r q
  rcases h with ⟨h, _⟩ | ⟨h, _⟩ | ⟨_, _, h, _⟩ | ⟨_, _, j, y, hy, hq, ha, he⟩
  · exact absurd h h0
  · omega
  · exact absurd (h x (List.mem_of_getElem? hx)) hnot
  · have hij : j = i := by
      rcases Nat.lt_trichotomy j i with hlt | rfl | hlt
      · exfalso
        have hm : y ∈ l.take i := List.mem_of_getElem? (i := j) (by rw [List.getElem?_take, if_pos hlt]; exact hy)
        have := hp y hm
        rcases he with ⟨r, _⟩ | ⟨_, r, _⟩
        · exact r this.1
        · exact r this.2
      · rfl
      · exfalso
        have hm : x ∈ l.take j := List.mem_of_getElem? (i := i) (by rw [List.getElem?_take, if_pos hlt]; exact hx)
        exact hnot (hq x hm)
    subst hij
    rw [hx] at hy; cases hy
    refine ⟨ha, ?_⟩
    rcases he with ⟨p, q⟩ | ⟨p, q, r⟩ <;> rcases hb with ⟨p2, q2⟩ | ⟨p2, q2, r2⟩
    · omega
    · exact absurd p2 p
    · exact absurd p p2
    · omega
theorem valid_good {l : List Is} {a e : Int} (h : ValidP l a e) (h0 : l ≠ []) (h1 : l.length ≤ 60) (hp : ∀ y ∈ l, MayP y ∧ LeadP y l.length) : a = 0 ∧ e = 0 := by
  rcases h with ⟨h, _⟩ | ⟨h, _⟩ | ⟨_, _, _, h⟩ | ⟨_, _, j, y, hy, hq, ha, he⟩
  · exact absurd h h0
  · omega
  · exact h
  · exfalso
    have := hp y (List.mem_of_getElem? hy)
    rcases he with ⟨r, _⟩ | ⟨_, r, _⟩
    · exact r this.1
    · exact r this.2
def j0Z : ByteArray := ⟨#[106, 48]⟩
theorem j0_dec : decodeV j0Z = ([⟨11, 0, 0, 0, []⟩], 0, 0) := by
  rw [decodeV, show linesV j0Z = ([[106, 48]], 0) by decide +kernel]
  rfl
theorem j_shp (n : Int) (h0 : 0 ≤ n) (h1 : n ≤ 9999) : Shp ⟨11, 0, 0, n, []⟩ := shp_mk _ _ _ _ (by decide) (by decide) (by simp [shapeV] <;> omega) (by simp [shapeV] <;> omega) (by simp [shapeV] <;> omega)
theorem j_may (n : Int) (h0 : 0 ≤ n) (h1 : n ≤ 9999) : MayP ⟨11, 0, 0, n, []⟩ := (may_plain _ _ _ _ (by unfold I64; omega) (by unfold I64; omega)).2 ⟨by show n ≤ mostV 11; simp [mostV]; omega, j_shp n h0 h1⟩
theorem j_x64 (n : Int) (h0 : 0 ≤ n) (h1 : n ≤ 9999) : ∀ x ∈ [(⟨11, 0, 0, n, []⟩ : Is)], XI64 x := by
  intro x hx
  rw [List.mem_singleton] at hx
  subst hx
  exact ⟨by unfold I64; show -9223372036854775808 ≤ (11 : Int) ∧ (11 : Int) ≤ 9223372036854775807; decide, by unfold I64; exact ⟨by show -9223372036854775808 ≤ n; omega, by show n ≤ 9223372036854775807; omega⟩, by show 0 ≤ 520; decide, by simp⟩
set_option maxHeartbeats 2000000 in
theorem awake03_lx (o : Unit → Obj) (ho : IsPow o) : CallF (fun _ => Tryd.prog) 18 [] [(0, .fix 0 o)] 1 (fun r h n => r = .p (.bool true) ∧ h = [(0, .fix 0 o)] ∧ n = 1) := by
  have hload : CallF (fun _ => Tryd.prog) 21 [.p (.str fun _ => j0Z)] [(0, .fix 0 o)] 1 (fun r h n => (∃ L, r = .tup [.p (.vsl (.sym 1) true L), .p (.int .i64 (.sym 0)), .p (.int .i64 (.sym 0))]) ∧ h = [(0, .fix 0 o)] ∧ n = 1) := by
    refine callF_of_body tok Tryd.func21 (by kernel_rfl) rfl rfl rfl ?_; conv => cbv
    refine callF_frame (decode_lx j0Z (by decide)) [] rfl trivial rfl rfl (fun r2 h' n' hrr => ?_)
    obtain ⟨e1, e2, e3⟩ := hrr
    subst e2 e3
    cases e1 with
    | mk k a e L xs hD hk hL =>
      rw [j0_dec] at hD
      obtain ⟨rfl, hD2⟩ := Prod.mk.inj hD
      obtain ⟨rfl, rfl⟩ := Prod.mk.inj hD2
      have hk1 : k = 1 := hk
      conv => cbv
      refine Br.no (by show ¬ ¬ (0 : Int) = 0; simp) ?_
      conv => cbv
      refine callF_frame (valid_lx [⟨11, 0, 0, 0, []⟩] k L o ho hk hL (by decide) (j_x64 0 (by decide) (by decide))) [(0, 0)] rfl (by simp [hmapOk, nget, hget, renB, okB, renV, renVs, rn, okVs, okV]) rfl rfl (fun r2 h' n' hrr => ?_)
      obtain ⟨⟨a, e, e1, hv⟩, e2, e3⟩ := hrr
      subst e1 e2 e3
      obtain ⟨ha, he⟩ := valid_good hv (by simp) (by show 1 ≤ 60; decide) (by
        intro y hy
        rw [List.mem_singleton] at hy
        subst hy
        exact ⟨j_may 0 (by decide) (by decide), (lead_plain _ _ _ _ _).2 (fun _ => by show (0 : Int) < 1; decide)⟩)
      conv => cbv
      refine Br.no (by show ¬ ¬ e = 0; simp [he]) ?_
      conv => cbv
      refine RetF.mk [.p (.vsl (.sym 1) true L), .p (.int .i64 (.sym 0)), .p (.int .i64 (.sym 0))] [(0, .fix 0 o)] 1 (Re.at [(0, 0)] []) rfl ⟨⟨L, rfl⟩, rfl, rfl⟩
  refine callF_of_body tok Tryd.func18 (by kernel_rfl) rfl rfl rfl ?_; conv => cbv
  refine callF_frame hload [(0, 0)] rfl (by simp [hmapOk, nget, hget, renB, okB, renV, renVs, rn, okVs, okV]) rfl rfl (fun r2 h' n' hrr => ?_)
  obtain ⟨⟨L, e1⟩, e2, e3⟩ := hrr
  subst e1 e2 e3
  conv => cbv
  refine CallF.re (args0 := [.p (.vsl (.sym 1) true [.int .i64 (.sym 11), .int .i64 (.sym 0), .int .i64 (.sym 0), .int .i64 (.sym 1), .vsl (.sym 0) true []])]) (h' := [(0, .fix 0 o)]) (Re.at [(0, 0)] []) ?_
  refine callF_frame (valid_lx [⟨11, 0, 0, 1, []⟩] 1 [.int .i64 (.sym 11), .int .i64 (.sym 0), .int .i64 (.sym 0), .int .i64 (.sym 1), .vsl (.sym 0) true []] o ho rfl rfl (by decide) (j_x64 1 (by decide) (by decide))) [(0, 0)] rfl (by simp [hmapOk, nget, hget, renB, okB, renV, renVs, rn, okVs, okV]) rfl rfl (fun r2 h' n' hrr => ?_)
  obtain ⟨⟨a, e, e1, hv⟩, e2, e3⟩ := hrr
  subst e1 e2 e3
  obtain ⟨ha, he⟩ := valid_bad hv (by simp) (by show 1 ≤ 60; decide) 0 _ rfl (fun y hy => by simp at hy) 6 (.inr ⟨j_may 1 (by decide) (by decide), fun h => by have := (lead_plain _ _ _ _ _).1 h (by decide); exact absurd this (by decide), rfl⟩)
  conv => cbv
  refine Br.yes rfl ?_
  conv => cbv
  refine Br.yes rfl ?_
  conv => cbv
  refine Br.yes rfl ?_
  conv => cbv
  refine Br.yes (by show a = 1; rw [ha]; rfl) ?_
  conv => cbv
  refine Br.yes (by show e = 6; exact he) ?_
  conv => cbv
  refine RetF.mk [.p (.bool true)] [(0, .fix 0 o)] 1 (Re.at [(0, 0)] []) rfl ⟨rfl, rfl, rfl⟩
end Go.Proofs.YtfjdifeofnpcnaaDoor
