/-
  Law 3, CheckWrong.
-/
import Derived.Test.YtfjdifeofnpcnaaDoorUo

import Derived.Test.YtfjdifeofnpcnaaDoorUb

import Derived.Test.YtfjdifeofnpcnaaDoorUi

import Derived.Test.YtfjdifeofnpcnaaDoorLxI

namespace Go.Proofs.YtfjdifeofnpcnaaDoor

open Go Go.LX
set_option maxRecDepth 100000
set_option linter.unusedVariables false
set_option linter.unusedSimpArgs false
/-- What may not be, each for its own reason. -/
def badV (n : Int) : List Is := [⟨0, 0, 0, 0, []⟩, ⟨23, 0, 0, 0, []⟩, ⟨1, 6, 0, 0, []⟩, ⟨1, -1, 0, 0, []⟩, ⟨1, 0, 0, 10000, []⟩, ⟨1, 0, 1, 0, []⟩, ⟨4, 0, 0, 4, []⟩, ⟨14, 0, 0, 1001, []⟩, ⟨18, 0, 0, 4, []⟩, ⟨20, 0, 0, 10, []⟩, ⟨22, 1, 0, 0, []⟩,
  ⟨11, 0, 0, n, []⟩, ⟨10, 0, 0, 9999, []⟩, ⟨21, 0, 0, 0, []⟩, ⟨21, 0, 0, 0, [⟨4, 0, 0, 0⟩]⟩, ⟨21, 0, 0, 0, [⟨3, 1, 0, 0⟩]⟩, ⟨21, 0, 0, 0, [⟨3, 0, 0, 0⟩, ⟨1, 0, 0, 0⟩]⟩, ⟨21, 0, 0, 0, [⟨1, 0, 0, 0⟩, ⟨1, 0, 0, 0⟩, ⟨1, 0, 0, 0⟩, ⟨3, 0, 0, 0⟩]⟩,
  ⟨21, 0, 0, 0, [⟨2, 0, 0, n⟩]⟩, ⟨2, 0, 0, 0, [⟨1, 0, 0, 0⟩]⟩, ⟨11, 0, 0, -1, []⟩]
def wantV (w : Int) : Int := if w = 11 ∨ w = 12 ∨ w = 18 then 6 else 5
theorem isV_app (a b : List Is) : isV (a ++ b) = isV a ++ isV b := by simp [isV]
theorem isV_takeN {B : List Is} {i : Nat} (h : i ≤ B.length) : (isV B).take (i * 5) = isV (B.take i) := by
  have e : isV B = isV (B.take i) ++ isV (B.drop i) := by rw [← isV_app, List.take_append_drop]
  have hl : (isV (B.take i)).length = i * 5 := by rw [isV_length, List.length_take, Nat.min_eq_left h]
  rw [e, List.take_append_of_le_length (by omega), List.take_of_length_le (by omega)]
theorem isV_dropN {B : List Is} {i : Nat} (h : i ≤ B.length) : (isV B).drop (i * 5) = isV (B.drop i) := by
  have e : isV B = isV (B.take i) ++ isV (B.drop i) := by rw [← isV_app, List.take_append_drop]
  have hl : (isV (B.take i)).length = i * 5 := by rw [isV_length, List.length_take, Nat.min_eq_left h]
  rw [e, List.drop_append_of_le_length (by omega), List.drop_eq_nil_of_le (by omega)]
  rfl
theorem bad_xw {n : Int} (hn : 0 ≤ n ∧ n ≤ 100) : ∀ x ∈ badV n, XW x := by
  intro x hx
  have hI : ∀ v : Int, -1000000 ≤ v → v ≤ 1000000 → I64 v := fun v h1 h2 => by unfold I64; omega
  simp only [badV, List.mem_cons, List.not_mem_nil, or_false] at hx
  rcases hx with rfl | rfl | rfl | rfl | rfl | rfl | rfl | rfl | rfl | rfl | rfl | rfl | rfl | rfl | rfl | rfl | rfl | rfl | rfl | rfl | rfl <;>
    refine ⟨hI _ (by dsimp only; omega) (by dsimp only; omega), hI _ (by dsimp only; omega) (by dsimp only; omega), fun c hc => ?_⟩ <;>
    simp only [List.mem_cons, List.not_mem_nil, or_false] at hc <;> (try rcases hc with rfl | rfl | rfl | rfl) <;> (try rcases hc with rfl | rfl) <;> (try subst hc) <;> exact hI _ (by dsimp only; omega) (by dsimp only; omega)
theorem no_plain (op a b n : Int) (h : 1 ≤ op ∧ op ≤ 22) (h21 : op ≠ 21) (hno : ¬ ((if (97 : UInt8) ∈ shapeV op then 0 ≤ a ∧ a ≤ 5 else a = 0) ∧ (if (98 : UInt8) ∈ shapeV op then 0 ≤ b ∧ b ≤ 5 else b = 0) ∧
    (if (110 : UInt8) ∈ shapeV op then 0 ≤ n ∧ n ≤ 9999 else if (100 : UInt8) ∈ shapeV op then 0 ≤ n ∧ n ≤ 9 else n = 0))) : ¬ Shp ⟨op, a, b, n, []⟩ := fun hs => hno ((shp_iff ⟨op, a, b, n, []⟩ h h21 rfl).1 hs)
theorem no_op (x : Is) (h : x.op < 1 ∨ 22 < x.op) : ¬ Shp x := fun hs => by have := (shp_num hs).1; omega
theorem bad_why {n w : Int} {x : Is} (hn : 1 ≤ n ∧ n ≤ 100) (hw : 0 ≤ w ∧ w < 21) (hx : (badV n)[w.toNat]? = some x) : (¬ MayP x ∧ wantV w = 5) ∨ (MayP x ∧ ¬ LeadP x n ∧ wantV w = 6) := by
  have hxw := bad_xw (n := n) (by omega) x (List.mem_of_getElem? hx)
  have hm := may_all x hxw
  have hc : w = 0 ∨ w = 1 ∨ w = 2 ∨ w = 3 ∨ w = 4 ∨ w = 5 ∨ w = 6 ∨ w = 7 ∨ w = 8 ∨ w = 9 ∨ w = 10 ∨ w = 11 ∨ w = 12 ∨ w = 13 ∨ w = 14 ∨ w = 15 ∨ w = 16 ∨ w = 17 ∨ w = 18 ∨ w = 19 ∨ w = 20 := by omega
  have no : ∀ {y : Is}, XW y → ¬ Shp y → ¬ MayP y := fun hy h hm => h ((may_all _ hy).1 hm).1
  have nb : ∀ {y : Is}, XW y → ¬ BndG y → ¬ MayP y := fun hy h hm => h ((may_all _ hy).1 hm).2
  rcases hc with rfl | rfl | rfl | rfl | rfl | rfl | rfl | rfl | rfl | rfl | rfl | rfl | rfl | rfl | rfl | rfl | rfl | rfl | rfl | rfl | rfl
  · cases hx; exact .inl ⟨no hxw (no_op _ (.inl (by decide))), rfl⟩
  · cases hx; exact .inl ⟨no hxw (no_op _ (.inr (by decide))), rfl⟩
  · cases hx; exact .inl ⟨no hxw (no_plain _ _ _ _ (by decide) (by decide) (by simp [shapeV])), rfl⟩
  · cases hx; exact .inl ⟨no hxw (no_plain _ _ _ _ (by decide) (by decide) (by simp [shapeV])), rfl⟩
  · cases hx; exact .inl ⟨no hxw (no_plain _ _ _ _ (by decide) (by decide) (by simp [shapeV])), rfl⟩
  · cases hx; exact .inl ⟨no hxw (no_plain _ _ _ _ (by decide) (by decide) (by simp [shapeV])), rfl⟩
  · cases hx; exact .inl ⟨nb hxw (fun h => absurd (h.1.1 rfl) (by decide)), rfl⟩
  · cases hx; exact .inl ⟨nb hxw (fun h => absurd (h.1.2.1 rfl) (by decide)), rfl⟩
  · cases hx; exact .inl ⟨nb hxw (fun h => absurd (h.1.2.2.2 (.inl rfl)) (by decide)), rfl⟩
  · cases hx; exact .inl ⟨nb hxw (fun h => absurd (h.1.2.2.1 rfl) (by decide)), rfl⟩
  · cases hx; exact .inl ⟨no hxw (no_plain _ _ _ _ (by decide) (by decide) (by simp [shapeV])), rfl⟩
  · cases hx
    refine .inr ⟨(may_all _ hxw).2 ⟨shp_mk _ _ _ _ (by decide) (by decide) (by simp [shapeV]) (by simp [shapeV]) (by simp [shapeV]; omega), ?_⟩, fun h => ?_, rfl⟩
    · exact ⟨⟨fun h => absurd h (by simp), fun h => absurd h (by simp), fun h => absurd h (by simp), fun h => absurd h (by simp)⟩, by simp⟩
    · have h2 := (lead_plain 11 0 0 n n).1 h (by decide)
      omega
  · cases hx
    refine .inr ⟨(may_all _ hxw).2 ⟨shp_mk _ _ _ _ (by decide) (by decide) (by simp [shapeV]) (by simp [shapeV]) (by simp [shapeV]), ?_⟩, fun h => ?_, rfl⟩
    · exact ⟨⟨fun h => absurd h (by simp), fun h => absurd h (by simp), fun h => absurd h (by simp), fun h => absurd h (by simp)⟩, by simp⟩
    · have h2 := (lead_plain 10 0 0 9999 n).1 h (by decide)
      omega
  · cases hx; exact .inl ⟨no hxw (fun h => absurd rfl ((shp21_iff rfl).1 h).2.2.2.1), rfl⟩
  · cases hx; exact .inl ⟨no hxw (fun h => absurd (((shp21_iff rfl).1 h).2.2.2.2 0 _ rfl).1 (by decide)), rfl⟩
  · cases hx; exact .inl ⟨no hxw (fun h => absurd ((((shp21_iff rfl).1 h).2.2.2.2 0 _ rfl).2.2.2.2.2 rfl).1 (by decide)), rfl⟩
  · cases hx; exact .inl ⟨no hxw (fun h => absurd ((((shp21_iff rfl).1 h).2.2.2.2 0 _ rfl).2.2.2.2.2 rfl).2.2 (by decide)), rfl⟩
  · cases hx; exact .inl ⟨nb hxw (fun h => absurd h.2 (by decide)), rfl⟩
  · cases hx
    refine .inr ⟨(may_all _ hxw).2 ⟨(shp21_iff rfl).2 ⟨rfl, rfl, rfl, by simp, ?_⟩, ?_⟩, fun h => ?_, rfl⟩
    · intro j c hj
      cases j with
      | succ j => simp at hj
      | zero =>
        cases hj
        exact ⟨by dsimp only; omega, by dsimp only; omega, by dsimp only; omega, by dsimp only; omega, ⟨by show 0 ≤ n; omega, by show n < 10000; omega⟩, fun h => absurd h (by simp)⟩
    · exact ⟨⟨fun h => absurd h (by simp), fun h => absurd h (by simp), fun h => absurd h (by simp), fun h => absurd h (by simp)⟩, by simp⟩
    · unfold LeadP at h
      rw [if_neg (by simp)] at h
      have h2 : n < n := h ⟨2, 0, 0, n⟩ (by simp)
      omega
  · cases hx; exact .inl ⟨no hxw (fun h => by unfold Shp at h; rw [if_neg (by decide)] at h; exact absurd h.2.1 (by simp)), rfl⟩
  · cases hx; exact .inl ⟨no hxw (no_plain _ _ _ _ (by decide) (by decide) (by simp [shapeV])), rfl⟩
theorem insG_may2 {y : Is} {n : Int} (h : InsG y n) : MayP y ∧ LeadP y (n + 1) := by
  obtain ⟨h1, h2⟩ := insG_may h
  refine ⟨h1, ?_⟩
  unfold LeadP at h2 ⊢
  split
  · rename_i g; rw [if_pos g] at h2; omega
  · rename_i g; rw [if_neg g] at h2; exact fun c hc => by have := h2 c hc; omega
theorem judgeBig_lx (k : Int) (L : List PV) (o : Unit → Obj) (hk : 60 < k) : CallF (fun _ => Tryd.prog) 39 [.p (.vsl (.sym k) true L)] [(0, .fix 0 o)] 1 (fun r h n' => r = .iface 92 (.agg [.p (.int .i64 (.sym 0)), .p (.int .i64 (.sym 3))]) ∧ h = [(0, .fix 0 o)] ∧ n' = 1) := by
  refine callF_of_body tok Tryd.func39 (by kernel_rfl) rfl rfl rfl ?_; conv => cbv
  refine Br.no (by show ¬ k = 0; omega) ?_
  conv => cbv
  refine Br.yes (by show 60 < k; exact hk) ?_
  conv => cbv
  refine RetF.mk [.iface 92 (.agg [.p (.int .i64 (.sym 0)), .p (.int .i64 (.sym 3))])] [(0, .fix 0 o)] 1 (Re.at [(0, 0)] []) rfl ⟨rfl, rfl, rfl⟩
theorem validBig_lx (k : Int) (L : List PV) (o : Unit → Obj) (hk : 60 < k) : CallF (fun _ => Tryd.prog) 19 [.p (.vsl (.sym k) true L)] [(0, .fix 0 o)] 1 (fun r h n' => r = .tup [.p (.int .i64 (.sym 0)), .p (.int .i64 (.sym 3))] ∧ h = [(0, .fix 0 o)] ∧ n' = 1) := by
  refine callF_of_body tok Tryd.func19 (by kernel_rfl) rfl rfl rfl ?_; conv => cbv
  refine callF_frame (judgeBig_lx k L o hk) [(0, 0)] rfl (by simp [hmapOk, nget, hget, renB, okB, renV, renVs, rn, okVs, okV]) rfl rfl (fun r2 h' n' ⟨e1, e2, e3⟩ => ?_)
  subst e1 e2 e3
  conv => cbv
  refine callF_frame (told_some 0 3) [] rfl trivial rfl rfl (fun r2 h' n' ⟨e1, e2, e3⟩ => ?_)
  subst e1 e2 e3
  conv => cbv
  refine RetF.mk [.p (.int .i64 (.sym 0)), .p (.int .i64 (.sym 3))] [(0, .fix 0 o)] 1 (Re.at [(0, 0)] []) rfl ⟨rfl, rfl, rfl⟩
def z61 : List PV := (List.replicate 61 [.int .i64 (.lit 0), .int .i64 (.lit 0), .int .i64 (.lit 0), .int .i64 (.lit 0), .nils]).flatten
theorem valid_nil {a e : Int} (h : ValidP [] a e) : a = 0 ∧ e = 7 := by
  rcases h with ⟨_, h1, h2⟩ | ⟨h, _⟩ | ⟨h, _⟩ | ⟨h, _⟩
  · exact ⟨h1, h2⟩
  · simp at h
  · exact absurd rfl h
  · exact absurd rfl h
set_option maxHeartbeats 8000000 in
theorem checkWrong_lx (A : List Is) (q r0 : Int) (k : Int) (L : List PV) (o : Unit → Obj) (ho : IsPow o) (hk : k = A.length) (hL : L = isV A) (hwf : ∀ x ∈ A, x.wf ∧ (∀ c ∈ x.cs, c.wf) ∧ x.cs.length ≤ maxLen) (hm : A.length ≤ maxLen) :
    CallF (fun _ => Tryd.prog) 8 [.p (.vsl (.sym k) true L), .p (.int .i64 (.sym q)), .p (.int .i64 (.sym r0))] [(0, .fix 0 o)] 1 (fun r h n => r = .p (.bool true)) := by
  refine callF_of_bodyB tok Tryd.func8 (by kernel_rfl) rfl rfl rfl [9] ?_; conv => cbv
  refine callF_frame (few_lx A k L hk hL hm) [] rfl trivial rfl rfl (fun r2 h' n' hrr => ?_)
  obtain ⟨⟨fb, e1⟩, e2, e3⟩ := hrr
  subst e1 e2 e3
  cases fb with
  | false =>
    conv => cbv
    refine callF_frame (awake03_lx o ho) [(0, 0)] rfl (by simp [hmapOk, nget, hget, renB, okB, renV, renVs, rn, okVs, okV]) rfl rfl (fun r2 h' n' ⟨e1, e2, e3⟩ => ?_)
    subst e1 e2 e3
    conv => cbv
    refine RetF.mk [.p (.bool true)] [(0, .fix 0 o)] 1 (Re.at [(0, 0)] []) rfl rfl
  | true =>
  conv => cbv
  refine callF_frame (code_lx A k L hk hL (fun x hx => (hwf x hx).2.2)) [] rfl trivial rfl rfl (fun r2 h' n' hrr => ?_)
  obtain ⟨⟨k2, L2, e1, hk2, hL2⟩, e2, e3⟩ := hrr
  subst e1 e2 e3
  obtain ⟨B, hB⟩ : ∃ B, B = codeV A := ⟨_, rfl⟩
  have hBg : ∀ x ∈ B, InsG x B.length := by rw [hB]; exact codeV_good A
  have hBl : 0 < B.length ∧ B.length ≤ 40 := by rw [hB]; exact codeV_40 A
  rw [← hB] at hk2 hL2
  clear hB hk hL hwf
  conv => cbv
  refine Fit.wrap fun xn hxn => ?_
  have hxn : xn = IntKind.u64.wrap r0 := hxn
  have hx0 : 0 ≤ xn := by rw [hxn]; simp [IntKind.wrap, IntKind.bits, IntKind.signed]; omega
  clear hxn
  conv => cbv
  refine Fit.mk (by show (-9223372036854775808 : Int) ≤ k2 + 1; omega) (by show k2 + 1 ≤ 9223372036854775807; omega) fun k3 hk3 => ?_
  have hk3 : k3 = k2 + 1 := hk3
  conv => cbv
  refine Fit.mk (by show (0 : Int) ≤ k3; omega) (by show k3 ≤ 18446744073709551615; omega) fun yn hyn => ?_
  have hyn : yn = k3 := hyn
  conv => cbv
  refine Need.mk (by show yn ≠ 0; omega) ?_
  conv => cbv
  refine Sum.mk fun tn htn => ?_
  have htn : tn = xn % yn := (show tn = xn.tmod yn from htn).trans (Int.tmod_eq_emod_of_nonneg hx0)
  have ht0 := Int.emod_nonneg xn (show yn ≠ 0 by omega)
  have ht1 := Int.emod_lt_of_pos xn (show (0 : Int) < yn by omega)
  conv => cbv
  refine Fit.mk (by show (-9223372036854775808 : Int) ≤ tn; omega) (by show tn ≤ 9223372036854775807; omega) fun p hp => ?_
  have hp : p = tn := hp
  have hp0 : 0 ≤ p := by omega
  have hp1 : p ≤ k2 := by omega
  clear hp htn ht0 ht1 hyn hk3 hx0
  conv => cbv
  refine Fit.mk (by show (-9223372036854775808 : Int) ≤ k2 + 1; omega) (by show k2 + 1 ≤ 9223372036854775807; omega) fun n1 hn1 => ?_
  have hn1 : n1 = k2 + 1 := hn1
  conv => cbv
  refine Fit.mk (by show (-9223372036854775808 : Int) ≤ k2 + 1; omega) (by show k2 + 1 ≤ 9223372036854775807; omega) fun n2 hn2 => ?_
  have hn2 : n2 = k2 + 1 := hn2
  obtain rfl : n2 = n1 := by omega
  conv => cbv
  refine Fit.wrap fun x5 hx5 => ?_
  have hx5 : x5 = IntKind.u64.wrap q := hx5
  have hx50 : 0 ≤ x5 := by rw [hx5]; simp [IntKind.wrap, IntKind.bits, IntKind.signed]; omega
  clear hx5
  conv => cbv
  refine Sum.mk fun t5 ht5 => ?_
  have ht5 : t5 = x5 % 21 := (show t5 = x5.tmod 21 from ht5).trans (Int.tmod_eq_emod_of_nonneg hx50)
  conv => cbv
  refine Fit.mk (by show (-9223372036854775808 : Int) ≤ t5; omega) (by show t5 ≤ 9223372036854775807; omega) fun w hw => ?_
  have hw : w = t5 := hw
  have hwb : 0 ≤ w ∧ w < 21 := by omega
  clear hw ht5 hx50
  conv => cbv
  refine JoinF.mk (fun s => ∃ (want : Int) (BL : List PV), s = ⟨undefs 7 ++ .p (.vsl (.sym k2) true L2) :: .p (.int .i64 (.sym k2)) :: .p (.int .i64 (.sym p)) :: .sl 1 36 5 (.lit 0) (.sym 21) :: .p (.int .i64 (.sym w)) :: .p (.int .i64 (.sym want)) :: undefs 126, [(0, .fix 0 o), (1, .pure true BL)], 2⟩ ∧ BL = isV (badV n2) ∧ want = wantV w) ?_ ?_
  · conv => cbv
    refine Br.mk (fun g11 => ?_) (fun g11 => ?_)
    · have g11 : w = 11 := g11
      conv => cbv
      refine Joined.mk _ (Re.at [(0, 0), (7, 1)] []) ⟨6, [.int .i64 (.sym 0), .int .i64 (.sym 0), .int .i64 (.sym 0), .int .i64 (.sym 0), .vsl (.sym 0) true [], .int .i64 (.sym 23), .int .i64 (.sym 0), .int .i64 (.sym 0), .int .i64 (.sym 0), .vsl (.sym 0) true [], .int .i64 (.sym 1), .int .i64 (.sym 6), .int .i64 (.sym 0), .int .i64 (.sym 0), .vsl (.sym 0) true [], .int .i64 (.sym 1), .int .i64 (.sym (-1)), .int .i64 (.sym 0), .int .i64 (.sym 0), .vsl (.sym 0) true [], .int .i64 (.sym 1), .int .i64 (.sym 0), .int .i64 (.sym 0), .int .i64 (.sym 10000), .vsl (.sym 0) true [], .int .i64 (.sym 1), .int .i64 (.sym 0), .int .i64 (.sym 1), .int .i64 (.sym 0), .vsl (.sym 0) true [], .int .i64 (.sym 4), .int .i64 (.sym 0), .int .i64 (.sym 0), .int .i64 (.sym 4), .vsl (.sym 0) true [], .int .i64 (.sym 14), .int .i64 (.sym 0), .int .i64 (.sym 0), .int .i64 (.sym 1001), .vsl (.sym 0) true [], .int .i64 (.sym 18), .int .i64 (.sym 0), .int .i64 (.sym 0), .int .i64 (.sym 4), .vsl (.sym 0) true [], .int .i64 (.sym 20), .int .i64 (.sym 0), .int .i64 (.sym 0), .int .i64 (.sym 10), .vsl (.sym 0) true [], .int .i64 (.sym 22), .int .i64 (.sym 1), .int .i64 (.sym 0), .int .i64 (.sym 0), .vsl (.sym 0) true [], .int .i64 (.sym 11), .int .i64 (.sym 0), .int .i64 (.sym 0), .int .i64 (.sym n2), .vsl (.sym 0) true [], .int .i64 (.sym 10), .int .i64 (.sym 0), .int .i64 (.sym 0), .int .i64 (.sym 9999), .vsl (.sym 0) true [], .int .i64 (.sym 21), .int .i64 (.sym 0), .int .i64 (.sym 0), .int .i64 (.sym 0), .vsl (.sym 0) true [], .int .i64 (.sym 21), .int .i64 (.sym 0), .int .i64 (.sym 0), .int .i64 (.sym 0), .vsl (.sym 1) true [.int .i64 (.sym 4), .int .i64 (.sym 0), .int .i64 (.sym 0), .int .i64 (.sym 0)], .int .i64 (.sym 21), .int .i64 (.sym 0), .int .i64 (.sym 0), .int .i64 (.sym 0), .vsl (.sym 1) true [.int .i64 (.sym 3), .int .i64 (.sym 1), .int .i64 (.sym 0), .int .i64 (.sym 0)], .int .i64 (.sym 21), .int .i64 (.sym 0), .int .i64 (.sym 0), .int .i64 (.sym 0), .vsl (.sym 2) true [.int .i64 (.sym 3), .int .i64 (.sym 0), .int .i64 (.sym 0), .int .i64 (.sym 0), .int .i64 (.sym 1), .int .i64 (.sym 0), .int .i64 (.sym 0), .int .i64 (.sym 0)], .int .i64 (.sym 21), .int .i64 (.sym 0), .int .i64 (.sym 0), .int .i64 (.sym 0), .vsl (.sym 4) true [.int .i64 (.sym 1), .int .i64 (.sym 0), .int .i64 (.sym 0), .int .i64 (.sym 0), .int .i64 (.sym 1), .int .i64 (.sym 0), .int .i64 (.sym 0), .int .i64 (.sym 0), .int .i64 (.sym 1), .int .i64 (.sym 0), .int .i64 (.sym 0), .int .i64 (.sym 0), .int .i64 (.sym 3), .int .i64 (.sym 0), .int .i64 (.sym 0), .int .i64 (.sym 0)], .int .i64 (.sym 21), .int .i64 (.sym 0), .int .i64 (.sym 0), .int .i64 (.sym 0), .vsl (.sym 1) true [.int .i64 (.sym 2), .int .i64 (.sym 0), .int .i64 (.sym 0), .int .i64 (.sym n2)], .int .i64 (.sym 2), .int .i64 (.sym 0), .int .i64 (.sym 0), .int .i64 (.sym 0), .vsl (.sym 1) true [.int .i64 (.sym 1), .int .i64 (.sym 0), .int .i64 (.sym 0), .int .i64 (.sym 0)], .int .i64 (.sym 11), .int .i64 (.sym 0), .int .i64 (.sym 0), .int .i64 (.sym (-1)), .vsl (.sym 0) true []], rfl, rfl, by unfold wantV; omega⟩
    have g11 : ¬ w = 11 := g11
    conv => cbv
    refine Br.mk (fun g12 => ?_) (fun g12 => ?_)
    · have g12 : w = 12 := g12
      conv => cbv
      refine Joined.mk _ (Re.at [(0, 0), (7, 1)] []) ⟨6, [.int .i64 (.sym 0), .int .i64 (.sym 0), .int .i64 (.sym 0), .int .i64 (.sym 0), .vsl (.sym 0) true [], .int .i64 (.sym 23), .int .i64 (.sym 0), .int .i64 (.sym 0), .int .i64 (.sym 0), .vsl (.sym 0) true [], .int .i64 (.sym 1), .int .i64 (.sym 6), .int .i64 (.sym 0), .int .i64 (.sym 0), .vsl (.sym 0) true [], .int .i64 (.sym 1), .int .i64 (.sym (-1)), .int .i64 (.sym 0), .int .i64 (.sym 0), .vsl (.sym 0) true [], .int .i64 (.sym 1), .int .i64 (.sym 0), .int .i64 (.sym 0), .int .i64 (.sym 10000), .vsl (.sym 0) true [], .int .i64 (.sym 1), .int .i64 (.sym 0), .int .i64 (.sym 1), .int .i64 (.sym 0), .vsl (.sym 0) true [], .int .i64 (.sym 4), .int .i64 (.sym 0), .int .i64 (.sym 0), .int .i64 (.sym 4), .vsl (.sym 0) true [], .int .i64 (.sym 14), .int .i64 (.sym 0), .int .i64 (.sym 0), .int .i64 (.sym 1001), .vsl (.sym 0) true [], .int .i64 (.sym 18), .int .i64 (.sym 0), .int .i64 (.sym 0), .int .i64 (.sym 4), .vsl (.sym 0) true [], .int .i64 (.sym 20), .int .i64 (.sym 0), .int .i64 (.sym 0), .int .i64 (.sym 10), .vsl (.sym 0) true [], .int .i64 (.sym 22), .int .i64 (.sym 1), .int .i64 (.sym 0), .int .i64 (.sym 0), .vsl (.sym 0) true [], .int .i64 (.sym 11), .int .i64 (.sym 0), .int .i64 (.sym 0), .int .i64 (.sym n2), .vsl (.sym 0) true [], .int .i64 (.sym 10), .int .i64 (.sym 0), .int .i64 (.sym 0), .int .i64 (.sym 9999), .vsl (.sym 0) true [], .int .i64 (.sym 21), .int .i64 (.sym 0), .int .i64 (.sym 0), .int .i64 (.sym 0), .vsl (.sym 0) true [], .int .i64 (.sym 21), .int .i64 (.sym 0), .int .i64 (.sym 0), .int .i64 (.sym 0), .vsl (.sym 1) true [.int .i64 (.sym 4), .int .i64 (.sym 0), .int .i64 (.sym 0), .int .i64 (.sym 0)], .int .i64 (.sym 21), .int .i64 (.sym 0), .int .i64 (.sym 0), .int .i64 (.sym 0), .vsl (.sym 1) true [.int .i64 (.sym 3), .int .i64 (.sym 1), .int .i64 (.sym 0), .int .i64 (.sym 0)], .int .i64 (.sym 21), .int .i64 (.sym 0), .int .i64 (.sym 0), .int .i64 (.sym 0), .vsl (.sym 2) true [.int .i64 (.sym 3), .int .i64 (.sym 0), .int .i64 (.sym 0), .int .i64 (.sym 0), .int .i64 (.sym 1), .int .i64 (.sym 0), .int .i64 (.sym 0), .int .i64 (.sym 0)], .int .i64 (.sym 21), .int .i64 (.sym 0), .int .i64 (.sym 0), .int .i64 (.sym 0), .vsl (.sym 4) true [.int .i64 (.sym 1), .int .i64 (.sym 0), .int .i64 (.sym 0), .int .i64 (.sym 0), .int .i64 (.sym 1), .int .i64 (.sym 0), .int .i64 (.sym 0), .int .i64 (.sym 0), .int .i64 (.sym 1), .int .i64 (.sym 0), .int .i64 (.sym 0), .int .i64 (.sym 0), .int .i64 (.sym 3), .int .i64 (.sym 0), .int .i64 (.sym 0), .int .i64 (.sym 0)], .int .i64 (.sym 21), .int .i64 (.sym 0), .int .i64 (.sym 0), .int .i64 (.sym 0), .vsl (.sym 1) true [.int .i64 (.sym 2), .int .i64 (.sym 0), .int .i64 (.sym 0), .int .i64 (.sym n2)], .int .i64 (.sym 2), .int .i64 (.sym 0), .int .i64 (.sym 0), .int .i64 (.sym 0), .vsl (.sym 1) true [.int .i64 (.sym 1), .int .i64 (.sym 0), .int .i64 (.sym 0), .int .i64 (.sym 0)], .int .i64 (.sym 11), .int .i64 (.sym 0), .int .i64 (.sym 0), .int .i64 (.sym (-1)), .vsl (.sym 0) true []], rfl, rfl, by unfold wantV; omega⟩
    have g12 : ¬ w = 12 := g12
    conv => cbv
    refine Br.mk (fun g18 => ?_) (fun g18 => ?_)
    · have g18 : w = 18 := g18
      conv => cbv
      refine Joined.mk _ (Re.at [(0, 0), (7, 1)] []) ⟨6, [.int .i64 (.sym 0), .int .i64 (.sym 0), .int .i64 (.sym 0), .int .i64 (.sym 0), .vsl (.sym 0) true [], .int .i64 (.sym 23), .int .i64 (.sym 0), .int .i64 (.sym 0), .int .i64 (.sym 0), .vsl (.sym 0) true [], .int .i64 (.sym 1), .int .i64 (.sym 6), .int .i64 (.sym 0), .int .i64 (.sym 0), .vsl (.sym 0) true [], .int .i64 (.sym 1), .int .i64 (.sym (-1)), .int .i64 (.sym 0), .int .i64 (.sym 0), .vsl (.sym 0) true [], .int .i64 (.sym 1), .int .i64 (.sym 0), .int .i64 (.sym 0), .int .i64 (.sym 10000), .vsl (.sym 0) true [], .int .i64 (.sym 1), .int .i64 (.sym 0), .int .i64 (.sym 1), .int .i64 (.sym 0), .vsl (.sym 0) true [], .int .i64 (.sym 4), .int .i64 (.sym 0), .int .i64 (.sym 0), .int .i64 (.sym 4), .vsl (.sym 0) true [], .int .i64 (.sym 14), .int .i64 (.sym 0), .int .i64 (.sym 0), .int .i64 (.sym 1001), .vsl (.sym 0) true [], .int .i64 (.sym 18), .int .i64 (.sym 0), .int .i64 (.sym 0), .int .i64 (.sym 4), .vsl (.sym 0) true [], .int .i64 (.sym 20), .int .i64 (.sym 0), .int .i64 (.sym 0), .int .i64 (.sym 10), .vsl (.sym 0) true [], .int .i64 (.sym 22), .int .i64 (.sym 1), .int .i64 (.sym 0), .int .i64 (.sym 0), .vsl (.sym 0) true [], .int .i64 (.sym 11), .int .i64 (.sym 0), .int .i64 (.sym 0), .int .i64 (.sym n2), .vsl (.sym 0) true [], .int .i64 (.sym 10), .int .i64 (.sym 0), .int .i64 (.sym 0), .int .i64 (.sym 9999), .vsl (.sym 0) true [], .int .i64 (.sym 21), .int .i64 (.sym 0), .int .i64 (.sym 0), .int .i64 (.sym 0), .vsl (.sym 0) true [], .int .i64 (.sym 21), .int .i64 (.sym 0), .int .i64 (.sym 0), .int .i64 (.sym 0), .vsl (.sym 1) true [.int .i64 (.sym 4), .int .i64 (.sym 0), .int .i64 (.sym 0), .int .i64 (.sym 0)], .int .i64 (.sym 21), .int .i64 (.sym 0), .int .i64 (.sym 0), .int .i64 (.sym 0), .vsl (.sym 1) true [.int .i64 (.sym 3), .int .i64 (.sym 1), .int .i64 (.sym 0), .int .i64 (.sym 0)], .int .i64 (.sym 21), .int .i64 (.sym 0), .int .i64 (.sym 0), .int .i64 (.sym 0), .vsl (.sym 2) true [.int .i64 (.sym 3), .int .i64 (.sym 0), .int .i64 (.sym 0), .int .i64 (.sym 0), .int .i64 (.sym 1), .int .i64 (.sym 0), .int .i64 (.sym 0), .int .i64 (.sym 0)], .int .i64 (.sym 21), .int .i64 (.sym 0), .int .i64 (.sym 0), .int .i64 (.sym 0), .vsl (.sym 4) true [.int .i64 (.sym 1), .int .i64 (.sym 0), .int .i64 (.sym 0), .int .i64 (.sym 0), .int .i64 (.sym 1), .int .i64 (.sym 0), .int .i64 (.sym 0), .int .i64 (.sym 0), .int .i64 (.sym 1), .int .i64 (.sym 0), .int .i64 (.sym 0), .int .i64 (.sym 0), .int .i64 (.sym 3), .int .i64 (.sym 0), .int .i64 (.sym 0), .int .i64 (.sym 0)], .int .i64 (.sym 21), .int .i64 (.sym 0), .int .i64 (.sym 0), .int .i64 (.sym 0), .vsl (.sym 1) true [.int .i64 (.sym 2), .int .i64 (.sym 0), .int .i64 (.sym 0), .int .i64 (.sym n2)], .int .i64 (.sym 2), .int .i64 (.sym 0), .int .i64 (.sym 0), .int .i64 (.sym 0), .vsl (.sym 1) true [.int .i64 (.sym 1), .int .i64 (.sym 0), .int .i64 (.sym 0), .int .i64 (.sym 0)], .int .i64 (.sym 11), .int .i64 (.sym 0), .int .i64 (.sym 0), .int .i64 (.sym (-1)), .vsl (.sym 0) true []], rfl, rfl, by unfold wantV; omega⟩
    have g18 : ¬ w = 18 := g18
    conv => cbv
    refine Joined.mk _ (Re.at [(0, 0), (7, 1)] []) ⟨5, [.int .i64 (.sym 0), .int .i64 (.sym 0), .int .i64 (.sym 0), .int .i64 (.sym 0), .vsl (.sym 0) true [], .int .i64 (.sym 23), .int .i64 (.sym 0), .int .i64 (.sym 0), .int .i64 (.sym 0), .vsl (.sym 0) true [], .int .i64 (.sym 1), .int .i64 (.sym 6), .int .i64 (.sym 0), .int .i64 (.sym 0), .vsl (.sym 0) true [], .int .i64 (.sym 1), .int .i64 (.sym (-1)), .int .i64 (.sym 0), .int .i64 (.sym 0), .vsl (.sym 0) true [], .int .i64 (.sym 1), .int .i64 (.sym 0), .int .i64 (.sym 0), .int .i64 (.sym 10000), .vsl (.sym 0) true [], .int .i64 (.sym 1), .int .i64 (.sym 0), .int .i64 (.sym 1), .int .i64 (.sym 0), .vsl (.sym 0) true [], .int .i64 (.sym 4), .int .i64 (.sym 0), .int .i64 (.sym 0), .int .i64 (.sym 4), .vsl (.sym 0) true [], .int .i64 (.sym 14), .int .i64 (.sym 0), .int .i64 (.sym 0), .int .i64 (.sym 1001), .vsl (.sym 0) true [], .int .i64 (.sym 18), .int .i64 (.sym 0), .int .i64 (.sym 0), .int .i64 (.sym 4), .vsl (.sym 0) true [], .int .i64 (.sym 20), .int .i64 (.sym 0), .int .i64 (.sym 0), .int .i64 (.sym 10), .vsl (.sym 0) true [], .int .i64 (.sym 22), .int .i64 (.sym 1), .int .i64 (.sym 0), .int .i64 (.sym 0), .vsl (.sym 0) true [], .int .i64 (.sym 11), .int .i64 (.sym 0), .int .i64 (.sym 0), .int .i64 (.sym n2), .vsl (.sym 0) true [], .int .i64 (.sym 10), .int .i64 (.sym 0), .int .i64 (.sym 0), .int .i64 (.sym 9999), .vsl (.sym 0) true [], .int .i64 (.sym 21), .int .i64 (.sym 0), .int .i64 (.sym 0), .int .i64 (.sym 0), .vsl (.sym 0) true [], .int .i64 (.sym 21), .int .i64 (.sym 0), .int .i64 (.sym 0), .int .i64 (.sym 0), .vsl (.sym 1) true [.int .i64 (.sym 4), .int .i64 (.sym 0), .int .i64 (.sym 0), .int .i64 (.sym 0)], .int .i64 (.sym 21), .int .i64 (.sym 0), .int .i64 (.sym 0), .int .i64 (.sym 0), .vsl (.sym 1) true [.int .i64 (.sym 3), .int .i64 (.sym 1), .int .i64 (.sym 0), .int .i64 (.sym 0)], .int .i64 (.sym 21), .int .i64 (.sym 0), .int .i64 (.sym 0), .int .i64 (.sym 0), .vsl (.sym 2) true [.int .i64 (.sym 3), .int .i64 (.sym 0), .int .i64 (.sym 0), .int .i64 (.sym 0), .int .i64 (.sym 1), .int .i64 (.sym 0), .int .i64 (.sym 0), .int .i64 (.sym 0)], .int .i64 (.sym 21), .int .i64 (.sym 0), .int .i64 (.sym 0), .int .i64 (.sym 0), .vsl (.sym 4) true [.int .i64 (.sym 1), .int .i64 (.sym 0), .int .i64 (.sym 0), .int .i64 (.sym 0), .int .i64 (.sym 1), .int .i64 (.sym 0), .int .i64 (.sym 0), .int .i64 (.sym 0), .int .i64 (.sym 1), .int .i64 (.sym 0), .int .i64 (.sym 0), .int .i64 (.sym 0), .int .i64 (.sym 3), .int .i64 (.sym 0), .int .i64 (.sym 0), .int .i64 (.sym 0)], .int .i64 (.sym 21), .int .i64 (.sym 0), .int .i64 (.sym 0), .int .i64 (.sym 0), .vsl (.sym 1) true [.int .i64 (.sym 2), .int .i64 (.sym 0), .int .i64 (.sym 0), .int .i64 (.sym n2)], .int .i64 (.sym 2), .int .i64 (.sym 0), .int .i64 (.sym 0), .int .i64 (.sym 0), .vsl (.sym 1) true [.int .i64 (.sym 1), .int .i64 (.sym 0), .int .i64 (.sym 0), .int .i64 (.sym 0)], .int .i64 (.sym 11), .int .i64 (.sym 0), .int .i64 (.sym 0), .int .i64 (.sym (-1)), .vsl (.sym 0) true []], rfl, rfl, by unfold wantV; omega⟩
  · rintro s ⟨want, BL, rfl, hBL, hwant⟩
    conv => cbv
    obtain ⟨x, hx⟩ : ∃ x, (badV n2)[w.toNat]? = some x := ⟨_, List.getElem?_eq_getElem (by show w.toNat < 21; omega)⟩
    have hxg := isV_get hx
    rw [← hBL] at hxg
    obtain ⟨xo, hxo⟩ : ∃ q, q = x.op := ⟨_, rfl⟩
    obtain ⟨xa, hxa⟩ : ∃ q, q = x.a := ⟨_, rfl⟩
    obtain ⟨xb, hxb⟩ : ∃ q, q = x.b := ⟨_, rfl⟩
    obtain ⟨xn', hxn'⟩ : ∃ q, q = x.n := ⟨_, rfl⟩
    obtain ⟨xk, hxk⟩ : ∃ q, q = ((x.cs.length : Nat) : Int) := ⟨_, rfl⟩
    obtain ⟨xl, hxl⟩ : ∃ q, q = csV x.cs := ⟨_, rfl⟩
    rw [← hxo, ← hxa, ← hxb, ← hxn', ← hxk, ← hxl] at hxg
    refine read_sound tok (by kernel_rfl) [] [8] [(3, [12, 11, 10, 8, 7, 6, 5, 4]), (9, [12, 11, 10]), (13, [])] [0, 1, 2, 4, 5, 6, 7, 8, 10, 11, 12, 3, 9, 13, 14] (by kernel_rfl) ?_
    conv => cbv
    refine Need.mk ⟨by show (0 : Int) ≤ 0; omega, by show (0 : Int) ≤ p; omega, by show p ≤ k2; omega⟩ ?_
    conv => cbv
    refine Upd.mk fun La hLa => ?_
    have hLa : La = isV (B.take p.toNat) := by
      have e : La = (L2.drop 0).take ((p - 0).toNat * 5) := hLa
      rw [e, List.drop_zero, show (p - 0).toNat = p.toNat by omega, hL2, isV_takeN (by omega)]
    have hLal : (La.length : Int) = p * 5 := by rw [hLa, isV_length, List.length_take]; omega
    conv => cbv
    refine Sum.mk fun pz hpz => ?_
    have hpz : pz = p := by have : pz = p - 0 := hpz; omega
    conv => cbv
    refine Need.mk ⟨by show (0 : Int) ≤ w; omega, by show w < 21; omega⟩ ?_
    conv => cbv
    refine Sum.mk fun w5 hw5 => ?_
    have hw5 : w5 = w * 5 := hw5
    conv => cbv
    refine Cell.at w5 (w.toNat * 5) hxg.1 (by simp [I.val]) (by omega) ?_
    conv => cbv
    refine Cell.at (w5 + 1) (w.toNat * 5 + 1) hxg.2.1 (by simp [I.val]) (by omega) ?_
    conv => cbv
    refine Cell.at (w5 + 2) (w.toNat * 5 + 2) hxg.2.2.1 (by simp [I.val]) (by omega) ?_
    conv => cbv
    refine Cell.at (w5 + 3) (w.toNat * 5 + 3) hxg.2.2.2.1 (by simp [I.val]) (by omega) ?_
    conv => cbv
    refine Cell.at (w5 + 4) (w.toNat * 5 + 4) hxg.2.2.2.2 (by simp [I.val]) (by omega) ?_
    conv => cbv
    refine Need.mk ⟨by show (0 : Int) ≤ p; omega, by show p ≤ k2; omega⟩ ?_
    conv => cbv
    refine Upd.mk fun Lb hLb => ?_
    have hLb : Lb = isV (B.drop p.toNat) := by
      have e : Lb = L2.drop (p.toNat * 5) := hLb
      rw [e, hL2, isV_dropN (by omega)]
    have hLbl : (Lb.length : Int) = (k2 - p) * 5 := by rw [hLb, isV_length, List.length_drop]; omega
    conv => cbv
    refine Sum.mk fun qz hqz => ?_
    have hqz : qz = k2 - p := hqz
    conv => cbv
    refine Need.mk (by show (La.length : Int) = pz * 5; omega) ?_
    conv => cbv
    refine Need.mk ⟨by show pz * 56 ≤ 140737488355328; omega, by show pz ≤ 9223372036854775807; omega⟩ ?_
    conv => cbv
    refine Need.mk rfl ?_
    conv => cbv
    refine Room.new ⟨by show (La.length : Int) = pz * 5; omega, by show (pz + 1) * 56 ≤ 140737488355328; omega, by show pz + 1 ≤ 9223372036854775807; omega⟩ ?_
    conv => cbv
    refine Upd.mk fun Mc hMc => ?_
    have hMc : Mc = isV (B.take p.toNat ++ [x]) := by rw [isV_snoc, ← hLa, isC, ← hxo, ← hxa, ← hxb, ← hxn', ← hxk, ← hxl]; exact hMc
    conv => cbv
    refine Sum.mk fun p1 hp1x => ?_
    have hp1x : p1 = pz + 1 := hp1x
    have hMcl : (Mc.length : Int) = p1 * 5 := by rw [hMc, isV_length, List.length_append, List.length_take]; simp only [List.length_cons, List.length_nil]; omega
    conv => cbv
    refine Need.mk (by show (Lb.length : Int) = qz * 5; rw [hLbl, hqz]) ?_
    conv => cbv
    refine Room.new ⟨by show (Mc.length : Int) = p1 * 5; omega, by show (p1 + qz) * 56 ≤ 140737488355328; omega, by show p1 + qz ≤ 9223372036854775807; omega⟩ ?_
    conv => cbv
    refine Upd.mk fun Md hMd => ?_
    have hMd : Md = isV (B.take p.toNat ++ [x] ++ B.drop p.toNat) := by rw [isV_app, ← hMc, ← hLb]; exact hMd
    conv => cbv
    refine Sum.mk fun p2 hp2 => ?_
    have hp2 : p2 = p1 + qz := hp2
    have hn2b : 1 ≤ n2 ∧ n2 ≤ 100 := by omega
    have hl9 : (B.take p.toNat ++ [x] ++ B.drop p.toNat).length = B.length + 1 := by simp; omega
    have hl9i : ((B.take p.toNat ++ [x] ++ B.drop p.toNat).length : Int) = n2 := by omega
    have hXW : ∀ y ∈ B.take p.toNat ++ [x] ++ B.drop p.toNat, XW y := by
      intro y hy
      have hB : ∀ z ∈ B, XW z := fun z hz => (shp_x64 (hBg z hz).shp (by have := (hBg z hz).cs; omega)).w
      rcases List.mem_append.1 hy with hy | hy
      · rcases List.mem_append.1 hy with hy | hy
        · exact hB y (List.mem_of_mem_take hy)
        · rw [List.mem_singleton] at hy; subst hy
          exact bad_xw (n := n2) (by omega) _ (List.mem_of_getElem? hx)
      · exact hB y (List.mem_of_mem_drop hy)
    have hwhy := bad_why hn2b hwb hx
    have hB1 : (B.length : Int) + 1 = n2 := by omega
    conv => cbv
    refine CallF.re (args0 := [.p (.vsl (.sym p2) true Md)]) (h' := [(0, .fix 0 o)]) (Re.at [(0, 0)] []) ?_
    refine callF_frame (validW_lx (B.take p.toNat ++ [x] ++ B.drop p.toNat) p2 Md o ho (by omega) hMd hXW) [(0, 0)] rfl (by simp [hmapOk, nget, hget, renB, okB, renV, renVs, rn, okVs, okV]) rfl rfl (fun r2 h' n' hrr => ?_)
    obtain ⟨⟨a1, e1, d1, hv1⟩, d2, d3⟩ := hrr
    subst d1 d2 d3
    have hres := valid_bad hv1 (by simp) (by omega) p.toNat x (by rw [List.append_assoc, List.getElem?_append_right (by rw [List.length_take]; omega), List.length_take, show p.toNat - min p.toNat B.length = 0 by omega]; rfl) (by
      intro y hy
      rw [List.append_assoc, List.take_append_of_le_length (by rw [List.length_take]; omega), List.take_of_length_le (by rw [List.length_take]; omega)] at hy
      rw [hl9i, ← hB1]
      exact insG_may2 (hBg y (List.mem_of_mem_take hy))) (wantV w) (by rw [hl9i]; exact hwhy)
    conv => cbv
    refine Need.mk ⟨by show (0 : Int) ≤ 61; omega, by show (61 : Int) ≤ 61; omega, by show (61 : Int) * 56 ≤ 140737488355328; omega, by show (61 : Int) ≤ 9223372036854775807; omega⟩ ?_
    conv => cbv
    refine CallF.re (args0 := [.p (.vsl (.sym 61) true z61)]) (h' := [(0, .fix 0 o)]) (Re.at [(0, 0)] []) ?_
    refine callF_frame (validBig_lx 61 z61 o (by decide)) [(0, 0)] rfl (by simp [hmapOk, nget, hget, renB, okB, renV, renVs, rn, okVs, okV]) rfl rfl (fun r2 h' n' ⟨d1, d2, d3⟩ => ?_)
    subst d1 d2 d3
    conv => cbv
    refine CallF.re (args0 := [.p (.vsl (.sym 0) true [])]) (h' := [(0, .fix 0 o)]) (Re.at [(0, 0)] []) ?_
    refine callF_frame (validW_lx [] 0 [] o ho rfl rfl (fun x hx => by cases hx)) [(0, 0)] rfl (by simp [hmapOk, nget, hget, renB, okB, renV, renVs, rn, okVs, okV]) rfl rfl (fun r2 h' n' hrr => ?_)
    obtain ⟨⟨a3, e3, d1, hv3⟩, d2, d3⟩ := hrr
    subst d1 d2 d3
    have hres3 := valid_nil hv3
    conv => cbv
    refine callF_frame (awake03_lx o ho) [(0, 0)] rfl (by simp [hmapOk, nget, hget, renB, okB, renV, renVs, rn, okVs, okV]) rfl rfl (fun r2 h' n' ⟨e1, e2, e3⟩ => ?_)
    subst e1 e2 e3
    conv => cbv
    refine Fit.mk (by show (-9223372036854775808 : Int) ≤ p + 1; omega) (by show p + 1 ≤ 9223372036854775807; omega) fun p9 hp9 => ?_
    have hp9 : p9 = p + 1 := hp9
    conv => cbv
    refine Br.yes (by show a1 = p9; omega) ?_
    conv => cbv
    refine Br.yes (by show e1 = want; rw [hres.2, hwant]) ?_
    conv => cbv
    refine Br.yes (by show (3 : Int) = 3; rfl) ?_
    conv => cbv
    refine Br.mk (fun g20 => ?_) (fun g20 => ?_)
    · conv => cbv
      refine RetF.mk [.p (.bool true)] [(0, .fix 0 o)] 1 (Re.at [(0, 0)] []) rfl rfl
    · have g20 : ¬ e3 = 7 := g20
      exact absurd hres3.2 g20
end Go.Proofs.YtfjdifeofnpcnaaDoor
