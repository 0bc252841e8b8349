/-
  Layer 3: the reference's shaped of a choice, bounded, Valid of any program.
-/
import Derived.Test.YtfjdifeofnpcnaaDoorCd

import Derived.Test.YtfjdifeofnpcnaaDoorUk

import Derived.Test.YtfjdifeofnpcnaaDoorUh

namespace Go.Proofs.YtfjdifeofnpcnaaDoor

open Go Go.LX
set_option maxRecDepth 100000
set_option linter.unusedVariables false
set_option linter.unusedSimpArgs false
def Cok (c : Cs) (last : Prop) : Prop := (0 ≤ c.k ∧ c.k < 4) ∧ 0 < c.k ∧ (0 ≤ c.ch ∧ c.ch < 6) ∧ (0 ≤ c.reg ∧ c.reg < 6) ∧ (0 ≤ c.to ∧ c.to < 10000) ∧ (c.k = 3 → c.ch = 0 ∧ c.reg = 0 ∧ last)
theorem cshp3_iff (c : Cs) : Shp3 (cshape c.k) c.f ↔ (0 ≤ c.ch ∧ c.ch < 6) ∧ (0 ≤ c.reg ∧ c.reg < 6) ∧ (0 ≤ c.to ∧ c.to < 10000) ∧ (c.k = 3 → c.ch = 0 ∧ c.reg = 0) := by
  by_cases hk : c.k = 3
  · have e : cshape c.k = [110] := by unfold cshape; rw [if_pos hk]
    rw [e]
    constructor
    · intro h
      have h1 : 0 ≤ c.to ∧ c.to ≤ 9999 := h.1 110 (by simp)
      have h2 : c.ch = 0 := h.2 97 (by decide)
      have h3 : c.reg = 0 := h.2 98 (by decide)
      omega
    · rintro ⟨_, _, h3, h4⟩
      have h5 := h4 hk
      have : c.f = ⟨0, 0, c.to⟩ := by unfold Cs.f; rw [h5.1, h5.2]
      rw [this]
      exact shp3_n (by omega)
  · have e : cshape c.k = [97, 98, 110] := by unfold cshape; rw [if_neg hk]
    rw [e]
    constructor
    · intro h
      have h1 : 0 ≤ c.ch ∧ c.ch ≤ 5 := h.1 97 (by simp)
      have h2 : 0 ≤ c.reg ∧ c.reg ≤ 5 := h.1 98 (by simp)
      have h3 : 0 ≤ c.to ∧ c.to ≤ 9999 := h.1 110 (by simp)
      refine ⟨by omega, by omega, by omega, fun h => absurd h hk⟩
    · rintro ⟨h1, h2, h3, _⟩
      exact shp3_abn (by omega) (by omega) (by omega)
def AllC (l : List Cs) (n : Nat) : Prop := ∀ (j : Nat) (c : Cs), l[j]? = some c → Cok c (j + 1 = n)
theorem cshp_iff : ∀ l : List Cs, CShpL l ↔ AllC l l.length
  | [] => ⟨fun _ j c h => by simp at h, fun _ => trivial⟩
  | c :: l => by
    have ih := cshp_iff l
    constructor
    · rintro ⟨⟨h1, h2, h3⟩, h4⟩ j d hd
      have h4 := ih.1 h4
      cases j with
      | zero =>
        cases hd
        obtain ⟨q1, q2, q3, q4⟩ := (cshp3_iff c).1 h2
        refine ⟨by omega, by omega, q1, q2, q3, fun hk => ⟨(q4 hk).1, (q4 hk).2, ?_⟩⟩
        rw [h3 hk]; rfl
      | succ j =>
        have := h4 j d (by simpa using hd)
        obtain ⟨q1, q2, q3, q4, q5, q6⟩ := this
        refine ⟨q1, q2, q3, q4, q5, fun hk => ⟨(q6 hk).1, (q6 hk).2.1, ?_⟩⟩
        have := (q6 hk).2.2
        rw [List.length_cons]; omega
    · intro h
      obtain ⟨q1, q2, q3, q4, q5, q6⟩ := h 0 c rfl
      refine ⟨⟨by omega, (cshp3_iff c).2 ⟨q3, q4, q5, fun hk => ⟨(q6 hk).1, (q6 hk).2.1⟩⟩, fun hk => ?_⟩, ih.2 fun j d hd => ?_⟩
      · have := (q6 hk).2.2
        rw [List.length_cons] at this
        exact List.eq_nil_of_length_eq_zero (by omega)
      · obtain ⟨q1, q2, q3, q4, q5, q6⟩ := h (j + 1) d (by simpa using hd)
        refine ⟨q1, q2, q3, q4, q5, fun hk => ⟨(q6 hk).1, (q6 hk).2.1, ?_⟩⟩
        have := (q6 hk).2.2
        rw [List.length_cons] at this; omega
theorem shp21_iff {X : Is} (h : X.op = 21) : Shp X ↔ X.a = 0 ∧ X.b = 0 ∧ X.n = 0 ∧ X.cs ≠ [] ∧ AllC X.cs X.cs.length := by
  unfold Shp
  rw [if_pos h, cshp_iff]
/-- So far. -/
def PreC (l : List Cs) (i : Nat) : Prop := ∀ (j : Nat) (c : Cs), j < i → l[j]? = some c → Cok c (j + 1 = l.length)
theorem PreC.zero (l : List Cs) : PreC l 0 := fun j c h => absurd h (Nat.not_lt_zero _)
theorem PreC.step {l : List Cs} {i : Nat} {c : Cs} (h : l[i]? = some c) : PreC l (i + 1) ↔ PreC l i ∧ Cok c (i + 1 = l.length) := by
  constructor
  · intro hp
    exact ⟨fun j d hj hd => hp j d (by omega) hd, hp i c (by omega) h⟩
  · rintro ⟨hp, hc⟩ j d hj hd
    by_cases hji : j = i
    · subst hji
      rw [h] at hd; cases hd; exact hc
    · exact hp j d (by omega) hd
theorem PreC.all {l : List Cs} {i : Nat} (h : l.length ≤ i) : PreC l i ↔ AllC l l.length := by
  constructor
  · intro hp j c hc
    exact hp j c (by have := (List.getElem?_eq_some_iff.1 hc).1; omega) hc
  · intro ha j c _ hc
    exact ha j c hc
set_option maxHeartbeats 8000000 in
theorem shaped21_lx (X : Is) (op a b n k : Int) (L : List PV) (h1 : op = X.op) (h2 : a = X.a) (h3 : b = X.b) (h4 : n = X.n) (h5 : k = X.cs.length) (h6 : L = csV X.cs) (h7 : X.cs.length ≤ maxLen) (h21 : op = 21) : CallF (fun _ => Tryd.prog) 40 [.agg [.p (.int .i64 (.sym op)), .p (.int .i64 (.sym a)), .p (.int .i64 (.sym b)), .p (.int .i64 (.sym n)), .p (.vsl (.sym k) true L)]] [] 0 (fun r h n' => (∃ q : Bool, r = .p (.bool q) ∧ (q = true ↔ Shp X)) ∧ h = [] ∧ n' = 0) := by
  have h7 : X.cs.length ≤ 9223372036854775807 := h7
  have hsi := shp21_iff (X := X) (by omega)
  rw [← h2, ← h3, ← h4] at hsi
  refine callF_of_body tok Tryd.func40 (by kernel_rfl) rfl rfl rfl ?_; conv => cbv
  refine Br.yes h21 ?_
  conv => cbv
  refine Br.mk (fun ga => ?_) (fun ga => ?_)
  case refine_2 =>
    have ga : ¬ a = 0 := ga
    have hno : ¬ Shp X := by rw [hsi]; exact fun h => ga h.1
    conv => cbv
    refine LoopF.mk (fun kk s => ∃ i : Int, s = ⟨.undef :: .ptr 0 (.lit 0) :: .undef :: .p (.bool false) :: .p (.int .i64 (.sym i)) :: undefs 204, [(0, .pure false [.int .i64 (.sym op), .int .i64 (.sym a), .int .i64 (.sym b), .int .i64 (.sym n), .vsl (.sym k) true L])], 1⟩ ∧ 0 ≤ i ∧ i ≤ k ∧ kk = (k - i).toNat) k.toNat _
      (Re.at [(0, 0)] []) ⟨0, rfl, by omega, by omega, by omega⟩ ?_
    rintro kk s ⟨i, rfl, hi0, hik, hkk⟩
    conv => cbv
    refine Br.mk (fun g => ?_) (fun g => ?_)
    case refine_2 =>
      conv => cbv
      refine RetF.mk [.p (.bool false)] [] 0 (Re.at [] []) rfl ⟨⟨false, rfl, by simp only [Bool.false_eq_true, false_iff]; exact hno⟩, rfl, rfl⟩
    have g : i < k := g
    obtain ⟨c, hc⟩ : ∃ c, X.cs[i.toNat]? = some c := ⟨_, List.getElem?_eq_getElem (by omega)⟩
    have hcg := csV_get hc
    rw [← h6] at hcg
    obtain ⟨ck, hck⟩ : ∃ x, x = c.k := ⟨_, rfl⟩
    obtain ⟨cc, hcc⟩ : ∃ x, x = c.ch := ⟨_, rfl⟩
    obtain ⟨cr, hcr⟩ : ∃ x, x = c.reg := ⟨_, rfl⟩
    obtain ⟨ct, hct⟩ : ∃ x, x = c.to := ⟨_, rfl⟩
    rw [← hck, ← hcc, ← hcr, ← hct] at hcg
    obtain ⟨k', rfl⟩ : ∃ k', kk = k' + 1 := ⟨kk - 1, by omega⟩
    conv => cbv
    refine Need.mk ⟨by show (0 : Int) ≤ i; omega, by show i < k; omega⟩ ?_
    conv => cbv
    refine Sum.mk fun w hw => ?_
    have hw : w = i * 4 := hw
    conv => cbv
    refine Cell.at w (i.toNat * 4) hcg.1 (by simp [I.val]) (by omega) ?_
    conv => cbv
    refine Cell.at (w + 1) (i.toNat * 4 + 1) hcg.2.1 (by simp [I.val]) (by omega) ?_
    conv => cbv
    refine Cell.at (w + 2) (i.toNat * 4 + 2) hcg.2.2.1 (by simp [I.val]) (by omega) ?_
    conv => cbv
    refine Cell.at (w + 3) (i.toNat * 4 + 3) hcg.2.2.2 (by simp [I.val]) (by omega) ?_
    conv => cbv
    refine Fit.mk (by show (-9223372036854775808 : Int) ≤ i + 1; omega) (by show i + 1 ≤ 9223372036854775807; omega) fun i2 hi2 => ?_
    have hi2 : i2 = i + 1 := hi2
    conv => cbv
    refine Again.mk k' _ (Nat.lt_succ_self _) (Re.at [(0, 0)] []) ⟨i2, rfl, by omega, by omega, by omega⟩
  have ga : a = 0 := ga
  conv => cbv
  refine Br.mk (fun gb => ?_) (fun gb => ?_)
  case refine_2 =>
    have gb : ¬ b = 0 := gb
    have hno : ¬ Shp X := by rw [hsi]; exact fun h => gb h.2.1
    conv => cbv
    refine LoopF.mk (fun kk s => ∃ i : Int, s = ⟨.undef :: .ptr 0 (.lit 0) :: .undef :: .p (.bool false) :: .p (.int .i64 (.sym i)) :: undefs 204, [(0, .pure false [.int .i64 (.sym op), .int .i64 (.sym a), .int .i64 (.sym b), .int .i64 (.sym n), .vsl (.sym k) true L])], 1⟩ ∧ 0 ≤ i ∧ i ≤ k ∧ kk = (k - i).toNat) k.toNat _
      (Re.at [(0, 0)] []) ⟨0, rfl, by omega, by omega, by omega⟩ ?_
    rintro kk s ⟨i, rfl, hi0, hik, hkk⟩
    conv => cbv
    refine Br.mk (fun g => ?_) (fun g => ?_)
    case refine_2 =>
      conv => cbv
      refine RetF.mk [.p (.bool false)] [] 0 (Re.at [] []) rfl ⟨⟨false, rfl, by simp only [Bool.false_eq_true, false_iff]; exact hno⟩, rfl, rfl⟩
    have g : i < k := g
    obtain ⟨c, hc⟩ : ∃ c, X.cs[i.toNat]? = some c := ⟨_, List.getElem?_eq_getElem (by omega)⟩
    have hcg := csV_get hc
    rw [← h6] at hcg
    obtain ⟨ck, hck⟩ : ∃ x, x = c.k := ⟨_, rfl⟩
    obtain ⟨cc, hcc⟩ : ∃ x, x = c.ch := ⟨_, rfl⟩
    obtain ⟨cr, hcr⟩ : ∃ x, x = c.reg := ⟨_, rfl⟩
    obtain ⟨ct, hct⟩ : ∃ x, x = c.to := ⟨_, rfl⟩
    rw [← hck, ← hcc, ← hcr, ← hct] at hcg
    obtain ⟨k', rfl⟩ : ∃ k', kk = k' + 1 := ⟨kk - 1, by omega⟩
    conv => cbv
    refine Need.mk ⟨by show (0 : Int) ≤ i; omega, by show i < k; omega⟩ ?_
    conv => cbv
    refine Sum.mk fun w hw => ?_
    have hw : w = i * 4 := hw
    conv => cbv
    refine Cell.at w (i.toNat * 4) hcg.1 (by simp [I.val]) (by omega) ?_
    conv => cbv
    refine Cell.at (w + 1) (i.toNat * 4 + 1) hcg.2.1 (by simp [I.val]) (by omega) ?_
    conv => cbv
    refine Cell.at (w + 2) (i.toNat * 4 + 2) hcg.2.2.1 (by simp [I.val]) (by omega) ?_
    conv => cbv
    refine Cell.at (w + 3) (i.toNat * 4 + 3) hcg.2.2.2 (by simp [I.val]) (by omega) ?_
    conv => cbv
    refine Fit.mk (by show (-9223372036854775808 : Int) ≤ i + 1; omega) (by show i + 1 ≤ 9223372036854775807; omega) fun i2 hi2 => ?_
    have hi2 : i2 = i + 1 := hi2
    conv => cbv
    refine Again.mk k' _ (Nat.lt_succ_self _) (Re.at [(0, 0)] []) ⟨i2, rfl, by omega, by omega, by omega⟩
  have gb : b = 0 := gb
  conv => cbv
  refine Br.mk (fun gn => ?_) (fun gn => ?_)
  case refine_2 =>
    have gn : ¬ n = 0 := gn
    have hno : ¬ Shp X := by rw [hsi]; exact fun h => gn h.2.2.1
    conv => cbv
    refine LoopF.mk (fun kk s => ∃ i : Int, s = ⟨.undef :: .ptr 0 (.lit 0) :: .undef :: .p (.bool false) :: .p (.int .i64 (.sym i)) :: undefs 204, [(0, .pure false [.int .i64 (.sym op), .int .i64 (.sym a), .int .i64 (.sym b), .int .i64 (.sym n), .vsl (.sym k) true L])], 1⟩ ∧ 0 ≤ i ∧ i ≤ k ∧ kk = (k - i).toNat) k.toNat _
      (Re.at [(0, 0)] []) ⟨0, rfl, by omega, by omega, by omega⟩ ?_
    rintro kk s ⟨i, rfl, hi0, hik, hkk⟩
    conv => cbv
    refine Br.mk (fun g => ?_) (fun g => ?_)
    case refine_2 =>
      conv => cbv
      refine RetF.mk [.p (.bool false)] [] 0 (Re.at [] []) rfl ⟨⟨false, rfl, by simp only [Bool.false_eq_true, false_iff]; exact hno⟩, rfl, rfl⟩
    have g : i < k := g
    obtain ⟨c, hc⟩ : ∃ c, X.cs[i.toNat]? = some c := ⟨_, List.getElem?_eq_getElem (by omega)⟩
    have hcg := csV_get hc
    rw [← h6] at hcg
    obtain ⟨ck, hck⟩ : ∃ x, x = c.k := ⟨_, rfl⟩
    obtain ⟨cc, hcc⟩ : ∃ x, x = c.ch := ⟨_, rfl⟩
    obtain ⟨cr, hcr⟩ : ∃ x, x = c.reg := ⟨_, rfl⟩
    obtain ⟨ct, hct⟩ : ∃ x, x = c.to := ⟨_, rfl⟩
    rw [← hck, ← hcc, ← hcr, ← hct] at hcg
    obtain ⟨k', rfl⟩ : ∃ k', kk = k' + 1 := ⟨kk - 1, by omega⟩
    conv => cbv
    refine Need.mk ⟨by show (0 : Int) ≤ i; omega, by show i < k; omega⟩ ?_
    conv => cbv
    refine Sum.mk fun w hw => ?_
    have hw : w = i * 4 := hw
    conv => cbv
    refine Cell.at w (i.toNat * 4) hcg.1 (by simp [I.val]) (by omega) ?_
    conv => cbv
    refine Cell.at (w + 1) (i.toNat * 4 + 1) hcg.2.1 (by simp [I.val]) (by omega) ?_
    conv => cbv
    refine Cell.at (w + 2) (i.toNat * 4 + 2) hcg.2.2.1 (by simp [I.val]) (by omega) ?_
    conv => cbv
    refine Cell.at (w + 3) (i.toNat * 4 + 3) hcg.2.2.2 (by simp [I.val]) (by omega) ?_
    conv => cbv
    refine Fit.mk (by show (-9223372036854775808 : Int) ≤ i + 1; omega) (by show i + 1 ≤ 9223372036854775807; omega) fun i2 hi2 => ?_
    have hi2 : i2 = i + 1 := hi2
    conv => cbv
    refine Again.mk k' _ (Nat.lt_succ_self _) (Re.at [(0, 0)] []) ⟨i2, rfl, by omega, by omega, by omega⟩
  have gn : n = 0 := gn
  conv => cbv
  refine Br.mk (fun gk => ?_) (fun gk => ?_)
  case refine_2 =>
    have gk : ¬ 0 < k := gk
    have hno : ¬ Shp X := by rw [hsi]; exact fun h => gk (by have := List.length_pos_iff.2 h.2.2.2.1; omega)
    conv => cbv
    refine LoopF.mk (fun kk s => ∃ i : Int, s = ⟨.undef :: .ptr 0 (.lit 0) :: .undef :: .p (.bool false) :: .p (.int .i64 (.sym i)) :: undefs 204, [(0, .pure false [.int .i64 (.sym op), .int .i64 (.sym a), .int .i64 (.sym b), .int .i64 (.sym n), .vsl (.sym k) true L])], 1⟩ ∧ 0 ≤ i ∧ i ≤ k ∧ kk = (k - i).toNat) k.toNat _
      (Re.at [(0, 0)] []) ⟨0, rfl, by omega, by omega, by omega⟩ ?_
    rintro kk s ⟨i, rfl, hi0, hik, hkk⟩
    conv => cbv
    refine Br.mk (fun g => ?_) (fun g => ?_)
    case refine_2 =>
      conv => cbv
      refine RetF.mk [.p (.bool false)] [] 0 (Re.at [] []) rfl ⟨⟨false, rfl, by simp only [Bool.false_eq_true, false_iff]; exact hno⟩, rfl, rfl⟩
    have g : i < k := g
    obtain ⟨c, hc⟩ : ∃ c, X.cs[i.toNat]? = some c := ⟨_, List.getElem?_eq_getElem (by omega)⟩
    have hcg := csV_get hc
    rw [← h6] at hcg
    obtain ⟨ck, hck⟩ : ∃ x, x = c.k := ⟨_, rfl⟩
    obtain ⟨cc, hcc⟩ : ∃ x, x = c.ch := ⟨_, rfl⟩
    obtain ⟨cr, hcr⟩ : ∃ x, x = c.reg := ⟨_, rfl⟩
    obtain ⟨ct, hct⟩ : ∃ x, x = c.to := ⟨_, rfl⟩
    rw [← hck, ← hcc, ← hcr, ← hct] at hcg
    obtain ⟨k', rfl⟩ : ∃ k', kk = k' + 1 := ⟨kk - 1, by omega⟩
    conv => cbv
    refine Need.mk ⟨by show (0 : Int) ≤ i; omega, by show i < k; omega⟩ ?_
    conv => cbv
    refine Sum.mk fun w hw => ?_
    have hw : w = i * 4 := hw
    conv => cbv
    refine Cell.at w (i.toNat * 4) hcg.1 (by simp [I.val]) (by omega) ?_
    conv => cbv
    refine Cell.at (w + 1) (i.toNat * 4 + 1) hcg.2.1 (by simp [I.val]) (by omega) ?_
    conv => cbv
    refine Cell.at (w + 2) (i.toNat * 4 + 2) hcg.2.2.1 (by simp [I.val]) (by omega) ?_
    conv => cbv
    refine Cell.at (w + 3) (i.toNat * 4 + 3) hcg.2.2.2 (by simp [I.val]) (by omega) ?_
    conv => cbv
    refine Fit.mk (by show (-9223372036854775808 : Int) ≤ i + 1; omega) (by show i + 1 ≤ 9223372036854775807; omega) fun i2 hi2 => ?_
    have hi2 : i2 = i + 1 := hi2
    conv => cbv
    refine Again.mk k' _ (Nat.lt_succ_self _) (Re.at [(0, 0)] []) ⟨i2, rfl, by omega, by omega, by omega⟩
  have gk : 0 < k := gk
  conv => cbv
  have hne : X.cs ≠ [] := fun h => by rw [h] at h5; simp at h5; omega
  refine LoopF.mk (fun kk s => ∃ (i : Int) (q : Bool), s = ⟨.undef :: .ptr 0 (.lit 0) :: .undef :: .p (.bool q) :: .p (.int .i64 (.sym i)) :: undefs 204, [(0, .pure false [.int .i64 (.sym op), .int .i64 (.sym a), .int .i64 (.sym b), .int .i64 (.sym n), .vsl (.sym k) true L])], 1⟩ ∧ (q = true ↔ PreC X.cs i.toNat) ∧ 0 ≤ i ∧ i ≤ k ∧ kk = (k - i).toNat) k.toNat _
    (Re.at [(0, 0)] []) ⟨0, true, rfl, (by simp only [true_iff]; exact PreC.zero _), by omega, by omega, by omega⟩ ?_
  rintro kk s ⟨i, q, rfl, hq, hi0, hik, hkk⟩
  conv => cbv
  refine Br.mk (fun g => ?_) (fun g => ?_)
  case refine_2 =>
    have g : ¬ i < k := g
    rw [PreC.all (by omega)] at hq
    have hqs : q = true ↔ Shp X := by rw [hq, hsi]; exact ⟨fun h => ⟨ga, gb, gn, hne, h⟩, fun h => h.2.2.2.2⟩
    conv => cbv
    refine RetF.mk [.p (.bool q)] [] 0 (Re.at [] []) rfl ⟨⟨q, rfl, hqs⟩, rfl, rfl⟩
  cases q with
  | false =>
    have g : i < k := g
    obtain ⟨c, hc⟩ : ∃ c, X.cs[i.toNat]? = some c := ⟨_, List.getElem?_eq_getElem (by omega)⟩
    have hcg := csV_get hc
    rw [← h6] at hcg
    obtain ⟨ck, hck⟩ : ∃ x, x = c.k := ⟨_, rfl⟩
    obtain ⟨cc, hcc⟩ : ∃ x, x = c.ch := ⟨_, rfl⟩
    obtain ⟨cr, hcr⟩ : ∃ x, x = c.reg := ⟨_, rfl⟩
    obtain ⟨ct, hct⟩ : ∃ x, x = c.to := ⟨_, rfl⟩
    rw [← hck, ← hcc, ← hcr, ← hct] at hcg
    obtain ⟨k', rfl⟩ : ∃ k', kk = k' + 1 := ⟨kk - 1, by omega⟩
    conv => cbv
    refine Need.mk ⟨by show (0 : Int) ≤ i; omega, by show i < k; omega⟩ ?_
    conv => cbv
    refine Sum.mk fun w hw => ?_
    have hw : w = i * 4 := hw
    conv => cbv
    refine Cell.at w (i.toNat * 4) hcg.1 (by simp [I.val]) (by omega) ?_
    conv => cbv
    refine Cell.at (w + 1) (i.toNat * 4 + 1) hcg.2.1 (by simp [I.val]) (by omega) ?_
    conv => cbv
    refine Cell.at (w + 2) (i.toNat * 4 + 2) hcg.2.2.1 (by simp [I.val]) (by omega) ?_
    conv => cbv
    refine Cell.at (w + 3) (i.toNat * 4 + 3) hcg.2.2.2 (by simp [I.val]) (by omega) ?_
    conv => cbv
    refine Fit.mk (by show (-9223372036854775808 : Int) ≤ i + 1; omega) (by show i + 1 ≤ 9223372036854775807; omega) fun i2 hi2 => ?_
    have hi2 : i2 = i + 1 := hi2
    conv => cbv
    refine Again.mk k' _ (Nat.lt_succ_self _) (Re.at [(0, 0)] []) ⟨i2, false, rfl, (by rw [show i2.toNat = i.toNat + 1 by omega, PreC.step hc]; simp only [Bool.false_eq_true, false_iff]; exact fun h => by have := hq.2 h.1; cases this), by omega, by omega, by omega⟩
  | true =>
  have g : i < k := g
  obtain ⟨c, hc⟩ : ∃ c, X.cs[i.toNat]? = some c := ⟨_, List.getElem?_eq_getElem (by omega)⟩
  have hcg := csV_get hc
  rw [← h6] at hcg
  obtain ⟨ck, hck⟩ : ∃ x, x = c.k := ⟨_, rfl⟩
  obtain ⟨cc, hcc⟩ : ∃ x, x = c.ch := ⟨_, rfl⟩
  obtain ⟨cr, hcr⟩ : ∃ x, x = c.reg := ⟨_, rfl⟩
  obtain ⟨ct, hct⟩ : ∃ x, x = c.to := ⟨_, rfl⟩
  rw [← hck, ← hcc, ← hcr, ← hct] at hcg
  obtain ⟨k', rfl⟩ : ∃ k', kk = k' + 1 := ⟨kk - 1, by omega⟩
  conv => cbv
  refine Need.mk ⟨by show (0 : Int) ≤ i; omega, by show i < k; omega⟩ ?_
  conv => cbv
  refine Sum.mk fun w hw => ?_
  have hw : w = i * 4 := hw
  conv => cbv
  refine Cell.at w (i.toNat * 4) hcg.1 (by simp [I.val]) (by omega) ?_
  conv => cbv
  refine Cell.at (w + 1) (i.toNat * 4 + 1) hcg.2.1 (by simp [I.val]) (by omega) ?_
  conv => cbv
  refine Cell.at (w + 2) (i.toNat * 4 + 2) hcg.2.2.1 (by simp [I.val]) (by omega) ?_
  conv => cbv
  refine Cell.at (w + 3) (i.toNat * 4 + 3) hcg.2.2.2 (by simp [I.val]) (by omega) ?_
  conv => cbv
  refine callF_frame (within_lx ck 4) [] rfl trivial rfl rfl (fun r2 h' n' hrr => ?_)
  obtain ⟨⟨qck, e1, hqck⟩, e2, e3⟩ := hrr
  subst e1 e2 e3
  cases qck with
  | false =>
    have hcn : ¬ Cok c (i.toNat + 1 = X.cs.length) := fun h => by
      have h9 := hqck.2 (by have := h.1; omega)
      cases h9
    conv => cbv
    refine Fit.mk (by show (-9223372036854775808 : Int) ≤ i + 1; omega) (by show i + 1 ≤ 9223372036854775807; omega) fun i2 hi2 => ?_
    have hi2 : i2 = i + 1 := hi2
    conv => cbv
    refine Again.mk k' _ (Nat.lt_succ_self _) (Re.at [(0, 0)] []) ⟨i2, false, rfl, (by rw [show i2.toNat = i.toNat + 1 by omega, PreC.step hc]; simp only [Bool.false_eq_true, false_iff]; exact fun h => hcn h.2), by omega, by omega, by omega⟩
  | true =>
  have hyck : 0 ≤ ck ∧ ck < 4 := hqck.1 rfl
  conv => cbv
  refine Br.mk (fun g51 => ?_) (fun g51 => ?_)
  case refine_2 =>
    have g51 : ¬ 0 < ck := g51
    have hcn : ¬ Cok c (i.toNat + 1 = X.cs.length) := fun h => by have := h.2.1; omega
    conv => cbv
    refine Fit.mk (by show (-9223372036854775808 : Int) ≤ i + 1; omega) (by show i + 1 ≤ 9223372036854775807; omega) fun i2 hi2 => ?_
    have hi2 : i2 = i + 1 := hi2
    conv => cbv
    refine Again.mk k' _ (Nat.lt_succ_self _) (Re.at [(0, 0)] []) ⟨i2, false, rfl, (by rw [show i2.toNat = i.toNat + 1 by omega, PreC.step hc]; simp only [Bool.false_eq_true, false_iff]; exact fun h => hcn h.2), by omega, by omega, by omega⟩
  have g51 : 0 < ck := g51
  conv => cbv
  refine callF_frame (within_lx cc 6) [] rfl trivial rfl rfl (fun r2 h' n' hrr => ?_)
  obtain ⟨⟨qcc, e1, hqcc⟩, e2, e3⟩ := hrr
  subst e1 e2 e3
  cases qcc with
  | false =>
    have hcn : ¬ Cok c (i.toNat + 1 = X.cs.length) := fun h => by
      have h9 := hqcc.2 (by have := h.2.2.1; omega)
      cases h9
    conv => cbv
    refine Fit.mk (by show (-9223372036854775808 : Int) ≤ i + 1; omega) (by show i + 1 ≤ 9223372036854775807; omega) fun i2 hi2 => ?_
    have hi2 : i2 = i + 1 := hi2
    conv => cbv
    refine Again.mk k' _ (Nat.lt_succ_self _) (Re.at [(0, 0)] []) ⟨i2, false, rfl, (by rw [show i2.toNat = i.toNat + 1 by omega, PreC.step hc]; simp only [Bool.false_eq_true, false_iff]; exact fun h => hcn h.2), by omega, by omega, by omega⟩
  | true =>
  have hycc : 0 ≤ cc ∧ cc < 6 := hqcc.1 rfl
  conv => cbv
  refine callF_frame (within_lx cr 6) [] rfl trivial rfl rfl (fun r2 h' n' hrr => ?_)
  obtain ⟨⟨qcr, e1, hqcr⟩, e2, e3⟩ := hrr
  subst e1 e2 e3
  cases qcr with
  | false =>
    have hcn : ¬ Cok c (i.toNat + 1 = X.cs.length) := fun h => by
      have h9 := hqcr.2 (by have := h.2.2.2.1; omega)
      cases h9
    conv => cbv
    refine Fit.mk (by show (-9223372036854775808 : Int) ≤ i + 1; omega) (by show i + 1 ≤ 9223372036854775807; omega) fun i2 hi2 => ?_
    have hi2 : i2 = i + 1 := hi2
    conv => cbv
    refine Again.mk k' _ (Nat.lt_succ_self _) (Re.at [(0, 0)] []) ⟨i2, false, rfl, (by rw [show i2.toNat = i.toNat + 1 by omega, PreC.step hc]; simp only [Bool.false_eq_true, false_iff]; exact fun h => hcn h.2), by omega, by omega, by omega⟩
  | true =>
  have hycr : 0 ≤ cr ∧ cr < 6 := hqcr.1 rfl
  conv => cbv
  refine callF_frame (within_lx ct 10000) [] rfl trivial rfl rfl (fun r2 h' n' hrr => ?_)
  obtain ⟨⟨qct, e1, hqct⟩, e2, e3⟩ := hrr
  subst e1 e2 e3
  cases qct with
  | false =>
    have hcn : ¬ Cok c (i.toNat + 1 = X.cs.length) := fun h => by
      have h9 := hqct.2 (by have := h.2.2.2.2.1; omega)
      cases h9
    conv => cbv
    refine Fit.mk (by show (-9223372036854775808 : Int) ≤ i + 1; omega) (by show i + 1 ≤ 9223372036854775807; omega) fun i2 hi2 => ?_
    have hi2 : i2 = i + 1 := hi2
    conv => cbv
    refine Again.mk k' _ (Nat.lt_succ_self _) (Re.at [(0, 0)] []) ⟨i2, false, rfl, (by rw [show i2.toNat = i.toNat + 1 by omega, PreC.step hc]; simp only [Bool.false_eq_true, false_iff]; exact fun h => hcn h.2), by omega, by omega, by omega⟩
  | true =>
  have hyct : 0 ≤ ct ∧ ct < 10000 := hqct.1 rfl
  conv => cbv
  refine Br.mk (fun g60 => ?_) (fun g60 => ?_)
  · have g60 : ¬ ck = 3 := g60
    have hcy : Cok c (i.toNat + 1 = X.cs.length) := ⟨by omega, by omega, by omega, by omega, by omega, fun h => absurd (by omega) g60⟩
    conv => cbv
    refine Fit.mk (by show (-9223372036854775808 : Int) ≤ i + 1; omega) (by show i + 1 ≤ 9223372036854775807; omega) fun i2 hi2 => ?_
    have hi2 : i2 = i + 1 := hi2
    conv => cbv
    refine Again.mk k' _ (Nat.lt_succ_self _) (Re.at [(0, 0)] []) ⟨i2, true, rfl, (by rw [show i2.toNat = i.toNat + 1 by omega, PreC.step hc]; simp only [true_iff]; exact ⟨hq.1 rfl, hcy⟩), by omega, by omega, by omega⟩
  have g60 : ck = 3 := Classical.byContradiction g60
  conv => cbv
  refine Br.mk (fun g61 => ?_) (fun g61 => ?_)
  case refine_2 =>
    have g61 : ¬ cc = 0 := g61
    have hcn : ¬ Cok c (i.toNat + 1 = X.cs.length) := fun h => by have := (h.2.2.2.2.2 (by omega)).1; omega
    conv => cbv
    refine Fit.mk (by show (-9223372036854775808 : Int) ≤ i + 1; omega) (by show i + 1 ≤ 9223372036854775807; omega) fun i2 hi2 => ?_
    have hi2 : i2 = i + 1 := hi2
    conv => cbv
    refine Again.mk k' _ (Nat.lt_succ_self _) (Re.at [(0, 0)] []) ⟨i2, false, rfl, (by rw [show i2.toNat = i.toNat + 1 by omega, PreC.step hc]; simp only [Bool.false_eq_true, false_iff]; exact fun h => hcn h.2), by omega, by omega, by omega⟩
  have g61 : cc = 0 := g61
  conv => cbv
  refine Br.mk (fun g62 => ?_) (fun g62 => ?_)
  case refine_2 =>
    have g62 : ¬ cr = 0 := g62
    have hcn : ¬ Cok c (i.toNat + 1 = X.cs.length) := fun h => by have := (h.2.2.2.2.2 (by omega)).2.1; omega
    conv => cbv
    refine Fit.mk (by show (-9223372036854775808 : Int) ≤ i + 1; omega) (by show i + 1 ≤ 9223372036854775807; omega) fun i2 hi2 => ?_
    have hi2 : i2 = i + 1 := hi2
    conv => cbv
    refine Again.mk k' _ (Nat.lt_succ_self _) (Re.at [(0, 0)] []) ⟨i2, false, rfl, (by rw [show i2.toNat = i.toNat + 1 by omega, PreC.step hc]; simp only [Bool.false_eq_true, false_iff]; exact fun h => hcn h.2), by omega, by omega, by omega⟩
  have g62 : cr = 0 := g62
  conv => cbv
  refine Fit.mk (by show (-9223372036854775808 : Int) ≤ k - 1; omega) (by show k - 1 ≤ 9223372036854775807; omega) fun k1 hk1 => ?_
  have hk1 : k1 = k - 1 := hk1
  conv => cbv
  refine Br.mk (fun g63 => ?_) (fun g63 => ?_)
  case refine_2 =>
    have g63 : ¬ i = k1 := g63
    have hcn : ¬ Cok c (i.toNat + 1 = X.cs.length) := fun h => by have := (h.2.2.2.2.2 (by omega)).2.2; omega
    conv => cbv
    refine Fit.mk (by show (-9223372036854775808 : Int) ≤ i + 1; omega) (by show i + 1 ≤ 9223372036854775807; omega) fun i2 hi2 => ?_
    have hi2 : i2 = i + 1 := hi2
    conv => cbv
    refine Again.mk k' _ (Nat.lt_succ_self _) (Re.at [(0, 0)] []) ⟨i2, false, rfl, (by rw [show i2.toNat = i.toNat + 1 by omega, PreC.step hc]; simp only [Bool.false_eq_true, false_iff]; exact fun h => hcn h.2), by omega, by omega, by omega⟩
  have g63 : i = k1 := g63
  conv => cbv
  have hcy : Cok c (i.toNat + 1 = X.cs.length) := ⟨by omega, by omega, by omega, by omega, by omega, fun h => ⟨by omega, by omega, by omega⟩⟩
  refine Fit.mk (by show (-9223372036854775808 : Int) ≤ i + 1; omega) (by show i + 1 ≤ 9223372036854775807; omega) fun i2 hi2 => ?_
  have hi2 : i2 = i + 1 := hi2
  conv => cbv
  refine Again.mk k' _ (Nat.lt_succ_self _) (Re.at [(0, 0)] []) ⟨i2, true, rfl, (by rw [show i2.toNat = i.toNat + 1 by omega, PreC.step hc]; simp only [true_iff]; exact ⟨hq.1 rfl, hcy⟩), by omega, by omega, by omega⟩
def BndG (x : Is) : Prop := BndP x ∧ (x.op = 4 ∨ x.op = 14 ∨ x.op = 20 ∨ x.op = 18 ∨ x.op = 19 ∨ x.cs.length ≤ 3)
theorem bounded_lx (X : Is) (op a b n k : Int) (L : List PV) (h1 : op = X.op) (h4 : n = X.n) (h5 : k = X.cs.length) : CallF (fun _ => Tryd.prog) 41 [.agg [.p (.int .i64 (.sym op)), .p (.int .i64 (.sym a)), .p (.int .i64 (.sym b)), .p (.int .i64 (.sym n)), .p (.vsl (.sym k) true L)]] [] 0 (fun r h n' => (∃ q : Bool, r = .p (.bool q) ∧ (q = true ↔ BndG X)) ∧ h = [] ∧ n' = 0) := by
  have hb : BndG X ↔ ((op = 4 → n ≤ 3) ∧ (op = 14 → n ≤ 1000) ∧ (op = 20 → n ≤ 9) ∧ (op = 18 ∨ op = 19 → n < 4)) ∧ (op = 4 ∨ op = 14 ∨ op = 20 ∨ op = 18 ∨ op = 19 ∨ k ≤ 3) := by
    unfold BndG BndP; rw [h1, h4, h5]; omega
  refine callF_of_body tok Tryd.func41 (by kernel_rfl) rfl rfl rfl ?_; conv => cbv
  iterate 5
    refine Br.mk (fun g => ?_) (fun g => ?_)
    case refine_1 =>
      simp only [I.val] at g
      conv => cbv
      refine Br.mk (fun g2 => ?_) (fun g2 => ?_)
      · simp only [I.val] at g2
        have hy : BndG X := by rw [hb]; omega
        conv => cbv
        refine RetF.mk [.p (.bool true)] [] 0 (Re.at [] []) rfl ⟨⟨true, rfl, by simp [hy]⟩, rfl, rfl⟩
      · simp only [I.val] at g2
        have hn : ¬ BndG X := by rw [hb]; omega
        conv => cbv
        refine RetF.mk [.p (.bool false)] [] 0 (Re.at [] []) rfl ⟨⟨false, rfl, by simp only [Bool.false_eq_true, false_iff]; exact hn⟩, rfl, rfl⟩
    simp only [I.val] at g
    conv => cbv
  refine Br.mk (fun g2 => ?_) (fun g2 => ?_)
  · simp only [I.val] at g2
    have hy : BndG X := by rw [hb]; omega
    conv => cbv
    refine RetF.mk [.p (.bool true)] [] 0 (Re.at [] []) rfl ⟨⟨true, rfl, by simp [hy]⟩, rfl, rfl⟩
  · simp only [I.val] at g2
    have hn : ¬ BndG X := by rw [hb]; omega
    conv => cbv
    refine RetF.mk [.p (.bool false)] [] 0 (Re.at [] []) rfl ⟨⟨false, rfl, by simp only [Bool.false_eq_true, false_iff]; exact hn⟩, rfl, rfl⟩
theorem shaped_lx (X : Is) (op a b n k : Int) (L : List PV) (h1 : op = X.op) (h2 : a = X.a) (h3 : b = X.b) (h4 : n = X.n) (h5 : k = X.cs.length) (h6 : L = csV X.cs) (h7 : X.cs.length ≤ maxLen) : CallF (fun _ => Tryd.prog) 40 [.agg [.p (.int .i64 (.sym op)), .p (.int .i64 (.sym a)), .p (.int .i64 (.sym b)), .p (.int .i64 (.sym n)), .p (.vsl (.sym k) true L)]] [] 0 (fun r h n' => (∃ q : Bool, r = .p (.bool q) ∧ (q = true ↔ Shp X)) ∧ h = [] ∧ n' = 0) := by
  by_cases h21 : op = 21
  · exact shaped21_lx X op a b n k L h1 h2 h3 h4 h5 h6 h7 h21
  · by_cases hcs : X.cs = []
    · have hk : k = 0 := by rw [h5, hcs]; rfl
      have hL : L = [] := by rw [h6, hcs]; rfl
      subst hk hL
      exact shaped1_lx X op a b n h1 h2 h3 h4 hcs
    · have hk : k ≠ 0 := fun h => hcs (List.eq_nil_of_length_eq_zero (by omega))
      refine (shapedN_lx op a b n k L hk h21).mono (fun r h n' ⟨e1, e2, e3⟩ => ⟨⟨false, e1, ?_⟩, e2, e3⟩)
      simp only [Bool.false_eq_true, false_iff]
      intro hs
      unfold Shp at hs
      rw [if_neg (by omega)] at hs
      exact hcs hs.2.1
theorem may_all (X : Is) (hX : XW X) : MayP X ↔ Shp X ∧ BndG X := by
  unfold MayP
  constructor
  · rintro ⟨h1, h2, h3⟩
    refine ⟨h3.2.1 X (by simp), ?_, by omega⟩
    unfold mostV at h2
    unfold BndP
    refine ⟨fun h => ?_, fun h => ?_, fun h => ?_, fun h => ?_⟩
    · rw [if_pos h] at h2; exact h2
    · rw [if_neg (by omega), if_pos h] at h2; exact h2
    · rw [if_neg (by omega), if_neg (by omega), if_pos h] at h2; exact h2
    · rw [if_neg (by omega), if_neg (by omega), if_neg (by omega), if_pos h] at h2; omega
  · rintro ⟨h1, h2, h3⟩
    have hn := shp_num h1
    have hc : X.cs.length ≤ 3 := by
      rcases h3 with h | h | h | h | h | h
      · unfold Shp at h1; rw [if_neg (by omega)] at h1; rw [h1.2.1]; exact Nat.zero_le _
      · unfold Shp at h1; rw [if_neg (by omega)] at h1; rw [h1.2.1]; exact Nat.zero_le _
      · unfold Shp at h1; rw [if_neg (by omega)] at h1; rw [h1.2.1]; exact Nat.zero_le _
      · unfold Shp at h1; rw [if_neg (by omega)] at h1; rw [h1.2.1]; exact Nat.zero_le _
      · unfold Shp at h1; rw [if_neg (by omega)] at h1; rw [h1.2.1]; exact Nat.zero_le _
      · exact h
    refine ⟨hc, ?_, (okay_one X (shp_x64 h1 (by omega)) (by omega)).2 h1⟩
    unfold BndP at h2
    unfold mostV
    repeat' split
    all_goals omega
set_option maxHeartbeats 8000000 in
theorem rValid_lx (l : List Is) (k : Int) (L : List PV) (hk : k = l.length) (hL : L = isV l) (hX : ∀ x ∈ l, XW x ∧ x.cs.length ≤ maxLen) : CallF (fun _ => Tryd.prog) 20 [.p (.vsl (.sym k) true L)] [] 0 (fun r h n' => (∃ a e : Int, r = .tup [.p (.int .i64 (.sym a)), .p (.int .i64 (.sym e))] ∧ ValidP l a e) ∧ h = [] ∧ n' = 0) := by
  refine callF_of_body tok Tryd.func20 (by kernel_rfl) rfl rfl rfl ?_; conv => cbv
  refine Br.mk (fun g => ?_) (fun g => ?_)
  · have g : k = 0 := g
    conv => cbv
    refine RetF.mk [.p (.int .i64 (.sym 0)), .p (.int .i64 (.sym 7))] [] 0 (Re.at [] []) rfl ⟨⟨0, 7, rfl, .inl ⟨List.length_eq_zero_iff.1 (by omega), rfl, rfl⟩⟩, rfl, rfl⟩
  have g : ¬ k = 0 := g
  have hl0 : l ≠ [] := by intro h; rw [h] at hk; exact g hk
  conv => cbv
  refine Br.mk (fun g2 => ?_) (fun g2 => ?_)
  · have g2 : 60 < k := g2
    conv => cbv
    refine RetF.mk [.p (.int .i64 (.sym 0)), .p (.int .i64 (.sym 3))] [] 0 (Re.at [] []) rfl ⟨⟨0, 3, rfl, .inr (.inl ⟨by omega, rfl, rfl⟩)⟩, rfl, rfl⟩
  have g2 : ¬ 60 < k := g2
  conv => cbv
  refine LoopF.mk (fun kk s => ∃ i : Int, s = ⟨.p (.vsl (.sym k) true L) :: (undefs 3 ++ .p (.int .i64 (.sym i)) :: undefs 70), [], 0⟩ ∧ (∀ y ∈ l.take i.toNat, MayP y ∧ LeadP y l.length) ∧ 0 ≤ i ∧ i ≤ k ∧ kk = (k - i).toNat) k.toNat _
    (Re.at [] []) ⟨0, rfl, (fun c hc => by simp at hc), by omega, by omega, by omega⟩ ?_
  rintro kk s ⟨i, rfl, hall, h0, hik, hkk⟩
  conv => cbv
  refine Br.mk (fun g3 => ?_) (fun g3 => ?_)
  case refine_2 =>
    have g3 : ¬ i < k := g3
    rw [List.take_of_length_le (by omega)] at hall
    conv => cbv
    refine RetF.mk [.p (.int .i64 (.sym 0)), .p (.int .i64 (.sym 0))] [] 0 (Re.at [] []) rfl ⟨⟨0, 0, rfl, .inr (.inr (.inl ⟨hl0, by omega, hall, rfl, rfl⟩))⟩, rfl, rfl⟩
  have g3 : i < k := g3
  obtain ⟨x, hx⟩ : ∃ x, l[i.toNat]? = some x := ⟨_, List.getElem?_eq_getElem (by omega)⟩
  have hxm := List.mem_of_getElem? hx
  have hxX := hX x hxm
  have hxg := isV_get hx
  rw [← hL] at hxg
  obtain ⟨xo, hxo⟩ : ∃ q, q = x.op := ⟨_, rfl⟩
  obtain ⟨xa, hxa⟩ : ∃ q, q = x.a := ⟨_, rfl⟩
  obtain ⟨xb, hxb⟩ : ∃ q, q = x.b := ⟨_, rfl⟩
  obtain ⟨xn, hxn⟩ : ∃ q, q = x.n := ⟨_, rfl⟩
  obtain ⟨xk, hxk⟩ : ∃ q, q = ((x.cs.length : Nat) : Int) := ⟨_, rfl⟩
  obtain ⟨xl, hxl⟩ : ∃ q, q = csV x.cs := ⟨_, rfl⟩
  rw [← hxo, ← hxa, ← hxb, ← hxn, ← hxk, ← hxl] at hxg
  obtain ⟨k', rfl⟩ : ∃ k', kk = k' + 1 := ⟨kk - 1, by omega⟩
  have hfin : ∀ e : Int, ((¬ MayP x ∧ e = 5) ∨ (MayP x ∧ ¬ LeadP x l.length ∧ e = 6)) → ∀ a : Int, a = i + 1 → ValidP l a e := fun e he a ha => .inr (.inr (.inr ⟨hl0, by omega, i.toNat, x, hx, hall, by omega, he⟩))
  have hma := may_all x hxX.1
  conv => cbv
  refine Need.mk ⟨by show (0 : Int) ≤ i; omega, by show i < k; omega⟩ ?_
  conv => cbv
  refine Sum.mk fun w hw => ?_
  have hw : w = i * 5 := hw
  conv => cbv
  refine Cell.at w (i.toNat * 5) hxg.1 (by simp [I.val]) (by omega) ?_
  conv => cbv
  refine Cell.at (w + 1) (i.toNat * 5 + 1) hxg.2.1 (by simp [I.val]) (by omega) ?_
  conv => cbv
  refine Cell.at (w + 2) (i.toNat * 5 + 2) hxg.2.2.1 (by simp [I.val]) (by omega) ?_
  conv => cbv
  refine Cell.at (w + 3) (i.toNat * 5 + 3) hxg.2.2.2.1 (by simp [I.val]) (by omega) ?_
  conv => cbv
  refine Cell.at (w + 4) (i.toNat * 5 + 4) hxg.2.2.2.2 (by simp [I.val]) (by omega) ?_
  conv => cbv
  refine callF_frame (shaped_lx x xo xa xb xn xk xl hxo hxa hxb hxn hxk hxl hxX.2) [] rfl trivial rfl rfl (fun r2 h' n' hrr => ?_)
  obtain ⟨⟨q1, e1, hq1⟩, e2, e3⟩ := hrr
  subst e1 e2 e3
  cases q1 with
  | false =>
    have hno : ¬ MayP x := fun h => by have := hq1.2 (hma.1 h).1; cases this
    conv => cbv
    refine Fit.mk (by show (-9223372036854775808 : Int) ≤ i + 1; omega) (by show i + 1 ≤ 9223372036854775807; omega) fun t3 ht3 => ?_
    have ht3 : t3 = i + 1 := ht3
    conv => cbv
    refine RetF.mk [.p (.int .i64 (.sym t3)), .p (.int .i64 (.sym 5))] [] 0 (Re.at [] []) rfl ⟨⟨t3, 5, rfl, hfin 5 (.inl ⟨hno, rfl⟩) t3 ht3⟩, rfl, rfl⟩
  | true =>
  have hshp := hq1.1 rfl
  conv => cbv
  refine callF_frame (bounded_lx x xo xa xb xn xk xl hxo hxn hxk) [] rfl trivial rfl rfl (fun r2 h' n' hrr => ?_)
  obtain ⟨⟨q2, e1, hq2⟩, e2, e3⟩ := hrr
  subst e1 e2 e3
  cases q2 with
  | false =>
    have hno : ¬ MayP x := fun h => by have := hq2.2 (hma.1 h).2; cases this
    conv => cbv
    refine Fit.mk (by show (-9223372036854775808 : Int) ≤ i + 1; omega) (by show i + 1 ≤ 9223372036854775807; omega) fun t3 ht3 => ?_
    have ht3 : t3 = i + 1 := ht3
    conv => cbv
    refine RetF.mk [.p (.int .i64 (.sym t3)), .p (.int .i64 (.sym 5))] [] 0 (Re.at [] []) rfl ⟨⟨t3, 5, rfl, hfin 5 (.inl ⟨hno, rfl⟩) t3 ht3⟩, rfl, rfl⟩
  | true =>
  have hmay : MayP x := hma.2 ⟨hshp, hq2.1 rfl⟩
  conv => cbv
  refine Br.mk (fun g10 => ?_) (fun g10 => ?_)
  · have g10 : xo = 10 := g10
    have hld : LeadP x l.length ↔ xn < k := by unfold LeadP; rw [if_pos (by omega), ← hxn, hk]
    have hxk0 : xk = 0 := by
      have hs := hshp
      unfold Shp at hs
      rw [if_neg (by omega)] at hs
      rw [hxk, hs.2.1]; rfl
    conv => cbv
    refine Br.mk (fun g7 => ?_) (fun g7 => ?_)
    · have g7 : k ≤ xn := g7
      have hnl : ¬ LeadP x l.length := fun h => by have := hld.1 h; omega
      conv => cbv
      refine Fit.mk (by show (-9223372036854775808 : Int) ≤ i + 1; omega) (by show i + 1 ≤ 9223372036854775807; omega) fun t3 ht3 => ?_
      have ht3 : t3 = i + 1 := ht3
      conv => cbv
      refine RetF.mk [.p (.int .i64 (.sym t3)), .p (.int .i64 (.sym 6))] [] 0 (Re.at [] []) rfl ⟨⟨t3, 6, rfl, hfin 6 (.inr ⟨hmay, hnl, rfl⟩) t3 ht3⟩, rfl, rfl⟩
    have g7 : ¬ k ≤ xn := g7
    have hlead : LeadP x l.length := hld.2 (by omega)
    conv => cbv
    refine LoopF.rounds 1 ?_
    conv => cbv
    refine Br.no (by show ¬ (0 : Int) < xk; omega) ?_
    conv => cbv
    refine Fit.mk (by show (-9223372036854775808 : Int) ≤ i + 1; omega) (by show i + 1 ≤ 9223372036854775807; omega) fun i2 hi2 => ?_
    have hi2 : i2 = i + 1 := hi2
    conv => cbv
    refine Again.mk k' _ (Nat.lt_succ_self _) (Re.at [] []) ⟨i2, rfl, ?_, by omega, by omega, by omega⟩
    rw [show i2.toNat = i.toNat + 1 by omega, List.take_add_one, hx]
    intro d hd
    rcases List.mem_append.1 hd with hd | hd
    · exact hall d hd
    · simp at hd; subst hd; exact ⟨hmay, hlead⟩
  have g10 : ¬ xo = 10 := g10
  conv => cbv
  refine Br.mk (fun g11 => ?_) (fun g11 => ?_)
  · have g11 : xo = 11 := g11
    have hld : LeadP x l.length ↔ xn < k := by unfold LeadP; rw [if_pos (by omega), ← hxn, hk]
    have hxk0 : xk = 0 := by
      have hs := hshp
      unfold Shp at hs
      rw [if_neg (by omega)] at hs
      rw [hxk, hs.2.1]; rfl
    conv => cbv
    refine Br.mk (fun g7 => ?_) (fun g7 => ?_)
    · have g7 : k ≤ xn := g7
      have hnl : ¬ LeadP x l.length := fun h => by have := hld.1 h; omega
      conv => cbv
      refine Fit.mk (by show (-9223372036854775808 : Int) ≤ i + 1; omega) (by show i + 1 ≤ 9223372036854775807; omega) fun t3 ht3 => ?_
      have ht3 : t3 = i + 1 := ht3
      conv => cbv
      refine RetF.mk [.p (.int .i64 (.sym t3)), .p (.int .i64 (.sym 6))] [] 0 (Re.at [] []) rfl ⟨⟨t3, 6, rfl, hfin 6 (.inr ⟨hmay, hnl, rfl⟩) t3 ht3⟩, rfl, rfl⟩
    have g7 : ¬ k ≤ xn := g7
    have hlead : LeadP x l.length := hld.2 (by omega)
    conv => cbv
    refine LoopF.rounds 1 ?_
    conv => cbv
    refine Br.no (by show ¬ (0 : Int) < xk; omega) ?_
    conv => cbv
    refine Fit.mk (by show (-9223372036854775808 : Int) ≤ i + 1; omega) (by show i + 1 ≤ 9223372036854775807; omega) fun i2 hi2 => ?_
    have hi2 : i2 = i + 1 := hi2
    conv => cbv
    refine Again.mk k' _ (Nat.lt_succ_self _) (Re.at [] []) ⟨i2, rfl, ?_, by omega, by omega, by omega⟩
    rw [show i2.toNat = i.toNat + 1 by omega, List.take_add_one, hx]
    intro d hd
    rcases List.mem_append.1 hd with hd | hd
    · exact hall d hd
    · simp at hd; subst hd; exact ⟨hmay, hlead⟩
  have g11 : ¬ xo = 11 := g11
  conv => cbv
  refine Br.mk (fun g12 => ?_) (fun g12 => ?_)
  · have g12 : xo = 12 := g12
    have hld : LeadP x l.length ↔ xn < k := by unfold LeadP; rw [if_pos (by omega), ← hxn, hk]
    have hxk0 : xk = 0 := by
      have hs := hshp
      unfold Shp at hs
      rw [if_neg (by omega)] at hs
      rw [hxk, hs.2.1]; rfl
    conv => cbv
    refine Br.mk (fun g7 => ?_) (fun g7 => ?_)
    · have g7 : k ≤ xn := g7
      have hnl : ¬ LeadP x l.length := fun h => by have := hld.1 h; omega
      conv => cbv
      refine Fit.mk (by show (-9223372036854775808 : Int) ≤ i + 1; omega) (by show i + 1 ≤ 9223372036854775807; omega) fun t3 ht3 => ?_
      have ht3 : t3 = i + 1 := ht3
      conv => cbv
      refine RetF.mk [.p (.int .i64 (.sym t3)), .p (.int .i64 (.sym 6))] [] 0 (Re.at [] []) rfl ⟨⟨t3, 6, rfl, hfin 6 (.inr ⟨hmay, hnl, rfl⟩) t3 ht3⟩, rfl, rfl⟩
    have g7 : ¬ k ≤ xn := g7
    have hlead : LeadP x l.length := hld.2 (by omega)
    conv => cbv
    refine LoopF.rounds 1 ?_
    conv => cbv
    refine Br.no (by show ¬ (0 : Int) < xk; omega) ?_
    conv => cbv
    refine Fit.mk (by show (-9223372036854775808 : Int) ≤ i + 1; omega) (by show i + 1 ≤ 9223372036854775807; omega) fun i2 hi2 => ?_
    have hi2 : i2 = i + 1 := hi2
    conv => cbv
    refine Again.mk k' _ (Nat.lt_succ_self _) (Re.at [] []) ⟨i2, rfl, ?_, by omega, by omega, by omega⟩
    rw [show i2.toNat = i.toNat + 1 by omega, List.take_add_one, hx]
    intro d hd
    rcases List.mem_append.1 hd with hd | hd
    · exact hall d hd
    · simp at hd; subst hd; exact ⟨hmay, hlead⟩
  have g12 : ¬ xo = 12 := g12
  conv => cbv
  have hld : LeadP x l.length ↔ ∀ c ∈ x.cs, c.to < k := by unfold LeadP; rw [if_neg (by omega), hk]
  refine LoopF.mk (fun kk s => ∃ j : Int, s = ⟨.p (.vsl (.sym k) true L) :: (undefs 3 ++ .p (.int .i64 (.sym i)) :: .ptr 0 (.lit 0) :: .undef :: .p (.int .i64 (.sym j)) :: undefs 67), [(0, .pure false [.int .i64 (.sym xo), .int .i64 (.sym xa), .int .i64 (.sym xb), .int .i64 (.sym xn), .vsl (.sym xk) true xl])], 1⟩ ∧ (∀ c ∈ x.cs.take j.toNat, c.to < k) ∧ 0 ≤ j ∧ j ≤ xk ∧ kk = (xk - j).toNat) xk.toNat _
    (Re.at [(0, 0)] []) ⟨0, rfl, (fun c hc => by simp at hc), by omega, by omega, by omega⟩ ?_
  rintro kk s ⟨j, rfl, hcs, j0, jx, hkj⟩
  conv => cbv
  refine Br.mk (fun g8 => ?_) (fun g8 => ?_)
  case refine_2 =>
    have g8 : ¬ j < xk := g8
    have hlead : LeadP x l.length := by
      rw [hld]
      rw [List.take_of_length_le (by omega)] at hcs
      exact hcs
    conv => cbv
    refine Fit.mk (by show (-9223372036854775808 : Int) ≤ i + 1; omega) (by show i + 1 ≤ 9223372036854775807; omega) fun i2 hi2 => ?_
    have hi2 : i2 = i + 1 := hi2
    conv => cbv
    refine Again.mk k' _ (Nat.lt_succ_self _) (Re.at [] []) ⟨i2, rfl, ?_, by omega, by omega, by omega⟩
    rw [show i2.toNat = i.toNat + 1 by omega, List.take_add_one, hx]
    intro d hd
    rcases List.mem_append.1 hd with hd | hd
    · exact hall d hd
    · simp at hd; subst hd; exact ⟨hmay, hlead⟩
  have g8 : j < xk := g8
  have hxb9 : x.cs.length ≤ 9223372036854775807 := hxX.2
  obtain ⟨c, hc⟩ : ∃ c, x.cs[j.toNat]? = some c := ⟨_, List.getElem?_eq_getElem (by omega)⟩
  have hcm := List.mem_of_getElem? hc
  have hcg := csV_get hc
  rw [← hxl] at hcg
  obtain ⟨ct, hct⟩ : ∃ q, q = c.to := ⟨_, rfl⟩
  rw [← hct] at hcg
  obtain ⟨k2, rfl⟩ : ∃ k2, kk = k2 + 1 := ⟨kk - 1, by omega⟩
  conv => cbv
  refine Need.mk ⟨by show (0 : Int) ≤ j; omega, by show j < xk; omega⟩ ?_
  conv => cbv
  refine Sum.mk fun u hu => ?_
  have hu : u = j * 4 := hu
  conv => cbv
  refine Sum.mk fun u3 hu3 => ?_
  have hu3 : u3 = u + 3 := hu3
  conv => cbv
  refine Cell.at u3 (j.toNat * 4 + 3) hcg.2.2.2 (by simp [I.val]) (by omega) ?_
  conv => cbv
  refine Br.mk (fun g9 => ?_) (fun g9 => ?_)
  · have g9 : k ≤ ct := g9
    have hnl : ¬ LeadP x l.length := fun h => by have := hld.1 h c hcm; omega
    conv => cbv
    refine Fit.mk (by show (-9223372036854775808 : Int) ≤ i + 1; omega) (by show i + 1 ≤ 9223372036854775807; omega) fun t3 ht3 => ?_
    have ht3 : t3 = i + 1 := ht3
    conv => cbv
    refine RetF.mk [.p (.int .i64 (.sym t3)), .p (.int .i64 (.sym 6))] [] 0 (Re.at [] []) rfl ⟨⟨t3, 6, rfl, hfin 6 (.inr ⟨hmay, hnl, rfl⟩) t3 ht3⟩, rfl, rfl⟩
  have g9 : ¬ k ≤ ct := g9
  conv => cbv
  refine Fit.mk (by show (-9223372036854775808 : Int) ≤ j + 1; omega) (by show j + 1 ≤ 9223372036854775807; omega) fun j2 hj2 => ?_
  have hj2 : j2 = j + 1 := hj2
  conv => cbv
  refine Again.mk k2 _ (Nat.lt_succ_self _) (Re.at [(0, 0)] []) ⟨j2, rfl, ?_, by omega, by omega, by omega⟩
  rw [show j2.toNat = j.toNat + 1 by omega, List.take_add_one, hc]
  intro d hd
  rcases List.mem_append.1 hd with hd | hd
  · exact hcs d hd
  · simp at hd; subst hd; omega
end Go.Proofs.YtfjdifeofnpcnaaDoor
