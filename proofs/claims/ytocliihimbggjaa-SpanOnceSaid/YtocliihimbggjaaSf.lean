/-
  SpanOnce.
-/
import Derived.Test.YtocliihimbggjaaSe
namespace Go.Proofs.Ytocliihimbggjaa
open Go Go.LX
set_option maxRecDepth 100000
set_option linter.unusedVariables false
set_option linter.unusedSimpArgs false

theorem refWords_lx (c w : Int) (h0 : 0 ≤ c) (h3 : c ≤ 3) (hw : w = wordsOf c) : CallF (fun _ => Try.prog) 22 [.p (.int .i64 (.sym c))] [] 0 (fun r h n => r = .p (.int .i64 (.sym w)) ∧ h = [] ∧ n = 0) := by
  refine callF_of_body tok Try.func22 (by kernel_rfl) rfl rfl rfl ?_; conv => cbv
  refine Br.mk (fun g => ?_) (fun g => ?_)
  case refine_1 =>
    have gf : False := by have g : c < 0 := g; omega
    cases gf
  conv => cbv
  refine Br.mk (fun g => ?_) (fun g => ?_)
  case refine_1 =>
    have gf : False := by have g : 3 < c := g; omega
    cases gf
  conv => cbv
  refine Need.mk ⟨h0, by show c < 4; omega⟩ ?_
  conv => cbv
  have hc4 : c = 0 ∨ c = 1 ∨ c = 2 ∨ c = 3 := by omega
  rcases hc4 with e | e | e | e
  · refine Cell.at c 0 (v := .int .i64 (.lit 4)) rfl (by simp [I.val]) (by omega) ?_
    have hw4 : w = 4 := by rw [hw, e]; rfl
    conv => cbv
    refine RetF.mk [.p (.int .i64 (.sym w))] [] 0 (Re.of [] [] (by first | exact Nat.zero_le _ | exact Nat.le_refl _ | decide | (dsimp only; decide)) rfl rfl (by (try (conv => cbv)); (repeat' (first | exact trivial | rfl | exact SEq.mk rfl | (exact SEq.mk (by first | assumption | (symm; assumption))) | (simp only [I.val]; done) | (simp only [I.val]; omega) | omega | assumption | (refine And.intro ?_ ?_) | exact Or.inl rfl | exact Or.inr (by assumption) | exact List.Mem.head _ | exact List.Mem.tail _ (List.Mem.head _) | exact ⟨_, rfl⟩ | exact ⟨_, rfl, Or.inl rfl⟩ | (refine ⟨_, rfl, Or.inr ?_⟩; (try (conv => cbv))) | (simp only [I.val] at *; first | omega | (subst_vars; rfl) | simp_all) | (refine Or.inr ?_; (try (conv => cbv)))))) (by (try (conv => cbv)); (repeat' (first | exact trivial | rfl | exact SEq.mk rfl | (exact SEq.mk (by first | assumption | (symm; assumption))) | (simp only [I.val]; done) | (simp only [I.val]; omega) | omega | assumption | (refine And.intro ?_ ?_) | exact Or.inl rfl | exact Or.inr (by assumption) | exact List.Mem.head _ | exact List.Mem.tail _ (List.Mem.head _) | exact ⟨_, rfl⟩ | exact ⟨_, rfl, Or.inl rfl⟩ | (refine ⟨_, rfl, Or.inr ?_⟩; (try (conv => cbv))) | (simp only [I.val] at *; first | omega | (subst_vars; rfl) | simp_all) | (refine Or.inr ?_; (try (conv => cbv))))))) rfl ⟨rfl, rfl, rfl⟩
  · refine Cell.at c 1 (v := .int .i64 (.lit 8)) rfl (by simp [I.val]) (by omega) ?_
    have hw4 : w = 8 := by rw [hw, e]; rfl
    conv => cbv
    refine RetF.mk [.p (.int .i64 (.sym w))] [] 0 (Re.of [] [] (by first | exact Nat.zero_le _ | exact Nat.le_refl _ | decide | (dsimp only; decide)) rfl rfl (by (try (conv => cbv)); (repeat' (first | exact trivial | rfl | exact SEq.mk rfl | (exact SEq.mk (by first | assumption | (symm; assumption))) | (simp only [I.val]; done) | (simp only [I.val]; omega) | omega | assumption | (refine And.intro ?_ ?_) | exact Or.inl rfl | exact Or.inr (by assumption) | exact List.Mem.head _ | exact List.Mem.tail _ (List.Mem.head _) | exact ⟨_, rfl⟩ | exact ⟨_, rfl, Or.inl rfl⟩ | (refine ⟨_, rfl, Or.inr ?_⟩; (try (conv => cbv))) | (simp only [I.val] at *; first | omega | (subst_vars; rfl) | simp_all) | (refine Or.inr ?_; (try (conv => cbv)))))) (by (try (conv => cbv)); (repeat' (first | exact trivial | rfl | exact SEq.mk rfl | (exact SEq.mk (by first | assumption | (symm; assumption))) | (simp only [I.val]; done) | (simp only [I.val]; omega) | omega | assumption | (refine And.intro ?_ ?_) | exact Or.inl rfl | exact Or.inr (by assumption) | exact List.Mem.head _ | exact List.Mem.tail _ (List.Mem.head _) | exact ⟨_, rfl⟩ | exact ⟨_, rfl, Or.inl rfl⟩ | (refine ⟨_, rfl, Or.inr ?_⟩; (try (conv => cbv))) | (simp only [I.val] at *; first | omega | (subst_vars; rfl) | simp_all) | (refine Or.inr ?_; (try (conv => cbv))))))) rfl ⟨rfl, rfl, rfl⟩
  · refine Cell.at c 2 (v := .int .i64 (.lit 16)) rfl (by simp [I.val]) (by omega) ?_
    have hw4 : w = 16 := by rw [hw, e]; rfl
    conv => cbv
    refine RetF.mk [.p (.int .i64 (.sym w))] [] 0 (Re.of [] [] (by first | exact Nat.zero_le _ | exact Nat.le_refl _ | decide | (dsimp only; decide)) rfl rfl (by (try (conv => cbv)); (repeat' (first | exact trivial | rfl | exact SEq.mk rfl | (exact SEq.mk (by first | assumption | (symm; assumption))) | (simp only [I.val]; done) | (simp only [I.val]; omega) | omega | assumption | (refine And.intro ?_ ?_) | exact Or.inl rfl | exact Or.inr (by assumption) | exact List.Mem.head _ | exact List.Mem.tail _ (List.Mem.head _) | exact ⟨_, rfl⟩ | exact ⟨_, rfl, Or.inl rfl⟩ | (refine ⟨_, rfl, Or.inr ?_⟩; (try (conv => cbv))) | (simp only [I.val] at *; first | omega | (subst_vars; rfl) | simp_all) | (refine Or.inr ?_; (try (conv => cbv)))))) (by (try (conv => cbv)); (repeat' (first | exact trivial | rfl | exact SEq.mk rfl | (exact SEq.mk (by first | assumption | (symm; assumption))) | (simp only [I.val]; done) | (simp only [I.val]; omega) | omega | assumption | (refine And.intro ?_ ?_) | exact Or.inl rfl | exact Or.inr (by assumption) | exact List.Mem.head _ | exact List.Mem.tail _ (List.Mem.head _) | exact ⟨_, rfl⟩ | exact ⟨_, rfl, Or.inl rfl⟩ | (refine ⟨_, rfl, Or.inr ?_⟩; (try (conv => cbv))) | (simp only [I.val] at *; first | omega | (subst_vars; rfl) | simp_all) | (refine Or.inr ?_; (try (conv => cbv))))))) rfl ⟨rfl, rfl, rfl⟩
  · refine Cell.at c 3 (v := .int .i64 (.lit 32)) rfl (by simp [I.val]) (by omega) ?_
    have hw4 : w = 32 := by rw [hw, e]; rfl
    conv => cbv
    refine RetF.mk [.p (.int .i64 (.sym w))] [] 0 (Re.of [] [] (by first | exact Nat.zero_le _ | exact Nat.le_refl _ | decide | (dsimp only; decide)) rfl rfl (by (try (conv => cbv)); (repeat' (first | exact trivial | rfl | exact SEq.mk rfl | (exact SEq.mk (by first | assumption | (symm; assumption))) | (simp only [I.val]; done) | (simp only [I.val]; omega) | omega | assumption | (refine And.intro ?_ ?_) | exact Or.inl rfl | exact Or.inr (by assumption) | exact List.Mem.head _ | exact List.Mem.tail _ (List.Mem.head _) | exact ⟨_, rfl⟩ | exact ⟨_, rfl, Or.inl rfl⟩ | (refine ⟨_, rfl, Or.inr ?_⟩; (try (conv => cbv))) | (simp only [I.val] at *; first | omega | (subst_vars; rfl) | simp_all) | (refine Or.inr ?_; (try (conv => cbv)))))) (by (try (conv => cbv)); (repeat' (first | exact trivial | rfl | exact SEq.mk rfl | (exact SEq.mk (by first | assumption | (symm; assumption))) | (simp only [I.val]; done) | (simp only [I.val]; omega) | omega | assumption | (refine And.intro ?_ ?_) | exact Or.inl rfl | exact Or.inr (by assumption) | exact List.Mem.head _ | exact List.Mem.tail _ (List.Mem.head _) | exact ⟨_, rfl⟩ | exact ⟨_, rfl, Or.inl rfl⟩ | (refine ⟨_, rfl, Or.inr ?_⟩; (try (conv => cbv))) | (simp only [I.val] at *; first | omega | (subst_vars; rfl) | simp_all) | (refine Or.inr ?_; (try (conv => cbv))))))) rfl ⟨rfl, rfl, rfl⟩
theorem refSlots_lx (c k : Int) (h0 : 0 ≤ c) (h3 : c ≤ 3) (hk : k = slotsOf c) : CallF (fun _ => Try.prog) 21 [.p (.int .i64 (.sym c))] [] 0 (fun r h n => r = .p (.int .i64 (.sym k)) ∧ h = [] ∧ n = 0) := by
  obtain ⟨w, hw⟩ : ∃ w, w = wordsOf c := ⟨_, rfl⟩
  refine callF_of_body tok Try.func21 (by kernel_rfl) rfl rfl rfl ?_; conv => cbv
  refine Br.mk (fun g => ?_) (fun g => ?_)
  case refine_1 =>
    have gf : False := by have g : c < 0 := g; omega
    cases gf
  conv => cbv
  refine Br.mk (fun g => ?_) (fun g => ?_)
  case refine_1 =>
    have gf : False := by have g : 3 < c := g; omega
    cases gf
  conv => cbv
  refine callF_frame (refWords_lx c w h0 h3 hw) [] rfl trivial rfl rfl (fun r h' n' ⟨e1, e2, e3⟩ => ?_)
  subst e1 e2 e3
  conv => cbv
  have hk2 : k = (32 : Int).tdiv w ∧ w ≠ 0 := by
    have : c = 0 ∨ c = 1 ∨ c = 2 ∨ c = 3 := by omega
    rcases this with e | e | e | e <;> (subst e; subst hk; subst hw; decide)
  have hk8 : 0 ≤ k ∧ k ≤ 8 := by
    have : c = 0 ∨ c = 1 ∨ c = 2 ∨ c = 3 := by omega
    rcases this with e | e | e | e <;> (subst e; subst hk; decide)
  refine Need.mk (show w ≠ 0 from hk2.2) ?_
  conv => cbv
  refine Fit.mk (by show (-9223372036854775808 : Int) ≤ Int.tdiv 32 w; omega) (by show Int.tdiv 32 w ≤ 9223372036854775807; omega) fun q hq => ?_
  have hq : q = Int.tdiv 32 w := hq
  have hqk : q = k := by rw [hq, hk2.1]
  conv => cbv
  refine RetF.mk [.p (.int .i64 (.sym k))] [] 0 (Re.of [] [] (by first | exact Nat.zero_le _ | exact Nat.le_refl _ | decide | (dsimp only; decide)) rfl rfl (by (try (conv => cbv)); (repeat' (first | exact trivial | rfl | exact SEq.mk rfl | (exact SEq.mk (by first | assumption | (symm; assumption))) | (simp only [I.val]; done) | (simp only [I.val]; omega) | omega | assumption | (refine And.intro ?_ ?_) | exact Or.inl rfl | exact Or.inr (by assumption) | exact List.Mem.head _ | exact List.Mem.tail _ (List.Mem.head _) | exact ⟨_, rfl⟩ | exact ⟨_, rfl, Or.inl rfl⟩ | (refine ⟨_, rfl, Or.inr ?_⟩; (try (conv => cbv))) | (simp only [I.val] at *; first | omega | (subst_vars; rfl) | simp_all) | (refine Or.inr ?_; (try (conv => cbv)))))) (by (try (conv => cbv)); (repeat' (first | exact trivial | rfl | exact SEq.mk rfl | (exact SEq.mk (by first | assumption | (symm; assumption))) | (simp only [I.val]; done) | (simp only [I.val]; omega) | omega | assumption | (refine And.intro ?_ ?_) | exact Or.inl rfl | exact Or.inr (by assumption) | exact List.Mem.head _ | exact List.Mem.tail _ (List.Mem.head _) | exact ⟨_, rfl⟩ | exact ⟨_, rfl, Or.inl rfl⟩ | (refine ⟨_, rfl, Or.inr ?_⟩; (try (conv => cbv))) | (simp only [I.val] at *; first | omega | (subst_vars; rfl) | simp_all) | (refine Or.inr ?_; (try (conv => cbv))))))) rfl ⟨rfl, rfl, rfl⟩
theorem class_none_lx (R : List Rw) (n i d : Int) (L : List PV) (hL : L = rpv R) (hn : n = R.length) (hi0 : 0 ≤ i) (hi : R[i.toNat]? = some (d, [])) : CallF (fun _ => Try.prog) 17 [.ptr 0 (.lit 0), .p (.int .i64 (.sym i))] [(0, .mix [.sl 1 58 2 (.lit 0) (.sym n)]), (1, .pure true L)] 2
    (fun r h n' => (∃ v : Int, r = .p (.int .i64 (.sym v)) ∧ v = -1) ∧ h = [(0, .mix [.sl 1 58 2 (.lit 0) (.sym n)]), (1, .pure true L)] ∧ n' = 2) := by
  have hiR : i.toNat < R.length := (List.getElem?_eq_some_iff.1 hi).1
  obtain ⟨y, hy⟩ : ∃ y : ByteArray, y = ⟨(mkB []).toArray⟩ := ⟨_, rfl⟩
  obtain ⟨c1, c2⟩ := rpv_get R i.toNat _ hi
  dsimp only at c1 c2
  rw [← hL] at c1 c2
  rw [← hy] at c2
  have hyn : y = ⟨#[]⟩ := hy
  refine callF_of_body tok Try.func17 (by kernel_rfl) rfl rfl rfl ?_; conv => cbv
  refine callF_frame (has_lx n i L hi0 (by omega)) [(0, 0), (1, 1)] rfl (by simp [hmapOk, nget, hget, renB, okB, renV, renVs, rn, okVs, okV]) rfl rfl (fun r h' n' ⟨e1, e2, e3⟩ => ?_)
  subst e1 e2 e3
  conv => cbv
  refine Need.mk ⟨hi0, by show i < n; omega⟩ ?_
  conv => cbv
  refine Sum.mk fun w hw => ?_
  have hw : w = i * 2 := hw
  conv => cbv
  refine Sum.mk fun a ha => ?_
  have ha : a = w + 1 := ha
  conv => cbv
  refine Cell.at a _ c2 (by simp [I.val]) (by omega) ?_
  conv => cbv
  refine Br.mk (fun g => ?_) (fun g => ?_)
  case refine_2 =>
    have gf : False := g hyn
    cases gf
  conv => cbv
  refine RetF.mk [.p (.int .i64 (.sym (-1)))] [(0, .mix [.sl 1 58 2 (.lit 0) (.sym n)]), (1, .pure true L)] 2 (Re.of [(0, 0), (1, 1)] [] (by first | exact Nat.zero_le _ | exact Nat.le_refl _ | decide | (dsimp only; decide)) rfl rfl (by (try (conv => cbv)); (repeat' (first | exact trivial | rfl | exact SEq.mk rfl | (exact SEq.mk (by first | assumption | (symm; assumption))) | (simp only [I.val]; done) | (simp only [I.val]; omega) | omega | assumption | (refine And.intro ?_ ?_) | exact Or.inl rfl | exact Or.inr (by assumption) | exact List.Mem.head _ | exact List.Mem.tail _ (List.Mem.head _) | exact ⟨_, rfl⟩ | exact ⟨_, rfl, Or.inl rfl⟩ | (refine ⟨_, rfl, Or.inr ?_⟩; (try (conv => cbv))) | (simp only [I.val] at *; first | omega | (subst_vars; rfl) | simp_all) | (refine Or.inr ?_; (try (conv => cbv)))))) (by (try (conv => cbv)); (repeat' (first | exact trivial | rfl | exact SEq.mk rfl | (exact SEq.mk (by first | assumption | (symm; assumption))) | (simp only [I.val]; done) | (simp only [I.val]; omega) | omega | assumption | (refine And.intro ?_ ?_) | exact Or.inl rfl | exact Or.inr (by assumption) | exact List.Mem.head _ | exact List.Mem.tail _ (List.Mem.head _) | exact ⟨_, rfl⟩ | exact ⟨_, rfl, Or.inl rfl⟩ | (refine ⟨_, rfl, Or.inr ?_⟩; (try (conv => cbv))) | (simp only [I.val] at *; first | omega | (subst_vars; rfl) | simp_all) | (refine Or.inr ?_; (try (conv => cbv))))))) rfl ⟨⟨-1, rfl, rfl⟩, rfl, rfl⟩
theorem st_len8 {n k : Nat} {c : Int} {t : Nat} (hk : k ≤ 8) : ∀ e ∈ st n k c t, e.2.length ≤ 8 := by
  intro e he
  obtain ⟨r, hr, rfl⟩ := List.mem_map.1 he
  unfold stR
  split
  · simp
  · show (marksAt k t r).length ≤ 8
    rw [marks_length]; exact hk
theorem st_zero (n k : Nat) (c : Int) : st n k c 0 = List.replicate n (0, []) := by
  refine List.eq_replicate_iff.2 ⟨st_length _ _ _ _, fun e he => ?_⟩
  obtain ⟨r, hr, rfl⟩ := List.mem_map.1 he
  unfold stR; rw [if_pos (Nat.zero_le _)]
/-- The row of the slot that was given last. -/
theorem st_last {n k : Nat} {c : Int} {t : Nat} (hk0 : 0 < k) (ht : t < n * k) : (st n k c (t + 1))[t / k]? = some (c, marksAt k (t + 1) (t / k)) ∧ (marksAt k (t + 1) (t / k))[t % k]? = some true := by
  have hq : t / k < n := Nat.div_lt_of_lt_mul (by rw [Nat.mul_comm]; exact ht)
  have hd := Nat.div_add_mod t k
  have hm := Nat.mod_lt t hk0
  have hc : k * (t / k) = t / k * k := Nat.mul_comm _ _
  refine ⟨?_, ?_⟩
  · rw [st_get hq, stR, if_neg (by omega)]
  · rw [marks_get hm]; congr 1; rw [decide_eq_true_eq]; omega
/-- The row of the slot that is given next. -/
theorem st_this {n k : Nat} {c : Int} {t : Nat} (hk0 : 0 < k) (hk8 : k ≤ 8) (ht : t < n * k) : ∃ d m, (st n k c t)[t / k]? = some (d, m) ∧ m.length ≤ 8 ∧ m[t % k]? ≠ some true := by
  have hq : t / k < n := Nat.div_lt_of_lt_mul (by rw [Nat.mul_comm]; exact ht)
  have hd := Nat.div_add_mod t k
  have hm := Nat.mod_lt t hk0
  have hc : k * (t / k) = t / k * k := Nat.mul_comm _ _
  rw [st_get hq]
  unfold stR
  split
  · exact ⟨0, [], rfl, by simp, by simp⟩
  · refine ⟨c, _, rfl, by rw [marks_length]; exact hk8, ?_⟩
    rw [marks_get hm]
    have : decide (t / k * k + t % k < t) = false := by rw [decide_eq_false_iff_not]; omega
    rw [this]; simp
set_option maxHeartbeats 2000000 in
theorem spanOnce_law (n c o : Int) (hn : -9223372036854775808 ≤ n ∧ n ≤ 9223372036854775807) (hc : -9223372036854775808 ≤ c ∧ c ≤ 9223372036854775807) (ho : -9223372036854775808 ≤ o ∧ o ≤ 9223372036854775807) :
    CallF (fun _ => Try.prog) 4 [.p (.int .i64 (.sym n)), .p (.int .i64 (.sym c)), .p (.int .i64 (.sym o))] [] 0 (fun r _ _ => r = .p (.bool true)) := by
  refine callF_of_body tok Try.func4 (by kernel_rfl) rfl rfl rfl ?_; conv => cbv
  refine Fit.wrap fun xn hxn => ?_
  have hxn : xn = IntKind.u64.wrap n := hxn
  have hyn : 0 ≤ xn := by rw [hxn]; simp [IntKind.wrap, IntKind.bits, IntKind.signed]; omega
  clear hxn
  conv => cbv
  refine Sum.mk fun tn htn => ?_
  have htn : tn = xn % 8 := (show tn = xn.tmod 8 from htn).trans (Int.tmod_eq_emod_of_nonneg hyn)
  conv => cbv
  refine Fit.mk (by show (-9223372036854775808 : Int) ≤ tn; omega) (by show tn ≤ 9223372036854775807; omega) fun un hun => ?_
  have hun : un = tn := hun
  have h0n : 0 ≤ un := by omega
  have h1n : un < 8 := by omega
  clear hun htn hyn
  conv => cbv
  refine Fit.mk (by show (-9223372036854775808 : Int) ≤ 2 + un; omega) (by show 2 + un ≤ 9223372036854775807; omega) fun N hN => ?_
  have hN : N = 2 + un := hN
  have hN0 : 2 ≤ N := by omega
  have hN1 : N ≤ 9 := by omega
  clear hN h0n h1n
  conv => cbv
  refine Fit.wrap fun xc hxc => ?_
  have hxc : xc = IntKind.u64.wrap c := hxc
  have hyc : 0 ≤ xc := by rw [hxc]; simp [IntKind.wrap, IntKind.bits, IntKind.signed]; omega
  clear hxc
  conv => cbv
  refine Sum.mk fun tc htc => ?_
  have htc : tc = xc % 4 := (show tc = xc.tmod 4 from htc).trans (Int.tmod_eq_emod_of_nonneg hyc)
  conv => cbv
  refine Fit.mk (by show (-9223372036854775808 : Int) ≤ tc; omega) (by show tc ≤ 9223372036854775807; omega) fun uc huc => ?_
  have huc : uc = tc := huc
  have h0c : 0 ≤ uc := by omega
  have h1c : uc < 4 := by omega
  clear huc htc hyc
  conv => cbv
  refine Fit.wrap fun xw hxw => ?_
  have hxw : xw = IntKind.u64.wrap o := hxw
  have hyw : 0 ≤ xw := by rw [hxw]; simp [IntKind.wrap, IntKind.bits, IntKind.signed]; omega
  clear hxw
  conv => cbv
  refine Sum.mk fun tw htw => ?_
  have htw : tw = xw % 4 := (show tw = xw.tmod 4 from htw).trans (Int.tmod_eq_emod_of_nonneg hyw)
  conv => cbv
  refine Fit.mk (by show (-9223372036854775808 : Int) ≤ tw; omega) (by show tw ≤ 9223372036854775807; omega) fun uw huw => ?_
  have huw : uw = tw := huw
  have h0w : 0 ≤ uw := by omega
  have h1w : uw < 4 := by omega
  clear huw htw hyw
  conv => cbv
  obtain ⟨L, hL⟩ : ∃ L, L = rpv (List.replicate N.toNat (0, [])) := ⟨_, rfl⟩
  refine callF_frame (spanNew_lx N hN0 (by omega) L hL) [] rfl trivial rfl rfl (fun r h' n' ⟨e1, e2, e3⟩ => ?_)
  subst e1 e2 e3
  conv => cbv
  refine callF_frame awake06_lx [] rfl trivial rfl rfl (fun r h' n' ⟨e1, e2, e3⟩ => ?_)
  subst e1 e2 e3
  conv => cbv
  refine LoopF.mk (fun m s => ∃ cl rd : Int, s = ⟨.p (.int .i64 (.sym N)) :: .p (.int .i64 (.sym cl)) :: .p (.int .i64 (.sym uw)) :: (undefs 4 ++ .ptr 0 (.lit 0) :: .undef :: .p (.int .i64 (.sym rd)) :: undefs 134), [(0, .mix [.sl 1 58 2 (.lit 0) (.sym N)]), (1, .pure true L)], 2⟩ ∧ 0 ≤ cl ∧ cl < 4 ∧ 0 ≤ rd ∧ rd ≤ 2 ∧ m = (2 - rd).toNat) 2 _
    (Re.of [(0, 0), (1, 1)] [] (by first | exact Nat.zero_le _ | exact Nat.le_refl _ | decide | (dsimp only; decide)) rfl rfl (by (try (conv => cbv)); (repeat' (first | exact trivial | rfl | exact SEq.mk rfl | (exact SEq.mk (by first | assumption | (symm; assumption))) | (simp only [I.val]; done) | (simp only [I.val]; omega) | omega | assumption | (refine And.intro ?_ ?_) | exact Or.inl rfl | exact Or.inr (by assumption) | exact List.Mem.head _ | exact List.Mem.tail _ (List.Mem.head _) | exact ⟨_, rfl⟩ | exact ⟨_, rfl, Or.inl rfl⟩ | (refine ⟨_, rfl, Or.inr ?_⟩; (try (conv => cbv))) | (simp only [I.val] at *; first | omega | (subst_vars; rfl) | simp_all) | (refine Or.inr ?_; (try (conv => cbv)))))) (by (try (conv => cbv)); (repeat' (first | exact trivial | rfl | exact SEq.mk rfl | (exact SEq.mk (by first | assumption | (symm; assumption))) | (simp only [I.val]; done) | (simp only [I.val]; omega) | omega | assumption | (refine And.intro ?_ ?_) | exact Or.inl rfl | exact Or.inr (by assumption) | exact List.Mem.head _ | exact List.Mem.tail _ (List.Mem.head _) | exact ⟨_, rfl⟩ | exact ⟨_, rfl, Or.inl rfl⟩ | (refine ⟨_, rfl, Or.inr ?_⟩; (try (conv => cbv))) | (simp only [I.val] at *; first | omega | (subst_vars; rfl) | simp_all) | (refine Or.inr ?_; (try (conv => cbv))))))) ⟨uc, 0, rfl, by omega, by omega, by omega, by omega, by omega⟩ ?_
  rintro m s ⟨cl, rd, rfl, hcl0, hcl1, hrd0, hrd1, hm⟩
  conv => cbv
  refine Br.mk (fun gr => ?_) (fun gr => ?_)
  case refine_2 =>
    conv => cbv
    refine RetF.mk [.p (.bool true)] [] 0 (Re.of [] [] (by first | exact Nat.zero_le _ | exact Nat.le_refl _ | decide | (dsimp only; decide)) rfl rfl (by (try (conv => cbv)); (repeat' (first | exact trivial | rfl | exact SEq.mk rfl | (exact SEq.mk (by first | assumption | (symm; assumption))) | (simp only [I.val]; done) | (simp only [I.val]; omega) | omega | assumption | (refine And.intro ?_ ?_) | exact Or.inl rfl | exact Or.inr (by assumption) | exact List.Mem.head _ | exact List.Mem.tail _ (List.Mem.head _) | exact ⟨_, rfl⟩ | exact ⟨_, rfl, Or.inl rfl⟩ | (refine ⟨_, rfl, Or.inr ?_⟩; (try (conv => cbv))) | (simp only [I.val] at *; first | omega | (subst_vars; rfl) | simp_all) | (refine Or.inr ?_; (try (conv => cbv)))))) (by (try (conv => cbv)); (repeat' (first | exact trivial | rfl | exact SEq.mk rfl | (exact SEq.mk (by first | assumption | (symm; assumption))) | (simp only [I.val]; done) | (simp only [I.val]; omega) | omega | assumption | (refine And.intro ?_ ?_) | exact Or.inl rfl | exact Or.inr (by assumption) | exact List.Mem.head _ | exact List.Mem.tail _ (List.Mem.head _) | exact ⟨_, rfl⟩ | exact ⟨_, rfl, Or.inl rfl⟩ | (refine ⟨_, rfl, Or.inr ?_⟩; (try (conv => cbv))) | (simp only [I.val] at *; first | omega | (subst_vars; rfl) | simp_all) | (refine Or.inr ?_; (try (conv => cbv))))))) rfl rfl
  have gr : rd < 2 := gr
  obtain ⟨m', rfl⟩ : ∃ m', m = m' + 1 := ⟨m - 1, by omega⟩
  obtain ⟨kn, hkn⟩ : ∃ kn, kn = slotsOf cl := ⟨_, rfl⟩
  obtain ⟨k, hk⟩ : ∃ k : Int, k = kn := ⟨_, rfl⟩
  have hk18 : 1 ≤ kn ∧ kn ≤ 8 := by
    have : cl = 0 ∨ cl = 1 ∨ cl = 2 ∨ cl = 3 := by omega
    rcases this with e | e | e | e <;> (subst e; subst hkn; decide)
  conv => cbv
  refine callF_frame (refSlots_lx cl k hcl0 (by omega) (by rw [hk, hkn])) [] rfl trivial rfl rfl (fun r h' n' ⟨e1, e2, e3⟩ => ?_)
  subst e1 e2 e3
  conv => cbv
  obtain ⟨nn, hnn⟩ : ∃ nn, nn = N.toNat := ⟨_, rfl⟩
  have hNn : N = (nn : Int) := by omega
  have hLs : L = rpv (st nn kn cl 0) := by rw [hL, st_zero, hnn]
  obtain ⟨M, hM⟩ : ∃ M, M = N * k := ⟨_, rfl⟩
  obtain ⟨W, hW⟩ : ∃ W : Int, W = nn * 32 := ⟨_, rfl⟩
  obtain ⟨mn, hmn⟩ : ∃ mn, mn = nn * kn := ⟨_, rfl⟩
  have hMn : M = (mn : Int) := by rw [hM, hNn, hk, hmn, Int.natCast_mul]
  have hmn72 : mn ≤ 9 * 8 := by rw [hmn]; exact Nat.mul_le_mul (by omega) hk18.2
  have hd : ∀ i : Int, 0 ≤ i → i < M → Int.tdiv i k = ((i.toNat / kn : Nat) : Int) ∧ Int.tmod i k = ((i.toNat % kn : Nat) : Int) := fun i h0 h1 => by
    obtain ⟨t, rfl⟩ : ∃ t : Nat, i = t := ⟨i.toNat, by omega⟩
    rw [hk, Int.toNat_natCast]
    exact ⟨(Int.ofNat_tdiv t kn).symm, (Int.ofNat_tmod t kn).symm⟩
  have hlen : ∀ t, N = ((st nn kn cl t).length : Int) := fun t => by rw [st_length]; exact hNn
  have hl1000 : ∀ t, (st nn kn cl t).length ≤ 1000 := fun t => by rw [st_length]; omega
  refine LoopF.mk (fun m s => ∃ (i : Int) (L1 : List PV), s = ⟨.p (.int .i64 (.sym N)) :: .p (.int .i64 (.sym cl)) :: .p (.int .i64 (.sym uw)) :: (undefs 4 ++ .ptr 0 (.lit 0) :: .undef :: .p (.int .i64 (.sym rd)) :: .p (.int .i64 (.sym k)) :: .p (.int .i64 (.sym i)) :: undefs 132), [(0, .mix [.sl 1 58 2 (.lit 0) (.sym N)]), (1, .pure true L1)], 2⟩ ∧ 0 ≤ i ∧ i ≤ M ∧ L1 = rpv (st nn kn cl i.toNat) ∧ m = (M - i).toNat) M.toNat _
    (Re.of [(0, 0), (1, 1)] [] (by first | exact Nat.zero_le _ | exact Nat.le_refl _ | decide | (dsimp only; decide)) rfl rfl (by (try (conv => cbv)); (repeat' (first | exact trivial | rfl | exact SEq.mk rfl | (exact SEq.mk (by first | assumption | (symm; assumption))) | (simp only [I.val]; done) | (simp only [I.val]; omega) | omega | assumption | (refine And.intro ?_ ?_) | exact Or.inl rfl | exact Or.inr (by assumption) | exact List.Mem.head _ | exact List.Mem.tail _ (List.Mem.head _) | exact ⟨_, rfl⟩ | exact ⟨_, rfl, Or.inl rfl⟩ | (refine ⟨_, rfl, Or.inr ?_⟩; (try (conv => cbv))) | (simp only [I.val] at *; first | omega | (subst_vars; rfl) | simp_all) | (refine Or.inr ?_; (try (conv => cbv)))))) (by (try (conv => cbv)); (repeat' (first | exact trivial | rfl | exact SEq.mk rfl | (exact SEq.mk (by first | assumption | (symm; assumption))) | (simp only [I.val]; done) | (simp only [I.val]; omega) | omega | assumption | (refine And.intro ?_ ?_) | exact Or.inl rfl | exact Or.inr (by assumption) | exact List.Mem.head _ | exact List.Mem.tail _ (List.Mem.head _) | exact ⟨_, rfl⟩ | exact ⟨_, rfl, Or.inl rfl⟩ | (refine ⟨_, rfl, Or.inr ?_⟩; (try (conv => cbv))) | (simp only [I.val] at *; first | omega | (subst_vars; rfl) | simp_all) | (refine Or.inr ?_; (try (conv => cbv))))))) ⟨0, L, rfl, by omega, by omega, hLs, by omega⟩ ?_
  rintro m s ⟨i, L1, rfl, hi0, hi1, hL1, hm2⟩
  conv => cbv
  refine Fit.mk (by show (-9223372036854775808 : Int) ≤ N * k; rw [← hM]; omega) (by show N * k ≤ 9223372036854775807; rw [← hM]; omega) fun M1 hM1 => ?_
  have hM1 : M1 = M := by rw [hM]; exact hM1
  conv => cbv
  refine Br.mk (fun gi => ?_) (fun gi => ?_)
  · have gi : i < M1 := gi
    obtain ⟨m'', rfl⟩ : ∃ m', m = m' + 1 := ⟨m - 1, by omega⟩
    have hit : i.toNat < nn * kn := by rw [← hmn]; omega
    obtain ⟨hdi1, hdi2⟩ := hd i hi0 (by omega)
    obtain ⟨dq, hdq⟩ : ∃ dq, dq = i.toNat / kn := ⟨_, rfl⟩
    obtain ⟨dr, hdr⟩ : ∃ dr, dr = i.toNat % kn := ⟨_, rfl⟩
    have hik : dq ≤ i.toNat := by rw [hdq]; exact Nat.div_le_self _ _
    have hik2 : dr < kn := by rw [hdr]; exact Nat.mod_lt _ (by omega)
    rw [← hdq] at hdi1
    rw [← hdr] at hdi2
    conv => cbv
    refine callF_frame (alloc_lx (st nn kn cl i.toNat) N cl L1 hL1 (hlen _) (hl1000 _) (st_len8 hk18.2)) [(0, 0), (1, 1)] rfl (by simp [hmapOk, nget, hget, renB, okB, renV, renVs, rn, okVs, okV]) rfl rfl (fun r h' n' hrr => ?_)
    obtain ⟨qa, sa, b, L2, R2, e1, e2, e3, hL2, hA⟩ := hrr
    subst e1 e2 e3
    obtain ⟨hqa, hsa, rfl, hR2⟩ := st_alloc hkn (by omega) hit hA
    clear hA
    rw [← hdq] at hqa
    rw [← hdr] at hsa
    conv => cbv
    refine Need.mk (show k ≠ 0 by omega) ?_
    conv => cbv
    refine Fit.mk (by show (-9223372036854775808 : Int) ≤ Int.tdiv i k; omega) (by show Int.tdiv i k ≤ 9223372036854775807; omega) fun q hq => ?_
    have hq : q = Int.tdiv i k := hq
    conv => cbv
    refine Br.mk (fun g => ?_) (fun g => ?_)
    case refine_1 =>
      have gf : False := by have g : ¬ qa = q := g; omega
      cases gf
    conv => cbv
    refine Need.mk (show k ≠ 0 by omega) ?_
    conv => cbv
    refine Sum.mk fun q2 hq2 => ?_
    have hq2 : q2 = Int.tmod i k := hq2
    conv => cbv
    refine Br.mk (fun g => ?_) (fun g => ?_)
    case refine_1 =>
      have gf : False := by have g : ¬ sa = q2 := g; omega
      cases gf
    conv => cbv
    refine Fit.mk (by show (-9223372036854775808 : Int) ≤ i + 1; omega) (by show i + 1 ≤ 9223372036854775807; omega) fun i2 hi2 => ?_
    have hi2 : i2 = i + 1 := hi2
    have hL2 : L2 = rpv (st nn kn cl i2.toNat) := by rw [hL2, hR2, show i2.toNat = i.toNat + 1 by omega]
    conv => cbv
    refine Again.mk m'' _ (Nat.lt_succ_self _) (Re.of [(0, 0), (1, 1)] [] (by first | exact Nat.zero_le _ | exact Nat.le_refl _ | decide | (dsimp only; decide)) rfl rfl (by (try (conv => cbv)); (repeat' (first | exact trivial | rfl | exact SEq.mk rfl | (exact SEq.mk (by first | assumption | (symm; assumption))) | (simp only [I.val]; done) | (simp only [I.val]; omega) | omega | assumption | (refine And.intro ?_ ?_) | exact Or.inl rfl | exact Or.inr (by assumption) | exact List.Mem.head _ | exact List.Mem.tail _ (List.Mem.head _) | exact ⟨_, rfl⟩ | exact ⟨_, rfl, Or.inl rfl⟩ | (refine ⟨_, rfl, Or.inr ?_⟩; (try (conv => cbv))) | (simp only [I.val] at *; first | omega | (subst_vars; rfl) | simp_all) | (refine Or.inr ?_; (try (conv => cbv)))))) (by (try (conv => cbv)); (repeat' (first | exact trivial | rfl | exact SEq.mk rfl | (exact SEq.mk (by first | assumption | (symm; assumption))) | (simp only [I.val]; done) | (simp only [I.val]; omega) | omega | assumption | (refine And.intro ?_ ?_) | exact Or.inl rfl | exact Or.inr (by assumption) | exact List.Mem.head _ | exact List.Mem.tail _ (List.Mem.head _) | exact ⟨_, rfl⟩ | exact ⟨_, rfl, Or.inl rfl⟩ | (refine ⟨_, rfl, Or.inr ?_⟩; (try (conv => cbv))) | (simp only [I.val] at *; first | omega | (subst_vars; rfl) | simp_all) | (refine Or.inr ?_; (try (conv => cbv))))))) ⟨i2, L2, rfl, by omega, by omega, hL2, by omega⟩
  · have gi : ¬ i < M1 := gi
    have hiM : i.toNat = nn * kn := by rw [← hmn]; omega
    rw [hiM] at hL1
    conv => cbv
    refine callF_frame (alloc_lx (st nn kn cl (nn * kn)) N cl L1 hL1 (hlen _) (hl1000 _) (st_len8 hk18.2)) [(0, 0), (1, 1)] rfl (by simp [hmapOk, nget, hget, renB, okB, renV, renVs, rn, okVs, okV]) rfl rfl (fun r h' n' hrr => ?_)
    obtain ⟨qa, sa, b, L2, R2, e1, e2, e3, hL2, hA⟩ := hrr
    subst e1 e2 e3
    obtain ⟨rfl, hR2⟩ := st_full hkn (by omega) hA
    clear hA
    rw [hR2] at hL2
    conv => cbv
    refine callF_frame (wordsS_lx (st nn kn cl (nn * kn)) N L2 hL2 (hlen _) (hl1000 _) (st_len8 hk18.2) W (by rw [hW]; exact (words_all hkn (by omega)).symm)) [(0, 0), (1, 1)] rfl (by simp [hmapOk, nget, hget, renB, okB, renV, renVs, rn, okVs, okV]) rfl rfl (fun r h' n' ⟨e1, e2, e3⟩ => ?_)
    subst e1 e2 e3
    conv => cbv
    refine Fit.mk (by show (-9223372036854775808 : Int) ≤ N * 32; omega) (by show N * 32 ≤ 9223372036854775807; omega) fun q hq => ?_
    have hq : q = N * 32 := hq
    conv => cbv
    refine Br.mk (fun g => ?_) (fun g => ?_)
    case refine_1 =>
      have gf : False := by have g : ¬ W = q := g; omega
      cases gf
    conv => cbv
    refine Fit.mk (by show (-9223372036854775808 : Int) ≤ N * k; rw [← hM]; omega) (by show N * k ≤ 9223372036854775807; rw [← hM]; omega) fun M2 hM2 => ?_
    have hM2 : M2 = M := by rw [hM]; exact hM2
    conv => cbv
    refine Fit.mk (by show (-9223372036854775808 : Int) ≤ M2 - 1; omega) (by show M2 - 1 ≤ 9223372036854775807; omega) fun j0 hj0 => ?_
    have hj0 : j0 = M2 - 1 := hj0
    have hj00 : -1 ≤ j0 := by omega
    have hj01 : j0 < M := by omega
    have hL2j : L2 = rpv (st nn kn cl (j0 + 1).toNat) := by rw [hL2, show (j0 + 1).toNat = nn * kn by omega]
    conv => cbv
    refine LoopF.mk (fun m s => ∃ (j : Int) (L3 : List PV), s = ⟨.p (.int .i64 (.sym N)) :: .p (.int .i64 (.sym cl)) :: .p (.int .i64 (.sym uw)) :: (undefs 4 ++ .ptr 0 (.lit 0) :: .undef :: .p (.int .i64 (.sym rd)) :: .p (.int .i64 (.sym k)) :: (undefs 7 ++ .p (.int .i64 (.sym j)) :: undefs 125)), [(0, .mix [.sl 1 58 2 (.lit 0) (.sym N)]), (1, .pure true L3)], 2⟩ ∧ -1 ≤ j ∧ j < M ∧ L3 = rpv (st nn kn cl (j + 1).toNat) ∧ m = (j + 1).toNat) (j0 + 1).toNat _
      (Re.of [(0, 0), (1, 1)] [] (by first | exact Nat.zero_le _ | exact Nat.le_refl _ | decide | (dsimp only; decide)) rfl rfl (by (try (conv => cbv)); (repeat' (first | exact trivial | rfl | exact SEq.mk rfl | (exact SEq.mk (by first | assumption | (symm; assumption))) | (simp only [I.val]; done) | (simp only [I.val]; omega) | omega | assumption | (refine And.intro ?_ ?_) | exact Or.inl rfl | exact Or.inr (by assumption) | exact List.Mem.head _ | exact List.Mem.tail _ (List.Mem.head _) | exact ⟨_, rfl⟩ | exact ⟨_, rfl, Or.inl rfl⟩ | (refine ⟨_, rfl, Or.inr ?_⟩; (try (conv => cbv))) | (simp only [I.val] at *; first | omega | (subst_vars; rfl) | simp_all) | (refine Or.inr ?_; (try (conv => cbv)))))) (by (try (conv => cbv)); (repeat' (first | exact trivial | rfl | exact SEq.mk rfl | (exact SEq.mk (by first | assumption | (symm; assumption))) | (simp only [I.val]; done) | (simp only [I.val]; omega) | omega | assumption | (refine And.intro ?_ ?_) | exact Or.inl rfl | exact Or.inr (by assumption) | exact List.Mem.head _ | exact List.Mem.tail _ (List.Mem.head _) | exact ⟨_, rfl⟩ | exact ⟨_, rfl, Or.inl rfl⟩ | (refine ⟨_, rfl, Or.inr ?_⟩; (try (conv => cbv))) | (simp only [I.val] at *; first | omega | (subst_vars; rfl) | simp_all) | (refine Or.inr ?_; (try (conv => cbv))))))) ⟨j0, L2, rfl, hj00, hj01, hL2j, rfl⟩ ?_
    clear hL2j hj00 hj01 hj0
    rintro m s ⟨j, L3, rfl, hj0, hj1, hL3, hm3⟩
    conv => cbv
    refine Br.mk (fun gj => ?_) (fun gj => ?_)
    · have gj : 0 ≤ j := gj
      obtain ⟨m'', rfl⟩ : ∃ m', m = m' + 1 := ⟨m - 1, by omega⟩
      obtain ⟨t, ht⟩ : ∃ t, t = j.toNat := ⟨_, rfl⟩
      have htm : t < nn * kn := by rw [← hmn]; omega
      have hL3 : L3 = rpv (st nn kn cl (t + 1)) := by rw [hL3, show (j + 1).toNat = t + 1 by omega]
      obtain ⟨hdi1, hdi2⟩ := hd j gj hj1
      rw [← ht] at hdi1 hdi2
      have hik : t / kn ≤ t := Nat.div_le_self _ _
      have hik2 : t % kn < kn := Nat.mod_lt _ (by omega)
      obtain ⟨q1, q2⟩ := st_last (n := nn) (k := kn) (c := cl) (t := t) (by omega) htm
      obtain ⟨d4, m4, q3, q4, q5⟩ := st_this (n := nn) (k := kn) (c := cl) (t := t) (by omega) hk18.2 htm
      obtain ⟨R5, hR5⟩ : ∃ R5, R5 = st nn kn cl t := ⟨_, rfl⟩
      obtain ⟨m5, hm5⟩ : ∃ m5, m5 = marksAt kn (t + 1) (t / kn) := ⟨_, rfl⟩
      have hfr : R5 = freed (st nn kn cl (t + 1)) (t / kn) cl (m5.set (t % kn) false) := by rw [hm5, hR5, st_free (by omega) htm]
      have hm58 : m5.length ≤ 8 := by rw [hm5, marks_length]; exact hk18.2
      have hlen5 : N = (R5.length : Int) := by rw [hR5]; exact hlen t
      obtain ⟨dq, hdq⟩ : ∃ dq, dq = t / kn := ⟨_, rfl⟩
      obtain ⟨dr, hdr⟩ : ∃ dr, dr = t % kn := ⟨_, rfl⟩
      rw [← hm5] at q1 q2
      rw [← hR5] at q3
      rw [← hdq] at hdi1 q1 q3 hik hfr
      rw [← hdr] at hdi2 q2 q5 hik2 hfr
      clear hdq hdr hm5
      conv => cbv
      refine drawn_sound tok (by kernel_rfl) [(7, []), (17, []), (27, [])] [0, 1, 2, 3, 4, 5, 6, 7, 8, 9, 10, 11, 12, 13, 14, 15, 16, 17, 18, 19, 20, 21, 22, 23, 24, 25, 26, 27, 28] (by kernel_rfl) ?_; conv => cbv
      refine Need.mk (show k ≠ 0 by omega) ?_
      conv => cbv
      refine Fit.mk (by show (-9223372036854775808 : Int) ≤ Int.tdiv j k; omega) (by show Int.tdiv j k ≤ 9223372036854775807; omega) fun a1 ha1 => ?_
      have ha1 : a1 = Int.tdiv j k := ha1
      have ta1 : a1.toNat = dq := by omega
      have za1 : 0 ≤ a1 := by omega
      conv => cbv
      refine Need.mk (show k ≠ 0 by omega) ?_
      conv => cbv
      refine Sum.mk fun b1 hb1 => ?_
      have hb1 : b1 = Int.tmod j k := hb1
      have tb1 : b1.toNat = dr := by omega
      have zb1 : 0 ≤ b1 := by omega
      conv => cbv
      refine callF_frame (free_lx (st nn kn cl (t + 1)) R5 N a1 b1 cl m5 L3 hL3 (hlen _) (hl1000 _) za1 (by rw [ta1]; exact q1) hm58 zb1 (by rw [tb1]; exact q2) (by rw [ta1, tb1]; exact hfr)) [(0, 0), (1, 1)] rfl (by simp [hmapOk, nget, hget, renB, okB, renV, renVs, rn, okVs, okV]) rfl rfl (fun r h' n' hrr => ?_)
      obtain ⟨L5, e1, e2, e3, hL5⟩ := hrr
      subst e1 e2 e3
      conv => cbv
      refine Need.mk (show k ≠ 0 by omega) ?_
      conv => cbv
      refine Fit.mk (by show (-9223372036854775808 : Int) ≤ Int.tdiv j k; omega) (by show Int.tdiv j k ≤ 9223372036854775807; omega) fun a2 ha2 => ?_
      have ha2 : a2 = Int.tdiv j k := ha2
      have ta2 : a2.toNat = dq := by omega
      have za2 : 0 ≤ a2 := by omega
      conv => cbv
      refine Need.mk (show k ≠ 0 by omega) ?_
      conv => cbv
      refine Sum.mk fun b2 hb2 => ?_
      have hb2 : b2 = Int.tmod j k := hb2
      have tb2 : b2.toNat = dr := by omega
      have zb2 : 0 ≤ b2 := by omega
      conv => cbv
      refine callF_frame (free_no_lx R5 N a2 b2 d4 m4 L5 hL5 hlen5 za2 (by rw [ta2]; exact q3) q4 (fun _ => by rw [tb2]; exact q5)) [(0, 0), (1, 1)] rfl (by simp [hmapOk, nget, hget, renB, okB, renV, renVs, rn, okVs, okV]) rfl rfl (fun r h' n' ⟨e1, e2, e3⟩ => ?_)
      subst e1 e2 e3
      conv => cbv
      refine Need.mk (show k ≠ 0 by omega) ?_
      conv => cbv
      refine Fit.mk (by show (-9223372036854775808 : Int) ≤ Int.tdiv j k; omega) (by show Int.tdiv j k ≤ 9223372036854775807; omega) fun a3 ha3 => ?_
      have ha3 : a3 = Int.tdiv j k := ha3
      have ta3 : a3.toNat = dq := by omega
      have za3 : 0 ≤ a3 := by omega
      conv => cbv
      refine Need.mk (show k ≠ 0 by omega) ?_
      conv => cbv
      refine Sum.mk fun b3 hb3 => ?_
      have hb3 : b3 = Int.tmod j k := hb3
      have tb3 : b3.toNat = dr := by omega
      have zb3 : 0 ≤ b3 := by omega
      conv => cbv
      refine callF_frame (used_no_lx R5 N a3 b3 d4 m4 L5 hL5 hlen5 za3 (by rw [ta3]; exact q3) q4 (fun _ => by rw [tb3]; exact q5)) [(0, 0), (1, 1)] rfl (by simp [hmapOk, nget, hget, renB, okB, renV, renVs, rn, okVs, okV]) rfl rfl (fun r h' n' ⟨e1, e2, e3⟩ => ?_)
      subst e1 e2 e3
      conv => cbv
      refine Fit.mk (by show (-9223372036854775808 : Int) ≤ j - 1; omega) (by show j - 1 ≤ 9223372036854775807; omega) fun j2 hj2 => ?_
      have hj2 : j2 = j - 1 := hj2
      have hL5 : L5 = rpv (st nn kn cl (j2 + 1).toNat) := by rw [hL5, hR5, show (j2 + 1).toNat = t by omega]
      conv => cbv
      refine Again.mk m'' _ (Nat.lt_succ_self _) (Re.of [(0, 0), (1, 1)] [] (by first | exact Nat.zero_le _ | exact Nat.le_refl _ | decide | (dsimp only; decide)) rfl rfl (by (try (conv => cbv)); (repeat' (first | exact trivial | rfl | exact SEq.mk rfl | (exact SEq.mk (by first | assumption | (symm; assumption))) | (simp only [I.val]; done) | (simp only [I.val]; omega) | omega | assumption | (refine And.intro ?_ ?_) | exact Or.inl rfl | exact Or.inr (by assumption) | exact List.Mem.head _ | exact List.Mem.tail _ (List.Mem.head _) | exact ⟨_, rfl⟩ | exact ⟨_, rfl, Or.inl rfl⟩ | (refine ⟨_, rfl, Or.inr ?_⟩; (try (conv => cbv))) | (simp only [I.val] at *; first | omega | (subst_vars; rfl) | simp_all) | (refine Or.inr ?_; (try (conv => cbv)))))) (by (try (conv => cbv)); (repeat' (first | exact trivial | rfl | exact SEq.mk rfl | (exact SEq.mk (by first | assumption | (symm; assumption))) | (simp only [I.val]; done) | (simp only [I.val]; omega) | omega | assumption | (refine And.intro ?_ ?_) | exact Or.inl rfl | exact Or.inr (by assumption) | exact List.Mem.head _ | exact List.Mem.tail _ (List.Mem.head _) | exact ⟨_, rfl⟩ | exact ⟨_, rfl, Or.inl rfl⟩ | (refine ⟨_, rfl, Or.inr ?_⟩; (try (conv => cbv))) | (simp only [I.val] at *; first | omega | (subst_vars; rfl) | simp_all) | (refine Or.inr ?_; (try (conv => cbv))))))) ⟨j2, L5, rfl, by omega, by omega, hL5, by omega⟩
    · have gj : ¬ 0 ≤ j := gj
      have hL3 : L3 = rpv (st nn kn cl 0) := by rw [hL3, show (j + 1).toNat = 0 by omega]
      have hLL : L3 = L := by rw [hL3, hLs]
      clear hL3
      subst hLL
      conv => cbv
      refine callF_frame (wordsS_lx (st nn kn cl 0) N L3 hLs (hlen _) (hl1000 _) (st_len8 hk18.2) 0 (words_none nn kn cl).symm) [(0, 0), (1, 1)] rfl (by simp [hmapOk, nget, hget, renB, okB, renV, renVs, rn, okVs, okV]) rfl rfl (fun r h' n' ⟨e1, e2, e3⟩ => ?_)
      subst e1 e2 e3
      conv => cbv
      refine Br.mk (fun g => ?_) (fun g => ?_)
      case refine_1 =>
        have gf : False := g rfl
        cases gf
      conv => cbv
      refine CallF.le (args0 := [.ptr 0 (.lit 0), .p (.int .i64 (.sym 0))]) (callF_frame (class_none_lx (st nn kn cl 0) N 0 0 L3 hLs (hlen _) (by decide) (by rw [st_zero]; exact List.getElem?_replicate_of_lt (by show (0 : Nat) < nn; omega))) [(0, 0), (1, 1)] rfl (by simp [hmapOk, nget, hget, renB, okB, renV, renVs, rn, okVs, okV]) rfl rfl (fun r h' n' hrr => ?_)) (by simp [ales, ale, pvle, I.val])
      obtain ⟨⟨v, e1, hv⟩, e2, e3⟩ := hrr
      subst e1 e2 e3
      conv => cbv
      refine Br.mk (fun g => ?_) (fun g => ?_)
      case refine_1 =>
        have gf : False := g hv
        cases gf
      conv => cbv
      refine Fit.mk (by show (-9223372036854775808 : Int) ≤ rd + 1; omega) (by show rd + 1 ≤ 9223372036854775807; omega) fun r2 hr2 => ?_
      have hr2 : r2 = rd + 1 := hr2
      conv => cbv
      refine Again.mk m' _ (Nat.lt_succ_self _) (Re.of [(0, 0), (1, 1)] [] (by first | exact Nat.zero_le _ | exact Nat.le_refl _ | decide | (dsimp only; decide)) rfl rfl (by (try (conv => cbv)); (repeat' (first | exact trivial | rfl | exact SEq.mk rfl | (exact SEq.mk (by first | assumption | (symm; assumption))) | (simp only [I.val]; done) | (simp only [I.val]; omega) | omega | assumption | (refine And.intro ?_ ?_) | exact Or.inl rfl | exact Or.inr (by assumption) | exact List.Mem.head _ | exact List.Mem.tail _ (List.Mem.head _) | exact ⟨_, rfl⟩ | exact ⟨_, rfl, Or.inl rfl⟩ | (refine ⟨_, rfl, Or.inr ?_⟩; (try (conv => cbv))) | (simp only [I.val] at *; first | omega | (subst_vars; rfl) | simp_all) | (refine Or.inr ?_; (try (conv => cbv)))))) (by (try (conv => cbv)); (repeat' (first | exact trivial | rfl | exact SEq.mk rfl | (exact SEq.mk (by first | assumption | (symm; assumption))) | (simp only [I.val]; done) | (simp only [I.val]; omega) | omega | assumption | (refine And.intro ?_ ?_) | exact Or.inl rfl | exact Or.inr (by assumption) | exact List.Mem.head _ | exact List.Mem.tail _ (List.Mem.head _) | exact ⟨_, rfl⟩ | exact ⟨_, rfl, Or.inl rfl⟩ | (refine ⟨_, rfl, Or.inr ?_⟩; (try (conv => cbv))) | (simp only [I.val] at *; first | omega | (subst_vars; rfl) | simp_all) | (refine Or.inr ?_; (try (conv => cbv))))))) ⟨uw, r2, rfl, h0w, h1w, by omega, by omega, by omega⟩
end Go.Proofs.Ytocliihimbggjaa
