/-
  Two lists of strings held against each other: it answers whether they are the same.
-/
import Derived.Test.YtpblikbdnbgglaaRows
import Derived.Test.YtpblikbdnbgglaaMem
import Derived.WalkKit
import Derived.ProofKit
import Derived.Handy
import Derived.Outline
import Derived.BigQuiet
import Derived.Deep.QuietTactic
namespace Go.Proofs.Ytpblikbdnbgglaa
open Go.RowKit

theorem str_beq (a b : ByteArray) : (a.toList == b.toList) = decide (a = b) := by
  rw [ByteArray.toList_eq, ByteArray.toList_eq]
  by_cases h : a = b
  · subst h; simp
  · rw [decide_eq_false h, beq_eq_false_iff_ne]
    exact fun e => h (Go.WideShapes.bytes_inj e)

theorem same_one_str (a b : ByteArray) (w : World) : Calls Try.prog 34 #[.string a, .string b] w fun e w' => e = .returned (.bool (a.toList == b.toList)) ∧ w = w' := by
  go_enter Try.func34, Try.ntmps34
  go_wp2
  go_ret
  exact ⟨rfl, rfl⟩

/-- The first k are the same. -/
def AlikeTo (la lb : List ByteArray) (k : Nat) : Prop := la.take k = lb.take k

theorem alike_step {la lb : List ByteArray} {k : Nat} {x y : ByteArray} (h : AlikeTo la lb k) (hx : la[k]? = some x) (hy : lb[k]? = some y) (e : x = y) : AlikeTo la lb (k + 1) := by
  unfold AlikeTo at *
  rw [List.take_add_one, List.take_add_one, h, hx, hy, e]
theorem alike_no {la lb : List ByteArray} {k : Nat} {x y : ByteArray} (hx : la[k]? = some x) (hy : lb[k]? = some y) (e : x ≠ y) : la ≠ lb := by
  rintro rfl
  rw [hx] at hy
  exact e (Option.some.inj hy)
theorem alike_end {la lb : List ByteArray} {k : Nat} (h : AlikeTo la lb k) (h1 : la.length ≤ k) (h2 : lb.length = la.length) : la = lb := by
  unfold AlikeTo at h
  rwa [List.take_of_length_le h1, List.take_of_length_le (by omega)] at h

theorem same_str_0 (pa pb : Addr) (ca cb : Nat) (la lb : List ByteArray) (w : World) (n m : Nat) (hca : n ≤ ca) (hcb : m ≤ cb) (hma : ca ≤ maxLen) (hmb : cb ≤ maxLen)
    (hcell : ∀ (j : Nat) (u : Value), (la.map Value.string)[j]? = some u → w.cell? (pa.add j) = some u) (hcellb : ∀ (j : Nat) (u : Value), (lb.map Value.string)[j]? = some u → w.cell? (pb.add j) = some u)
    (hl1 : la.length = n) (hl2 : lb.length = m) :
    Calls Try.prog 33 #[.slice (some pa) n ca, .slice (some pb) m cb, .func (.func 34) #[] #[]] w fun e w' => e = .returned (.bool (decide (la = lb))) ∧ ∃ n, w' = w.drewN n := by
  unfold maxLen at *
  have HA := Lib.hid hcell
  have HB := Lib.hid hcellb
  have HLA := Lib.hid hl1
  have HLB := Lib.hid hl2
  clear hcell hcellb hl1 hl2
  by_cases hnm : n = m
  case neg =>
    have hn : ((n : Int) != (m : Int)) = true := by rw [bne_iff_ne]; omega
    have hfin : decide (la = lb) = false := decide_eq_false (fun e => hnm (by rw [← HLA.out, ← HLB.out, e]))
    have HF := Lib.hid hfin
    clear hfin hnm
    go_enter Try.func33, Try.ntmps33
    go_wp2_with fail
    go_ret
    exact ⟨by rw [HF.out]; rfl, 0, rfl⟩
  have h1 : n ≤ m := by omega
  have h2 : m ≤ n := by omega
  have hn : ((n : Int) != (m : Int)) = false := by rw [hnm]; simp
  have HN := Lib.hid hnm
  clear hnm
  go_enter Try.func33, Try.ntmps33
  go_wp2_with fail
  go_loopw [7] (fun i wr => ∃ (k nq : Nat), i = .int .i64 k ∧ k ≤ n ∧ wr = w.drewN nq ∧ Hid (AlikeTo la lb k)) (fun i _ => n - (intOf i).toNat)
  case atStart => exact ⟨0, 0, rfl, by omega, rfl, rfl⟩
  case round =>
    obtain ⟨k, nq, rfl, hk, rfl, hal⟩ := hrel
    by_cases hlt : k < n
    · obtain ⟨x, hx⟩ : ∃ x, la[k]? = some x := ⟨_, List.getElem?_eq_getElem (by rw [HLA.out]; exact hlt)⟩
      obtain ⟨y, hy⟩ : ∃ y, lb[k]? = some y := ⟨_, List.getElem?_eq_getElem (by rw [HLB.out]; omega)⟩
      have c1 : w.cell? (pa.add k) = some (.string x) := HA.out k _ (by simp [hx])
      have c2 : w.cell? (pb.add k) = some (.string y) := HB.out k _ (by simp [hy])
      have HX := Lib.hid hx
      have HY := Lib.hid hy
      clear hx hy
      have hb := str_beq x y
      by_cases hxy : x = y
      · have hq : (x.toList == y.toList) = true := by rw [hb]; exact decide_eq_true hxy
        clear hb
        have HS := Lib.hid (alike_step (Hid.out hal) HX.out HY.out hxy)
        clear hxy hal HX HY
        go_wp2_with fail
        go_quiet ((go_at_call 34; exact quiet_sum (same_one_str _ _ _)))
        go_wp2_with fail
        go_roundw
        case rel => exact ⟨k + 1, _, by go_num, by omega, rfl, HS⟩
        case measure => simp [intOf]; omega
      · have hq : (x.toList == y.toList) = false := by rw [hb]; exact decide_eq_false hxy
        clear hb
        have HS := Lib.hid (decide_eq_false (alike_no HX.out HY.out hxy))
        clear hxy hal HX HY
        go_wp2_with fail
        go_quiet ((go_at_call 34; exact quiet_sum (same_one_str _ _ _)))
        go_wp2_with fail
        go_ret
        exact ⟨by rw [HS.out]; rfl, _, World.drewN_drewN _ _ _⟩
    · have HS := Lib.hid (decide_eq_true (alike_end (Hid.out hal) (by rw [HLA.out]; omega) (by rw [HLA.out, HLB.out]; exact HN.out.symm)))
      clear hal
      go_wp2_with fail
      go_ret
      exact ⟨by rw [HS.out]; rfl, _, rfl⟩

theorem same_str_1 (A B : Option Addr) (n m ca cb : Nat) (w : World) (h : n = 0 ∨ m = 0) :
    Calls Try.prog 33 #[.slice A n ca, .slice B m cb, .func (.func 34) #[] #[]] w fun e w' => e = .returned (.bool (decide (n = m))) ∧ w' = w := by
  by_cases hnm : n = m
  · obtain rfl : n = 0 := by omega
    subst hnm
    go_enter Try.func33, Try.ntmps33
    go_wp2_with fail
    refine wp_loop_rounds 1 ?_
    rw [rounds_succ]
    go_wp2_with fail
    go_ret
    exact ⟨rfl, rfl⟩
  · have hn : ((n : Int) != (m : Int)) = true := by rw [bne_iff_ne]; omega
    have hfin : decide (n = m) = false := decide_eq_false hnm
    have HF := Lib.hid hfin
    clear hfin hnm h
    go_enter Try.func33, Try.ntmps33
    go_wp2_with fail
    go_ret
    exact ⟨by rw [HF.out]; rfl, rfl⟩

theorem same_str (va vb : Value) (la lb : List ByteArray) (w : World) {Ba Bb : Nat} (ha : Sl w Ba 1 va la.length (la.map Value.string)) (hb : Sl w Bb 1 vb lb.length (lb.map Value.string)) :
    Calls Try.prog 33 #[va, vb, .func (.func 34) #[] #[]] w fun e w' => e = .returned (.bool (decide (la = lb))) ∧ ∃ n, w' = w.drewN n := by
  by_cases hz : la.length = 0 ∨ lb.length = 0
  · have hd : decide (la = lb) = decide (la.length = lb.length) := by
      by_cases e : la.length = lb.length
      · have h1 : la = [] := List.length_eq_zero_iff.1 (by omega)
        have h2 : lb = [] := List.length_eq_zero_iff.1 (by omega)
        rw [h1, h2]; rfl
      · rw [decide_eq_false e, decide_eq_false (fun h => e (by rw [h]))]
    rw [hd]
    rcases ha.form with ⟨rfl, h0⟩ | ⟨pa, ca, rfl, hca, hma, hBa, hcell⟩ <;> rcases hb.form with ⟨rfl, h0'⟩ | ⟨pb, cb, rfl, hcb, hmb, hBb, hcellb⟩
    · rw [h0, h0']; exact (same_str_1 _ _ 0 0 _ _ w (.inl rfl)).mono fun e w' ⟨h1, h2⟩ => ⟨h1, 0, h2⟩
    · rw [h0]; exact (same_str_1 _ _ 0 _ _ _ w (.inl rfl)).mono fun e w' ⟨h1, h2⟩ => ⟨h1, 0, h2⟩
    · rw [h0']; exact (same_str_1 _ _ _ 0 _ _ w (.inr rfl)).mono fun e w' ⟨h1, h2⟩ => ⟨h1, 0, h2⟩
    · exact (same_str_1 _ _ _ _ _ _ w hz).mono fun e w' ⟨h1, h2⟩ => ⟨h1, 0, h2⟩
  · rcases ha.form with ⟨rfl, h0⟩ | ⟨pa, ca, rfl, hca, hma, hBa, hcell⟩
    · exact absurd (Or.inl h0) hz
    rcases hb.form with ⟨rfl, h0'⟩ | ⟨pb, cb, rfl, hcb, hmb, hBb, hcellb⟩
    · exact absurd (Or.inr h0') hz
    exact same_str_0 pa pb ca cb la lb w _ _ hca hcb hma hmb hcell hcellb rfl rfl

/-- Plain: are two lists of strings the same? -/
theorem plain_str (va vb : Value) (la lb : List ByteArray) (w : World) {Ba Bb : Nat} (ha : Sl w Ba 1 va la.length (la.map Value.string)) (hb : Sl w Bb 1 vb lb.length (lb.map Value.string)) :
    Calls Try.prog 17 #[va, vb] w fun e w' => e = .returned (.bool (decide (la = lb))) ∧ ∃ n, w' = w.drewN n := by
  have H := Lib.hid (same_str va vb la lb w ha hb)
  clear ha hb
  go_enter Try.func17, Try.ntmps17
  go_wp2_with fail
  refine (Hid.out H).mono ?_
  rintro e_ w_ ⟨rfl, nq, rfl⟩
  go_wp2_with fail
  go_ret
  exact ⟨rfl, _, rfl⟩
end Go.Proofs.Ytpblikbdnbgglaa
