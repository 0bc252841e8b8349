/-
  The order of a drawn region, held against its edges by masks: quick where the region is large.
-/
import Derived.Test.YtlakoemonbadiaaLxDrawn
namespace Go.LX
open Go
set_option linter.unusedVariables false

theorem reach_succ {ops : Array Oper} {p : Nat} : ∀ {n q : Nat}, reach ops n p q = true → reach ops (n + 1) p q = true
  | 0, q, h => by cases h
  | n + 1, q, h => by
    rw [reach] at h ⊢
    split at h
    · rw [Array.any_eq_true'] at h ⊢
      obtain ⟨e, he, h⟩ := h
      refine ⟨e, he, ?_⟩
      rw [Bool.and_eq_true, Bool.or_eq_true] at h ⊢
      exact ⟨h.1, h.2.imp id reach_succ⟩
    · cases h
theorem reach_mono {ops : Array Oper} {p q n m : Nat} (h : reach ops n p q = true) (hm : n ≤ m) : reach ops m p q = true := by
  induction hm with
  | refl => exact h
  | step _ ih => exact reach_succ ih
def maskL (M : List Nat) : List Edge → Nat
  | [] => 0
  | e :: l => if Region.binds .any e then (2 ^ e.on ||| M.getD e.on 0) ||| maskL M l else maskL M l
def forceN {α : Type} (n : Nat) (k : Nat → α) : α :=
  match n with
  | 0 => k 0
  | m + 1 => k (m + 1)
theorem forceN_eq {α : Type} (n : Nat) (k : Nat → α) : forceN n k = k n := by cases n <;> rfl
def masksL : List Oper → List Nat → List Nat
  | [], M => M
  | o :: l, M => forceN (maskL M o.after.toList) fun v => masksL l (M ++ [v])
theorem maskL_bit {M : List Nat} {p : Nat} : ∀ {l : List Edge}, (maskL M l).testBit p = true → ∃ e ∈ l, Region.binds .any e = true ∧ (e.on = p ∨ (M.getD e.on 0).testBit p = true)
  | [], h => by simp [maskL] at h
  | e :: l, h => by
    rw [maskL] at h
    split at h
    · rename_i hb
      rw [Nat.testBit_or, Nat.testBit_or, Bool.or_eq_true, Bool.or_eq_true] at h
      rcases h with (h | h) | h
      · rw [Nat.testBit_two_pow] at h
        exact ⟨e, List.mem_cons_self, hb, .inl (by simpa using h)⟩
      · exact ⟨e, List.mem_cons_self, hb, .inr h⟩
      · obtain ⟨e', he, h⟩ := maskL_bit h
        exact ⟨e', List.mem_cons_of_mem _ he, h⟩
    · obtain ⟨e', he, h⟩ := maskL_bit h
      exact ⟨e', List.mem_cons_of_mem _ he, h⟩
def MasksOk (ops : Array Oper) (M : List Nat) : Prop := ∀ q p : Nat, (M.getD q 0).testBit p = true → q < M.length ∧ reach ops (q + 1) p q = true
theorem masksL_ok {ops : Array Oper} : ∀ (l done : List Oper) (M : List Nat), ops.toList = done ++ l → M.length = done.length → MasksOk ops M → MasksOk ops (masksL l M) ∧ (masksL l M).length = ops.size
  | [], done, M, ho, hl, hM => ⟨hM, by rw [masksL, hl, ← Array.length_toList, ho, List.append_nil]⟩
  | o :: l, done, M, ho, hl, hM => by
    rw [masksL, forceN_eq]
    refine masksL_ok l (done ++ [o]) _ (by rw [ho]; simp) (by simp [hl]) fun q p h => ?_
    have hoq : ops[M.length]? = some o := by rw [← Array.getElem?_toList, ho, hl]; simp
    rw [List.getD_eq_getElem?_getD] at h
    by_cases h1 : q < M.length
    · rw [List.getElem?_append_left h1, ← List.getD_eq_getElem?_getD] at h
      exact ⟨by simp; omega, (hM q p h).2⟩
    · by_cases h2 : q = M.length
      · subst h2
        rw [List.getElem?_append_right (by omega)] at h
        simp only [Nat.sub_self, List.getElem?_cons_zero, Option.getD_some] at h
        obtain ⟨e, he, hb, h⟩ := maskL_bit h
        refine ⟨by simp, ?_⟩
        rw [reach, hoq]
        dsimp only
        rw [Array.any_eq_true']
        refine ⟨e, by simpa using he, ?_⟩
        rw [Bool.and_eq_true, Bool.or_eq_true]
        refine ⟨hb, ?_⟩
        rcases h with h | h
        · left; simp [h]
        · right
          obtain ⟨g1, g2⟩ := hM _ _ h
          exact reach_mono g2 g1
      · rw [List.getElem?_eq_none (by simp; omega)] at h
        simp at h
def pairOKF (ops : Array Oper) (F : List (Nat × List Nat)) (M : List Nat) (p q : Nat) : Bool :=
  p != q && ((isA (opAt ops p) && (opAt ops p).apart ops (opAt ops q) && (isA (opAt ops q) || (look F q).contains p)) || (M.getD q 0).testBit p) && (!(F.any fun e => e.2.contains p && e.2.contains q) || match (opAt ops q).dst with
    | some d => !isA (opAt ops p) || !isA (opAt ops q) || !((opAt ops p).looksAt ops).contains d
    | none => true)
def orderOKF (ops : Array Oper) (F : List (Nat × List Nat)) (M : List Nat) : List Nat → List Nat → Bool
  | _, [] => true
  | pre, q :: l => edgesOK ops pre q && selfOK ops q && l.all (fun r => pairOKF ops F M q r) && orderOKF ops F M (q :: pre) l
def drawnOKF (ops : Array Oper) (F : List (Nat × List Nat)) (order : List Nat) : Bool := orderOKF ops F (masksL ops.toList []) [] order && (List.range ops.size).all (fun j => order.contains j)
theorem pairOKF_ok {ops : Array Oper} {F : List (Nat × List Nat)} {M : List Nat} (hM : MasksOk ops M) (hl : M.length = ops.size) {p q : Nat} (h : pairOKF ops F M p q = true) : pairOK ops F p q = true := by
  unfold pairOKF at h
  unfold pairOK
  rw [Bool.and_eq_true, Bool.and_eq_true] at h ⊢
  refine ⟨⟨h.1.1, ?_⟩, h.2⟩
  have h2 := h.1.2
  rw [Bool.or_eq_true] at h2 ⊢
  rcases h2 with h2 | h2
  · exact .inr h2
  · obtain ⟨g1, g2⟩ := hM _ _ h2
    exact .inl (reach_mono g2 (by omega))
theorem orderOKF_ok {ops : Array Oper} {F : List (Nat × List Nat)} {M : List Nat} (hM : MasksOk ops M) (hl : M.length = ops.size) : ∀ {l pre : List Nat}, orderOKF ops F M pre l = true → orderOK ops F pre l = true
  | [], pre, _ => rfl
  | q :: l, pre, h => by
    rw [orderOKF, Bool.and_eq_true, Bool.and_eq_true] at h
    rw [orderOK, Bool.and_eq_true, Bool.and_eq_true]
    refine ⟨⟨h.1.1, ?_⟩, orderOKF_ok hM hl h.2⟩
    rw [List.all_eq_true] at *
    exact fun r hr => pairOKF_ok hM hl (h.1.2 r hr)
theorem drawnOKF_ok {ops : Array Oper} {F : List (Nat × List Nat)} {order : List Nat} (h : drawnOKF ops F order = true) : drawnOK ops F order = true := by
  unfold drawnOKF at h
  unfold drawnOK
  rw [Bool.and_eq_true] at h ⊢
  obtain ⟨g1, g2⟩ := masksL_ok (ops := ops) ops.toList [] [] rfl rfl (fun q p h => by simp at h)
  exact ⟨orderOKF_ok g1 g2 h.1, h.2⟩
end Go.LX
