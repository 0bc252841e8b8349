/-
  Arguments that are slices of events.
-/
import Derived.Test.YtongaoioaafjnaaDoorLxP
import Derived.ChangeArms
namespace Go.Proofs.YtongaoioaafjnaaDoor
open Go Go.LX Go.RowKit Go.ChangeShapes Go.WideShapes

section
variable {H : Type} {enc : TypeId × Value → H} {P : Program} {W : World}
/-- A slice of structs of three whole numbers and a truth value. -/
theorem open_events {t e : TypeId} {base : Nat} {v : Value} {d : DataW H} {ps : List MemPlace} (ht : P.underlying t = some (.slice e)) (hk : rowOK P e [.i .i64, .i .i64, .i .i64, .b] = true)
    (hval : Value.okWide P W .any base t v) (h : DataW.Trod enc P W 0 (fun _ => true) true t v d ps) : ∃ A : List (Int × Int × Int × Bool), Sl W W.heap.size 4 v A.length (A.flatMap fun e => [.int .i64 e.1, .int .i64 e.2.1, .int .i64 e.2.2.1, .bool e.2.2.2]) ∧ ∀ e ∈ A, (Lit.int .i64 e.1).wf = true ∧ (Lit.int .i64 e.2.1).wf = true ∧ (Lit.int .i64 e.2.2.1).wf = true := by
  obtain ⟨n, xs, h1, h2⟩ := open_rows [.i .i64, .i .i64, .i .i64, .b] ht hk (by decide) hval h
  have chunk : ∀ (n : Nat) (xs : List Value), xs.length = n * 4 → (∀ (j : Nat) (c : Value), xs[j]? = some c → ∃ k, ([.i .i64, .i .i64, .i .i64, .b] : List CK)[j % 4]? = some k ∧ k.ok c) →
      ∃ A : List (Int × Int × Int × Bool), A.length = n ∧ xs = (A.flatMap fun e => [.int .i64 e.1, .int .i64 e.2.1, .int .i64 e.2.2.1, .bool e.2.2.2]) ∧ ∀ e ∈ A, (Lit.int .i64 e.1).wf = true ∧ (Lit.int .i64 e.2.1).wf = true ∧ (Lit.int .i64 e.2.2.1).wf = true := by
    intro n
    induction n with
    | zero => intro xs hl _; exact ⟨[], rfl, by simpa using hl, by simp⟩
    | succ n ih =>
      intro xs hl hx
      match xs, hl, hx with
      | x :: y :: z :: u :: xs, hl, hx =>
        obtain ⟨k1, e1, a, rfl, ha⟩ : ∃ k, ([.i .i64, .i .i64, .i .i64, .b] : List CK)[0]? = some k ∧ ∃ a, x = .int .i64 a ∧ (Lit.int .i64 a).wf = true := by
          obtain ⟨k, h3, h4⟩ := hx 0 x rfl
          cases h3; exact ⟨_, rfl, h4⟩
        obtain ⟨k2, e2, b, rfl, hb⟩ : ∃ k, ([.i .i64, .i .i64, .i .i64, .b] : List CK)[1]? = some k ∧ ∃ a, y = .int .i64 a ∧ (Lit.int .i64 a).wf = true := by
          obtain ⟨k, h3, h4⟩ := hx 1 y rfl
          cases h3; exact ⟨_, rfl, h4⟩
        obtain ⟨k3, e3, c, rfl, hc⟩ : ∃ k, ([.i .i64, .i .i64, .i .i64, .b] : List CK)[2]? = some k ∧ ∃ a, z = .int .i64 a ∧ (Lit.int .i64 a).wf = true := by
          obtain ⟨k, h3, h4⟩ := hx 2 z rfl
          cases h3; exact ⟨_, rfl, h4⟩
        obtain ⟨f, rfl⟩ : ∃ f, u = .bool f := by
          obtain ⟨k, h3, h4⟩ := hx 3 u rfl
          cases h3; exact h4
        obtain ⟨A, g1, g2, g3⟩ := ih xs (by simp at hl; omega) (fun j c hj => by
          have := hx (j + 4) c (by simpa using hj)
          rwa [Nat.add_mod_right] at this)
        refine ⟨(a, b, c, f) :: A, by simp [g1], by rw [g2]; simp, fun e he => ?_⟩
        rcases List.mem_cons.1 he with rfl | he
        · exact ⟨ha, hb, hc⟩
        · exact g3 e he
      | [], hl, _ => simp at hl
      | [_], hl, _ => simp at hl; omega
      | [_, _], hl, _ => simp at hl; omega
      | [_, _, _], hl, _ => simp at hl; omega
  obtain ⟨A, g1, g2, g3⟩ := chunk n xs h1.len h2
  exact ⟨A, by rw [g1, ← g2]; exact h1, g3⟩
end
end Go.Proofs.YtongaoioaafjnaaDoor
