/-
  Arguments that are slices of structs of six whole numbers.
-/
import Derived.Test.YtgoflehllhccgaaGreatDoorBf

namespace Go.Proofs.YtgoflehllhccgaaGreatDoor

open Go Go.LX Go.RowKit Go.ChangeShapes Go.WideShapes

section

variable {H : Type} {enc : TypeId × Value → H} {P : Program} {W : World}

/-- A slice of structs of six whole numbers. -/
theorem open_sixes {t e : TypeId} {base : Nat} {v : Value} {d : DataW H} {ps : List MemPlace} (ht : P.underlying t = some (.slice e)) (hk : rowOK P e [.i .i64, .i .i64, .i .i64, .i .i64, .i .i64, .i .i64] = true)
    (hval : Value.okWide P W .any base t v) (h : DataW.Trod enc P W 0 (fun _ => true) true t v d ps) : ∃ A : List (Int × Int × Int × Int × Int × Int), Sl W W.heap.size 6 v A.length (A.flatMap fun e => [.int .i64 e.1, .int .i64 e.2.1, .int .i64 e.2.2.1, .int .i64 e.2.2.2.1, .int .i64 e.2.2.2.2.1, .int .i64 e.2.2.2.2.2]) ∧ ∀ e ∈ A, (Lit.int .i64 e.1).wf = true ∧ (Lit.int .i64 e.2.1).wf = true ∧ (Lit.int .i64 e.2.2.1).wf = true ∧ (Lit.int .i64 e.2.2.2.1).wf = true ∧ (Lit.int .i64 e.2.2.2.2.1).wf = true ∧ (Lit.int .i64 e.2.2.2.2.2).wf = true := by
  obtain ⟨n, xs, h1, h2⟩ := open_rows [.i .i64, .i .i64, .i .i64, .i .i64, .i .i64, .i .i64] ht hk (by decide) hval h
  have h3 : ∀ (j : Nat) (c : Value), xs[j]? = some c → ∃ z, c = .int .i64 z ∧ (Lit.int .i64 z).wf = true := by
    intro j c hj
    obtain ⟨k, h4, h5⟩ := h2 j c hj
    have : j % 6 < 6 := Nat.mod_lt _ (by omega)
    have h6 : ∀ r, r < 6 → ([.i .i64, .i .i64, .i .i64, .i .i64, .i .i64, .i .i64] : List CK)[r]? = some (.i .i64) := by
      intro r hr
      rcases r with _ | _ | _ | _ | _ | _ | r
      · rfl
      · rfl
      · rfl
      · rfl
      · rfl
      · rfl
      · omega
    have h4 : ([.i .i64, .i .i64, .i .i64, .i .i64, .i .i64, .i .i64] : List CK)[j % 6]? = some k := h4
    rw [h6 _ this] at h4; cases h4; exact h5
  have chunk : ∀ (n : Nat) (xs : List Value), xs.length = n * 6 → (∀ (j : Nat) (c : Value), xs[j]? = some c → ∃ z, c = .int .i64 z ∧ (Lit.int .i64 z).wf = true) → ∃ A : List (Int × Int × Int × Int × Int × Int), A.length = n ∧ xs = (A.flatMap fun e => [.int .i64 e.1, .int .i64 e.2.1, .int .i64 e.2.2.1, .int .i64 e.2.2.2.1, .int .i64 e.2.2.2.2.1, .int .i64 e.2.2.2.2.2]) ∧ ∀ e ∈ A, (Lit.int .i64 e.1).wf = true ∧ (Lit.int .i64 e.2.1).wf = true ∧ (Lit.int .i64 e.2.2.1).wf = true ∧ (Lit.int .i64 e.2.2.2.1).wf = true ∧ (Lit.int .i64 e.2.2.2.2.1).wf = true ∧ (Lit.int .i64 e.2.2.2.2.2).wf = true := by
    intro n
    induction n with
    | zero => intro xs hl _; exact ⟨[], rfl, by simpa using hl, by simp⟩
    | succ n ih =>
      intro xs hl hx
      match xs, hl, hx with
      | x :: y :: z :: u :: s :: t :: xs, hl, hx =>
        obtain ⟨a, rfl, ha⟩ := hx 0 x rfl
        obtain ⟨b, rfl, hb⟩ := hx 1 y rfl
        obtain ⟨c, rfl, hc⟩ := hx 2 z rfl
        obtain ⟨d, rfl, hd⟩ := hx 3 u rfl
        obtain ⟨f, rfl, hf⟩ := hx 4 s rfl
        obtain ⟨g, rfl, hg⟩ := hx 5 t rfl
        obtain ⟨A, g1, g2, g3⟩ := ih xs (by simp at hl; omega) (fun j c hj => hx (j + 6) c (by simpa using hj))
        refine ⟨(a, b, c, d, f, g) :: A, by simp [g1], by rw [g2]; simp, fun e he => ?_⟩
        rcases List.mem_cons.1 he with rfl | he
        · exact ⟨ha, hb, hc, hd, hf, hg⟩
        · exact g3 e he
      | [], hl, _ => simp at hl
      | [_], hl, _ => simp at hl; omega
      | [_, _], hl, _ => simp at hl; omega
      | [_, _, _], hl, _ => simp at hl; omega
      | [_, _, _, _], hl, _ => simp at hl; omega
      | [_, _, _, _, _], hl, _ => simp at hl; omega
  obtain ⟨A, g1, g2, g3⟩ := chunk n xs h1.len h3
  exact ⟨A, by rw [g1, ← g2]; exact h1, g3⟩
/-- Rows of four, as cells. -/
def sixes : List (Int × Int × Int × Int × Int × Int) → List PV
  | [] => []
  | (x, y, z, u, s, t) :: l => .int .i64 (.sym x) :: .int .i64 (.sym y) :: .int .i64 (.sym z) :: .int .i64 (.sym u) :: .int .i64 (.sym s) :: .int .i64 (.sym t) :: sixes l
theorem sixes_length : ∀ l, (sixes l).length = 6 * l.length
  | [] => rfl
  | (x, y, z, u, s, t) :: l => by simp [sixes, sixes_length l]; omega
theorem sixes_get : ∀ (l : List (Int × Int × Int × Int × Int × Int)) (i : Nat) (e : Int × Int × Int × Int × Int × Int), l[i]? = some e → (sixes l)[6 * i]? = some (.int .i64 (.sym e.1)) ∧ (sixes l)[6 * i + 1]? = some (.int .i64 (.sym e.2.1)) ∧ (sixes l)[6 * i + 2]? = some (.int .i64 (.sym e.2.2.1)) ∧ (sixes l)[6 * i + 3]? = some (.int .i64 (.sym e.2.2.2.1)) ∧ (sixes l)[6 * i + 4]? = some (.int .i64 (.sym e.2.2.2.2.1)) ∧ (sixes l)[6 * i + 5]? = some (.int .i64 (.sym e.2.2.2.2.2))
  | [], i, e, h => by simp at h
  | (x, y, z, u, s, t) :: l, 0, e, h => by simp at h; subst h; exact ⟨rfl, rfl, rfl, rfl, rfl, rfl⟩
  | (x, y, z, u, s, t) :: l, i + 1, e, h => by
    obtain ⟨h1, h2, h3, h4, h5, h6⟩ := sixes_get l i e (by simpa using h)
    rw [show 6 * (i + 1) = 6 * i + 6 by omega]
    exact ⟨by simpa [sixes] using h1, by simpa [sixes] using h2, by simpa [sixes] using h3, by simpa [sixes] using h4, by simpa [sixes] using h5, by simpa [sixes] using h6⟩
theorem sixes_rel {w : World} {M : Nat → Prop} : ∀ (A : List (Int × Int × Int × Int × Int × Int)) (j : Nat) (u : LX.PV), (sixes A)[j]? = some u → ∃ x, (A.flatMap fun e => [Value.int .i64 e.1, .int .i64 e.2.1, .int .i64 e.2.2.1, .int .i64 e.2.2.2.1, .int .i64 e.2.2.2.2.1, .int .i64 e.2.2.2.2.2])[j]? = some x ∧ LX.PR M w u x
  | [], j, u, h => by simp [sixes] at h
  | (a, b, c, d, f, g) :: A, j, u, h => by
    rw [sixes] at h
    rw [List.flatMap_cons]
    rcases j with _ | _ | _ | _ | _ | _ | j
    · simp at h; subst h; exact ⟨.int .i64 a, rfl, .int _ _ _ rfl⟩
    · simp at h; subst h; exact ⟨.int .i64 b, rfl, .int _ _ _ rfl⟩
    · simp at h; subst h; exact ⟨.int .i64 c, rfl, .int _ _ _ rfl⟩
    · simp at h; subst h; exact ⟨.int .i64 d, rfl, .int _ _ _ rfl⟩
    · simp at h; subst h; exact ⟨.int .i64 f, rfl, .int _ _ _ rfl⟩
    · simp at h; subst h; exact ⟨.int .i64 g, rfl, .int _ _ _ rfl⟩
    · obtain ⟨x, h1, h2⟩ := sixes_rel A j u (by simpa using h)
      exact ⟨x, by simpa using h1, h2⟩
end
end Go.Proofs.YtgoflehllhccgaaGreatDoor
