/-
  What a law is handed: slices that lead to nothing that turns.
-/
import Derived.Test.YtllafhhnciobhaaGreatDoorLem
import Derived.Test.YtllafhhnciobhaaGreatDoorLxFrame
import Derived.ChangeArms
namespace Go.Proofs.YtllafhhnciobhaaGreatDoor

open Go Go.LX Go.RowKit

theorem vsl_gen {w : World} {size n : Nat} {v : Value} {xs : List Value} (hsz : 0 < size) (h : Sl w w.heap.size size v n xs) {m : Int} {l : List PV} (hm : m = n) (hl : l.length = n * size) (hrel : ∀ (j : Nat) (u : PV), l[j]? = some u → ∃ x, xs[j]? = some x ∧ PR Ctx.empty.mut w u x) :
    LR Ctx.empty w (.p (.vsl (.sym m) true l)) v := by
  have h0 : (I.sym m).val = n := hm
  rcases h.form with ⟨rfl, rfl⟩ | ⟨a, c, rfl, h1, h2, h3, h4⟩
  · exact .p _ _ (.vsl0 _ _ _ _ _ h0 (Nat.zero_le _))
  · rcases Nat.eq_zero_or_pos n with rfl | hn
    · exact .p _ _ (.vsl0 _ _ _ _ _ h0 h2)
    · have hlen : 0 < l.length := by rw [hl]; exact Nat.mul_pos hn hsz
      obtain ⟨x0, hx0, _⟩ := hrel 0 l[0] (List.getElem?_eq_getElem hlen)
      have hc := h4 0 x0 hx0
      have hsp : a.spot = none := by
        have : w.cell? a = some x0 := hc
        unfold World.cell? at this
        split at this
        · split at this
          · cases this
          · rename_i hns
            cases hs : a.spot with
            | none => rfl
            | some _ => rw [hs] at hns; exact absurd rfl hns
        · cases this
      refine .p _ _ (.vsl _ _ _ a n c (fun j => xs.getD j Go.undef) h0 hsp (fun hM => ?_) (h3 hn) h1 h2 (fun j u hu => ?_) (fun j u hu => ?_))
      · rcases hM with hx | ⟨b, hb⟩
        · exact hx
        · cases hb
      · obtain ⟨x, hx, _⟩ := hrel j u hu
        rw [h4 j x hx, List.getD_eq_getElem?_getD, hx]; rfl
      · obtain ⟨x, hx, hp⟩ := hrel j u hu
        rw [List.getD_eq_getElem?_getD, hx]; exact hp
theorem vsl_ints {w : World} {k : IntKind} {v : Value} {zs : List Int} (h : Sl w w.heap.size 1 v zs.length (zs.map (Value.int k))) {m : Int} {l : List PV} (hm : m = zs.length) (hl : l = zs.map fun z => PV.int k (.sym z)) : LR Ctx.empty w (.p (.vsl (.sym m) true l)) v := by
  subst hl
  refine vsl_gen Nat.one_pos h hm (by simp) fun j u hu => ?_
  rw [List.getElem?_map] at hu
  cases hz : zs[j]? with
  | none => rw [hz] at hu; cases hu
  | some z =>
    rw [hz] at hu
    cases hu
    exact ⟨.int k z, by rw [List.getElem?_map, hz]; rfl, .int k _ z rfl⟩
end Go.Proofs.YtllafhhnciobhaaGreatDoor
/-
  Arguments that are slices of structs of plain things.
-/
namespace Go.Proofs.YtllafhhnciobhaaGreatDoor

open Go Go.LX Go.RowKit Go.ChangeShapes Go.WideShapes

/-- The kind of a cell. -/
inductive CK where
  | i (k : IntKind)
  | b
  | s
def CK.is : CK → Option TypeDesc → Bool
  | .i k, some (.int k') => decide (k = k')
  | .b, some .bool => true
  | .s, some .string => true
  | _, _ => false
def CK.ok : CK → Value → Prop
  | .i k, x => ∃ n, x = .int k n ∧ (Lit.int k n).wf = true
  | .b, x => ∃ b, x = .bool b
  | .s, x => ∃ s, x = .string s ∧ s.size ≤ maxLen
def rowOK (P : Program) (e : TypeId) (sh : List CK) : Bool :=
  match P.underlying e with
  | some (.struct fs) => P.cellsOf e == sh.length && fs.size == sh.length && (List.range sh.length).all fun i => match fs[i]?, sh[i]? with
    | some f, some k => f.offset == i && P.cellsOf f.type == 1 && k.is (P.underlying f.type)
    | _, _ => false
  | _ => false

section

variable {H : Type} {enc : TypeId × Value → H} {P : Program} {W : World}

theorem ck_trod {k : CK} {t : TypeId} {base fuel : Nat} {spare : Nat → Bool} {held : Bool} {cs : List Value} {x : DataW H × List MemPlace} (hk : k.is (P.underlying t) = true) (h : DataW.trod enc P W base spare held fuel t cs = some x) : ∃ c, cs = [c] ∧ k.ok c := by
  unfold CK.is at hk
  split at hk
  · rename_i k1 k2 hu
    have hk := of_decide_eq_true hk
    subst hk
    obtain ⟨n, h1, _, h2⟩ := DataW.trod_int hu h
    exact ⟨_, h1, n, rfl, h2⟩
  · rename_i hu
    obtain ⟨b, h1, _⟩ := DataW.trod_bool hu h
    exact ⟨_, h1, b, rfl⟩
  · rename_i hu
    obtain ⟨s, h1, _, h2⟩ := DataW.trod_string hu h
    exact ⟨_, h1, s, rfl, h2⟩
  · cases hk
theorem row_trod {sh : List CK} {e : TypeId} {base fuel : Nat} {spare : Nat → Bool} {held : Bool} {cs : List Value} {x : DataW H × List MemPlace} (hk : rowOK P e sh = true) (h : DataW.trod enc P W base spare held fuel e cs = some x) :
    cs.length = sh.length ∧ P.cellsOf e = sh.length ∧ ∀ (j : Nat) (c : Value), cs[j]? = some c → ∃ k, sh[j]? = some k ∧ k.ok c := by
  unfold rowOK at hk
  split at hk
  · rename_i fs hu
    simp only [Bool.and_eq_true, beq_iff_eq, List.all_eq_true, List.mem_range] at hk
    obtain ⟨⟨h1, h2⟩, h3⟩ := hk
    obtain ⟨xs, n, _, _, h4, h5, h6⟩ := DataW.trod_struct hu h
    refine ⟨by omega, h1, fun j c hj => ?_⟩
    have hlt := (List.getElem?_eq_some_iff.1 hj).1
    have h7 := h3 j (by omega)
    split at h7
    · rename_i f k hf hk
      simp only [Bool.and_eq_true, beq_iff_eq] at h7
      obtain ⟨⟨h8, h9⟩, h10⟩ := h7
      have h11 := h6 j f hf
      rw [h8, h9, List.getElem?_eq_getElem (by omega : j < xs.length)] at h11
      obtain ⟨c', h12, h13⟩ := ck_trod h10 h11
      have : c' = c := by
        have e1 : ((cs.drop j).take 1)[0]? = some c' := by rw [h12]; rfl
        rw [List.getElem?_take, if_pos (by omega), List.getElem?_drop, Nat.add_zero, hj] at e1
        exact (Option.some.inj e1).symm
      subst this
      exact ⟨k, hk, h13⟩
    · cases h7
  · cases hk
theorem spot_of_cell {w : World} {a : Addr} {x : Value} (h : w.cell? a = some x) : a.spot = none := by
  unfold World.cell? at h
  split at h
  · split at h
    · cases h
    · rename_i hns
      cases hs : a.spot with
      | none => rfl
      | some _ => rw [hs] at hns; exact absurd rfl hns
  · cases h
theorem open_rows {t e : TypeId} (sh : List CK) {base : Nat} {v : Value} {d : DataW H} {ps : List MemPlace} (ht : P.underlying t = some (.slice e)) (hk : rowOK P e sh = true) (hsz : 0 < sh.length)
    (hval : Value.okWide P W .any base t v) (h : DataW.Trod enc P W 0 (fun _ => true) true t v d ps) : ∃ (n : Nat) (xs : List Value), Sl W W.heap.size sh.length v n xs ∧ ∀ (j : Nat) (c : Value), xs[j]? = some c → ∃ k, sh[j % sh.length]? = some k ∧ k.ok c := by
  obtain ⟨a0, len, cap, rfl⟩ := okWide_slice ht hval
  obtain ⟨fuel, hf⟩ := h
  rcases DataW.trod_slice ht hf with ⟨hcs, _⟩ | ⟨a, len', cap', elems, rest, n, _, hcs, _, hb, hl, hm, hlen, hel, _⟩
  · simp only [Value.cells] at hcs
    cases hcs
    exact ⟨0, [], ⟨by simp, Nat.zero_le _, .inl ⟨rfl, rfl⟩⟩, fun j c hj => by simp at hj⟩
  · simp only [Value.cells] at hcs
    cases hcs
    have each : ∀ i, i < len → ∀ r, r < sh.length → ∃ c k, W.cell? ((a.add (i * sh.length)).add r) = some c ∧ sh[r]? = some k ∧ k.ok c := by
      intro i hi r hr
      have h1 := hel i hi
      rw [List.getElem?_eq_getElem (by omega : i < elems.length), Option.bind_eq_some_iff] at h1
      obtain ⟨cs, h2, h3⟩ := h1
      obtain ⟨h4, h5, h6⟩ := row_trod hk h3
      rw [h5] at h2
      obtain ⟨_, h7, h8⟩ := World.cells?_some h2
      have h9 : cs[r]? = some cs[r] := List.getElem?_eq_getElem (by omega)
      obtain ⟨k, h10, h11⟩ := h6 r _ h9
      exact ⟨_, k, (h8 r hr).trans h9, h10, h11⟩
    have cell : ∀ j, j < len * sh.length → ∃ c k, W.cell? (a.add j) = some c ∧ sh[j % sh.length]? = some k ∧ k.ok c := by
      intro j hj
      have hi : j / sh.length < len := (Nat.div_lt_iff_lt_mul hsz).2 hj
      have hr := Nat.mod_lt j hsz
      have hsp : a.spot = none := by
        obtain ⟨c, _, h1, _⟩ := each 0 (Nat.lt_of_le_of_lt (Nat.zero_le _) hi) 0 hsz
        have := spot_of_cell h1
        simpa [Addr.add] using this
      obtain ⟨c, k, h1, h2, h3⟩ := each _ hi _ hr
      rw [Addr.add_off hsp] at h1
      have : j / sh.length * sh.length + j % sh.length = j := by rw [Nat.mul_comm]; exact Nat.div_add_mod j sh.length
      rw [this] at h1
      exact ⟨c, k, h1, h2, h3⟩
    refine ⟨len, (List.range (len * sh.length)).map fun j => (W.cell? (a.add j)).getD Go.undef, ⟨by simp, Nat.le_trans hl hm, .inr ⟨a, cap, rfl, hl, hm, fun hp => ?_, fun j u hu => ?_⟩⟩, fun j c hj => ?_⟩
    · obtain ⟨c, _, h1, _⟩ := cell 0 (Nat.mul_pos hp hsz)
      have := lt_of_cell h1
      simpa [Addr.add] using this
    · rw [List.getElem?_map] at hu
      by_cases hj : j < len * sh.length
      · rw [List.getElem?_range hj] at hu
        obtain ⟨c, _, h1, _⟩ := cell j hj
        simp only [Option.map_some, h1, Option.getD_some] at hu
        rw [h1]; exact hu
      · rw [List.getElem?_eq_none (by simp; omega)] at hu; cases hu
    · rw [List.getElem?_map] at hj
      by_cases hjl : j < len * sh.length
      · rw [List.getElem?_range hjl] at hj
        obtain ⟨c', k, h1, h2, h3⟩ := cell j hjl
        simp only [Option.map_some, h1, Option.getD_some] at hj
        cases hj
        exact ⟨k, h2, h3⟩
      · rw [List.getElem?_eq_none (by simp; omega)] at hj; cases hj
/-- A slice of structs of three whole numbers. -/
theorem open_threes {t e : TypeId} {base : Nat} {v : Value} {d : DataW H} {ps : List MemPlace} (ht : P.underlying t = some (.slice e)) (hk : rowOK P e [.i .i64, .i .i64, .i .i64] = true)
    (hval : Value.okWide P W .any base t v) (h : DataW.Trod enc P W 0 (fun _ => true) true t v d ps) : ∃ A : List (Int × Int × Int), Sl W W.heap.size 3 v A.length (A.flatMap fun e => [.int .i64 e.1, .int .i64 e.2.1, .int .i64 e.2.2]) ∧ ∀ e ∈ A, (Lit.int .i64 e.1).wf = true ∧ (Lit.int .i64 e.2.1).wf = true ∧ (Lit.int .i64 e.2.2).wf = true := by
  obtain ⟨n, xs, h1, h2⟩ := open_rows [.i .i64, .i .i64, .i .i64] ht hk (by decide) hval h
  have h3 : ∀ (j : Nat) (c : Value), xs[j]? = some c → ∃ z, c = .int .i64 z ∧ (Lit.int .i64 z).wf = true := by
    intro j c hj
    obtain ⟨k, h4, h5⟩ := h2 j c hj
    have : j % 3 < 3 := Nat.mod_lt _ (by omega)
    have h6 : ∀ r, r < 3 → ([.i .i64, .i .i64, .i .i64] : List CK)[r]? = some (.i .i64) := by
      intro r hr
      rcases r with _ | _ | _ | r
      · rfl
      · rfl
      · rfl
      · omega
    have h4 : ([.i .i64, .i .i64, .i .i64] : List CK)[j % 3]? = some k := h4
    rw [h6 _ this] at h4; cases h4; exact h5
  have chunk : ∀ (n : Nat) (xs : List Value), xs.length = n * 3 → (∀ (j : Nat) (c : Value), xs[j]? = some c → ∃ z, c = .int .i64 z ∧ (Lit.int .i64 z).wf = true) → ∃ A : List (Int × Int × Int), A.length = n ∧ xs = (A.flatMap fun e => [.int .i64 e.1, .int .i64 e.2.1, .int .i64 e.2.2]) ∧ ∀ e ∈ A, (Lit.int .i64 e.1).wf = true ∧ (Lit.int .i64 e.2.1).wf = true ∧ (Lit.int .i64 e.2.2).wf = true := by
    intro n
    induction n with
    | zero => intro xs hl _; exact ⟨[], rfl, by simpa using hl, by simp⟩
    | succ n ih =>
      intro xs hl hx
      match xs, hl, hx with
      | x :: y :: z :: xs, hl, hx =>
        obtain ⟨a, rfl, ha⟩ := hx 0 x rfl
        obtain ⟨b, rfl, hb⟩ := hx 1 y rfl
        obtain ⟨c, rfl, hc⟩ := hx 2 z rfl
        obtain ⟨A, g1, g2, g3⟩ := ih xs (by simp at hl; omega) (fun j c hj => hx (j + 3) c (by simpa using hj))
        refine ⟨(a, b, c) :: A, by simp [g1], by rw [g2]; simp, fun e he => ?_⟩
        rcases List.mem_cons.1 he with rfl | he
        · exact ⟨ha, hb, hc⟩
        · exact g3 e he
      | [], hl, _ => simp at hl
      | [_], hl, _ => simp at hl; omega
      | [_, _], hl, _ => simp at hl; omega
  obtain ⟨A, g1, g2, g3⟩ := chunk n xs h1.len h3
  exact ⟨A, by rw [g1, ← g2]; exact h1, g3⟩
/-- A slice of structs of two whole numbers. -/
theorem open_twos {t e : TypeId} {base : Nat} {v : Value} {d : DataW H} {ps : List MemPlace} (ht : P.underlying t = some (.slice e)) (hk : rowOK P e [.i .i64, .i .i64] = true)
    (hval : Value.okWide P W .any base t v) (h : DataW.Trod enc P W 0 (fun _ => true) true t v d ps) : ∃ A : List (Int × Int), Sl W W.heap.size 2 v A.length (A.flatMap fun e => [.int .i64 e.1, .int .i64 e.2]) ∧ ∀ e ∈ A, (Lit.int .i64 e.1).wf = true ∧ (Lit.int .i64 e.2).wf = true := by
  obtain ⟨n, xs, h1, h2⟩ := open_rows [.i .i64, .i .i64] ht hk (by decide) hval h
  have h3 : ∀ (j : Nat) (c : Value), xs[j]? = some c → ∃ z, c = .int .i64 z ∧ (Lit.int .i64 z).wf = true := by
    intro j c hj
    obtain ⟨k, h4, h5⟩ := h2 j c hj
    have : j % 2 < 2 := Nat.mod_lt _ (by omega)
    have h6 : ∀ r, r < 2 → ([.i .i64, .i .i64] : List CK)[r]? = some (.i .i64) := by
      intro r hr
      rcases r with _ | _ | r
      · rfl
      · rfl
      · omega
    have h4 : ([.i .i64, .i .i64] : List CK)[j % 2]? = some k := h4
    rw [h6 _ this] at h4; cases h4; exact h5
  have chunk : ∀ (n : Nat) (xs : List Value), xs.length = n * 2 → (∀ (j : Nat) (c : Value), xs[j]? = some c → ∃ z, c = .int .i64 z ∧ (Lit.int .i64 z).wf = true) → ∃ A : List (Int × Int), A.length = n ∧ xs = (A.flatMap fun e => [.int .i64 e.1, .int .i64 e.2]) ∧ ∀ e ∈ A, (Lit.int .i64 e.1).wf = true ∧ (Lit.int .i64 e.2).wf = true := by
    intro n
    induction n with
    | zero => intro xs hl _; exact ⟨[], rfl, by simpa using hl, by simp⟩
    | succ n ih =>
      intro xs hl hx
      match xs, hl, hx with
      | x :: y :: xs, hl, hx =>
        obtain ⟨a, rfl, ha⟩ := hx 0 x rfl
        obtain ⟨b, rfl, hb⟩ := hx 1 y rfl
        obtain ⟨A, g1, g2, g3⟩ := ih xs (by simp at hl; omega) (fun j c hj => hx (j + 2) c (by simpa using hj))
        refine ⟨(a, b) :: A, by simp [g1], by rw [g2]; simp, fun e he => ?_⟩
        rcases List.mem_cons.1 he with rfl | he
        · exact ⟨ha, hb⟩
        · exact g3 e he
      | [], hl, _ => simp at hl
      | [_], hl, _ => simp at hl; omega
  obtain ⟨A, g1, g2, g3⟩ := chunk n xs h1.len h3
  exact ⟨A, by rw [g1, ← g2]; exact h1, g3⟩
end
end Go.Proofs.YtllafhhnciobhaaGreatDoor
/-
  Arguments that are slices of structs of four whole numbers.
-/
namespace Go.Proofs.YtllafhhnciobhaaGreatDoor

open Go Go.LX Go.RowKit Go.ChangeShapes Go.WideShapes

section

variable {H : Type} {enc : TypeId × Value → H} {P : Program} {W : World}

/-- A slice of structs of four whole numbers. -/
theorem open_fours {t e : TypeId} {base : Nat} {v : Value} {d : DataW H} {ps : List MemPlace} (ht : P.underlying t = some (.slice e)) (hk : rowOK P e [.i .i64, .i .i64, .i .i64, .i .i64] = true)
    (hval : Value.okWide P W .any base t v) (h : DataW.Trod enc P W 0 (fun _ => true) true t v d ps) : ∃ A : List (Int × Int × Int × Int), Sl W W.heap.size 4 v A.length (A.flatMap fun e => [.int .i64 e.1, .int .i64 e.2.1, .int .i64 e.2.2.1, .int .i64 e.2.2.2]) ∧ ∀ e ∈ A, (Lit.int .i64 e.1).wf = true ∧ (Lit.int .i64 e.2.1).wf = true ∧ (Lit.int .i64 e.2.2.1).wf = true ∧ (Lit.int .i64 e.2.2.2).wf = true := by
  obtain ⟨n, xs, h1, h2⟩ := open_rows [.i .i64, .i .i64, .i .i64, .i .i64] ht hk (by decide) hval h
  have h3 : ∀ (j : Nat) (c : Value), xs[j]? = some c → ∃ z, c = .int .i64 z ∧ (Lit.int .i64 z).wf = true := by
    intro j c hj
    obtain ⟨k, h4, h5⟩ := h2 j c hj
    have : j % 4 < 4 := Nat.mod_lt _ (by omega)
    have h6 : ∀ r, r < 4 → ([.i .i64, .i .i64, .i .i64, .i .i64] : List CK)[r]? = some (.i .i64) := by
      intro r hr
      rcases r with _ | _ | _ | _ | r
      · rfl
      · rfl
      · rfl
      · rfl
      · omega
    have h4 : ([.i .i64, .i .i64, .i .i64, .i .i64] : List CK)[j % 4]? = some k := h4
    rw [h6 _ this] at h4; cases h4; exact h5
  have chunk : ∀ (n : Nat) (xs : List Value), xs.length = n * 4 → (∀ (j : Nat) (c : Value), xs[j]? = some c → ∃ z, c = .int .i64 z ∧ (Lit.int .i64 z).wf = true) → ∃ A : List (Int × Int × Int × Int), A.length = n ∧ xs = (A.flatMap fun e => [.int .i64 e.1, .int .i64 e.2.1, .int .i64 e.2.2.1, .int .i64 e.2.2.2]) ∧ ∀ e ∈ A, (Lit.int .i64 e.1).wf = true ∧ (Lit.int .i64 e.2.1).wf = true ∧ (Lit.int .i64 e.2.2.1).wf = true ∧ (Lit.int .i64 e.2.2.2).wf = true := by
    intro n
    induction n with
    | zero => intro xs hl _; exact ⟨[], rfl, by simpa using hl, by simp⟩
    | succ n ih =>
      intro xs hl hx
      match xs, hl, hx with
      | x :: y :: z :: u :: xs, hl, hx =>
        obtain ⟨a, rfl, ha⟩ := hx 0 x rfl
        obtain ⟨b, rfl, hb⟩ := hx 1 y rfl
        obtain ⟨c, rfl, hc⟩ := hx 2 z rfl
        obtain ⟨d, rfl, hd⟩ := hx 3 u rfl
        obtain ⟨A, g1, g2, g3⟩ := ih xs (by simp at hl; omega) (fun j c hj => hx (j + 4) c (by simpa using hj))
        refine ⟨(a, b, c, d) :: A, by simp [g1], by rw [g2]; simp, fun e he => ?_⟩
        rcases List.mem_cons.1 he with rfl | he
        · exact ⟨ha, hb, hc, hd⟩
        · exact g3 e he
      | [], hl, _ => simp at hl
      | [_], hl, _ => simp at hl; omega
      | [_, _], hl, _ => simp at hl; omega
      | [_, _, _], hl, _ => simp at hl; omega
  obtain ⟨A, g1, g2, g3⟩ := chunk n xs h1.len h3
  exact ⟨A, by rw [g1, ← g2]; exact h1, g3⟩
/-- Rows of four, as cells. -/
def fours : List (Int × Int × Int × Int) → List PV
  | [] => []
  | (x, y, z, u) :: l => .int .i64 (.sym x) :: .int .i64 (.sym y) :: .int .i64 (.sym z) :: .int .i64 (.sym u) :: fours l
theorem fours_length : ∀ l, (fours l).length = 4 * l.length
  | [] => rfl
  | (x, y, z, u) :: l => by simp [fours, fours_length l]; omega
theorem fours_get : ∀ (l : List (Int × Int × Int × Int)) (i : Nat) (e : Int × Int × Int × Int), l[i]? = some e → (fours l)[4 * i]? = some (.int .i64 (.sym e.1)) ∧ (fours l)[4 * i + 1]? = some (.int .i64 (.sym e.2.1)) ∧ (fours l)[4 * i + 2]? = some (.int .i64 (.sym e.2.2.1)) ∧ (fours l)[4 * i + 3]? = some (.int .i64 (.sym e.2.2.2))
  | [], i, e, h => by simp at h
  | (x, y, z, u) :: l, 0, e, h => by simp at h; subst h; exact ⟨rfl, rfl, rfl, rfl⟩
  | (x, y, z, u) :: l, i + 1, e, h => by
    obtain ⟨h1, h2, h3, h4⟩ := fours_get l i e (by simpa using h)
    rw [show 4 * (i + 1) = 4 * i + 4 by omega]
    exact ⟨by simpa [fours] using h1, by simpa [fours] using h2, by simpa [fours] using h3, by simpa [fours] using h4⟩
theorem fours_rel {w : World} {M : Nat → Prop} : ∀ (A : List (Int × Int × Int × Int)) (j : Nat) (u : LX.PV), (fours A)[j]? = some u → ∃ x, (A.flatMap fun e => [Value.int .i64 e.1, .int .i64 e.2.1, .int .i64 e.2.2.1, .int .i64 e.2.2.2])[j]? = some x ∧ LX.PR M w u x
  | [], j, u, h => by simp [fours] at h
  | (a, b, c, d) :: A, j, u, h => by
    rw [fours] at h
    rw [List.flatMap_cons]
    rcases j with _ | _ | _ | _ | j
    · simp at h; subst h; exact ⟨.int .i64 a, rfl, .int _ _ _ rfl⟩
    · simp at h; subst h; exact ⟨.int .i64 b, rfl, .int _ _ _ rfl⟩
    · simp at h; subst h; exact ⟨.int .i64 c, rfl, .int _ _ _ rfl⟩
    · simp at h; subst h; exact ⟨.int .i64 d, rfl, .int _ _ _ rfl⟩
    · obtain ⟨x, h1, h2⟩ := fours_rel A j u (by simpa using h)
      exact ⟨x, by simpa using h1, h2⟩
end
end Go.Proofs.YtllafhhnciobhaaGreatDoor
/-
  Arguments that are slices of structs of six whole numbers.
-/
namespace Go.Proofs.YtllafhhnciobhaaGreatDoor

open Go Go.LX Go.RowKit Go.ChangeShapes Go.WideShapes

section

variable {H : Type} {enc : TypeId × Value → H} {P : Program} {W : World}

/-- A slice of structs of six whole numbers. -/
theorem open_sixes {t e : TypeId} {base : Nat} {v : Value} {d : DataW H} {ps : List MemPlace} (ht : P.underlying t = some (.slice e)) (hk : rowOK P e [.i .i64, .i .i64, .i .i64, .i .i64, .i .i64, .i .i64] = true)
    (hval : Value.okWide P W .any base t v) (h : DataW.Trod enc P W 0 (fun _ => true) true t v d ps) : ∃ A : List (Int × Int × Int × Int × Int × Int), Sl W W.heap.size 6 v A.length (A.flatMap fun e => [.int .i64 e.1, .int .i64 e.2.1, .int .i64 e.2.2.1, .int .i64 e.2.2.2.1, .int .i64 e.2.2.2.2.1, .int .i64 e.2.2.2.2.2]) ∧ ∀ e ∈ A, (Lit.int .i64 e.1).wf = true ∧ (Lit.int .i64 e.2.1).wf = true ∧ (Lit.int .i64 e.2.2.1).wf = true ∧ (Lit.int .i64 e.2.2.2.1).wf = true ∧ (Lit.int .i64 e.2.2.2.2.1).wf = true ∧ (Lit.int .i64 e.2.2.2.2.2).wf = true := by
  obtain ⟨n, xs, h1, h2⟩ := open_rows [.i .i64, .i .i64, .i .i64, .i .i64, .i .i64, .i .i64] ht hk (by decide) hval h
  have h3 : ∀ (j : Nat) (c : Value), xs[j]? = some c → ∃ z, c = .int .i64 z ∧ (Lit.int .i64 z).wf = true := by
    intro j c hj
    obtain ⟨k, h4, h5⟩ := h2 j c hj
    have : j % 6 < 6 := Nat.mod_lt _ (by omega)
    have h6 : ∀ r, r < 6 → ([.i .i64, .i .i64, .i .i64, .i .i64, .i .i64, .i .i64] : List CK)[r]? = some (.i .i64) := by
      intro r hr
      rcases r with _ | _ | _ | _ | _ | _ | r
      · rfl
      · rfl
      · rfl
      · rfl
      · rfl
      · rfl
      · omega
    have h4 : ([.i .i64, .i .i64, .i .i64, .i .i64, .i .i64, .i .i64] : List CK)[j % 6]? = some k := h4
    rw [h6 _ this] at h4; cases h4; exact h5
  have chunk : ∀ (n : Nat) (xs : List Value), xs.length = n * 6 → (∀ (j : Nat) (c : Value), xs[j]? = some c → ∃ z, c = .int .i64 z ∧ (Lit.int .i64 z).wf = true) → ∃ A : List (Int × Int × Int × Int × Int × Int), A.length = n ∧ xs = (A.flatMap fun e => [.int .i64 e.1, .int .i64 e.2.1, .int .i64 e.2.2.1, .int .i64 e.2.2.2.1, .int .i64 e.2.2.2.2.1, .int .i64 e.2.2.2.2.2]) ∧ ∀ e ∈ A, (Lit.int .i64 e.1).wf = true ∧ (Lit.int .i64 e.2.1).wf = true ∧ (Lit.int .i64 e.2.2.1).wf = true ∧ (Lit.int .i64 e.2.2.2.1).wf = true ∧ (Lit.int .i64 e.2.2.2.2.1).wf = true ∧ (Lit.int .i64 e.2.2.2.2.2).wf = true := by
    intro n
    induction n with
    | zero => intro xs hl _; exact ⟨[], rfl, by simpa using hl, by simp⟩
    | succ n ih =>
      intro xs hl hx
      match xs, hl, hx with
      | x :: y :: z :: u :: s :: t :: xs, hl, hx =>
        obtain ⟨a, rfl, ha⟩ := hx 0 x rfl
        obtain ⟨b, rfl, hb⟩ := hx 1 y rfl
        obtain ⟨c, rfl, hc⟩ := hx 2 z rfl
        obtain ⟨d, rfl, hd⟩ := hx 3 u rfl
        obtain ⟨f, rfl, hf⟩ := hx 4 s rfl
        obtain ⟨g, rfl, hg⟩ := hx 5 t rfl
        obtain ⟨A, g1, g2, g3⟩ := ih xs (by simp at hl; omega) (fun j c hj => hx (j + 6) c (by simpa using hj))
        refine ⟨(a, b, c, d, f, g) :: A, by simp [g1], by rw [g2]; simp, fun e he => ?_⟩
        rcases List.mem_cons.1 he with rfl | he
        · exact ⟨ha, hb, hc, hd, hf, hg⟩
        · exact g3 e he
      | [], hl, _ => simp at hl
      | [_], hl, _ => simp at hl; omega
      | [_, _], hl, _ => simp at hl; omega
      | [_, _, _], hl, _ => simp at hl; omega
      | [_, _, _, _], hl, _ => simp at hl; omega
      | [_, _, _, _, _], hl, _ => simp at hl; omega
  obtain ⟨A, g1, g2, g3⟩ := chunk n xs h1.len h3
  exact ⟨A, by rw [g1, ← g2]; exact h1, g3⟩
/-- Rows of four, as cells. -/
def sixes : List (Int × Int × Int × Int × Int × Int) → List PV
  | [] => []
  | (x, y, z, u, s, t) :: l => .int .i64 (.sym x) :: .int .i64 (.sym y) :: .int .i64 (.sym z) :: .int .i64 (.sym u) :: .int .i64 (.sym s) :: .int .i64 (.sym t) :: sixes l
theorem sixes_length : ∀ l, (sixes l).length = 6 * l.length
  | [] => rfl
  | (x, y, z, u, s, t) :: l => by simp [sixes, sixes_length l]; omega
theorem sixes_get : ∀ (l : List (Int × Int × Int × Int × Int × Int)) (i : Nat) (e : Int × Int × Int × Int × Int × Int), l[i]? = some e → (sixes l)[6 * i]? = some (.int .i64 (.sym e.1)) ∧ (sixes l)[6 * i + 1]? = some (.int .i64 (.sym e.2.1)) ∧ (sixes l)[6 * i + 2]? = some (.int .i64 (.sym e.2.2.1)) ∧ (sixes l)[6 * i + 3]? = some (.int .i64 (.sym e.2.2.2.1)) ∧ (sixes l)[6 * i + 4]? = some (.int .i64 (.sym e.2.2.2.2.1)) ∧ (sixes l)[6 * i + 5]? = some (.int .i64 (.sym e.2.2.2.2.2))
  | [], i, e, h => by simp at h
  | (x, y, z, u, s, t) :: l, 0, e, h => by simp at h; subst h; exact ⟨rfl, rfl, rfl, rfl, rfl, rfl⟩
  | (x, y, z, u, s, t) :: l, i + 1, e, h => by
    obtain ⟨h1, h2, h3, h4, h5, h6⟩ := sixes_get l i e (by simpa using h)
    rw [show 6 * (i + 1) = 6 * i + 6 by omega]
    exact ⟨by simpa [sixes] using h1, by simpa [sixes] using h2, by simpa [sixes] using h3, by simpa [sixes] using h4, by simpa [sixes] using h5, by simpa [sixes] using h6⟩
theorem sixes_rel {w : World} {M : Nat → Prop} : ∀ (A : List (Int × Int × Int × Int × Int × Int)) (j : Nat) (u : LX.PV), (sixes A)[j]? = some u → ∃ x, (A.flatMap fun e => [Value.int .i64 e.1, .int .i64 e.2.1, .int .i64 e.2.2.1, .int .i64 e.2.2.2.1, .int .i64 e.2.2.2.2.1, .int .i64 e.2.2.2.2.2])[j]? = some x ∧ LX.PR M w u x
  | [], j, u, h => by simp [sixes] at h
  | (a, b, c, d, f, g) :: A, j, u, h => by
    rw [sixes] at h
    rw [List.flatMap_cons]
    rcases j with _ | _ | _ | _ | _ | _ | j
    · simp at h; subst h; exact ⟨.int .i64 a, rfl, .int _ _ _ rfl⟩
    · simp at h; subst h; exact ⟨.int .i64 b, rfl, .int _ _ _ rfl⟩
    · simp at h; subst h; exact ⟨.int .i64 c, rfl, .int _ _ _ rfl⟩
    · simp at h; subst h; exact ⟨.int .i64 d, rfl, .int _ _ _ rfl⟩
    · simp at h; subst h; exact ⟨.int .i64 f, rfl, .int _ _ _ rfl⟩
    · simp at h; subst h; exact ⟨.int .i64 g, rfl, .int _ _ _ rfl⟩
    · obtain ⟨x, h1, h2⟩ := sixes_rel A j u (by simpa using h)
      exact ⟨x, by simpa using h1, h2⟩
end
end Go.Proofs.YtllafhhnciobhaaGreatDoor
