/-
  Arguments that are slices of instructions: structs of four whole numbers and a slice of structs of four.
-/
import Derived.Test.YtfjdifeofnpcnaaDoorBf


import Derived.ChangeArms

namespace Go.Proofs.YtfjdifeofnpcnaaDoor

open Go Go.LX Go.RowKit Go.ChangeShapes Go.WideShapes

section

variable {H : Type} {enc : TypeId × Value → H} {P : Program} {W : World}

theorem spotI {w : World} {a : Addr} {x : Value} (h : w.cell? a = some x) : a.spot = none := by
  unfold World.cell? at h
  split at h
  · split at h
    · cases h
    · rename_i hns
      cases hs : a.spot with
      | none => rfl
      | some _ => rw [hs] at hns; exact absurd rfl hns
  · cases h
theorem rowsI {t e : TypeId} {m : Nat} {Q : Nat → Value → Prop} {spare : Nat → Bool} {held : Bool} (ht : P.underlying t = some (.slice e)) (hsz : 0 < m)
    (hrow : ∀ (fuel : Nat) (cs : List Value) (x : DataW H × List MemPlace), DataW.trod enc P W 0 spare held fuel e cs = some x → cs.length = m ∧ P.cellsOf e = m ∧ ∀ (j : Nat) (c : Value), cs[j]? = some c → Q j c)
    {fuel : Nat} {cs : List Value} {x : DataW H × List MemPlace} (hf : DataW.trod enc P W 0 spare held fuel t cs = some x) :
    ∃ (v : Value) (n : Nat) (xs : List Value), cs = [v] ∧ Sl W W.heap.size m v n xs ∧ ∀ (j : Nat) (c : Value), xs[j]? = some c → Q (j % m) c := by
  rcases DataW.trod_slice ht hf with ⟨hcs, _⟩ | ⟨a, len, cap, elems, rest, n, _, hcs, _, hb, hl, hm, hlen, hel, _⟩
  · exact ⟨_, 0, [], hcs, ⟨by simp, Nat.zero_le _, .inl ⟨rfl, rfl⟩⟩, fun j c hj => by simp at hj⟩
  · have each : ∀ i, i < len → ∀ r, r < m → ∃ c, W.cell? ((a.add (i * m)).add r) = some c ∧ Q r c := by
      intro i hi r hr
      have h1 := hel i hi
      rw [List.getElem?_eq_getElem (by omega : i < elems.length), Option.bind_eq_some_iff] at h1
      obtain ⟨cs, h2, h3⟩ := h1
      obtain ⟨h4, h5, h6⟩ := hrow _ _ _ h3
      rw [h5] at h2
      obtain ⟨_, h7, h8⟩ := World.cells?_some h2
      have h9 : cs[r]? = some cs[r] := List.getElem?_eq_getElem (by omega)
      exact ⟨_, (h8 r hr).trans h9, h6 r _ h9⟩
    have cell : ∀ j, j < len * m → ∃ c, W.cell? (a.add j) = some c ∧ Q (j % m) c := by
      intro j hj
      have hi : j / m < len := (Nat.div_lt_iff_lt_mul hsz).2 hj
      have hr := Nat.mod_lt j hsz
      have hsp : a.spot = none := by
        obtain ⟨c, h1, _⟩ := each 0 (Nat.lt_of_le_of_lt (Nat.zero_le _) hi) 0 hsz
        have := spotI h1
        simpa [Addr.add] using this
      obtain ⟨c, h1, h2⟩ := each _ hi _ hr
      rw [Addr.add_off hsp] at h1
      have : j / m * m + j % m = j := by rw [Nat.mul_comm]; exact Nat.div_add_mod j m
      rw [this] at h1
      exact ⟨c, h1, h2⟩
    refine ⟨_, len, (List.range (len * m)).map fun j => (W.cell? (a.add j)).getD Go.undef, hcs, ⟨by simp, Nat.le_trans hl hm, .inr ⟨a, cap, rfl, hl, hm, fun hp => ?_, fun j u hu => ?_⟩⟩, fun j c hj => ?_⟩
    · obtain ⟨c, h1, _⟩ := cell 0 (Nat.mul_pos hp hsz)
      have := lt_of_cell h1
      simpa [Addr.add] using this
    · rw [List.getElem?_map] at hu
      by_cases hj : j < len * m
      · rw [List.getElem?_range hj] at hu
        obtain ⟨c, h1, _⟩ := cell j hj
        simp only [Option.map_some, h1, Option.getD_some] at hu
        rw [h1]; exact hu
      · rw [List.getElem?_eq_none (by simp; omega)] at hu; cases hu
    · rw [List.getElem?_map] at hj
      by_cases hjl : j < len * m
      · rw [List.getElem?_range hjl] at hj
        obtain ⟨c', h1, h2⟩ := cell j hjl
        simp only [Option.map_some, h1, Option.getD_some] at hj
        cases hj
        exact h2
      · rw [List.getElem?_eq_none (by simp; omega)] at hj; cases hj
/-- The cells of a struct, each by its own field. -/
theorem cellsI {e : TypeId} {m : Nat} {Q : Nat → Value → Prop} {spare : Nat → Bool} {held : Bool} {fs : Array Field} (he : P.underlying e = some (.struct fs)) (hc : P.cellsOf e = m)
    (hfld : ∀ j, j < m → ∃ f, fs[j]? = some f ∧ f.offset = j ∧ P.cellsOf f.type = 1 ∧ ∀ (fuel : Nat) (cs : List Value) (x : DataW H × List MemPlace), DataW.trod enc P W 0 spare held fuel f.type cs = some x → ∃ c, cs = [c] ∧ Q j c)
    (hfs : fs.size = m) {fuel : Nat} {cs : List Value} {x : DataW H × List MemPlace} (h : DataW.trod enc P W 0 spare held fuel e cs = some x) : cs.length = m ∧ P.cellsOf e = m ∧ ∀ (j : Nat) (c : Value), cs[j]? = some c → Q j c := by
  obtain ⟨xs, n, _, _, h4, h5, h6⟩ := DataW.trod_struct he h
  refine ⟨by omega, hc, fun j c hj => ?_⟩
  have hlt := (List.getElem?_eq_some_iff.1 hj).1
  obtain ⟨f, hf, h8, h9, h10⟩ := hfld j (by omega)
  have h11 := h6 j f hf
  rw [h8, h9, List.getElem?_eq_getElem (by omega : j < xs.length)] at h11
  obtain ⟨c', h12, h13⟩ := h10 _ _ _ h11
  have : c' = c := by
    have e1 : ((cs.drop j).take 1)[0]? = some c' := by rw [h12]; rfl
    rw [List.getElem?_take, if_pos (by omega), List.getElem?_drop, Nat.add_zero, hj] at e1
    exact (Option.some.inj e1).symm
  subst this
  exact h13
end
def isI64 (P : Program) (t : TypeId) : Bool :=
  match P.underlying t with
  | some (.int k) => decide (k = .i64)
  | _ => false
def fldOK (P : Program) (fs : Array Field) (p : TypeId → Bool) (i : Nat) : Bool :=
  match fs[i]? with
  | some f => f.offset == i && P.cellsOf f.type == 1 && p f.type
  | none => false
def caseOK (P : Program) (e : TypeId) : Bool :=
  match P.underlying e with
  | some (.struct fs) => P.cellsOf e == 4 && fs.size == 4 && (List.range 4).all (fldOK P fs (isI64 P))
  | _ => false
def casesOK (P : Program) (t : TypeId) : Bool :=
  match P.underlying t with
  | some (.slice c) => caseOK P c
  | _ => false
def instrOK (P : Program) (e : TypeId) : Bool :=
  match P.underlying e with
  | some (.struct fs) => P.cellsOf e == 5 && fs.size == 5 && (List.range 4).all (fldOK P fs (isI64 P)) && fldOK P fs (casesOK P) 4
  | _ => false
theorem fldOK_get {P : Program} {fs : Array Field} {p : TypeId → Bool} {i : Nat} (h : fldOK P fs p i = true) : ∃ f, fs[i]? = some f ∧ f.offset = i ∧ P.cellsOf f.type = 1 ∧ p f.type = true := by
  unfold fldOK at h
  split at h
  · rename_i f hf
    simp only [Bool.and_eq_true, beq_iff_eq] at h
    exact ⟨f, hf, h.1.1, h.1.2, h.2⟩
  · cases h
/-- A whole number that stands in a cell. -/
def NumC (c : Value) : Prop := ∃ z, c = .int .i64 z ∧ (Lit.int .i64 z).wf = true
def csX (c : Cs) : List Value := [.int .i64 c.k, .int .i64 c.ch, .int .i64 c.reg, .int .i64 c.to]
def Cs.wf (c : Cs) : Prop := (Lit.int .i64 c.k).wf = true ∧ (Lit.int .i64 c.ch).wf = true ∧ (Lit.int .i64 c.reg).wf = true ∧ (Lit.int .i64 c.to).wf = true
def CasesC (W : World) (v : Value) (cs : List Cs) : Prop := Sl W W.heap.size 4 v cs.length (cs.flatMap csX) ∧ ∀ c ∈ cs, c.wf
def Is.wf (x : Is) : Prop := (Lit.int .i64 x.op).wf = true ∧ (Lit.int .i64 x.a).wf = true ∧ (Lit.int .i64 x.b).wf = true ∧ (Lit.int .i64 x.n).wf = true
/-- Instructions, as they lie in memory. -/
inductive IsAt (W : World) : List Is → List Value → Prop
  | nil : IsAt W [] []
  | cons (x : Is) (v : Value) (A : List Is) (xs : List Value) (hw : x.wf) (h : CasesC W v x.cs) (ht : IsAt W A xs) : IsAt W (x :: A) (.int .i64 x.op :: .int .i64 x.a :: .int .i64 x.b :: .int .i64 x.n :: v :: xs)
section

variable {H : Type} {enc : TypeId × Value → H} {P : Program} {W : World}

theorem numI {t : TypeId} {fuel : Nat} {spare : Nat → Bool} {held : Bool} {cs : List Value} {x : DataW H × List MemPlace} (hk : isI64 P t = true) (h : DataW.trod enc P W 0 spare held fuel t cs = some x) : ∃ c, cs = [c] ∧ NumC c := by
  unfold isI64 at hk
  split at hk
  · rename_i k hu
    have hk := of_decide_eq_true hk
    subst hk
    obtain ⟨n, h1, _, h2⟩ := DataW.trod_int hu h
    exact ⟨_, h1, n, rfl, h2⟩
  · cases hk
theorem caseI {e : TypeId} {fuel : Nat} {spare : Nat → Bool} {held : Bool} {cs : List Value} {x : DataW H × List MemPlace} (hk : caseOK P e = true) (h : DataW.trod enc P W 0 spare held fuel e cs = some x) :
    cs.length = 4 ∧ P.cellsOf e = 4 ∧ ∀ (j : Nat) (c : Value), cs[j]? = some c → NumC c := by
  unfold caseOK at hk
  split at hk
  · rename_i fs hu
    simp only [Bool.and_eq_true, beq_iff_eq, List.all_eq_true, List.mem_range] at hk
    obtain ⟨⟨h1, h2⟩, h3⟩ := hk
    refine cellsI (Q := fun _ c => NumC c) hu h1 (fun j hj => ?_) h2 h
    obtain ⟨f, f1, f2, f3, f4⟩ := fldOK_get (h3 j hj)
    exact ⟨f, f1, f2, f3, fun _ _ _ hh => numI f4 hh⟩
  · cases hk
theorem chunk4 : ∀ (n : Nat) (xs : List Value), xs.length = n * 4 → (∀ (j : Nat) (c : Value), xs[j]? = some c → NumC c) → ∃ A : List Cs, A.length = n ∧ xs = A.flatMap csX ∧ ∀ c ∈ A, c.wf := by
  intro n
  induction n with
  | zero => intro xs hl _; exact ⟨[], rfl, by simpa using hl, by simp⟩
  | succ n ih =>
    intro xs hl hx
    match xs, hl, hx with
    | x :: y :: z :: u :: xs, hl, hx =>
      obtain ⟨a, rfl, ha⟩ := hx 0 x rfl
      obtain ⟨b, rfl, hb⟩ := hx 1 y rfl
      obtain ⟨c, rfl, hc⟩ := hx 2 z rfl
      obtain ⟨d, rfl, hd⟩ := hx 3 u rfl
      obtain ⟨A, g1, g2, g3⟩ := ih xs (by simp at hl; omega) (fun j c hj => hx (j + 4) c (by simpa using hj))
      refine ⟨⟨a, b, c, d⟩ :: A, by simp [g1], by rw [g2]; simp [csX], fun e he => ?_⟩
      rcases List.mem_cons.1 he with rfl | he
      · exact ⟨ha, hb, hc, hd⟩
      · exact g3 e he
    | [], hl, _ => simp at hl
    | [_], hl, _ => simp at hl; omega
    | [_, _], hl, _ => simp at hl; omega
    | [_, _, _], hl, _ => simp at hl; omega
theorem casesI {t : TypeId} {fuel : Nat} {spare : Nat → Bool} {held : Bool} {cs : List Value} {x : DataW H × List MemPlace} (hk : casesOK P t = true) (h : DataW.trod enc P W 0 spare held fuel t cs = some x) : ∃ c, cs = [c] ∧ ∃ A, CasesC W c A := by
  unfold casesOK at hk
  split at hk
  · rename_i c hu
    obtain ⟨v, n, xs, h1, h2, h3⟩ := rowsI (m := 4) (Q := fun _ c => NumC c) hu (by decide) (fun _ _ _ hh => caseI hk hh) h
    obtain ⟨A, g1, g2, g3⟩ := chunk4 n xs h2.len h3
    exact ⟨v, h1, A, by rw [g1, ← g2]; exact h2, g3⟩
  · cases hk
def QI (W : World) (j : Nat) (c : Value) : Prop := if j < 4 then NumC c else ∃ A, CasesC W c A
theorem instrI {e : TypeId} {fuel : Nat} {spare : Nat → Bool} {held : Bool} {cs : List Value} {x : DataW H × List MemPlace} (hk : instrOK P e = true) (h : DataW.trod enc P W 0 spare held fuel e cs = some x) :
    cs.length = 5 ∧ P.cellsOf e = 5 ∧ ∀ (j : Nat) (c : Value), cs[j]? = some c → QI W j c := by
  unfold instrOK at hk
  split at hk
  · rename_i fs hu
    simp only [Bool.and_eq_true, beq_iff_eq, List.all_eq_true, List.mem_range] at hk
    obtain ⟨⟨⟨h1, h2⟩, h3⟩, h4⟩ := hk
    refine cellsI (Q := QI W) hu h1 (fun j hj => ?_) h2 h
    by_cases hj4 : j < 4
    · obtain ⟨f, f1, f2, f3, f4⟩ := fldOK_get (h3 j hj4)
      exact ⟨f, f1, f2, f3, fun _ _ _ hh => by simpa [QI, hj4] using numI f4 hh⟩
    · obtain rfl : j = 4 := by omega
      obtain ⟨f, f1, f2, f3, f4⟩ := fldOK_get h4
      exact ⟨f, f1, f2, f3, fun _ _ _ hh => by simpa [QI] using casesI f4 hh⟩
  · cases hk
theorem chunk5 : ∀ (n : Nat) (xs : List Value), xs.length = n * 5 → (∀ (j : Nat) (c : Value), xs[j]? = some c → QI W (j % 5) c) → ∃ A : List Is, A.length = n ∧ IsAt W A xs := by
  intro n
  induction n with
  | zero => intro xs hl _; exact ⟨[], rfl, by obtain rfl : xs = [] := by simpa using hl
                                              exact .nil⟩
  | succ n ih =>
    intro xs hl hx
    match xs, hl, hx with
    | x :: y :: z :: u :: v :: xs, hl, hx =>
      obtain ⟨a, rfl, ha⟩ : NumC x := hx 0 x rfl
      obtain ⟨b, rfl, hb⟩ : NumC y := hx 1 y rfl
      obtain ⟨c, rfl, hc⟩ : NumC z := hx 2 z rfl
      obtain ⟨d, rfl, hd⟩ : NumC u := hx 3 u rfl
      obtain ⟨C, hC⟩ : ∃ A, CasesC W v A := hx 4 v rfl
      obtain ⟨A, g1, g2⟩ := ih xs (by simp at hl; omega) (fun j c hj => by
        have := hx (j + 5) c (by simpa using hj)
        rwa [Nat.add_mod_right] at this)
      exact ⟨⟨a, b, c, d, C⟩ :: A, by simp [g1], .cons ⟨a, b, c, d, C⟩ v A xs ⟨ha, hb, hc, hd⟩ hC g2⟩
    | [], hl, _ => simp at hl
    | [_], hl, _ => simp at hl; omega
    | [_, _], hl, _ => simp at hl; omega
    | [_, _, _], hl, _ => simp at hl; omega
    | [_, _, _, _], hl, _ => simp at hl; omega
/-- A slice of instructions that came in. -/
theorem open_instrs {t e : TypeId} {base : Nat} {v : Value} {d : DataW H} {ps : List MemPlace} (ht : P.underlying t = some (.slice e)) (hk : instrOK P e = true)
    (hval : Value.okWide P W .any base t v) (h : DataW.Trod enc P W 0 (fun _ => true) true t v d ps) : ∃ (A : List Is) (xs : List Value), Sl W W.heap.size 5 v A.length xs ∧ IsAt W A xs := by
  obtain ⟨a0, len, cap, rfl⟩ := okWide_slice ht hval
  obtain ⟨fuel, hf⟩ := h
  obtain ⟨v, n, xs, h1, h2, h3⟩ := rowsI (m := 5) (Q := QI W) ht (by decide) (fun _ _ _ hh => instrI hk hh) hf
  simp only [Value.cells] at h1
  cases h1
  obtain ⟨A, g1, g2⟩ := chunk5 n xs h2.len h3
  exact ⟨A, xs, by rw [g1]; exact h2, g2⟩
end
theorem csV_rel {w : World} {M : Nat → Prop} : ∀ (A : List Cs) (j : Nat) (u : PV), (csV A)[j]? = some u → ∃ x, (A.flatMap csX)[j]? = some x ∧ PR M w u x
  | [], j, u, h => by simp [csV] at h
  | c :: A, j, u, h => by
    rw [csV, List.flatMap_cons] at h
    rw [List.flatMap_cons]
    rcases j with _ | _ | _ | _ | j
    · simp [caV] at h; subst h; exact ⟨.int .i64 c.k, rfl, .int _ _ _ rfl⟩
    · simp [caV] at h; subst h; exact ⟨.int .i64 c.ch, rfl, .int _ _ _ rfl⟩
    · simp [caV] at h; subst h; exact ⟨.int .i64 c.reg, rfl, .int _ _ _ rfl⟩
    · simp [caV] at h; subst h; exact ⟨.int .i64 c.to, rfl, .int _ _ _ rfl⟩
    · obtain ⟨x, h1, h2⟩ := csV_rel A j u (by simpa [caV, csV] using h)
      exact ⟨x, by simpa [csX] using h1, h2⟩
theorem isV_rel {w : World} : ∀ (A : List Is) (xs : List Value), IsAt w A xs → ∀ (j : Nat) (u : PV), (isV A)[j]? = some u → ∃ x, xs[j]? = some x ∧ PR Ctx.empty.mut w u x := by
  intro A xs h
  induction h with
  | nil => intro j u h; simp [isV] at h
  | cons x v A xs hw hc ht ih =>
    intro j u h
    rw [isV, List.flatMap_cons] at h
    rcases j with _ | _ | _ | _ | _ | j
    · simp [isC] at h; subst h; exact ⟨.int .i64 x.op, rfl, .int _ _ _ rfl⟩
    · simp [isC] at h; subst h; exact ⟨.int .i64 x.a, rfl, .int _ _ _ rfl⟩
    · simp [isC] at h; subst h; exact ⟨.int .i64 x.b, rfl, .int _ _ _ rfl⟩
    · simp [isC] at h; subst h; exact ⟨.int .i64 x.n, rfl, .int _ _ _ rfl⟩
    · simp [isC] at h; subst h
      refine ⟨v, rfl, ?_⟩
      have h1 : LR Ctx.empty w (.p (.vsl (.sym (x.cs.length : Int)) true (csV x.cs))) v := vsl_gen (by decide) hc.1 rfl (csV_length _) (csV_rel _)
      cases h1 with
      | p _ _ h2 => exact h2
    · obtain ⟨y, h1, h2⟩ := ih j u (by simpa [isC, isV] using h)
      exact ⟨y, by simpa using h1, h2⟩
theorem vsl_instrs {w : World} {v : Value} {A : List Is} {xs : List Value} (h : Sl w w.heap.size 5 v A.length xs) (hA : IsAt w A xs) {m : Int} {l : List PV} (hm : m = A.length) (hl : l = isV A) : LR Ctx.empty w (.p (.vsl (.sym m) true l)) v := by
  subst hl
  exact vsl_gen (by decide) h hm (isV_length _) (isV_rel A xs hA)
theorem IsAt.ok {w : World} {A : List Is} {xs : List Value} (h : IsAt w A xs) : ∀ x ∈ A, x.wf ∧ (∀ c ∈ x.cs, c.wf) ∧ x.cs.length ≤ maxLen := by
  induction h with
  | nil => intro x hx; cases hx
  | cons x v A xs hw hc ht ih =>
    intro y hy
    rcases List.mem_cons.1 hy with rfl | hy
    · exact ⟨hw, hc.2, hc.1.max⟩
    · exact ih y hy
end Go.Proofs.YtfjdifeofnpcnaaDoor
