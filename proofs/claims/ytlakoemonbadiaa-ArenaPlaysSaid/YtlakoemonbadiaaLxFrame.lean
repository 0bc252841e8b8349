/-
  What a call does where little is known does it where more is: the names of its blocks taken for others, all else left alone.
-/
import Derived.Test.YtlakoemonbadiaaLxRe
namespace Go.LX
open Go
set_option linter.unusedVariables false

def rn (ρ : List (Nat × Nat)) (n0 n b : Nat) : Option Nat :=
  match nget ρ b with
  | some b' => some b'
  | none => match Nat.blt b n0 with
    | true => none
    | false => some (b - n0 + n)
mutual
def renV (ρ : List (Nat × Nat)) (n0 n : Nat) : LV → LV
  | .p v => .p v
  | .ptr b o => match rn ρ n0 n b with
    | some b' => .ptr b' o
    | none => .undef
  | .sl b e sz o k => match rn ρ n0 n b with
    | some b' => .sl b' e sz o k
    | none => .undef
  | .agg l => .agg (renVs ρ n0 n l)
  | .tup l => .tup (renVs ρ n0 n l)
  | .iface t v => .iface t (renV ρ n0 n v)
  | .fn f l => .fn f (renVs ρ n0 n l)
  | .nul => .nul
  | .undef => .undef
def renVs (ρ : List (Nat × Nat)) (n0 n : Nat) : List LV → List LV
  | [] => []
  | x :: l => renV ρ n0 n x :: renVs ρ n0 n l
end
mutual
def okV (ρ : List (Nat × Nat)) : LV → Bool
  | .ptr b _ => (nget ρ b).isSome
  | .sl b _ _ _ _ => (nget ρ b).isSome
  | .agg l => okVs ρ l
  | .tup l => okVs ρ l
  | .iface _ v => okV ρ v
  | .fn _ l => okVs ρ l
  | .p _ => true
  | .nul => true
  | .undef => true
def okVs (ρ : List (Nat × Nat)) : List LV → Bool
  | [] => true
  | x :: l => okV ρ x && okVs ρ l
end
def renB (ρ : List (Nat × Nat)) (n0 n : Nat) : LB → LB
  | .pure sy l => .pure sy l
  | .mix l => .mix (renVs ρ n0 n l)
  | .iter s p => .iter s p
  | .fix g o => .fix g o
  | .bld t l => .bld t (renVs ρ n0 n l)
def okB (ρ : List (Nat × Nat)) : LB → Bool
  | .mix l => okVs ρ l
  | .bld _ l => okVs ρ l
  | _ => true
def renH (ρ : List (Nat × Nat)) (n0 n : Nat) : LH → LH
  | [] => []
  | (b, B) :: l => match rn ρ n0 n b with
    | some b' => (b', renB ρ n0 n B) :: renH ρ n0 n l
    | none => renH ρ n0 n l
def hdels : List (Nat × Nat) → LH → LH
  | [], h => h
  | (_, b) :: l, h => hdel (hdels l h) b
def happ : LH → LH → LH
  | [], h => h
  | x :: l, h => x :: happ l h
def frameH (ρ : List (Nat × Nat)) (n0 n : Nat) (h h0 : LH) : LH := happ (renH ρ n0 n h0) (hdels ρ h)
def hmapOk (ρ : List (Nat × Nat)) (n0 n : Nat) (h : LH) : LH → Prop
  | [] => True
  | (b, B) :: l => (match nget ρ b with
    | some b' => hget h b' = some (renB ρ n0 n B)
    | none => False) ∧ okB ρ B = true ∧ hmapOk ρ n0 n h l
def fok (n0 n : Nat) : List (Nat × Nat) → Bool
  | [] => true
  | (a, b) :: l => decide (a < n0) && decide (b < n) && (nget l a).isNone && (nback l b).isNone && fok n0 n l

section
variable {c : Ctx} {w : World} {ρ : List (Nat × Nat)} {n0 n : Nat}
structure FOK (n0 n : Nat) (ρ : List (Nat × Nat)) : Prop where
  iff : ∀ a b, nget ρ a = some b ↔ nback ρ b = some a
  lo : ∀ a b, nget ρ a = some b → a < n0
  hi : ∀ a b, nget ρ a = some b → b < n
theorem fok_ok : ∀ {ρ : List (Nat × Nat)}, fok n0 n ρ = true → FOK n0 n ρ
  | [], _ => ⟨fun a b => by simp [nget, nback], fun a b h => by simp [nget] at h, fun a b h => by simp [nget] at h⟩
  | (x, y) :: ρ, h => by
    simp only [fok, Bool.and_eq_true, decide_eq_true_eq, Option.isNone_iff_eq_none] at h
    obtain ⟨⟨⟨⟨h1, h2⟩, h4⟩, h5⟩, h6⟩ := h
    obtain ⟨k1, k2, k3⟩ := fok_ok h6
    have key : ∀ a b, nget ((x, y) :: ρ) a = some b → (a = x ∧ b = y) ∨ nget ρ a = some b := by
      intro a b hab
      rw [nget_cons] at hab
      by_cases e : x = a
      · rw [if_pos e] at hab; cases hab; exact .inl ⟨e.symm, rfl⟩
      · rw [if_neg e] at hab; exact .inr hab
    refine ⟨fun a b => ?_, fun a b hab => ?_, fun a b hab => ?_⟩
    · rw [nget_cons, nback_cons]
      by_cases e : x = a
      · subst e
        rw [if_pos rfl]
        by_cases e2 : y = b
        · subst e2; simp
        · rw [if_neg e2]
          constructor
          · intro h; cases h; exact absurd rfl e2
          · intro h; rw [(k1 x b).2 h] at h4; cases h4
      · rw [if_neg e]
        by_cases e2 : y = b
        · subst e2
          rw [if_pos rfl]
          constructor
          · intro h; rw [(k1 a y).1 h] at h5; cases h5
          · intro h; cases h; exact absurd rfl e
        · rw [if_neg e2]; exact k1 a b
    · rcases key a b hab with ⟨rfl, rfl⟩ | h
      · exact h1
      · exact k2 a b h
    · rcases key a b hab with ⟨rfl, rfl⟩ | h
      · exact h2
      · exact k3 a b h

def foot (c : Ctx) (ρ : List (Nat × Nat)) (r : Nat) : Prop := ∃ a b, nget ρ a = some b ∧ c.m b = some (some r)
def Ctx.inner (c : Ctx) (ρ : List (Nat × Nat)) (n0 : Nat) : Ctx :=
  { m := fun b => match nget ρ b with | some b' => c.m b' | none => none, X := fun r => c.X r ∨ (c.own r ∧ ¬ foot c ρ r), N := n0 }
theorem inner_m {a b : Nat} (h : nget ρ a = some b) : (c.inner ρ n0).m a = c.m b := by
  show (match nget ρ a with | some b' => c.m b' | none => none) = _
  rw [h]
theorem inner_own (r : Nat) : (c.inner ρ n0).own r ↔ foot c ρ r := by
  constructor
  · rintro ⟨a, ha⟩
    have ha : (match nget ρ a with | some b' => c.m b' | none => none) = some (some r) := ha
    cases e : nget ρ a with
    | none => rw [e] at ha; cases ha
    | some b => rw [e] at ha; exact ⟨a, b, e, ha⟩
  · rintro ⟨a, b, h1, h2⟩
    exact ⟨a, (inner_m h1).trans h2⟩
theorem inner_mut (r : Nat) : (c.inner ρ n0).mut r ↔ c.mut r := by
  constructor
  · rintro ((h | ⟨h, _⟩) | h)
    · exact .inl h
    · exact .inr h
    · obtain ⟨a, b, h1, h2⟩ := (inner_own r).1 h
      exact .inr ⟨b, h2⟩
  · rintro (h | h)
    · exact .inl (.inl h)
    · by_cases hf : foot c ρ r
      · exact .inr ((inner_own r).2 hf)
      · exact .inl (.inr ⟨h, hf⟩)
theorem PR.congr {M M' : Nat → Prop} (hM : ∀ r, M r ↔ M' r) {u : PV} {x : Value} (h : PR M w u x) : PR M' w u x := by
  have : M = M' := funext fun r => propext (hM r)
  rw [← this]; exact h
theorem okVs_mem : ∀ {l : List LV}, okVs ρ l = true → ∀ u ∈ l, okV ρ u = true
  | [], _, u, hu => by cases hu
  | x :: l, h, u, hu => by
    simp only [okVs, Bool.and_eq_true] at h
    rcases List.mem_cons.1 hu with rfl | hu
    · exact h.1
    · exact okVs_mem h.2 u hu
theorem renVs_get : ∀ (l : List LV) (i : Nat), (renVs ρ n0 n l)[i]? = l[i]?.map (renV ρ n0 n)
  | [], i => by cases i <;> rfl
  | x :: l, 0 => rfl
  | x :: l, i + 1 => by simp [renVs, renVs_get l i]
theorem renVs_length : ∀ (l : List LV), (renVs ρ n0 n l).length = l.length
  | [] => rfl
  | x :: l => by simp [renVs, renVs_length l]
theorem rn_dom {a b : Nat} (h : nget ρ a = some b) : rn ρ n0 n a = some b := by unfold rn; rw [h]

/-- Into the call. -/
theorem LR.into (hF : FOK n0 n ρ) {v : LV} {x : Value} (h : LR c w v x) : ∀ {u : LV}, v = renV ρ n0 n u → okV ρ u = true → LR (c.inner ρ n0) w u x := by
  have dom : ∀ {b : Nat}, (nget ρ b).isSome = true → ∃ b', nget ρ b = some b' := fun h => Option.isSome_iff_exists.1 h
  have ptrNo : ∀ {b o} {v : LV}, v = renV ρ n0 n (.ptr b o) → okV ρ (.ptr b o) = true → ∃ b', nget ρ b = some b' ∧ v = .ptr b' o := by
    intro b o v hv hok
    obtain ⟨b', hb⟩ := dom hok
    exact ⟨b', hb, by rw [hv, renV, rn_dom hb]⟩
  have slNo : ∀ {b e sz o k} {v : LV}, v = renV ρ n0 n (.sl b e sz o k) → okV ρ (.sl b e sz o k) = true → ∃ b', nget ρ b = some b' ∧ v = .sl b' e sz o k := by
    intro b e sz o k v hv hok
    obtain ⟨b', hb⟩ := dom hok
    exact ⟨b', hb, by rw [hv, renV, rn_dom hb]⟩
  have lists : ∀ {l' : List LV} {xs : Array Value}, (renVs ρ n0 n l').length = xs.size → okVs ρ l' = true → (∀ (j : Nat) (u : LV), (renVs ρ n0 n l')[j]? = some u → ∀ {u' : LV}, u = renV ρ n0 n u' → okV ρ u' = true → LR (c.inner ρ n0) w u' (xs.getD j Go.undef)) →
      l'.length = xs.size ∧ ∀ (j : Nat) (u : LV), l'[j]? = some u → LR (c.inner ρ n0) w u (xs.getD j Go.undef) := by
    intro l' xs h1 h2 h3
    refine ⟨by rw [renVs_length] at h1; exact h1, fun j u hu => ?_⟩
    exact h3 j (renV ρ n0 n u) (by rw [renVs_get, hu]; rfl) rfl (okVs_mem h2 u (List.mem_of_getElem? hu))
  induction h with
  | p v x hv =>
    intro u hu hok
    cases u with
    | ptr b o => obtain ⟨b', _, h2⟩ := ptrNo hu hok; cases h2
    | sl b e sz o k => obtain ⟨b', _, h2⟩ := slNo hu hok; cases h2
    | p v' => rw [renV] at hu; cases hu; exact .p _ _ (hv.congr fun r => (inner_mut r).symm)
    | _ => rw [renV] at hu; cases hu
  | ptr b o r k hm ho =>
    intro u hu hok
    cases u with
    | ptr b1 o1 => obtain ⟨b', h1, h2⟩ := ptrNo hu hok; cases h2; exact .ptr _ _ r k ((inner_m h1).trans hm) ho
    | sl b e sz o k => obtain ⟨b', _, h2⟩ := slNo hu hok; cases h2
    | _ => rw [renV] at hu; cases hu
  | goneP b o a hm hb =>
    intro u hu hok
    cases u with
    | ptr b1 o1 => obtain ⟨b', h1, h2⟩ := ptrNo hu hok; cases h2; exact .goneP _ _ a ((inner_m h1).trans hm) (hF.lo _ _ h1)
    | sl b e sz o k => obtain ⟨b', _, h2⟩ := slNo hu hok; cases h2
    | _ => rw [renV] at hu; cases hu
  | sl b e sz o n r j k cp tot hm ho hn hk hc hs ht =>
    intro u hu hok
    cases u with
    | ptr b1 o1 => obtain ⟨b', h1, h2⟩ := ptrNo hu hok; cases h2
    | sl b1 e1 sz1 o1 k1 => obtain ⟨b', h1, h2⟩ := slNo hu hok; cases h2; exact .sl _ _ _ _ _ r j k cp tot ((inner_m h1).trans hm) ho hn hk hc hs ht
    | _ => rw [renV] at hu; cases hu
  | slv b e sz o n hm ho hn =>
    intro u hu hok
    cases u with
    | ptr b1 o1 => obtain ⟨b', h1, h2⟩ := ptrNo hu hok; cases h2
    | sl b1 e1 sz1 o1 k1 => obtain ⟨b', h1, h2⟩ := slNo hu hok; cases h2; exact .slv _ _ _ _ _ ((inner_m h1).trans hm) ho hn
    | _ => rw [renV] at hu; cases hu
  | goneS b e sz o n a k cp hm hb =>
    intro u hu hok
    cases u with
    | ptr b1 o1 => obtain ⟨b', h1, h2⟩ := ptrNo hu hok; cases h2
    | sl b1 e1 sz1 o1 k1 => obtain ⟨b', h1, h2⟩ := slNo hu hok; cases h2; exact .goneS _ _ _ _ _ a k cp ((inner_m h1).trans hm) (hF.lo _ _ h1)
    | _ => rw [renV] at hu; cases hu
  | agg l x hl hrel ih =>
    intro u hu hok
    cases u with
    | ptr b1 o1 => obtain ⟨b', h1, h2⟩ := ptrNo hu hok; cases h2
    | sl b e sz o k => obtain ⟨b', _, h2⟩ := slNo hu hok; cases h2
    | agg l' => rw [renV] at hu; cases hu; obtain ⟨h1, h2⟩ := lists hl hok ih; exact .agg _ _ h1 h2
    | _ => rw [renV] at hu; cases hu
  | tup l x hl hrel ih =>
    intro u hu hok
    cases u with
    | ptr b1 o1 => obtain ⟨b', h1, h2⟩ := ptrNo hu hok; cases h2
    | sl b e sz o k => obtain ⟨b', _, h2⟩ := slNo hu hok; cases h2
    | tup l' => rw [renV] at hu; cases hu; obtain ⟨h1, h2⟩ := lists hl hok ih; exact .tup _ _ h1 h2
    | _ => rw [renV] at hu; cases hu
  | iface t v x hv ih =>
    intro u hu hok
    cases u with
    | ptr b1 o1 => obtain ⟨b', h1, h2⟩ := ptrNo hu hok; cases h2
    | sl b e sz o k => obtain ⟨b', _, h2⟩ := slNo hu hok; cases h2
    | iface t' v' => rw [renV] at hu; cases hu; exact .iface _ _ _ (ih rfl hok)
    | _ => rw [renV] at hu; cases hu
  | fn f l x hl hrel ih =>
    intro u hu hok
    cases u with
    | ptr b1 o1 => obtain ⟨b', h1, h2⟩ := ptrNo hu hok; cases h2
    | sl b e sz o k => obtain ⟨b', _, h2⟩ := slNo hu hok; cases h2
    | fn f' l' => rw [renV] at hu; cases hu; obtain ⟨h1, h2⟩ := lists hl hok ih; exact .fn _ _ _ h1 h2
    | _ => rw [renV] at hu; cases hu
  | nul =>
    intro u hu hok
    cases u with
    | ptr b1 o1 => obtain ⟨b', h1, h2⟩ := ptrNo hu hok; cases h2
    | sl b e sz o k => obtain ⟨b', _, h2⟩ := slNo hu hok; cases h2
    | nul => exact .nul
    | _ => rw [renV] at hu; cases hu
  | undef x =>
    intro u hu hok
    cases u with
    | ptr b1 o1 => obtain ⟨b', h1, h2⟩ := ptrNo hu hok; cases h2
    | sl b e sz o k => obtain ⟨b', _, h2⟩ := slNo hu hok; cases h2
    | undef => exact .undef _
    | _ => rw [renV] at hu; cases hu

/-- Behind the call: the caller's names again. -/
def Ctx.outer (c c0 : Ctx) (ρ : List (Nat × Nat)) (n0 n : Nat) : Ctx :=
  { m := fun b => match nback ρ b with
      | some a => c0.m a
      | none => if b < n then c.m b else c0.m (b - n + n0)
    X := c.X
    N := n + (c0.N - n0) }
variable {c0 : Ctx} {w' : World}
theorem outer_rn (hF : FOK n0 n ρ) {a b : Nat} (h : rn ρ n0 n a = some b) : (c.outer c0 ρ n0 n).m b = c0.m a := by
  show (match nback ρ b with | some a => c0.m a | none => if b < n then c.m b else c0.m (b - n + n0)) = _
  unfold rn at h
  cases e : nget ρ a with
  | some b' =>
    rw [e] at h; cases h
    rw [(hF.iff a b).1 e]
  | none =>
    rw [e] at h
    dsimp only at h
    cases e2 : Nat.blt a n0 with
    | true => rw [e2] at h; cases h
    | false =>
      rw [e2] at h; cases h
      have ha : n0 ≤ a := by
        rcases Nat.lt_or_ge a n0 with h1 | h1
        · have : Nat.blt a n0 = true := by simpa using h1
          rw [this] at e2; cases e2
        · exact h1
      cases e3 : nback ρ (a - n0 + n) with
      | some d => have := hF.hi d _ ((hF.iff _ _).2 e3); omega
      | none =>
        dsimp only
        rw [if_neg (by omega)]
        congr 1; omega
theorem outer_old (hF : FOK n0 n ρ) {b : Nat} (h : nback ρ b = none) (hb : b < n) : (c.outer c0 ρ n0 n).m b = c.m b := by
  show (match nback ρ b with | some a => c0.m a | none => if b < n then c.m b else c0.m (b - n + n0)) = _
  rw [h]; exact if_pos hb

/-- Where a name of the caller's comes from. -/
theorem outer_cases (hF : FOK n0 n ρ) (b : Nat) : (∃ a, rn ρ n0 n a = some b ∧ (c.outer c0 ρ n0 n).m b = c0.m a) ∨ (nback ρ b = none ∧ b < n ∧ (c.outer c0 ρ n0 n).m b = c.m b) := by
  cases e : nback ρ b with
  | some a => exact .inl ⟨a, rn_dom ((hF.iff a b).2 e), outer_rn hF (rn_dom ((hF.iff a b).2 e))⟩
  | none =>
    rcases Nat.lt_or_ge b n with h | h
    · exact .inr ⟨rfl, h, outer_old hF e h⟩
    · left
      have hr : rn ρ n0 n (b - n + n0) = some b := by
        unfold rn
        cases e2 : nget ρ (b - n + n0) with
        | some b' => have := hF.lo _ _ e2; omega
        | none =>
          have : Nat.blt (b - n + n0) n0 = false := by
            cases e3 : Nat.blt (b - n + n0) n0 with
            | false => rfl
            | true => have : b - n + n0 < n0 := by simpa using e3
                      omega
          rw [this]
          show some (b - n + n0 - n0 + n) = some b
          congr 1; omega
      exact ⟨_, hr, outer_rn hF hr⟩
theorem rn_inj (hF : FOK n0 n ρ) {a a' b : Nat} (h : rn ρ n0 n a = some b) (h' : rn ρ n0 n a' = some b) : a = a' := by
  have key : ∀ {a}, rn ρ n0 n a = some b → nback ρ b = some a ∨ (nback ρ b = none ∧ n ≤ b ∧ a = b - n + n0) := by
    intro a h
    unfold rn at h
    cases e : nget ρ a with
    | some b' => rw [e] at h; cases h; exact .inl ((hF.iff a b).1 e)
    | none =>
      rw [e] at h
      dsimp only at h
      cases e2 : Nat.blt a n0 with
      | true => rw [e2] at h; cases h
      | false =>
        rw [e2] at h; cases h
        have ha : n0 ≤ a := by
          rcases Nat.lt_or_ge a n0 with h1 | h1
          · have : Nat.blt a n0 = true := by simpa using h1
            rw [this] at e2; cases e2
          · exact h1
        right
        refine ⟨?_, by omega, by omega⟩
        cases e3 : nback ρ (a - n0 + n) with
        | some d => have := hF.hi d _ ((hF.iff _ _).2 e3); omega
        | none => rfl
  rcases key h with h1 | ⟨h1, h2, h3⟩ <;> rcases key h' with k1 | ⟨k1, k2, k3⟩
  · rw [h1] at k1; cases k1; rfl
  · rw [h1] at k1; cases k1
  · rw [h1] at k1; cases k1
  · omega
theorem rn_lt (hF : FOK n0 n ρ) {a b N : Nat} (h : rn ρ n0 n a = some b) (ha : a < N) : b < n + (N - n0) := by
  unfold rn at h
  cases e : nget ρ a with
  | some b' => rw [e] at h; cases h; have := hF.hi _ _ e; omega
  | none =>
    rw [e] at h
    dsimp only at h
    cases e2 : Nat.blt a n0 with
    | true => rw [e2] at h; cases h
    | false =>
      rw [e2] at h; cases h
      have ha : n0 ≤ a := by
        rcases Nat.lt_or_ge a n0 with h1 | h1
        · have : Nat.blt a n0 = true := by simpa using h1
          rw [this] at e2; cases e2
        · exact h1
      omega
theorem hget_happ : ∀ (x y : LH) (b : Nat), hget (happ x y) b = match hget x b with | some B => some B | none => hget y b
  | [], y, b => rfl
  | (a, A) :: x, y, b => by
    rw [happ, hget_cons, hget_cons, hget_happ x y b]
    by_cases e : a = b
    · rw [if_pos e, if_pos e]
    · rw [if_neg e, if_neg e]
theorem hget_renH (hF : FOK n0 n ρ) : ∀ (l : LH) (b : Nat) (B : LB), hget (renH ρ n0 n l) b = some B → ∃ a A, rn ρ n0 n a = some b ∧ hget l a = some A ∧ B = renB ρ n0 n A
  | [], b, B, h => by cases h
  | (a, A) :: l, b, B, h => by
    rw [renH] at h
    have tail : hget (renH ρ n0 n l) b = some B → rn ρ n0 n a ≠ some b → ∃ a' A', rn ρ n0 n a' = some b ∧ hget ((a, A) :: l) a' = some A' ∧ B = renB ρ n0 n A' := by
      intro h1 h2
      obtain ⟨a', A', k1, k2, k3⟩ := hget_renH hF l b B h1
      refine ⟨a', A', k1, ?_, k3⟩
      rw [hget_cons, if_neg (by rintro rfl; exact h2 k1)]; exact k2
    cases e : rn ρ n0 n a with
    | none => rw [e] at h; exact tail h (by rw [e]; intro h; cases h)
    | some b' =>
      rw [e] at h
      dsimp only at h
      rw [hget_cons] at h
      by_cases e2 : b' = b
      · rw [if_pos e2] at h; cases h
        exact ⟨a, A, by rw [e, e2], by rw [hget_cons, if_pos rfl], rfl⟩
      · rw [if_neg e2] at h
        exact tail h (by rw [e]; intro h; cases h; exact e2 rfl)
theorem hget_hdels : ∀ (ρ : List (Nat × Nat)) (h : LH) (b : Nat) (B : LB), hget (hdels ρ h) b = some B → nback ρ b = none ∧ hget h b = some B
  | [], h, b, B, hb => ⟨rfl, hb⟩
  | (x, y) :: ρ, h, b, B, hb => by
    rw [hdels, hget_del] at hb
    split at hb
    · cases hb
    · rename_i e
      obtain ⟨h1, h2⟩ := hget_hdels ρ h b B hb
      exact ⟨by rw [nback_cons, if_neg (fun h => e h.symm)]; exact h1, h2⟩

variable {h : LH}
theorem outer_mut (hF : FOK n0 n ρ) (hr : HR c w h) (hN : c.N = n) (he : Ext (c.inner ρ n0) w c0 w') (hn0 : n0 ≤ c0.N) (r : Nat) : (c.outer c0 ρ n0 n).mut r ↔ c0.mut r := by
  have hX : c0.X = (c.inner ρ n0).X := he.X
  constructor
  · rintro (h1 | ⟨b, hb⟩)
    · exact .inl (by rw [hX]; exact .inl h1)
    · rcases outer_cases (c := c) (c0 := c0) hF b with ⟨a, h1, h2⟩ | ⟨h1, h2, h3⟩
      · exact .inr ⟨a, by rw [← h2]; exact hb⟩
      · rw [h3] at hb
        have hnf : ¬ foot c ρ r := by
          rintro ⟨a', b', k1, k2⟩
          have := hr.inj b b' r hb k2
          subst this
          rw [(hF.iff a' b).1 k1] at h1; cases h1
        exact .inl (by rw [hX]; exact .inr ⟨⟨b, hb⟩, hnf⟩)
  · rintro (h1 | ⟨a, ha⟩)
    · rw [hX] at h1
      rcases h1 with h1 | ⟨⟨b, hb⟩, h2⟩
      · exact .inl h1
      · have hnb : nback ρ b = none := by
          cases e : nback ρ b with
          | none => rfl
          | some a => exact (h2 ⟨a, b, (hF.iff a b).2 e, hb⟩).elim
        exact .inr ⟨b, (outer_old hF hnb (by have := live_lt hr.fresh hb; omega)).trans hb⟩
    · have hex : ∃ b, rn ρ n0 n a = some b := by
        rcases Nat.lt_or_ge a n0 with h1 | h1
        · rcases he.old a h1 with e | e
          · have e2 : (c.inner ρ n0).m a = some (some r) := e ▸ ha
            have e2 : (match nget ρ a with | some b' => c.m b' | none => none) = some (some r) := e2
            cases e3 : nget ρ a with
            | some b => exact ⟨b, rn_dom e3⟩
            | none => rw [e3] at e2; cases e2
          · rw [e] at ha; cases ha
        · unfold rn
          cases e3 : nget ρ a with
          | some b => exact ⟨b, rfl⟩
          | none =>
            have : Nat.blt a n0 = false := by
              cases e4 : Nat.blt a n0 with
              | false => rfl
              | true => have : a < n0 := by simpa using e4
                        omega
            rw [this]; exact ⟨_, rfl⟩
      obtain ⟨b, hb⟩ := hex
      exact .inr ⟨b, (outer_rn hF hb).trans ha⟩
theorem LR.outof (hF : FOK n0 n ρ) (hr : HR c w h) (hN : c.N = n) (he : Ext (c.inner ρ n0) w c0 w') (hn0 : n0 ≤ c0.N) {u : LV} {x : Value} (hu : LR c0 w' u x) : LR (c.outer c0 ρ n0 n) w' (renV ρ n0 n u) x := by
  have lists : ∀ {l : List LV} {xs : Array Value}, l.length = xs.size → (∀ (j : Nat) (u : LV), l[j]? = some u → LR (c.outer c0 ρ n0 n) w' (renV ρ n0 n u) (xs.getD j Go.undef)) → (renVs ρ n0 n l).length = xs.size ∧ ∀ (j : Nat) (u : LV), (renVs ρ n0 n l)[j]? = some u → LR (c.outer c0 ρ n0 n) w' u (xs.getD j Go.undef) := by
    intro l xs h1 h2
    refine ⟨by rw [renVs_length]; exact h1, fun j u hu => ?_⟩
    rw [renVs_get] at hu
    cases e : l[j]? with
    | none => rw [e] at hu; cases hu
    | some v => rw [e] at hu; cases hu; exact h2 j v e
  induction hu with
  | p v x hv => exact .p _ _ (hv.congr fun r => (outer_mut hF hr hN he hn0 r).symm)
  | ptr b o r k hm ho =>
    rw [renV]
    cases e : rn ρ n0 n b with
    | none => exact .undef _
    | some b' => exact .ptr _ _ r k ((outer_rn hF e).trans hm) ho
  | goneP b o a hm hb =>
    rw [renV]
    cases e : rn ρ n0 n b with
    | none => exact .undef _
    | some b' => exact .goneP _ _ a ((outer_rn hF e).trans hm) (rn_lt hF e hb)
  | sl b e sz o n r j k cp tot hm ho hn hk hc hs ht =>
    rw [renV]
    cases e : rn ρ n0 _ b with
    | none => exact .undef _
    | some b' => exact .sl _ _ _ _ _ r j k cp tot ((outer_rn hF e).trans hm) ho hn hk hc hs ht
  | slv b e sz o n hm ho hn =>
    rw [renV]
    cases e : rn ρ n0 _ b with
    | none => exact .undef _
    | some b' => exact .slv _ _ _ _ _ ((outer_rn hF e).trans hm) ho hn
  | goneS b e sz o n a k cp hm hb =>
    rw [renV]
    cases e : rn ρ n0 _ b with
    | none => exact .undef _
    | some b' => exact .goneS _ _ _ _ _ a k cp ((outer_rn hF e).trans hm) (rn_lt hF e hb)
  | agg l x hl hrel ih => rw [renV]; obtain ⟨h1, h2⟩ := lists hl ih; exact .agg _ _ h1 h2
  | tup l x hl hrel ih => rw [renV]; obtain ⟨h1, h2⟩ := lists hl ih; exact .tup _ _ h1 h2
  | iface t v x hv ih => rw [renV]; exact .iface _ _ _ ih
  | fn f l x hl hrel ih => rw [renV]; obtain ⟨h1, h2⟩ := lists hl ih; exact .fn _ _ _ h1 h2
  | nul => rw [renV]; exact .nul
  | undef x => rw [renV]; exact .undef _

theorem BR.outof (hF : FOK n0 n ρ) (hr : HR c w h) (hN : c.N = n) (he : Ext (c.inner ρ n0) w c0 w') (hn0 : n0 ≤ c0.N) {B : LB} {m : Option Nat} (hB : BR c0 w' B m) : BR (c.outer c0 ρ n0 n) w' (renB ρ n0 n B) m := by
  cases B with
  | pure sy l =>
    cases m with
    | none => exact hB
    | some r =>
      obtain ⟨cur, ty, h1, h2, h3⟩ := hB
      exact ⟨cur, ty, h1, h2, fun j u hu => (h3 j u hu).congr fun r => (outer_mut hF hr hN he hn0 r).symm⟩
  | mix l =>
    cases m with
    | none => have : l = [] := hB; subst this; rfl
    | some r =>
      obtain ⟨cur, ty, h1, h2, h3⟩ := hB
      refine ⟨cur, ty, h1, by rw [renVs_length]; exact h2, fun j u hu => ?_⟩
      rw [renVs_get] at hu
      cases e : l[j]? with
      | none => rw [e] at hu; cases hu
      | some v => rw [e] at hu; cases hu; exact (h3 j v e).outof hF hr hN he hn0
  | iter s p => cases m <;> exact hB
  | bld t l =>
    cases m with
    | none => exact hB
    | some r =>
      obtain ⟨cur, h1, h2, h0, h3⟩ := hB
      refine ⟨cur, h1, by rw [renVs_length]; exact h2, h0, fun j u hu => ?_⟩
      rw [renVs_get] at hu
      cases e : l[j]? with
      | none => rw [e] at hu; cases hu
      | some v => rw [e] at hu; cases hu; exact (h3 j v e).outof hF hr hN he hn0
  | fix g o =>
    cases m with
    | some r => exact hB
    | none => exact ⟨hB.1, fun h => hB.2 ((outer_mut hF hr hN he hn0 g).1 h)⟩
theorem hmapOk_get : ∀ {h0 : LH}, hmapOk ρ n0 n h h0 → ∀ a A, hget h0 a = some A → ∃ b, nget ρ a = some b ∧ hget h b = some (renB ρ n0 n A) ∧ okB ρ A = true
  | [], _, a, A, ha => by cases ha
  | (d, D) :: h0, hm, a, A, ha => by
    rw [hget_cons] at ha
    by_cases e : d = a
    · rw [if_pos e] at ha; cases ha
      subst e
      have h1 := hm.1
      cases e2 : nget ρ d with
      | none => rw [e2] at h1; exact h1.elim
      | some b => rw [e2] at h1; exact ⟨b, rfl, h1, hm.2.1⟩
    · rw [if_neg e] at ha; exact hmapOk_get hm.2.2 a A ha

/-- THE FRAME: what a call does to the blocks that it is told of, it does under any other names, with whatever else there is. -/
theorem callF_frame {P : Unit → Program} {f : Nat} {args0 args : List LV} {h0 : LH} {K0 K : LV → LH → Nat → Prop} (hc : CallF P f args0 h0 n0 K0) (ρ : List (Nat × Nat)) (hF : fok n0 n ρ = true) (hm : hmapOk ρ n0 n h h0) (ha : args = renVs ρ n0 n args0) (hok : okVs ρ args0 = true)
    (hK : ∀ r h' n', K0 r h' n' → K (renV ρ n0 n r) (frameH ρ n0 n h h') (n + (n' - n0))) : CallF P f args h n K := by
  subst ha
  have hF := fok_ok hF
  cases hc with
  | mk h1 h2 =>
    refine .mk h1 fun c w xs hr hN hl hrel => ?_
    have hri : HR (c.inner ρ n0) w h0 := by
      refine ⟨fun a A ha => ?_, fun a ha => ?_, fun a a' r e1 e2 => ?_, fun a r e1 hx => ?_, fun r hx => ?_, fun a r e1 => ?_⟩
      · obtain ⟨b, k1, k2, k3⟩ := hmapOk_get hm a A ha
        obtain ⟨m, k4, k5⟩ := hr.live b _ k2
        refine ⟨m, (inner_m k1).trans k4, ?_⟩
        cases A with
        | pure sy l =>
          cases m with
          | none => exact k5
          | some r => obtain ⟨cur, ty, g1, g2, g3⟩ := k5; exact ⟨cur, ty, g1, g2, fun j u hu => (g3 j u hu).congr fun r => (inner_mut r).symm⟩
        | mix l =>
          cases m with
          | none =>
            have : renVs ρ n0 n l = [] := k5
            cases l with
            | nil => rfl
            | cons x l => cases this
          | some r =>
            obtain ⟨cur, ty, g1, g2, g3⟩ := k5
            rw [renVs_length] at g2
            exact ⟨cur, ty, g1, g2, fun j u hu => (g3 j (renV ρ n0 n u) (by rw [renVs_get, hu]; rfl)).into hF rfl (okVs_mem k3 u (List.mem_of_getElem? hu))⟩
        | iter s p => cases m <;> exact k5
        | bld t l =>
          cases m with
          | none => exact k5
          | some r =>
            obtain ⟨cur, g1, g2, g0, g3⟩ := k5
            rw [renVs_length] at g2
            exact ⟨cur, g1, g2, g0, fun j u hu => (g3 j (renV ρ n0 n u) (by rw [renVs_get, hu]; rfl)).into hF rfl (okVs_mem k3 u (List.mem_of_getElem? hu))⟩
        | fix g o =>
          cases m with
          | some r => exact k5
          | none => exact ⟨k5.1, fun h => k5.2 ((inner_mut g).1 h)⟩
      · have ha : n0 ≤ a := ha
        show (match nget ρ a with | some b' => c.m b' | none => none) = none
        cases e : nget ρ a with
        | none => rfl
        | some b => have := hF.lo a b e; omega
      · obtain ⟨b, hb⟩ : ∃ b, nget ρ a = some b := by
          have e1 : (match nget ρ a with | some b' => c.m b' | none => none) = some (some r) := e1
          cases e : nget ρ a with
          | none => rw [e] at e1; cases e1
          | some b => exact ⟨b, rfl⟩
        obtain ⟨b', hb'⟩ : ∃ b, nget ρ a' = some b := by
          have e2 : (match nget ρ a' with | some b' => c.m b' | none => none) = some (some r) := e2
          cases e : nget ρ a' with
          | none => rw [e] at e2; cases e2
          | some b => exact ⟨b, rfl⟩
        rw [inner_m hb] at e1
        rw [inner_m hb'] at e2
        have := hr.inj b b' r e1 e2
        subst this
        have k1 := (hF.iff a b).1 hb
        rw [(hF.iff a' b).1 hb'] at k1
        cases k1; rfl
      · obtain ⟨a', b, k1, k2⟩ := (inner_own r).1 ⟨a, e1⟩
        rcases hx with hx | ⟨_, hx⟩
        · exact hr.noX b r k2 hx
        · exact hx ⟨a', b, k1, k2⟩
      · rcases hx with hx | ⟨⟨b, hb⟩, _⟩
        · exact hr.ltX r hx
        · exact hr.lt b r hb
      · obtain ⟨a', b, k1, k2⟩ := (inner_own r).1 ⟨a, e1⟩
        exact hr.lt b r k2
    rw [renVs_length] at hl
    refine (h2 (c.inner ρ n0) w xs hri rfl hl (fun i u hu => (hrel i (renV ρ n0 n u) (by rw [renVs_get, hu]; rfl)).into hF rfl (okVs_mem hok u (List.mem_of_getElem? hu)))).mono fun e w' hh => ?_
    obtain ⟨c0, r, v, h0', n0', rfl, hKr, hr0, hn0', hv, he⟩ := hh
    have hn0 : n0 ≤ c0.N := he.N
    have hmut := outer_mut hF hr hN he hn0
    -- what the caller has besides
    have frame : ∀ b r, nback ρ b = none → c.m b = some (some r) → w'.heap[r]? = w.heap[r]? ∧ c0.X r := by
      intro b r k1 k2
      have hnf : ¬ foot c ρ r := by
        rintro ⟨a', b', k3, k4⟩
        have := hr.inj b b' r k2 k4
        subst this
        rw [(hF.iff a' b).1 k3] at k1; cases k1
      refine ⟨he.same r (hr.lt b r k2) (fun h => hnf ((inner_own r).1 h)), ?_⟩
      rw [he.X]
      exact .inr ⟨⟨b, k2⟩, hnf⟩
    have hext : Ext c w (c.outer c0 ρ n0 n) w' := by
      refine ⟨he.os, he.tape, he.output, he.size, rfl, by show c.N ≤ n + (c0.N - n0); omega, fun b hb => ?_, fun b r hb hbm => ?_, fun r hlt hno => he.same r hlt fun h => hno ?_, fun b r hb hbm => ?_⟩
      · cases e : nback ρ b with
        | none => exact .inl (outer_old hF e (by omega))
        | some a =>
          have k1 := (hF.iff a b).2 e
          rw [outer_rn hF (rn_dom k1)]
          rcases he.old a (hF.lo a b k1) with k2 | k2
          · exact .inl (k2.trans (inner_m k1))
          · exact .inr k2
      · rcases outer_cases (c := c) (c0 := c0) hF b with ⟨a, k1, k2⟩ | ⟨k1, k2, k3⟩
        · rw [k2] at hbm
          rcases Nat.lt_or_ge a n0 with k4 | k4
          · rcases he.old a k4 with e | e
            · rw [e] at hbm
              obtain ⟨a', b', g1, g2⟩ := (inner_own r).1 ⟨a, hbm⟩
              exact .inr ⟨b', g2⟩
            · rw [e] at hbm; cases hbm
          · rcases he.new a r k4 hbm with g | g
            · exact .inl g
            · obtain ⟨a', b', g1, g2⟩ := (inner_own r).1 g
              exact .inr ⟨b', g2⟩
        · omega
      · obtain ⟨a', b', g1, g2⟩ := (inner_own r).1 h
        exact ⟨b', g2⟩
      · cases e : nback ρ b with
        | none =>
          rw [outer_old hF e (by omega)] at hbm
          simp only [World.shape?, (frame b r e hbm).1]
        | some a =>
          have k1 := (hF.iff a b).2 e
          rw [outer_rn hF (rn_dom k1)] at hbm
          exact he.shape a r (hF.lo a b k1) hbm
    refine ⟨c.outer c0 ρ n0 n, _, v, _, _, rfl, hK r h0' n0' hKr, ⟨fun b B hb => ?_, fun b hb => ?_, fun b b' r e1 e2 => ?_, fun b r e1 hx => ?_, fun r hx => ?_, fun b r e1 => ?_⟩, by show n + (c0.N - n0) = _; rw [hn0'], hv.outof hF hr hN he hn0, hext⟩
    · rw [frameH, hget_happ] at hb
      cases e : hget (renH ρ n0 n h0') b with
      | some B' =>
        rw [e] at hb; cases hb
        obtain ⟨a, A, k1, k2, rfl⟩ := hget_renH hF h0' b _ e
        obtain ⟨m, k3, k4⟩ := hr0.live a A k2
        exact ⟨m, (outer_rn hF k1).trans k3, k4.outof hF hr hN he hn0⟩
      | none =>
        rw [e] at hb
        obtain ⟨k1, k2⟩ := hget_hdels ρ h b B hb
        obtain ⟨m, k3, k4⟩ := hr.live b B k2
        exact ⟨m, (outer_old hF k1 (by have := live_lt hr.fresh k3; omega)).trans k3, k4.ext hr.fresh hext fun r hmr => (frame b r k1 (by rw [k3, hmr])).1⟩
    · have hb : n + (c0.N - n0) ≤ b := hb
      rcases outer_cases (c := c) (c0 := c0) hF b with ⟨a, k1, k2⟩ | ⟨k1, k2, k3⟩
      · rw [k2]
        refine hr0.fresh a ?_
        rcases Nat.lt_or_ge a c0.N with g | g
        · have := rn_lt hF k1 g; omega
        · exact g
      · omega
    · rcases outer_cases (c := c) (c0 := c0) hF b with ⟨a, k1, k2⟩ | ⟨k1, k2, k3⟩ <;> rcases outer_cases (c := c) (c0 := c0) hF b' with ⟨a', g1, g2⟩ | ⟨g1, g2, g3⟩
      · rw [k2] at e1; rw [g2] at e2
        have := hr0.inj a a' r e1 e2
        subst this
        rw [k1] at g1; cases g1; rfl
      · rw [k2] at e1; rw [g3] at e2
        exact absurd (frame b' r g1 e2).2 (hr0.noX a r e1)
      · rw [k3] at e1; rw [g2] at e2
        exact absurd (frame b r k1 e1).2 (hr0.noX a' r e2)
      · rw [k3] at e1; rw [g3] at e2
        exact hr.inj b b' r e1 e2
    · have hx : c.X r := hx
      rcases outer_cases (c := c) (c0 := c0) hF b with ⟨a, k1, k2⟩ | ⟨k1, k2, k3⟩
      · rw [k2] at e1
        exact hr0.noX a r e1 (by rw [he.X]; exact .inl hx)
      · rw [k3] at e1
        exact hr.noX b r e1 hx
    · exact Nat.lt_of_lt_of_le (hr.ltX r hx) he.size
    · rcases outer_cases (c := c) (c0 := c0) hF b with ⟨a, k1, k2⟩ | ⟨k1, k2, k3⟩
      · rw [k2] at e1; exact hr0.lt a r e1
      · rw [k3] at e1; exact Nat.lt_of_lt_of_le (hr.lt b r e1) he.size
end
end Go.LX
