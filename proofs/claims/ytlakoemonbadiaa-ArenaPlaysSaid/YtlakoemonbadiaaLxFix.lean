/-
  Blocks that are as they were laid for ever: what is lent beside them; laws that begin with them.
-/
import Derived.Test.YtlakoemonbadiaaLxDrawn
namespace Go.LX
open Go
set_option linter.unusedVariables false

def isFix : LB → Bool
  | .fix _ _ => true
  | _ => false
def flatN (n0 : Nat) : LH → Prop
  | [] => True
  | (b, B) :: l => (match Nat.blt b n0 with
    | true => True
    | false => flatB B) ∧ flatN n0 l
/-- What the names of a call stand for: laid blocks, each the caller's. -/
def fixOn (h : LH) : LH → List (Nat × Nat) → Prop
  | _, [] => True
  | h0, (a, b) :: ρ => (match hget h0 a, hget h b with
    | some (.fix g o), some (.fix g' o') => g = g' ∧ o = o'
    | _, _ => False) ∧ fixOn h h0 ρ
def allFix (ρ : List (Nat × Nat)) : LH → Bool
  | [] => true
  | (a, B) :: l => isFix B && (nget ρ a).isSome && allFix ρ l
section
variable {c c0 : Ctx} {w w' : World} {n n0 : Nat} {h h0 : LH} {ρ : List (Nat × Nat)}
theorem fixOn_get : ∀ {ρ : List (Nat × Nat)}, fixOn h h0 ρ → ∀ a b, nget ρ a = some b → ∃ g o, hget h0 a = some (.fix g o) ∧ hget h b = some (.fix g o)
  | [], _, a, b, e => by simp [nget] at e
  | (x, y) :: ρ, hf, a, b, e => by
    rw [nget_cons] at e
    by_cases e1 : x = a
    · rw [if_pos e1] at e; cases e
      subst e1
      have h1 := hf.1
      split at h1
      · rename_i g o g' o' e2 e3
        obtain ⟨rfl, rfl⟩ := h1
        exact ⟨g, o, e2, e3⟩
      · exact h1.elim
    · rw [if_neg e1] at e; exact fixOn_get hf.2 a b e
theorem allFix_get : ∀ {l : LH}, allFix ρ l = true → ∀ a A, hget l a = some A → (∃ b, nget ρ a = some b) ∧ isFix A = true
  | [], _, a, A, e => by cases e
  | (x, B) :: l, hf, a, A, e => by
    simp only [allFix, Bool.and_eq_true] at hf
    rw [hget_cons] at e
    by_cases e1 : x = a
    · rw [if_pos e1] at e; cases e
      subst e1
      exact ⟨Option.isSome_iff_exists.1 hf.1.2, hf.1.1⟩
    · rw [if_neg e1] at e; exact allFix_get hf.2 a A e
theorem flatN_get : ∀ {l : LH}, flatN n0 l → ∀ b B, n0 ≤ b → hget l b = some B → flatB B
  | [], _, b, B, _, hb => by cases hb
  | (a, A) :: l, h, b, B, hn, hb => by
    rw [hget_cons] at hb
    by_cases e : a = b
    · rw [if_pos e] at hb; cases hb
      subst e
      have h1 := h.1
      have : Nat.blt a n0 = false := by
        cases e3 : Nat.blt a n0 with
        | false => rfl
        | true => have : a < n0 := by simpa using e3
                  omega
      rw [this] at h1; exact h1
    · rw [if_neg e] at hb; exact flatN_get h.2 b B hn hb
def Ctx.lendF (c : Ctx) (L : List Nat) (ρ : List (Nat × Nat)) (n0 : Nat) : Ctx := { m := fun a => match nget ρ a with | some b => c.m b | none => none, X := fun r => c.mut r ∧ ∀ b ∈ L, c.m b ≠ some (some r), N := n0 }

theorem rn_nil {a b : Nat} (h : rn [] n0 n a = some b) : n0 ≤ a := by
  unfold rn at h
  simp only [nget] at h
  rcases Nat.lt_or_ge a n0 with h1 | h1
  · have : Nat.blt a n0 = true := by simpa using h1
    rw [this] at h; cases h
  · exact h1
/-- THE LOAN, beside laid blocks. -/
theorem callF_lendF {P : Unit → Program} {f : Nat} {args0 args : List LV} {K0 K : LV → LH → Nat → Prop} (hc : CallF P f args0 h0 n0 K0) (ρ : List (Nat × Nat)) (hF : fok n0 n ρ = true) (hfx : fixOn h h0 ρ) (hal : allFix ρ h0 = true) (hle : lends h args args0) (hfl : ∀ r h' n', K0 r h' n' → flatV r ∧ flatN n0 h')
    (hK : ∀ r h' n', K0 r h' n' → K (renV [] n0 n r) (frameH [] n0 n h h') (n + (n' - n0))) : CallF P f args h n K := by
  have hF := fok_ok hF
  have hF0 : FOK n0 n [] := fok_ok rfl
  cases hc with
  | mk h1 h2 =>
    refine .mk h1 fun c w xs hr hN hl hrel => ?_
    obtain ⟨g1, g2⟩ := lends_get hle
    have dom : ∀ a b, nget ρ a = some b → c.m b = some none ∧ ∃ g o, hget h0 a = some (.fix g o) ∧ w.heap[g]? = some (o ()) ∧ ¬ c.mut g := by
      intro a b hab
      obtain ⟨g, o, e1, e2⟩ := fixOn_get hfx a b hab
      obtain ⟨m, e3, e4⟩ := hr.live b _ e2
      cases m with
      | some r => exact e4.elim
      | none => exact ⟨e3, g, o, e1, e4.1, e4.2⟩
    have inm : ∀ {a b}, nget ρ a = some b → (c.lendF (lent h args) ρ n0).m a = some none := by
      intro a b hab
      show (match nget ρ a with | some b => c.m b | none => none) = _
      rw [hab]; exact (dom a b hab).1
    have inm0 : ∀ {a}, nget ρ a = none → (c.lendF (lent h args) ρ n0).m a = none := by
      intro a ha
      show (match nget ρ a with | some b => c.m b | none => none) = _
      rw [ha]
    have inown : ∀ r, ¬ (c.lendF (lent h args) ρ n0).own r := by
      rintro r ⟨a, ha⟩
      cases e : nget ρ a with
      | some b => rw [inm e] at ha; cases ha
      | none => rw [inm0 e] at ha; cases ha
    have inmut : ∀ r, (c.lendF (lent h args) ρ n0).mut r → (c.lend (lent h args)).mut r := by
      rintro r (hx | ho)
      · exact .inl hx
      · exact (inown r ho).elim
    have hri : HR (c.lendF (lent h args) ρ n0) w h0 := by
      refine ⟨fun a A ha => ?_, fun a ha => ?_, fun a a' r e1 e2 => (inown r ⟨a, e1⟩).elim, fun a r e1 => (inown r ⟨a, e1⟩).elim, fun r hx => ?_, fun a r e1 => (inown r ⟨a, e1⟩).elim⟩
      · obtain ⟨⟨b, hb⟩, _⟩ := allFix_get hal a A ha
        obtain ⟨_, g, o, e1, e2, e3⟩ := dom a b hb
        rw [ha] at e1; cases e1
        exact ⟨none, inm hb, e2, fun hm => e3 (lend_mut _ _ (inmut g hm))⟩
      · have ha : n0 ≤ a := ha
        cases e : nget ρ a with
        | none => exact inm0 e
        | some b => have := hF.lo a b e; omega
      · rcases hx.1 with hx | ⟨b, hb⟩
        · exact hr.ltX r hx
        · exact hr.lt b r hb
    refine (h2 (c.lendF (lent h args) ρ n0) w xs hri rfl (g1.symm.trans hl) fun i u hu => ?_).mono fun e w' hh => ?_
    · obtain ⟨v, k1, k2, k3⟩ := g2 i u hu
      have hv := (hrel i v k1).lendL hr _ k2 k3
      have hp : ∃ p, u = .p p := by
        unfold lendV at k2
        split at k2
        · exact ⟨_, rfl⟩
        · exact ⟨_, rfl⟩
        · exact k2.elim
      obtain ⟨p, rfl⟩ := hp
      cases hv with
      | p _ _ hp => exact .p _ _ (hp.anti inmut)
    obtain ⟨c0, r, v, h0', n0', rfl, hKr, hr0, hn0', hv, he⟩ := hh
    obtain ⟨f1, f2⟩ := hfl _ _ _ hKr
    have hn0 : n0 ≤ c0.N := he.N
    have old : ∀ r, r < w.heap.size → w'.heap[r]? = w.heap[r]? := fun r hlt => he.same r hlt (inown r)
    have newr : ∀ a r, c0.m a = some (some r) → w.heap.size ≤ r := fun a r h => by
      rcases Nat.lt_or_ge a n0 with h3 | h3
      · rcases he.old a h3 with e | e
        · exact (inown r ⟨a, e ▸ h⟩).elim
        · rw [e] at h; cases h
      · rcases he.new a r h3 h with g | g
        · exact g
        · exact (inown r g).elim
    have hext : Ext c w (c.outer c0 [] n0 n) w' := by
      refine ⟨he.os, he.tape, he.output, he.size, rfl, by show c.N ≤ n + (c0.N - n0); omega, fun b hb => .inl (outer_old hF0 rfl (by omega)), fun b r hb hbm => ?_, fun r hlt _ => old r hlt, fun b r hb hbm => ?_⟩
      · rcases outer_cases (c := c) (c0 := c0) hF0 b with ⟨a, k1, k2⟩ | ⟨k1, k2, k3⟩
        · rw [k2] at hbm; exact .inl (newr a r hbm)
        · omega
      · rw [outer_old hF0 rfl (by omega)] at hbm
        simp only [World.shape?, old r (hr.lt b r hbm)]
    refine ⟨c.outer c0 [] n0 n, _, v, _, _, rfl, hK r h0' n0' hKr, ⟨fun b B hb => ?_, fun b hb => ?_, fun b b' r e1 e2 => ?_, fun b r e1 hx => ?_, fun r hx => ?_, fun b r e1 => ?_⟩, by show n + (c0.N - n0) = _; rw [hn0'], hv.outofL hF0 f1, hext⟩
    · rw [frameH, hget_happ] at hb
      cases e : hget (renH [] n0 n h0') b with
      | some B' =>
        rw [e] at hb; cases hb
        obtain ⟨a, A, k1, k2, rfl⟩ := hget_renH hF0 h0' b _ e
        obtain ⟨m, k3, k4⟩ := hr0.live a A k2
        exact ⟨m, (outer_rn hF0 k1).trans k3, k4.outofL hF0 (flatN_get f2 a A (rn_nil k1) k2)⟩
      | none =>
        rw [e] at hb
        obtain ⟨m, k3, k4⟩ := hr.live b B hb
        exact ⟨m, (outer_old hF0 rfl (by have := live_lt hr.fresh k3; omega)).trans k3, k4.ext hr.fresh hext fun r hmr => old r (hr.lt b r (by rw [k3, hmr]))⟩
    · have hb : n + (c0.N - n0) ≤ b := hb
      rcases outer_cases (c := c) (c0 := c0) hF0 b with ⟨a, k1, k2⟩ | ⟨k1, k2, k3⟩
      · rw [k2]
        refine hr0.fresh a ?_
        rcases Nat.lt_or_ge a c0.N with g | g
        · have := rn_lt hF0 k1 g; omega
        · exact g
      · omega
    · rcases outer_cases (c := c) (c0 := c0) hF0 b with ⟨a, k1, k2⟩ | ⟨k1, k2, k3⟩ <;> rcases outer_cases (c := c) (c0 := c0) hF0 b' with ⟨a', g1, g2⟩ | ⟨g1, g2, g3⟩
      · rw [k2] at e1; rw [g2] at e2
        have := hr0.inj a a' r e1 e2
        subst this
        rw [k1] at g1; cases g1; rfl
      · rw [k2] at e1; rw [g3] at e2
        have := newr a r e1; have := hr.lt b' r e2; omega
      · rw [k3] at e1; rw [g2] at e2
        have := newr a' r e2; have := hr.lt b r e1; omega
      · rw [k3] at e1; rw [g3] at e2
        exact hr.inj b b' r e1 e2
    · have hx : c.X r := hx
      rcases outer_cases (c := c) (c0 := c0) hF0 b with ⟨a, k1, k2⟩ | ⟨k1, k2, k3⟩
      · rw [k2] at e1
        have := newr a r e1; have := hr.ltX r hx; omega
      · rw [k3] at e1
        exact hr.noX b r e1 hx
    · exact Nat.lt_of_lt_of_le (hr.ltX r hx) he.size
    · rcases outer_cases (c := c) (c0 := c0) hF0 b with ⟨a, k1, k2⟩ | ⟨k1, k2, k3⟩
      · rw [k2] at e1; exact hr0.lt a r e1
      · rw [k3] at e1; exact Nat.lt_of_lt_of_le (hr.lt b r e1) he.size

/-! ### Laws whose world has laid blocks; contracts of the other kind -/
def fixL : Nat → List (Nat × (Unit → Obj)) → LH
  | _, [] => []
  | n, (g, o) :: l => (n, .fix g o) :: fixL (n + 1) l
theorem fixL_get : ∀ (l : List (Nat × (Unit → Obj))) (n b : Nat) (B : LB), hget (fixL n l) b = some B → n ≤ b ∧ b < n + l.length ∧ ∃ g o, (g, o) ∈ l ∧ B = .fix g o
  | [], n, b, B, h => by cases h
  | (g, o) :: l, n, b, B, h => by
    rw [fixL, hget_cons] at h
    by_cases e : n = b
    · rw [if_pos e] at h; cases h
      exact ⟨by omega, by simp; omega, g, o, List.mem_cons_self, rfl⟩
    · rw [if_neg e] at h
      obtain ⟨h1, h2, g', o', h3, h4⟩ := fixL_get l (n + 1) b B h
      exact ⟨by omega, by simp; omega, g', o', List.mem_cons_of_mem _ h3, h4⟩
def Ctx.laid (k : Nat) : Ctx := ⟨fun b => if b < k then some none else none, fun _ => False, k⟩
theorem laid_mut (k r : Nat) : ¬ (Ctx.laid k).mut r := by
  rintro (h | ⟨b, hb⟩)
  · exact h
  · have hb : (if b < k then some none else none) = some (some r) := hb
    split at hb <;> cases hb
theorem law_laid {P : Program} {f : Nat} {args : List LV} {b : Bool} (l : List (Nat × (Unit → Obj))) (h : CallF (fun _ => P) f args (fixL 0 l) l.length fun r _ _ => r = .p (.bool b)) {w : World} {xs : Array Value} (hl : ∀ g o, (g, o) ∈ l → w.heap[g]? = some (o ())) (hx : Rel2 (Ctx.laid l.length) w args xs.toList) :
    Calls P f xs w fun e w' => e = .returned (.bool b) ∧ Go.RowKit.Below w.heap.size w w' := by
  cases h with
  | mk h1 h2 =>
    have hno : ∀ b r, (Ctx.laid l.length).m b ≠ some (some r) := fun b r h => laid_mut l.length r (.inr ⟨b, h⟩)
    refine (h2 (Ctx.laid l.length) w xs ⟨fun b B hb => ?_, fun b hb => ?_, fun b b' r e => (hno b r e).elim, fun b r e => (hno b r e).elim, fun r hx => hx.elim, fun b r e => (hno b r e).elim⟩ rfl hx.getD.1 hx.getD.2).mono fun e w' ⟨c', r, v, h', n', g1, g2, g3, g4, g5, g6⟩ => ?_
    · obtain ⟨_, k1, g, o, k2, rfl⟩ := fixL_get l 0 b B hb
      exact ⟨none, if_pos (by omega), hl g o k2, laid_mut _ g⟩
    · exact if_neg (by have hb : l.length ≤ b := hb; omega)
    · subst g2
      rw [g5.inv_bool] at g1
      refine ⟨g1, ⟨g6.os, g6.tape, g6.output, g6.size, fun k hk => g6.same k hk ?_⟩⟩
      exact fun h => laid_mut l.length k (.inr h)
/-- A contract that is told of the model's values, and turns nothing that is there: of plain arguments, beside laid blocks. -/
theorem callF_calls {P : Program} {f : Nat} {args : List LV} {K : LV → Prop} (hc : callable P f) (H : ∀ (c : Ctx) (w : World) (xs : Array Value), HR c w h → c.N = n → args.length = xs.size → (∀ (i : Nat) (u : LV), args[i]? = some u → LR c w u (xs.getD i Go.undef)) →
    Calls P f xs w fun e w' => ∃ v r, e = .returned v ∧ K r ∧ Go.RowKit.Below w.heap.size w w' ∧ ∀ c', LR c' w' r v) : CallF (fun _ => P) f args h n fun r h' n' => K r ∧ h' = h ∧ n' = n := by
  refine .mk hc fun c w xs hr hN hl hrel => (H c w xs hr hN hl hrel).mono fun e w' ⟨v, r, h1, h2, h3, h4⟩ => ?_
  have he : Ext c w c w' := ⟨h3.os, h3.tape, h3.output, h3.size, rfl, Nat.le_refl _, fun _ _ => .inl rfl, fun b r hb e => (by rw [hr.fresh b hb] at e; cases e), fun r hlt _ => h3.block r hlt, fun b r _ e => by simp only [World.shape?, h3.block r (hr.lt b r e)]⟩
  exact ⟨c, r, v, h, n, h1, ⟨h2, rfl, rfl⟩, hr.step he (.inl rfl) hr.fresh (fun _ => .inl rfl) (fun d C hd => .inl ⟨hd, rfl, fun k hk => h3.block k (hr.lt d k hk)⟩), hN, h4 c, he⟩
end
end Go.LX
