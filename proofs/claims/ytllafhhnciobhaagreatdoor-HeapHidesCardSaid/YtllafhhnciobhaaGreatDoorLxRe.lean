/-
  Other names for the blocks of a state, and less said of it.
-/
import Derived.Test.YtllafhhnciobhaaGreatDoorLxApp
import Derived.Below
namespace Go.LX
open Go

def nget : List (Nat × Nat) → Nat → Option Nat
  | [], _ => none
  | (a, x) :: l, b => match Nat.beq a b with
    | true => some x
    | false => nget l b
def nback : List (Nat × Nat) → Nat → Option Nat
  | [], _ => none
  | (a, x) :: l, b => match Nat.beq x b with
    | true => some a
    | false => nback l b
inductive SEq (s s' : Unit → ByteArray) : Prop
  | mk (h : s () = s' ())
theorem SEq.out {s s' : Unit → ByteArray} (h : SEq s s') : s () = s' () := by cases h with | mk h => exact h
def pvle : PV → PV → Prop
  | _, .undef => True
  | .int k e, .int k' e' => k = k' ∧ e.val = e'.val
  | .bool b, .bool b' => b = b'
  | .str s, .str s' => SEq s s'
  | .nilp, .nilp => True
  | .nils, .nils => True
  | .nils, .vsl n _ _ => n.val = 0
  | .nilif, .nilif => True
  | .nilfn, .nilfn => True
  | .fn f, .fn f' => f = f'
  | .vsl n _ l, .vsl n' _ l' => n.val = n'.val ∧ l = l'
  | .vp _ l o, .vp _ l' o' => l = l' ∧ o.val = o'.val
  | _, _ => False
def pvles : List PV → List PV → Prop
  | [], [] => True
  | x :: l, y :: m => pvle x y ∧ pvles l m
  | _, _ => False
/-- What a block of plain cells holds, with less said of it. -/
def lbl : LB → List PV → Prop
  | .pure _ l, l' => l = l' ∨ pvles l l'
  | _, _ => False
mutual
def lvle (ρ : List (Nat × Nat)) (vs : List Nat) (h : LH) : LV → LV → Prop
  | _, .undef => True
  | .p u, .p u' => pvle u u'
  | .p .nils, .sl b' _ _ o' n' => b' ∈ vs ∧ o'.val = 0 ∧ n'.val = 0
  | .ptr b o, .ptr b' o' => nget ρ b = some b' ∧ o.val = o'.val
  | .sl b e sz o n, .sl b' e' sz' o' n' => nget ρ b = some b' ∧ e = e' ∧ sz = sz' ∧ o.val = o'.val ∧ n.val = n'.val
  | .sl b _ _ o n, .p (.vsl n' _ l') => nget ρ b = none ∧ o.val = 0 ∧ n.val = n'.val ∧ ∃ B, hget h b = some B ∧ lbl B l'
  | .agg l, .agg l' => lvles ρ vs h l l'
  | .tup l, .tup l' => lvles ρ vs h l l'
  | .iface t v, .iface t' v' => t = t' ∧ lvle ρ vs h v v'
  | .fn f l, .fn f' l' => f = f' ∧ lvles ρ vs h l l'
  | .nul, .nul => True
  | _, _ => False
def lvles (ρ : List (Nat × Nat)) (vs : List Nat) (h : LH) : List LV → List LV → Prop
  | [], [] => True
  | x :: l, y :: m => lvle ρ vs h x y ∧ lvles ρ vs h l m
  | _, _ => False
end
def lble (ρ : List (Nat × Nat)) (vs : List Nat) (h : LH) : LB → LB → Prop
  | .pure _ l, .pure _ l' => l = l' ∨ pvles l l'
  | .pure _ l, .mix l' => lvles ρ vs h (pvs l) l'
  | .mix l, .mix l' => lvles ρ vs h l l'
  | .iter s p, .iter s' p' => SEq s s' ∧ p.val = p'.val
  | .fix g o, .fix g' o' => g = g' ∧ o = o'
  | .bld t l, .bld t' l' => t = t' ∧ lvles ρ vs h l l'
  | _, _ => False
/-- Each block of the new names is one of the old, or a slice of nothing. -/
def lhle (ρ : List (Nat × Nat)) (vs : List Nat) (h : LH) : LH → Prop
  | [] => True
  | (b', B') :: l => (match nback ρ b' with
    | some b => match hget h b with
      | some B => lble ρ vs h B B'
      | none => False
    | none => b' ∈ vs ∧ ∃ sy, B' = .pure sy []) ∧ lhle ρ vs h l
/-- The names: each old one below n0 is its own; no two old ones are one new one. -/
def rok (n0 n' : Nat) (vs : List Nat) : List (Nat × Nat) → Bool
  | [] => true
  | (a, b) :: l => (if a < n0 then a == b else decide (n0 ≤ b)) && decide (b < n') && !(vs.contains b) && (nget l a).isNone && (nback l b).isNone && rok n0 n' vs l
def vok (n0 n' : Nat) : List Nat → Bool
  | [] => true
  | b :: l => decide (n0 ≤ b) && decide (b < n') && vok n0 n' l

section
variable {c : Ctx} {w : World}
theorem nget_cons (a x b : Nat) (l : List (Nat × Nat)) : nget ((a, x) :: l) b = if a = b then some x else nget l b := by
  rw [nget]
  by_cases e : a = b
  · subst e; rw [if_pos rfl, Nat.beq_refl]
  · rw [if_neg e, nbeq e]
theorem nback_cons (a x b : Nat) (l : List (Nat × Nat)) : nback ((a, x) :: l) b = if x = b then some a else nback l b := by
  rw [nback]
  by_cases e : x = b
  · subst e; rw [if_pos rfl, Nat.beq_refl]
  · rw [if_neg e, nbeq e]
structure ROK (n0 n' : Nat) (vs : List Nat) (ρ : List (Nat × Nat)) : Prop where
  iff : ∀ a b, nget ρ a = some b ↔ nback ρ b = some a
  low : ∀ a b, nget ρ a = some b → a < n0 → a = b
  high : ∀ a b, nget ρ a = some b → n0 ≤ a → n0 ≤ b
  lt : ∀ a b, nget ρ a = some b → b < n'
  vs : ∀ a b, nget ρ a = some b → b ∉ vs
theorem rok_ok {n0 n' : Nat} {vs : List Nat} : ∀ {ρ : List (Nat × Nat)}, rok n0 n' vs ρ = true → ROK n0 n' vs ρ
  | [], _ => ⟨fun a b => by simp [nget, nback], fun a b h => by simp [nget] at h, fun a b h => by simp [nget] at h, fun a b h => by simp [nget] at h, fun a b h => by simp [nget] at h⟩
  | (x, y) :: ρ, h => by
    simp only [rok, Bool.and_eq_true, Bool.not_eq_true', decide_eq_true_eq, Option.isNone_iff_eq_none] at h
    obtain ⟨⟨⟨⟨⟨h1, h2⟩, h3⟩, h4⟩, h5⟩, h6⟩ := h
    obtain ⟨k1, k2, k3, k4, k5⟩ := rok_ok h6
    have key : ∀ a b, nget ((x, y) :: ρ) a = some b → (a = x ∧ b = y) ∨ nget ρ a = some b := by
      intro a b hab
      rw [nget_cons] at hab
      by_cases e : x = a
      · rw [if_pos e] at hab; cases hab; exact .inl ⟨e.symm, rfl⟩
      · rw [if_neg e] at hab; exact .inr hab
    refine ⟨fun a b => ?_, fun a b hab ha => ?_, fun a b hab ha => ?_, fun a b hab => ?_, fun a b hab => ?_⟩
    · rw [nget_cons, nback_cons]
      by_cases e : x = a
      · subst e
        rw [if_pos rfl]
        by_cases e2 : y = b
        · subst e2; simp
        · rw [if_neg e2]
          constructor
          · intro h; cases h; exact absurd rfl e2
          · intro h; rw [(k1 x b).2 h] at h4; cases h4
      · rw [if_neg e]
        by_cases e2 : y = b
        · subst e2
          rw [if_pos rfl]
          constructor
          · intro h; rw [(k1 a y).1 h] at h5; cases h5
          · intro h; cases h; exact absurd rfl e
        · rw [if_neg e2]; exact k1 a b
    · rcases key a b hab with ⟨rfl, rfl⟩ | h
      · rw [if_pos ha] at h1; simpa using h1
      · exact k2 a b h ha
    · rcases key a b hab with ⟨rfl, rfl⟩ | h
      · rw [if_neg (by omega)] at h1; simpa using h1
      · exact k3 a b h ha
    · rcases key a b hab with ⟨rfl, rfl⟩ | h
      · exact h2
      · exact k4 a b h
    · rcases key a b hab with ⟨rfl, rfl⟩ | h
      · simpa using h3
      · exact k5 a b h
theorem vok_ok {n0 n' : Nat} : ∀ {vs : List Nat}, vok n0 n' vs = true → ∀ b ∈ vs, n0 ≤ b ∧ b < n'
  | [], _, b, hb => by cases hb
  | x :: vs, h, b, hb => by
    simp only [vok, Bool.and_eq_true, decide_eq_true_eq] at h
    rcases List.mem_cons.1 hb with rfl | hb
    · exact h.1
    · exact vok_ok h.2 b hb

/-- The new names. -/
def Ctx.ren (c : Ctx) (ρ : List (Nat × Nat)) (vs : List Nat) (n' : Nat) : Ctx :=
  { m := fun b' => match nback ρ b' with | some b => c.m b | none => if b' ∈ vs then some none else none, X := c.X, N := n' }
variable {ρ : List (Nat × Nat)} {vs : List Nat} {n0 n' : Nat}
theorem ren_m (hρ : ROK n0 n' vs ρ) {a b : Nat} (h : nget ρ a = some b) : (c.ren ρ vs n').m b = c.m a := by
  show (match nback ρ b with | some b => c.m b | none => if b ∈ vs then some none else none) = _
  rw [(hρ.iff a b).1 h]
theorem ren_vs (hρ : ROK n0 n' vs ρ) {b : Nat} (h : b ∈ vs) : (c.ren ρ vs n').m b = some none := by
  show (match nback ρ b with | some b => c.m b | none => if b ∈ vs then some none else none) = _
  cases e : nback ρ b with
  | some a => exact absurd h (hρ.vs a b ((hρ.iff a b).2 e))
  | none => exact if_pos h
theorem ren_own (hρ : ROK n0 n' vs ρ) {b r : Nat} (h : (c.ren ρ vs n').m b = some (some r)) : ∃ a, nget ρ a = some b ∧ c.m a = some (some r) := by
  have h : (match nback ρ b with | some b => c.m b | none => if b ∈ vs then some none else none) = some (some r) := h
  cases e : nback ρ b with
  | some a => rw [e] at h; exact ⟨a, (hρ.iff a b).2 e, h⟩
  | none =>
    rw [e] at h
    dsimp only at h
    split at h <;> cases h
theorem ren_none {b : Nat} (h : nback ρ b = none) (h2 : b ∉ vs) : (c.ren ρ vs n').m b = none := by
  show (match nback ρ b with | some b => c.m b | none => if b ∈ vs then some none else none) = _
  rw [h]; exact if_neg h2
theorem PR.ren (hρ : ROK n0 n' vs ρ) {u : PV} {x : Value} (h : PR c.mut w u x) : PR (c.ren ρ vs n').mut w u x := by
  have hm : ∀ r, ¬ c.mut r → ¬ (c.ren ρ vs n').mut r := by
    rintro r hr (hx | ⟨b, hb⟩)
    · exact hr (.inl hx)
    · obtain ⟨a, _, ha⟩ := ren_own hρ hb
      exact hr (.inr ⟨a, ha⟩)
  induction h with
  | int k e n hn => exact .int k e n hn
  | bool b => exact .bool b
  | str s => exact .str s
  | nilp => exact .nilp
  | nils => exact .nils
  | nilif => exact .nilif
  | nilfn => exact .nilfn
  | fn f => exact .fn f
  | vsl0 n sy l a k h0 hk => exact .vsl0 n sy l a k h0 hk
  | vsl n sy l a k cp f h0 hs hM hlt hk hcp hcell hrel ih => exact .vsl n sy l a k cp f h0 hs (hm _ hM) hlt hk hcp hcell ih
  | vp sy l o a k f h0 hs hM hlt hcell hrel ih => exact .vp sy l o a k f h0 hs (hm _ hM) hlt hcell ih
  | undef x hx => exact .undef x hx
theorem pvle_refl (u : PV) : pvle u u := by cases u <;> first | exact SEq.mk rfl | simp [pvle]
theorem pvles_get : ∀ {l m : List PV}, pvles l m → l.length = m.length ∧ ∀ (j : Nat) (u' : PV), m[j]? = some u' → ∃ u, l[j]? = some u ∧ pvle u u'
  | [], [], _ => ⟨rfl, fun j u' h => by simp at h⟩
  | x :: l, y :: m, hl => by
    obtain ⟨h1, h2⟩ := pvles_get hl.2
    refine ⟨by simp [h1], fun j u' hj => ?_⟩
    cases j with
    | zero => simp at hj; subst hj; exact ⟨x, rfl, hl.1⟩
    | succ j => simp at hj; obtain ⟨u, h3, h4⟩ := h2 j u' hj; exact ⟨u, by simpa using h3, h4⟩
  | [], _ :: _, hl => hl.elim
  | _ :: _, [], hl => hl.elim
theorem PR.le {M : Nat → Prop} {u u' : PV} {x : Value} (h : PR M w u x) (hle : pvle u u') : PR M w u' x := by
  cases u' with
  | undef => exact .undef x h.one
  | int k e =>
    cases h <;> try exact hle.elim
    rename_i hn; obtain ⟨rfl, h2⟩ := hle; exact .int _ _ _ (h2.symm.trans hn)
  | bool b => cases h <;> try exact hle.elim
              have : _ = b := hle; subst this; exact .bool _
  | str s => cases h <;> try exact hle.elim
             rw [SEq.out hle]; exact .str _
  | nilp => cases h <;> first | exact hle.elim | exact .nilp
  | nils => cases h <;> first | exact hle.elim | exact .nils
  | nilif => cases h <;> first | exact hle.elim | exact .nilif
  | nilfn => cases h <;> first | exact hle.elim | exact .nilfn
  | fn f => cases h <;> try exact hle.elim
            have : _ = f := hle; subst this; exact .fn _
  | vsl n sy l =>
    cases h with
    | nils => exact .vsl0 _ _ _ _ _ hle (Nat.zero_le _)
    | vsl0 n1 sy1 l1 a k h0 hk => obtain ⟨h1, rfl⟩ := hle; exact .vsl0 _ _ _ _ _ (h1.symm.trans h0) hk
    | vsl n1 sy1 l1 a k cp f h0 hs hM hlt hk hcp hcell hrel => obtain ⟨h1, rfl⟩ := hle; exact .vsl _ _ _ a k cp f (h1.symm.trans h0) hs hM hlt hk hcp hcell hrel
    | _ => exact hle.elim
  | vp sy l o =>
    cases h with
    | vp sy1 l1 o1 a k f h0 hs hM hlt hcell hrel => obtain ⟨rfl, h1⟩ := hle; exact .vp _ _ _ a k f (h1.symm.trans h0) hs hM hlt hcell hrel
    | _ => exact hle.elim

theorem lvles_get {h : LH} : ∀ {l m : List LV}, lvles ρ vs h l m → l.length = m.length ∧ ∀ (j : Nat) (u' : LV), m[j]? = some u' → ∃ u, l[j]? = some u ∧ lvle ρ vs h u u'
  | [], [], _ => ⟨rfl, fun j u' h => by simp at h⟩
  | x :: l, y :: m, hl => by
    rw [lvles] at hl
    obtain ⟨h1, h2⟩ := lvles_get hl.2
    refine ⟨by simp [h1], fun j u' hj => ?_⟩
    cases j with
    | zero => simp at hj; subst hj; exact ⟨x, rfl, hl.1⟩
    | succ j => simp at hj; obtain ⟨u, h3, h4⟩ := h2 j u' hj; exact ⟨u, by simpa using h3, h4⟩
  | [], _ :: _, hl => by rw [lvles] at hl <;> first | exact hl.elim | (intros; simp_all)
  | _ :: _, [], hl => by rw [lvles] at hl <;> first | exact hl.elim | (intros; simp_all)
theorem LR.ren {h : LH} (hr : HR c w h) (hρ : ROK n0 n' vs ρ) {u : LV} {x : Value} (hu : LR c w u x) : ∀ {u' : LV}, lvle ρ vs h u u' → LR (c.ren ρ vs n') w u' x := by
  induction hu with
  | p v x hv =>
    intro u' hle
    cases u' <;> try (rw [lvle] at hle <;> first | exact hle.elim | (intros; simp_all; done))
    · exact .p _ _ ((hv.ren hρ).le hle)
    · cases v <;> try (rw [lvle] at hle <;> first | exact hle.elim | (intros; simp_all; done))
      rename_i b' e' sz' o' n1
      obtain ⟨h1, h2, h3⟩ := hle
      cases hv
      exact .slv _ _ _ _ _ (ren_vs hρ h1) h2 h3
    · exact .undef _
  | ptr b o r k hm ho =>
    intro u' hle
    cases u' <;> try (rw [lvle] at hle <;> first | exact hle.elim | (intros; simp_all; done))
    · obtain ⟨h1, h2⟩ := hle
      exact .ptr _ _ r k ((ren_m hρ h1).trans hm) (h2.symm.trans ho)
    · exact .undef _
  | goneP b o a hm hb =>
    intro u' hle
    cases u' <;> try (rw [lvle] at hle <;> first | exact hle.elim | (intros; simp_all; done))
    · obtain ⟨h1, h2⟩ := hle
      exact .goneP _ _ a ((ren_m hρ h1).trans hm) (hρ.lt _ _ h1)
    · exact .undef _
  | sl b e sz o n r j k cp tot hm ho hn hk hc hs ht =>
    intro u' hle
    cases u' <;> try (rw [lvle] at hle <;> first | exact hle.elim | (intros; simp_all; done))
    · rename_i v
      cases v <;> try (rw [lvle] at hle <;> first | exact hle.elim | (intros; simp_all; done))
      rename_i n1 sy1 l1
      obtain ⟨h1, h2, h3, B, h4, h5⟩ := hle
      obtain ⟨m, hm', hBR⟩ := hr.live b _ h4
      rw [hm] at hm'; cases hm'
      obtain ⟨l, cur, ty, hg, hl, hrel, hpw⟩ : ∃ (l : List PV) (cur : Array Value) (ty : _), w.heap[r]? = some (.cells cur ty (0, 0)) ∧ l.length ≤ cur.size ∧ (∀ (j : Nat) (u : PV), l[j]? = some u → PR c.mut w u (cur.getD j Go.undef)) ∧ (∀ (j : Nat) (u' : PV), l1[j]? = some u' → ∃ u, l[j]? = some u ∧ pvle u u') := by
        cases B with
        | pure sy l =>
          obtain ⟨cur, ty, hg, hl, hrel⟩ := hBR
          refine ⟨l, cur, ty, hg, hl, hrel, ?_⟩
          rcases h5 with rfl | h5
          · exact fun j u' hu => ⟨u', hu, pvle_refl u'⟩
          · exact (pvles_get h5).2
        | mix l => exact h5.elim
        | iter s p => exact h5.elim
        | fix g o => exact h5.elim
        | bld t l => exact h5.elim
      have hj : j = 0 := by rw [h2] at ho; omega
      subst hj
      rcases Nat.eq_zero_or_pos k with h0 | h0
      · subst h0
        exact .p _ _ (.vsl0 _ _ _ _ _ (by rw [← h3, hn]; rfl) hc)
      · refine .p _ _ (.vsl _ _ _ ⟨r, 0, none⟩ k cp (fun j => cur.getD j Go.undef) (h3.symm.trans hn) rfl ?_ (hr.lt b r hm) hk hc (fun j u hu => ?_) (fun j u hu => let ⟨v, h6, h7⟩ := hpw j u hu; ((hrel j v h6).ren hρ).le h7))
        · rintro (hx | ⟨b2, hb2⟩)
          · exact hr.noX b r hm hx
          · obtain ⟨a, ha, ha2⟩ := ren_own hρ hb2
            have := hr.inj a b r ha2 hm
            rw [this, h1] at ha; cases ha
        · obtain ⟨v, hu, _⟩ := hpw j u hu
          have hj := (List.getElem?_eq_some_iff.1 hu).1
          have := cells_at (w := w) (n := 0) hg cur.size (by omega) j (cur.getD j Go.undef) ?_
          · exact this
          · simp only [List.drop_zero, Array.getD_eq_getD_getElem?]
            have hc' : cur[j]? = some (cur[j]'(by omega)) := Array.getElem?_eq_getElem (by omega)
            rw [hc', List.getElem?_take, if_pos (by omega)]
            simp
    · obtain ⟨h1, rfl, rfl, h2, h3⟩ := hle
      exact .sl _ _ _ _ _ r j k cp tot ((ren_m hρ h1).trans hm) (h2.symm.trans ho) (h3.symm.trans hn) hk hc hs ht
    · exact .undef _
  | slv b e sz o n hm ho hn =>
    intro u' hle
    cases u' <;> try (rw [lvle] at hle <;> first | exact hle.elim | (intros; simp_all; done))
    · rename_i v
      cases v <;> try (rw [lvle] at hle <;> first | exact hle.elim | (intros; simp_all; done))
      obtain ⟨h1, h2, h3, B, h4, h5⟩ := hle
      exact .p _ _ (.vsl0 _ _ _ _ _ (by rw [← h3, hn]) (Nat.zero_le _))
    · obtain ⟨h1, rfl, rfl, h2, h3⟩ := hle
      exact .slv _ _ _ _ _ ((ren_m hρ h1).trans hm) (h2.symm.trans ho) (h3.symm.trans hn)
    · exact .undef _
  | goneS b e sz o n a k cp hm hb =>
    intro u' hle
    cases u' <;> try (rw [lvle] at hle <;> first | exact hle.elim | (intros; simp_all; done))
    · rename_i v
      cases v <;> try (rw [lvle] at hle <;> first | exact hle.elim | (intros; simp_all; done))
      obtain ⟨h1, h2, h3, B, h4, h5⟩ := hle
      obtain ⟨m, hm', hBR⟩ := hr.live b _ h4
      rw [hm] at hm'; cases hm'
    · obtain ⟨h1, rfl, rfl, h2, h3⟩ := hle
      exact .goneS _ _ _ _ _ a k cp ((ren_m hρ h1).trans hm) (hρ.lt _ _ h1)
    · exact .undef _
  | agg l x hl hrel ih =>
    intro u' hle
    cases u' <;> try (rw [lvle] at hle <;> first | exact hle.elim | (intros; simp_all; done))
    · obtain ⟨h1, h2⟩ := lvles_get hle
      exact .agg _ _ (h1.symm.trans hl) fun j u hu => let ⟨v, h3, h4⟩ := h2 j u hu; ih j v h3 h4
    · exact .undef _
  | tup l x hl hrel ih =>
    intro u' hle
    cases u' <;> try (rw [lvle] at hle <;> first | exact hle.elim | (intros; simp_all; done))
    · obtain ⟨h1, h2⟩ := lvles_get hle
      exact .tup _ _ (h1.symm.trans hl) fun j u hu => let ⟨v, h3, h4⟩ := h2 j u hu; ih j v h3 h4
    · exact .undef _
  | iface t v x hv ih =>
    intro u' hle
    cases u' <;> try (rw [lvle] at hle <;> first | exact hle.elim | (intros; simp_all; done))
    · obtain ⟨rfl, h1⟩ := hle
      exact .iface _ _ _ (ih h1)
    · exact .undef _
  | fn f l x hl hrel ih =>
    intro u' hle
    cases u' <;> try (rw [lvle] at hle <;> first | exact hle.elim | (intros; simp_all; done))
    · obtain ⟨rfl, hle⟩ := hle
      obtain ⟨h1, h2⟩ := lvles_get hle
      exact .fn _ _ _ (h1.symm.trans hl) fun j u hu => let ⟨v, h3, h4⟩ := h2 j u hu; ih j v h3 h4
    · exact .undef _
  | nul =>
    intro u' hle
    cases u' <;> try (rw [lvle] at hle <;> first | exact hle.elim | (intros; simp_all; done))
    · exact .nul
    · exact .undef _
  | undef x =>
    intro u' hle
    cases u' <;> try (rw [lvle] at hle <;> first | exact hle.elim | (intros; simp_all; done))
    · exact .undef _

theorem lhle_get {h : LH} : ∀ {h' : LH}, lhle ρ vs h h' → ∀ b' B', hget h' b' = some B' → (∃ b B, nback ρ b' = some b ∧ hget h b = some B ∧ lble ρ vs h B B') ∨ (nback ρ b' = none ∧ b' ∈ vs ∧ ∃ sy, B' = .pure sy [])
  | [], _, b', B', hb => by cases hb
  | (d, D) :: h', hl, b', B', hb => by
    rw [hget_cons] at hb
    by_cases e : d = b'
    · rw [if_pos e] at hb; cases hb
      subst e
      have h1 := hl.1
      cases e2 : nback ρ d with
      | some b =>
        rw [e2] at h1
        dsimp only at h1
        cases e3 : hget h b with
        | some B => rw [e3] at h1; exact .inl ⟨b, B, rfl, e3, h1⟩
        | none => rw [e3] at h1; exact h1.elim
      | none => rw [e2] at h1; exact .inr ⟨rfl, h1⟩
    · rw [if_neg e] at hb; exact lhle_get hl.2 b' B' hb

theorem Re.of {s s' : LS} (ρ : List (Nat × Nat)) (vs : List Nat) (hn : n0 ≤ s'.n) (hρ : rok n0 s'.n vs ρ = true) (hv : vok n0 s'.n vs = true) (ht : lvles ρ vs s.h s.t s'.t) (hh : lhle ρ vs s.h s'.h) : Re n0 s s' := by
  refine ⟨fun c0 w0 c a w hc0 he hs => ?_⟩
  have hρ := rok_ok hρ
  have hv := vok_ok hv
  refine ⟨c.ren ρ vs s'.n, ?_, ?_⟩
  · refine ⟨he.os, he.tape, he.output, he.size, he.X, by rw [hc0]; exact hn, fun b hb => ?_, fun b r hb hm => ?_, he.same, fun b r hb hm => ?_⟩
    · rw [hc0] at hb
      cases e : nback ρ b with
      | some a =>
        have hab := (hρ.iff a b).2 e
        have ha : a < n0 := by
          rcases Nat.lt_or_ge a n0 with h1 | h1
          · exact h1
          · have := hρ.high a b hab h1; omega
        have h2 := hρ.low a b hab ha
        subst h2
        rw [ren_m hρ hab]
        exact he.old a (by omega)
      | none => exact .inr (ren_none e (fun h => by have := (hv b h).1; omega))
    · obtain ⟨a, ha, hm2⟩ := ren_own hρ hm
      refine he.new a r ?_ hm2
      rw [hc0] at hb ⊢
      rcases Nat.lt_or_ge a n0 with h1 | h1
      · have := hρ.low a b ha h1; omega
      · exact h1
    · obtain ⟨a, ha, hm2⟩ := ren_own hρ hm
      rw [hc0] at hb
      have ha' : a < n0 := by
        rcases Nat.lt_or_ge a n0 with h1 | h1
        · exact h1
        · have := hρ.high a b ha h1; omega
      have := hρ.low a b ha ha'
      subst this
      exact he.shape a r (by omega) hm2
  · obtain ⟨htl, htr⟩ := lvles_get ht
    refine ⟨htl.symm.trans hs.tl, fun i u hu => ?_, hs.df, ⟨fun b B hb => ?_, fun b hb => ?_, fun b b' r h1 h2 => ?_, fun b r h1 => ?_, hs.hr.ltX, fun b r h1 => ?_⟩, rfl⟩
    · obtain ⟨v, h1, h2⟩ := htr i u hu
      exact (hs.tr i v h1).ren hs.hr hρ h2
    · rcases lhle_get hh b B hb with ⟨a, A, h1, h2, h3⟩ | ⟨h1, h2, sy, rfl⟩
      · obtain ⟨m, hm, hBR⟩ := hs.hr.live a A h2
        refine ⟨m, (ren_m hρ ((hρ.iff a b).2 h1)).trans hm, ?_⟩
        cases A <;> cases B <;> try exact h3.elim
        · rename_i sy l sy' l'
          have hpw : l.length = l'.length ∧ ∀ (j : Nat) (u' : PV), l'[j]? = some u' → ∃ u, l[j]? = some u ∧ pvle u u' := by
            rcases h3 with rfl | h3
            · exact ⟨rfl, fun j u' hu => ⟨u', hu, by cases u' <;> first | exact SEq.mk rfl | simp [pvle]⟩⟩
            · exact pvles_get h3
          cases m with
          | none =>
            have : l = [] := hBR
            subst this
            exact List.eq_nil_of_length_eq_zero hpw.1.symm
          | some r =>
            obtain ⟨cur, ty, hg, hl, hrel⟩ := hBR
            exact ⟨cur, ty, hg, by omega, fun j u hu => let ⟨v, h4, h5⟩ := hpw.2 j u hu; ((hrel j v h4).ren hρ).le h5⟩
        · rename_i sy l l'
          obtain ⟨hl1, hl2⟩ := lvles_get h3
          rw [pvs_length] at hl1
          cases m with
          | none =>
            have : l = [] := hBR
            subst this
            exact List.eq_nil_of_length_eq_zero hl1.symm
          | some r =>
            obtain ⟨cur, ty, hg, hl, hrel⟩ := hBR
            refine ⟨cur, ty, hg, by omega, fun j u hu => ?_⟩
            obtain ⟨v, h4, h5⟩ := hl2 j u hu
            rw [pvs_get] at h4
            cases e : l[j]? with
            | none => rw [e] at h4; cases h4
            | some pv =>
              rw [e] at h4; cases h4
              exact (LR.p _ _ (hrel j pv e)).ren hs.hr hρ h5
        · rename_i l l'
          obtain ⟨hl1, hl2⟩ := lvles_get h3
          cases m with
          | none =>
            have : l = [] := hBR
            subst this
            exact List.eq_nil_of_length_eq_zero hl1.symm
          | some r =>
            obtain ⟨cur, ty, hg, hl, hrel⟩ := hBR
            exact ⟨cur, ty, hg, by omega, fun j u hu => let ⟨v, h4, h5⟩ := hl2 j u hu; (hrel j v h4).ren hs.hr hρ h5⟩
        · obtain ⟨h3, h4⟩ := h3
          cases m with
          | none => exact hBR.elim
          | some r => obtain ⟨p, h5, h6⟩ := hBR; exact ⟨p, h4.symm.trans h5, by rw [← h3.out]; exact h6⟩
        rotate_left
        · rename_i t l t' l'
          obtain ⟨rfl, h3⟩ := h3
          obtain ⟨hl1, hl2⟩ := lvles_get h3
          cases m with
          | none => exact hBR.elim
          | some r =>
            obtain ⟨cur, hg, hl, h0, hrel⟩ := hBR
            exact ⟨cur, hg, by omega, h0, fun j u hu => let ⟨v, h4, h5⟩ := hl2 j u hu; (hrel j v h4).ren hs.hr hρ h5⟩
        · obtain ⟨rfl, rfl⟩ := h3
          cases m with
          | some r => exact hBR
          | none =>
            refine ⟨hBR.1, fun h => hBR.2 ?_⟩
            rcases h with hx | ⟨b, hb⟩
            · exact .inl hx
            · obtain ⟨a, _, k⟩ := ren_own hρ hb
              exact .inr ⟨a, k⟩
      · exact ⟨none, ren_vs hρ h2, rfl⟩
    · have hb : s'.n ≤ b := hb
      cases e : nback ρ b with
      | some a => have := hρ.lt a b ((hρ.iff a b).2 e); omega
      | none => exact ren_none e (fun h => by have := (hv b h).2; omega)
    · obtain ⟨a, ha, k1⟩ := ren_own hρ h1
      obtain ⟨a', ha', k2⟩ := ren_own hρ h2
      have := hs.hr.inj a a' r k1 k2
      subst this
      rw [ha] at ha'; cases ha'; rfl
    · obtain ⟨a, _, k1⟩ := ren_own hρ h1
      exact hs.hr.noX a r k1
    · obtain ⟨a, _, k1⟩ := ren_own hρ h1
      exact hs.hr.lt a r k1

theorem CallF.mono {P : Unit → Program} {f : Nat} {args : List LV} {h : LH} {n : Nat} {K K' : LV → LH → Nat → Prop} (hc : CallF P f args h n K) (hk : ∀ r h n, K r h n → K' r h n) : CallF P f args h n K' := by
  cases hc with
  | mk h1 h2 => exact .mk h1 fun c w xs a b d e => (h2 c w xs a b d e).mono fun en w' ⟨c', r, v, h', n', g1, g2, g3⟩ => ⟨c', r, v, h', n', g1, hk _ _ _ g2, g3⟩

/-- A law: called where nothing is known by name, it returns true, and turns nothing that was there. -/
def Ctx.empty : Ctx := ⟨fun _ => none, fun _ => False, 0⟩
theorem empty_hr (w : World) : HR Ctx.empty w [] :=
  ⟨fun b B h => (by cases h), fun _ _ => rfl, fun b b' r h => (by cases h), fun b r h => (by cases h), fun r h => h.elim, fun b r h => (by cases h)⟩
theorem law_of {P : Program} {f : Nat} {args : List LV} {b : Bool} (h : CallF (fun _ => P) f args [] 0 fun r _ _ => r = .p (.bool b)) {w : World} {xs : Array Value} (hx : Rel2 Ctx.empty w args xs.toList) :
    Calls P f xs w fun e w' => e = .returned (.bool b) ∧ Go.RowKit.Below w.heap.size w w' := by
  cases h with
  | mk h1 h2 =>
    refine (h2 Ctx.empty w xs (empty_hr w) rfl hx.getD.1 hx.getD.2).mono fun e w' ⟨c', r, v, h', n', g1, g2, g3, g4, g5, g6⟩ => ?_
    subst g2
    rw [g5.inv_bool] at g1
    refine ⟨g1, ⟨g6.os, g6.tape, g6.output, g6.size, fun k hk => g6.same k hk ?_⟩⟩
    rintro ⟨b, hb⟩
    cases hb
end
/-- Re.of, its conditions left to tactics. -/
theorem Re.at {n0 : Nat} {s s' : LS} (ρ : List (Nat × Nat)) (vs : List Nat) (hn : n0 ≤ s'.n := by first | exact Nat.zero_le _ | exact Nat.le_refl _ | decide | (dsimp only; decide)) (hρ : rok n0 s'.n vs ρ = true := by rfl) (hv : vok n0 s'.n vs = true := by rfl) (ht : lvles ρ vs s.h s.t s'.t := by (try (conv => cbv)); (repeat' (first | exact trivial | rfl | exact SEq.mk rfl | (exact SEq.mk (by first | assumption | (symm; assumption))) | (simp only [I.val]; done) | (simp only [I.val]; omega) | omega | assumption | (refine And.intro ?_ ?_) | exact Or.inl rfl | exact Or.inr (by assumption) | exact List.Mem.head _ | exact List.Mem.tail _ (List.Mem.head _) | exact ⟨_, rfl⟩ | exact ⟨_, rfl, Or.inl rfl⟩ | (refine ⟨_, rfl, Or.inr ?_⟩; (try (conv => cbv))) | (simp only [I.val] at *; first | omega | (subst_vars; rfl) | simp_all) | (refine Or.inr ?_; (try (conv => cbv)))))) (hh : lhle ρ vs s.h s'.h := by (try (conv => cbv)); (repeat' (first | exact trivial | rfl | exact SEq.mk rfl | (exact SEq.mk (by first | assumption | (symm; assumption))) | (simp only [I.val]; done) | (simp only [I.val]; omega) | omega | assumption | (refine And.intro ?_ ?_) | exact Or.inl rfl | exact Or.inr (by assumption) | exact List.Mem.head _ | exact List.Mem.tail _ (List.Mem.head _) | exact ⟨_, rfl⟩ | exact ⟨_, rfl, Or.inl rfl⟩ | (refine ⟨_, rfl, Or.inr ?_⟩; (try (conv => cbv))) | (simp only [I.val] at *; first | omega | (subst_vars; rfl) | simp_all) | (refine Or.inr ?_; (try (conv => cbv)))))) : Re n0 s s' := Re.of ρ vs hn hρ hv ht hh
end Go.LX
/-
  A table of types held against the program by the kernel.
-/
namespace Go.LX
open Go
set_option linter.unusedVariables false

def veq : Value → PV → Bool
  | .int k n, .int k' e => (k == k') && (n == e.val)
  | .bool b, .bool b' => b == b'
  | .string s, .str s' => s.data.toList.isEmpty && (s' ()).data.toList.isEmpty
  | .pointer none, .nilp => true
  | .slice none 0 0, .nils => true
  | .nilIface, .nilif => true
  | .nilFunc, .nilfn => true
  | _, _ => false
def veqs : List Value → List PV → Bool
  | [], [] => true
  | x :: l, y :: m => veq x y && veqs l m
  | _, _ => false
def keq (P : Program) : TK → TypeDesc → Bool
  | .int k, .int k' => k == k'
  | .bool, .bool => true
  | .str, .string => true
  | .ptr e, .pointer e' => e == e'
  | .slice e, .slice e' => e == e'
  | .struct fs, .struct fs' => (fs == fs'.toList.map fun f => (f.offset, f.type)) && (fs'.toList.mapM fun f => (P.info? f.type).map fun i => (f.offset, i.size)).isSome
  | .arr n e, .array n' e' => (n == n') && (e == e') && (P.info? e).isSome
  | .iface, .interface _ => true
  | .func, .func _ _ _ => true
  | _, _ => false
def shape : TK → Value → Bool
  | k, .agg _ => k.agg
  | k, .tuple _ => false
  | k, _ => !k.agg
def teq (P : Program) (t : Nat) (ti : TI) : Bool :=
  match P.info? t, P.underlying t with
  | some i, some d => (i.size == ti.size) && (i.bytes == ti.bytes) && (match i.zero with
    | some z => veqs z.cells.toList ti.zero && shape ti.kind z
    | none => false) && keq P ti.kind d
  | _, _ => false
def teqs (P : Program) : TT → Bool
  | [] => true
  | (t, ti) :: l => teq P t ti && teqs P l
theorem veq_ok {x : Value} {y : PV} (h : veq x y = true) : x = y.toV ∧ zok y = true := by
  unfold veq at h
  split at h
  · rename_i k n k' e
    simp only [Bool.and_eq_true, beq_iff_eq] at h
    obtain ⟨rfl, rfl⟩ := h
    exact ⟨rfl, rfl⟩
  · have h := beq_iff_eq.1 h; subst h; exact ⟨rfl, rfl⟩
  · rename_i s s'
    simp only [Bool.and_eq_true, List.isEmpty_iff] at h
    have : s = s' () := by
      apply Go.WideShapes.bytes_inj
      rw [h.1, h.2]
    subst this; exact ⟨rfl, rfl⟩
  · exact ⟨rfl, rfl⟩
  · exact ⟨rfl, rfl⟩
  · exact ⟨rfl, rfl⟩
  · exact ⟨rfl, rfl⟩
  · cases h
theorem veqs_ok : ∀ {l : List Value} {m : List PV}, veqs l m = true → l = m.map PV.toV ∧ m.all zok = true
  | [], [], _ => ⟨rfl, rfl⟩
  | x :: l, y :: m, h => by
    simp only [veqs, Bool.and_eq_true] at h
    obtain ⟨h1, h2⟩ := veq_ok h.1
    obtain ⟨h3, h4⟩ := veqs_ok h.2
    exact ⟨by rw [List.map_cons, ← h1, ← h3], by simp only [List.all_cons, h2, h4, Bool.and_self]⟩
  | [], _ :: _, h => by cases h
  | _ :: _, [], h => by cases h
theorem keq_ok {P : Program} {k : TK} {d : TypeDesc} (h : keq P k d = true) : kindOk P k d := by
  unfold keq at h
  split at h
  · exact beq_iff_eq.1 h
  · trivial
  · trivial
  · exact beq_iff_eq.1 h
  · exact beq_iff_eq.1 h
  · simp only [Bool.and_eq_true, beq_iff_eq] at h; exact h
  · simp only [Bool.and_eq_true, beq_iff_eq] at h; exact ⟨h.1.1, h.1.2, h.2⟩
  · trivial
  · trivial
  · cases h
theorem teq_ok {P : Program} {t : Nat} {ti : TI} (h : teq P t ti = true) : TIok P t ti := by
  unfold teq at h
  split at h
  · rename_i i d hi hd
    simp only [Bool.and_eq_true, beq_iff_eq] at h
    obtain ⟨⟨⟨h1, h2⟩, h3⟩, h4⟩ := h
    split at h3
    · rename_i z hz
      simp only [Bool.and_eq_true] at h3
      obtain ⟨h5, h6⟩ := veqs_ok h3.1
      refine ⟨⟨i, z, d, hi, h1, h2, hz, h5, hd, keq_ok h4, fun hk => ?_, fun hk => ?_⟩, h6⟩
      · have := h3.2
        cases z <;> simp [shape, hk] at this
        rfl
      · have := h3.2
        cases z <;> simp [shape, hk] at this <;> rfl
    · cases h3
  · cases h
theorem teqs_ok {P : Program} : ∀ {T : TT}, teqs P T = true → TOK P T
  | [], _ => tok_nil P
  | (t, ti) :: l, h => by
    simp only [teqs, Bool.and_eq_true] at h
    exact tok_cons (teq_ok h.1) (teqs_ok h.2)
end Go.LX
