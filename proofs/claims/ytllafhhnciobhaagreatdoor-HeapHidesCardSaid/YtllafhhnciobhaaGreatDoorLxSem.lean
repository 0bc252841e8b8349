/-
  What a step leaves as it was: values and blocks that are known by name, seen from a later world.
-/
import Derived.Test.YtllafhhnciobhaaGreatDoorLxDef
import Derived.WalkKit
import Derived.Laws.AppendOwn
namespace Go.LX
open Go
set_option linter.unusedVariables false

theorem Ext.refl {c : Ctx} {w : World} {h : LH} (hr : HR c w h) : Ext c w c w :=
  ⟨rfl, rfl, rfl, Nat.le_refl _, rfl, Nat.le_refl _, fun _ _ => .inl rfl, fun b r hb h => (by rw [hr.fresh b hb] at h; cases h), fun _ _ _ => rfl, fun _ _ _ _ => rfl⟩

theorem Ext.trans {c c' c'' : Ctx} {w w' w'' : World} (h : Ext c w c' w') (k : Ext c' w' c'' w'') : Ext c w c'' w'' := by
  refine ⟨k.os.trans h.os, k.tape.trans h.tape, k.output.trans h.output, Nat.le_trans h.size k.size, k.X.trans h.X, Nat.le_trans h.N k.N, fun b hb => ?_, fun b r hb hm => ?_, fun r hr ho => ?_, fun b r hb hm => ?_⟩
  · rcases k.old b (Nat.lt_of_lt_of_le hb h.N) with e | e
    · rw [e]; exact h.old b hb
    · exact .inr e
  · rcases Nat.lt_or_ge b c'.N with hb' | hb'
    · rcases k.old b hb' with e | e
      · exact h.new b r hb (e ▸ hm)
      · rw [e] at hm; cases hm
    · rcases k.new b r hb' hm with g | ⟨d, hd⟩
      · exact .inl (Nat.le_trans h.size g)
      · rcases Nat.lt_or_ge d c.N with hd' | hd'
        · rcases h.old d hd' with e | e
          · exact .inr ⟨d, e ▸ hd⟩
          · rw [e] at hd; cases hd
        · exact h.new d r hd' hd
  · rw [k.same r (Nat.lt_of_lt_of_le hr h.size) ?_, h.same r hr ho]
    rintro ⟨b, hb⟩
    rcases Nat.lt_or_ge b c.N with hbn | hbn
    · rcases h.old b hbn with e | e
      · exact ho ⟨b, e ▸ hb⟩
      · rw [e] at hb; cases hb
    · rcases h.new b r hbn hb with g | g
      · omega
      · exact ho g
  · have hb' := Nat.lt_of_lt_of_le hb h.N
    rcases k.old b hb' with e | e
    · rw [k.shape b r hb' hm, h.shape b r hb (e ▸ hm)]
    · rw [e] at hm; cases hm

theorem World.cell_congr {w w' : World} {a : Addr} (h : w'.heap[a.block]? = w.heap[a.block]?) : w'.cell? a = w.cell? a := by simp [World.cell?, h]
theorem add_block (a : Addr) (n : Nat) : (a.add n).block = a.block := by unfold Addr.add; split <;> rfl
theorem add_lit (r k n : Nat) : (Addr.add ⟨r, k, none⟩ n) = ⟨r, k + n, none⟩ := by
  unfold Addr.add; split
  · rename_i h; rw [h]; rfl
  · rfl

/-- What does not turn stays. -/
theorem mut_ext {c c' : Ctx} {w w' : World} (hf : ∀ b, c.N ≤ b → c.m b = none) (h : Ext c w c' w') {r : Nat} (hr : r < w.heap.size) (hm : ¬ c.mut r) : ¬ c'.mut r := by
  rintro (hx | ⟨b, hb⟩)
  · exact hm (.inl (h.X ▸ hx))
  · rcases Nat.lt_or_ge b c.N with hbn | hbn
    · rcases h.old b hbn with e | e
      · exact hm (.inr ⟨b, e ▸ hb⟩)
      · rw [e] at hb; cases hb
    · rcases h.new b r hbn hb with g | g
      · omega
      · exact hm (.inr g)

theorem PR.ext {c c' : Ctx} {w w' : World} (hf : ∀ b, c.N ≤ b → c.m b = none) (h : Ext c w c' w') {u : PV} {x : Value} (hp : PR c.mut w u x) : PR c'.mut w' u x := by
  induction hp with
  | int k e n hn => exact .int k e n hn
  | bool b => exact .bool b
  | str s => exact .str s
  | nilp => exact .nilp
  | nils => exact .nils
  | nilif => exact .nilif
  | nilfn => exact .nilfn
  | fn f => exact .fn f
  | vsl0 n sy l a k h0 hk => exact .vsl0 n sy l a k h0 hk
  | vsl n sy l a k cp f h0 hs hM hlt hk hcp hcell hrel ih =>
    refine .vsl n sy l a k cp f h0 hs (mut_ext hf h hlt hM) (Nat.lt_of_lt_of_le hlt h.size) hk hcp (fun j u hu => ?_) ih
    exact (World.cell_congr (w := w) (w' := w') (a := a.add j) (by rw [add_block]; exact h.same _ hlt (fun ho => hM (.inr ho)))).trans (hcell j u hu)
  | vp sy l o a k f h0 hs hM hlt hcell hrel ih =>
    refine .vp sy l o a k f h0 hs (mut_ext hf h hlt hM) (Nat.lt_of_lt_of_le hlt h.size) (fun j u hu => ?_) ih
    exact (World.cell_congr (w := w) (w' := w') (a := a.add j) (by rw [add_block]; exact h.same _ hlt (fun ho => hM (.inr ho)))).trans (hcell j u hu)
  | undef x hx => exact .undef x hx

theorem live_lt {c : Ctx} (hf : ∀ b, c.N ≤ b → c.m b = none) {b : Nat} {m : Option Nat} (h : c.m b = some m) : b < c.N := by
  rcases Nat.lt_or_ge b c.N with h1 | h1
  · exact h1
  · rw [hf b h1] at h; cases h

theorem LR.ext {c c' : Ctx} {w w' : World} (hf : ∀ b, c.N ≤ b → c.m b = none) (h : Ext c w c' w') {u : LV} {x : Value} (hp : LR c w u x) : LR c' w' u x := by
  induction hp with
  | p v x hv => exact .p v x (hv.ext hf h)
  | ptr b o r k hm ho =>
    have hb := live_lt hf hm
    rcases h.old b hb with e | e
    · exact .ptr b o r k (e.trans hm) ho
    · exact .goneP b o _ e (Nat.lt_of_lt_of_le hb h.N)
  | goneP b o a hm hb =>
    refine .goneP b o a ?_ (Nat.lt_of_lt_of_le hb h.N)
    rcases h.old b hb with e | e
    · rw [e, hm]
    · exact e
  | sl b e sz o n r j k cp tot hm ho hn hk hc hs ht =>
    have hb := live_lt hf hm
    rcases h.old b hb with e | e
    · exact .sl b _ sz o n r j k cp tot (e.trans hm) ho hn hk hc ((h.shape b r hb (e.trans hm)).trans hs) ht
    · exact .goneS b _ sz o n _ _ _ e (Nat.lt_of_lt_of_le hb h.N)
  | slv b e sz o n hm ho hn =>
    have hb := live_lt hf hm
    rcases h.old b hb with e | e
    · exact .slv b _ sz o n (e.trans hm) ho hn
    · exact .goneS b _ sz o n _ _ _ e (Nat.lt_of_lt_of_le hb h.N)
  | goneS b e sz o n a k cp hm hb =>
    refine .goneS b e sz o n a k cp ?_ (Nat.lt_of_lt_of_le hb h.N)
    rcases h.old b hb with e | e
    · rw [e, hm]
    · exact e
  | agg l x hl _ ih => exact .agg l x hl ih
  | tup l x hl _ ih => exact .tup l x hl ih
  | iface t v x _ ih => exact .iface t v x ih
  | fn f l x hl _ ih => exact .fn f l x hl ih
  | nul => exact .nul
  | undef x => exact .undef x

/-- A block that is as it was, in a later world. -/
theorem BR.ext {c c' : Ctx} {w w' : World} (hf : ∀ b, c.N ≤ b → c.m b = none) (h : Ext c w c' w') {B : LB} {m : Option Nat} (hs : ∀ r, m = some r → w'.heap[r]? = w.heap[r]?) (hb : BR c w B m) : BR c' w' B m := by
  cases B with
  | pure sy l =>
    cases m with
    | none => exact hb
    | some r =>
      obtain ⟨cur, ty, h1, h2, h3⟩ := hb
      exact ⟨cur, ty, (hs r rfl).trans h1, h2, fun j u hu => (h3 j u hu).ext hf h⟩
  | mix l =>
    cases m with
    | none => exact hb
    | some r =>
      obtain ⟨cur, ty, h1, h2, h3⟩ := hb
      exact ⟨cur, ty, (hs r rfl).trans h1, h2, fun j u hu => (h3 j u hu).ext hf h⟩
  | iter s pos =>
    cases m with
    | none => exact hb
    | some r =>
      obtain ⟨p, h1, h2⟩ := hb
      exact ⟨p, h1, (hs r rfl).trans h2⟩
  | bld t l =>
    cases m with
    | none => exact hb
    | some r =>
      obtain ⟨cur, h1, h2, h0, h3⟩ := hb
      exact ⟨cur, (hs r rfl).trans h1, h2, h0, fun j u hu => (h3 j u hu).ext hf h⟩
  | fix g o =>
    cases m with
    | some r => exact hb
    | none =>
      obtain ⟨h1, h2⟩ := hb
      have hlt : g < w.heap.size := (Array.getElem?_eq_some_iff.1 h1).1
      refine ⟨(h.same g hlt fun ho => h2 (.inr ho)).trans h1, ?_⟩
      rintro (hx | ⟨b, hb⟩)
      · exact h2 (.inl (h.X ▸ hx))
      · rcases Nat.lt_or_ge b c.N with hb2 | hb2
        · rcases h.old b hb2 with e | e
          · exact h2 (.inr ⟨b, e ▸ hb⟩)
          · rw [e] at hb; cases hb
        · rcases h.new b g hb2 hb with e | e
          · omega
          · exact h2 (.inr e)

/-! ### Names in a list -/
theorem nbeq {a b : Nat} (e : ¬ a = b) : Nat.beq a b = false := by
  cases h : Nat.beq a b with
  | false => rfl
  | true => exact absurd (Nat.eq_of_beq_eq_true h) e
theorem hget_cons (a b : Nat) (B : LB) (h : LH) : hget ((a, B) :: h) b = if a = b then some B else hget h b := by
  rw [hget]
  by_cases e : a = b
  · subst e; rw [if_pos rfl, Nat.beq_refl]
  · rw [if_neg e]
    have : Nat.beq a b = false := nbeq e
    rw [this]
theorem hget_set {h : LH} {b : Nat} {B C : LB} (hb : hget h b = some B) (d : Nat) : hget (hset h b C) d = if d = b then some C else hget h d := by
  induction h with
  | nil => cases hb
  | cons x h ih =>
    obtain ⟨a, A⟩ := x
    by_cases e : a = b
    · subst e
      simp only [hset, Nat.beq_refl]
      rw [hget_cons, hget_cons]
      by_cases e2 : d = a
      · rw [if_pos e2.symm, if_pos e2]
      · rw [if_neg (fun h => e2 h.symm), if_neg e2, if_neg (fun h => e2 h.symm)]
    · have hne : Nat.beq a b = false := nbeq e
      simp only [hset, hne]
      rw [hget_cons, if_neg e] at hb
      rw [hget_cons, hget_cons, ih hb]
      by_cases e2 : a = d
      · subst e2; rw [if_pos rfl, if_neg e, if_pos rfl]
      · rw [if_neg e2, if_neg e2]
theorem hget_del (h : LH) (b d : Nat) : hget (hdel h b) d = if d = b then none else hget h d := by
  induction h with
  | nil => simp [hdel, hget]
  | cons x h ih =>
    obtain ⟨a, A⟩ := x
    by_cases e : a = b
    · subst e
      simp only [hdel, Nat.beq_refl]
      rw [ih, hget_cons]
      by_cases e2 : d = a
      · rw [if_pos e2, if_pos e2]
      · rw [if_neg e2, if_neg e2, if_neg (fun h => e2 h.symm)]
    · have hne : Nat.beq a b = false := nbeq e
      simp only [hdel, hne]
      rw [hget_cons, hget_cons, ih]
      by_cases e2 : a = d
      · subst e2; rw [if_pos rfl, if_neg e, if_pos rfl]
      · rw [if_neg e2, if_neg e2]

/-! ### Slots -/
theorem tget_eq : ∀ (l : List LV) (i : Nat), tget l i = l.getD i .undef
  | [], i => by cases i <;> rfl
  | x :: l, 0 => rfl
  | x :: l, i + 1 => by rw [tget, tget_eq l i]; rfl
theorem tset_eq : ∀ (l : List LV) (i : Nat) (v : LV), tset l i v = l.set i v
  | [], i, v => by cases i <;> rfl
  | x :: l, 0, v => rfl
  | x :: l, i + 1, v => by rw [tset, tset_eq l i v]; rfl

theorem St.slot {c : Ctx} {s : LS} {a : Act} {w : World} (h : St c s a w) (i : Nat) : LR c w (tget s.t i) (a.tmps.getD i undef) := by
  rw [tget_eq, List.getD_eq_getElem?_getD]
  cases e : s.t[i]? with
  | none => exact .undef _
  | some u => exact h.tr i u e

theorem LR.const (c : Ctx) (w : World) (v : Value) : LR c w (.ofV v) v := by
  unfold LV.ofV
  split
  · exact .p _ _ (.int _ _ _ rfl)
  · exact .p _ _ (.bool _)
  · exact .p _ _ (.str _)
  · exact .p _ _ .nilp
  · exact .p _ _ .nils
  · exact .p _ _ .nilif
  · exact .p _ _ .nilfn
  · exact .undef _

theorem St.ev {c : Ctx} {s : LS} {a : Act} {w : World} (h : St c s a w) (x : Operand) : LR c w (ev s x) (a.eval x) := by
  cases x with
  | tmp t => exact h.slot t
  | const v => exact .const _ _ v
  | global g => exact .undef _
  | func f => exact .p _ _ (.fn f)

theorem St.put {c : Ctx} {s : LS} {a : Act} {w : World} (h : St c s a w) {u : LV} {x : Value} (hu : LR c w u x) (d : Option Nat) : St c (s.put d u) (a.put d x) w := by
  cases d with
  | none => exact h
  | some d =>
    refine ⟨?_, ?_, h.df, h.hr, h.nn⟩
    · simp [LS.put, Act.put, tset_eq, h.tl]
    · intro i v hv
      simp only [LS.put, tset_eq, List.getElem?_set] at hv
      simp only [Act.put, Array.getD_eq_getD_getElem?, Array.getElem?_setIfInBounds]
      by_cases e : d = i
      · subst e
        rw [if_pos rfl] at hv ⊢
        by_cases e2 : d < s.t.length
        · rw [if_pos e2] at hv
          rw [if_pos (by rw [← h.tl]; exact e2)]
          cases hv; exact hu
        · rw [if_neg e2] at hv; cases hv
      · rw [if_neg e] at hv ⊢
        have := h.tr i v hv
        rwa [Array.getD_eq_getD_getElem?] at this

/-! ### Steps of the world -/
/-- What a step leaves of the blocks that are known: each is as it was, or told anew. -/
theorem HR.step {c c' : Ctx} {w w' : World} {h h' : LH} (hr : HR c w h) (he : Ext c w c' w') (hN : c'.N = c.N ∨ c'.N = c.N + 1) (hf : ∀ b, c'.N ≤ b → c'.m b = none)
    (hn : ∀ b, c'.m b = c.m b ∨ c'.m b = none ∨ (b = c.N ∧ (c'.m b = some none ∨ ∃ r, c'.m b = some (some r) ∧ w.heap.size ≤ r ∧ r < w'.heap.size)))
    (hh : ∀ b B, hget h' b = some B → (hget h b = some B ∧ c'.m b = c.m b ∧ ∀ r, c.m b = some (some r) → w'.heap[r]? = w.heap[r]?) ∨ ∃ m, c'.m b = some m ∧ BR c' w' B m) : HR c' w' h' := by
  refine ⟨fun b B hb => ?_, hf, fun b b' r h1 h2 => ?_, fun b r h1 hx => ?_, fun r hx => ?_, fun b r h1 => ?_⟩
  · rcases hh b B hb with ⟨h1, h2, h3⟩ | h1
    · obtain ⟨m, hm, hB⟩ := hr.live b B h1
      exact ⟨m, h2.trans hm, hB.ext hr.fresh he fun r hmr => h3 r (hm.trans (by rw [hmr]))⟩
    · exact h1
  · have key : ∀ b, c'.m b = some (some r) → c.m b = some (some r) ∨ (b = c.N ∧ w.heap.size ≤ r) := by
      intro b h1
      rcases hn b with e | e | ⟨e0, e | ⟨r1, e, e1, _⟩⟩
      · exact .inl (e ▸ h1)
      · rw [e] at h1; cases h1
      · rw [e] at h1; cases h1
      · rw [e] at h1; cases h1; exact .inr ⟨e0, e1⟩
    rcases key b h1 with k1 | ⟨k1, l1⟩ <;> rcases key b' h2 with k2 | ⟨k2, l2⟩
    · exact hr.inj b b' r k1 k2
    · have := hr.lt b r k1; omega
    · have := hr.lt b' r k2; omega
    · rw [k1, k2]
  · have hx' : c.X r := he.X ▸ hx
    rcases hn b with e | e | ⟨e0, e | ⟨r1, e, e1, _⟩⟩
    · exact hr.noX b r (e ▸ h1) hx'
    · rw [e] at h1; cases h1
    · rw [e] at h1; cases h1
    · rw [e] at h1; cases h1
      have := hr.ltX r hx'; omega
  · exact Nat.lt_of_lt_of_le (hr.ltX r (he.X ▸ hx)) he.size
  · rcases hn b with e | e | ⟨e0, e | ⟨r1, e, e1, e2⟩⟩
    · exact Nat.lt_of_lt_of_le (hr.lt b r (e ▸ h1)) he.size
    · rw [e] at h1; cases h1
    · rw [e] at h1; cases h1
    · rw [e] at h1; cases h1; exact e2

/-- The next name stands for a new block. -/
def Ctx.grow (c : Ctx) (m : Option Nat) : Ctx := { c with m := fun b => if b = c.N then some m else c.m b, N := c.N + 1 }
theorem grow_old (c : Ctx) (m : Option Nat) {b : Nat} (h : b ≠ c.N) : (c.grow m).m b = c.m b := if_neg h
theorem grow_new (c : Ctx) (m : Option Nat) : (c.grow m).m c.N = some m := if_pos rfl

theorem Ext.alloc {c : Ctx} {w : World} {h : LH} (hr : HR c w h) (o : Obj) : Ext c w (c.grow (some w.heap.size)) (w.alloc o) := by
  refine ⟨rfl, rfl, rfl, by simp, rfl, Nat.le_succ _, fun b hb => .inl (grow_old c _ (Nat.ne_of_lt hb)), fun b r hb h => ?_, fun r hr _ => heap_alloc_old w o hr, fun b r hb h => ?_⟩
  · by_cases e : b = c.N
    · subst e; rw [grow_new] at h; cases h; exact .inl (Nat.le_refl _)
    · rw [grow_old c _ e, hr.fresh b hb] at h; cases h
  · rw [grow_old c _ (Nat.ne_of_lt hb)] at h
    simp only [World.shape?]
    rw [heap_alloc_old w o (hr.lt b r h)]
theorem HR.alloc {c : Ctx} {w : World} {h : LH} (hr : HR c w h) (o : Obj) (B : LB) (hB : BR (c.grow (some w.heap.size)) (w.alloc o) B (some w.heap.size)) : HR (c.grow (some w.heap.size)) (w.alloc o) ((c.N, B) :: h) := by
  refine hr.step (Ext.alloc hr o) (.inr rfl) (fun b hb => ?_) (fun b => ?_) (fun b C hb => ?_)
  · have hb' : c.N + 1 ≤ b := hb
    rw [grow_old c _ (by omega)]; exact hr.fresh b (by omega)
  · by_cases e : b = c.N
    · exact .inr (.inr ⟨e, .inr ⟨w.heap.size, by rw [e, grow_new], Nat.le_refl _, by simp⟩⟩)
    · exact .inl (grow_old c _ e)
  · rw [hget_cons] at hb
    by_cases e : c.N = b
    · rw [if_pos e] at hb; cases hb
      subst e
      exact .inr ⟨_, grow_new c _, hB⟩
    · rw [if_neg e] at hb
      exact .inl ⟨hb, grow_old c _ (fun h => e h.symm), fun r hrr => heap_alloc_old w o (hr.lt b r hrr)⟩

/-- One block of cells has turned, and nothing else. -/
structure Turn (w w' : World) (r : Nat) : Prop where
  os : w'.os = w.os
  tape : w'.tape = w.tape
  output : w'.output = w.output
  size : w'.heap.size = w.heap.size
  other : ∀ k, k ≠ r → w'.heap[k]? = w.heap[k]?
  shape : w'.shape? r = w.shape? r
theorem Ext.turn {c : Ctx} {w w' : World} {h : LH} (hr : HR c w h) {b r : Nat} (hm : c.m b = some (some r)) (ht : Turn w w' r) : Ext c w c w' := by
  refine ⟨ht.os, ht.tape, ht.output, Nat.le_of_eq ht.size.symm, rfl, Nat.le_refl _, fun _ _ => .inl rfl, fun b r hb h => (by rw [hr.fresh b hb] at h; cases h), fun k _ ho => ht.other k ?_, fun b' k _ hk => ?_⟩
  · rintro rfl; exact ho ⟨b, hm⟩
  · by_cases e : k = r
    · rw [e]; exact ht.shape
    · simp only [World.shape?, ht.other k e]
theorem HR.turn {c : Ctx} {w w' : World} {h : LH} (hr : HR c w h) {b r : Nat} {B B' : LB} (hb : hget h b = some B) (hm : c.m b = some (some r)) (ht : Turn w w' r) (hB : BR c w' B' (some r)) : HR c w' (hset h b B') := by
  refine hr.step (Ext.turn hr hm ht) (.inl rfl) hr.fresh (fun b => .inl rfl) (fun d C hd => ?_)
  rw [hget_set hb] at hd
  by_cases e : d = b
  · rw [if_pos e] at hd; cases hd
    exact .inr ⟨_, by rw [e]; exact hm, hB⟩
  · rw [if_neg e] at hd
    exact .inl ⟨hd, rfl, fun k hk => ht.other k (by rintro rfl; exact e (hr.inj d b k hk hm))⟩
/-- The world with draws made, or orders asked for. -/
theorem HR.same {c : Ctx} {w w' : World} {h : LH} (hr : HR c w h) (e1 : w'.os = w.os) (e2 : w'.tape = w.tape) (e3 : w'.output = w.output) (e4 : w'.heap = w.heap) : Ext c w c w' ∧ HR c w' h := by
  have he : Ext c w c w' := ⟨e1, e2, e3, by rw [e4]; exact Nat.le_refl _, rfl, Nat.le_refl _, fun _ _ => .inl rfl, fun b r hb h => (by rw [hr.fresh b hb] at h; cases h), fun k _ _ => by rw [e4], fun _ _ _ _ => by simp only [World.shape?, e4]⟩
  exact ⟨he, hr.step he (.inl rfl) hr.fresh (fun b => .inl rfl) (fun d C hd => .inl ⟨hd, rfl, fun k _ => by rw [e4]⟩)⟩
/-- A block that is known by name no more. -/
def Ctx.drop (c : Ctx) (b : Nat) : Ctx := { c with m := fun d => if d = b then none else c.m d }
theorem Ext.drop {c : Ctx} {w : World} {h : LH} (hr : HR c w h) (b : Nat) : Ext c w (c.drop b) w := by
  refine ⟨rfl, rfl, rfl, Nat.le_refl _, rfl, Nat.le_refl _, fun d _ => ?_, fun d r hb h => ?_, fun _ _ _ => rfl, fun _ _ _ _ => rfl⟩
  · by_cases e : d = b
    · exact .inr (if_pos e)
    · exact .inl (if_neg e)
  · simp only [Ctx.drop] at h
    split at h
    · cases h
    · rw [hr.fresh d hb] at h; cases h
theorem HR.drop {c : Ctx} {w : World} {h : LH} (hr : HR c w h) (b : Nat) : HR (c.drop b) w (hdel h b) := by
  refine hr.step (Ext.drop hr b) (.inl rfl) (fun d hd => ?_) (fun d => ?_) (fun d C hd => ?_)
  · simp only [Ctx.drop]; split
    · rfl
    · exact hr.fresh d hd
  · by_cases e : d = b
    · exact .inr (.inl (if_pos e))
    · exact .inl (if_neg e)
  · rw [hget_del] at hd
    split at hd
    · cases hd
    · rename_i e
      exact .inl ⟨hd, if_neg e, fun _ _ => rfl⟩
/-- The next name stands for a slice of nothing. -/
theorem Ext.void {c : Ctx} {w : World} {h : LH} (hr : HR c w h) : Ext c w (c.grow none) w := by
  refine ⟨rfl, rfl, rfl, Nat.le_refl _, rfl, Nat.le_succ _, fun b hb => .inl (grow_old c _ (Nat.ne_of_lt hb)), fun b r hb h => ?_, fun _ _ _ => rfl, fun _ _ _ _ => rfl⟩
  by_cases e : b = c.N
  · subst e; rw [grow_new] at h; cases h
  · rw [grow_old c _ e, hr.fresh b hb] at h; cases h
theorem HR.void {c : Ctx} {w : World} {h : LH} (hr : HR c w h) (sy : Bool) : HR (c.grow none) w ((c.N, .pure sy []) :: h) := by
  refine hr.step (Ext.void hr) (.inr rfl) (fun b hb => ?_) (fun b => ?_) (fun b C hb => ?_)
  · have hb' : c.N + 1 ≤ b := hb
    rw [grow_old c _ (by omega)]; exact hr.fresh b (by omega)
  · by_cases e : b = c.N
    · exact .inr (.inr ⟨e, .inl (by rw [e, grow_new])⟩)
    · exact .inl (grow_old c _ e)
  · rw [hget_cons] at hb
    by_cases e : c.N = b
    · rw [if_pos e] at hb; cases hb
      subst e
      exact .inr ⟨_, grow_new c _, rfl⟩
    · rw [if_neg e] at hb
      exact .inl ⟨hb, grow_old c _ (fun h => e h.symm), fun _ _ => rfl⟩

/-- Another name for a block. -/
def Ctx.move (c : Ctx) (i : Nat) : Ctx := { c with m := fun b => if b = i then none else if b = c.N then c.m i else c.m b, N := c.N + 1 }
theorem move_new {c : Ctx} {i : Nat} (h : i < c.N) : (c.move i).m c.N = c.m i := by
  show (if c.N = i then none else if c.N = c.N then c.m i else c.m c.N) = _
  rw [if_neg (by omega), if_pos rfl]
theorem move_old {c : Ctx} {i b : Nat} (h : b ≠ i) (h2 : b ≠ c.N) : (c.move i).m b = c.m b := by simp only [Ctx.move]; rw [if_neg h, if_neg h2]
theorem move_gone {c : Ctx} {i : Nat} : (c.move i).m i = none := if_pos rfl
theorem Ext.move {c : Ctx} {w : World} {h : LH} (hr : HR c w h) {i : Nat} (hi : i < c.N) : Ext c w (c.move i) w := by
  refine ⟨rfl, rfl, rfl, Nat.le_refl _, rfl, Nat.le_succ _, fun b hb => ?_, fun b r hb h => ?_, fun _ _ _ => rfl, fun _ _ _ _ => rfl⟩
  · by_cases e : b = i
    · exact .inr (e ▸ move_gone)
    · exact .inl (move_old e (by omega))
  · by_cases e : b = c.N
    · subst e; rw [move_new hi] at h; exact .inr ⟨i, h⟩
    · rw [move_old (by omega) e, hr.fresh b hb] at h; cases h
theorem HR.move {c : Ctx} {w : World} {h : LH} (hr : HR c w h) {i : Nat} {m : Option Nat} {B : LB} (hm : c.m i = some m) (hBR : BR c w B m) : HR (c.move i) w ((c.N, B) :: hdel h i) := by
  have hi := live_lt hr.fresh hm
  have he := Ext.move hr hi
  have back : ∀ b r, (c.move i).m b = some (some r) → ∃ d, c.m d = some (some r) ∧ ((b = c.N ∧ d = i) ∨ (b ≠ i ∧ b ≠ c.N ∧ d = b)) := by
    intro b r h1
    by_cases e1 : b = i
    · rw [e1, move_gone] at h1; cases h1
    · by_cases e2 : b = c.N
      · rw [e2, move_new hi] at h1; exact ⟨i, h1, .inl ⟨e2, rfl⟩⟩
      · rw [move_old e1 e2] at h1; exact ⟨b, h1, .inr ⟨e1, e2, rfl⟩⟩
  refine ⟨fun b C hb => ?_, fun b hb => ?_, fun b b' r h1 h2 => ?_, fun b r h1 hx => ?_, hr.ltX, fun b r h1 => ?_⟩
  · rw [hget_cons] at hb
    by_cases e : c.N = b
    · rw [if_pos e] at hb; cases hb
      subst e
      exact ⟨m, (move_new hi).trans hm, hBR.ext hr.fresh he fun _ _ => rfl⟩
    · rw [if_neg e, hget_del] at hb
      split at hb
      · cases hb
      · rename_i e1
        obtain ⟨m', hm', hBR'⟩ := hr.live b C hb
        exact ⟨m', (move_old e1 (fun h => e h.symm)).trans hm', hBR'.ext hr.fresh he fun _ _ => rfl⟩
  · have hb' : c.N + 1 ≤ b := hb
    rw [move_old (by omega) (by omega)]; exact hr.fresh b (by omega)
  · obtain ⟨d, k1, k2⟩ := back b r h1
    obtain ⟨d', k1', k2'⟩ := back b' r h2
    have := hr.inj d d' r k1 k1'
    rcases k2 with ⟨e1, e2⟩ | ⟨e1, e2, e3⟩ <;> rcases k2' with ⟨e1', e2'⟩ | ⟨e1', e2', e3'⟩ <;> omega
  · obtain ⟨d, k1, _⟩ := back b r h1
    exact hr.noX d r k1 hx
  · obtain ⟨d, k1, _⟩ := back b r h1
    exact hr.lt d r k1

/-- A state in a later world, where the blocks hold h'. -/
theorem St.ext {c c' : Ctx} {s : LS} {a : Act} {w w' : World} (h : St c s a w) (he : Ext c w c' w') {h' : LH} (hr : HR c' w' h') {n' : Nat} (hn : c'.N = n') : St c' { s with h := h', n := n' } a w' :=
  ⟨h.tl, fun i u hu => (h.tr i u hu).ext h.hr.fresh he, h.df, hr, hn⟩
end Go.LX
