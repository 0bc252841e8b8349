/-
  Each operation does in the model what the calculus says of it: those that turn no block.
-/
import Derived.Test.YtllafhhnciobhaaGreatDoorLxSem
import Derived.Laws.StructEq
import Derived.ChangeKeysEq
import Derived.IntWalk
import Derived.OpenShut
import Derived.Laws.AppendOwn
namespace Go.LX
open Go

def PV.toV : PV → Value
  | .int k e => .int k e.val
  | .bool b => .bool b
  | .str s => .string (s ())
  | .nilp => .pointer none
  | .nils => .slice none 0 0
  | .nilif => .nilIface
  | .nilfn => .nilFunc
  | _ => Go.undef
def zok : PV → Bool
  | .int _ _ => true
  | .bool _ => true
  | .str _ => true
  | .nilp => true
  | .nils => true
  | .nilif => true
  | .nilfn => true
  | _ => false
def kindOk (P : Program) : TK → TypeDesc → Prop
  | .int k, .int k' => k = k'
  | .bool, .bool => True
  | .str, .string => True
  | .ptr e, .pointer e' => e = e'
  | .slice e, .slice e' => e = e'
  | .struct fs, .struct fs' => fs = (fs'.toList.map fun f => (f.offset, f.type)) ∧ (fs'.toList.mapM fun f => (P.info? f.type).map fun i => (f.offset, i.size)).isSome = true
  | .arr n e, .array n' e' => n = n' ∧ e = e' ∧ (P.info? e).isSome = true
  | .iface, .interface _ => True
  | .func, .func _ _ _ => True
  | _, _ => False
structure TIok (P : Program) (t : Nat) (ti : TI) : Prop where
  ok : ∃ i z d, P.info? t = some i ∧ i.size = ti.size ∧ i.bytes = ti.bytes ∧ i.zero = some z ∧ z.cells.toList = ti.zero.map PV.toV ∧ P.underlying t = some d ∧ kindOk P ti.kind d ∧ (ti.kind.agg = true → z = .agg z.cells) ∧ (ti.kind.agg = false → z.cells = #[z])
  zs : ti.zero.all zok = true
def TOK (P : Program) (T : TT) : Prop := ∀ t ti, lget T t = some ti → TIok P t ti

theorem lget_cons (a b : Nat) (x : TI) (T : TT) : lget ((a, x) :: T) b = if a = b then some x else lget T b := by
  rw [lget]
  by_cases e : a = b
  · subst e; rw [if_pos rfl, Nat.beq_refl]
  · rw [if_neg e, nbeq e]
theorem tok_nil (P : Program) : TOK P [] := fun _ _ h => by cases h
theorem tok_cons {P : Program} {a : Nat} {x : TI} {T : TT} (h : TIok P a x) (k : TOK P T) : TOK P ((a, x) :: T) := by
  intro t ti ht
  rw [lget_cons] at ht
  by_cases e : a = t
  · rw [if_pos e] at ht; cases ht; exact e ▸ h
  · rw [if_neg e] at ht; exact k t ti ht

def Post (K : LS → Prop) (c : Ctx) (w : World) (a' : Act) (w' : World) : Prop := ∃ c' s', K s' ∧ St c' s' a' w' ∧ Ext c w c' w'

section
variable {P : Program} {T : TT} {o : Oper} {s : LS} {K : LS → Prop} {c : Ctx} {a : Act} {w : World} {Q : Exit → Act → World → Prop}

theorem op_val {v : Value} {u : LV} (hs : St c s a w) (hr : (execOp a.eval o).run P w = .ok (.value v) w) (hu : LR c w u v) (hK : K (s.put o.dst u)) : o.wp P a w (Post K c w) Q := by
  unfold Oper.wp
  rw [hr, Oper.upon_value]
  exact ⟨c, _, hK, hs.put hu _, Ext.refl hs.hr⟩
theorem op_world {v : Value} {u : LV} {c' : Ctx} {w' : World} {h' : LH} {n' : Nat} (hs : St c s a w) (hr : (execOp a.eval o).run P w = .ok (.value v) w') (he : Ext c w c' w') (hh : HR c' w' h') (hn : c'.N = n') (hu : LR c' w' u v)
    (hK : K (LS.put { s with h := h', n := n' } o.dst u)) : o.wp P a w (Post K c w) Q := by
  unfold Oper.wp
  rw [hr, Oper.upon_value]
  exact ⟨c', _, hK, (hs.ext he hh hn).put hu _, he⟩
theorem op_skip {c' : Ctx} {w' : World} {h' : LH} {n' : Nat} (hs : St c s a w) (hr : (execOp a.eval o).run P w = .ok .skip w') (he : Ext c w c' w') (hh : HR c' w' h') (hn : c'.N = n')
    (hK : K (LS.put { s with h := h', n := n' } o.dst .nul)) : o.wp P a w (Post K c w) Q := by
  unfold Oper.wp
  rw [hr, Oper.upon_skip]
  exact ⟨c', _, hK, (hs.ext he hh hn).put .nul _, he⟩

theorem lop_move {x : Operand} (ho : o.op = .move x ∨ o.op = .assign x) (hs : St c s a w) (hK : K (s.put o.dst (ev s x))) : o.wp P a w (Post K c w) Q := by
  refine op_val hs (v := a.eval x) ?_ (hs.ev x) hK
  rcases ho with ho | ho <;> simp [execOp, ho]

theorem LR.inv_bool {b : Bool} {v : Value} (h : LR c w (.p (.bool b)) v) : v = .bool b := by
  cases h with | p _ _ h => cases h with | bool => rfl
theorem LR.inv_int {k : IntKind} {e : I} {v : Value} (h : LR c w (.p (.int k e)) v) : v = .int k e.val := by
  cases h with | p _ _ h => cases h with | int _ _ n hn => rw [hn]
theorem LR.inv_str {z : Unit → ByteArray} {v : Value} (h : LR c w (.p (.str z)) v) : v = .string (z ()) := by
  cases h with | p _ _ h => cases h with | str => rfl
theorem LR.of_int (k : IntKind) (e : I) : LR c w (.p (.int k e)) (.int k e.val) := .p _ _ (.int k e _ rfl)
theorem LR.of_bool (b : Bool) : LR c w (.p (.bool b)) (.bool b) := .p _ _ (.bool b)
theorem LR.of_str (z : Unit → ByteArray) : LR c w (.p (.str z)) (.string (z ())) := .p _ _ (.str z)

theorem lop_pick {x y z : Operand} (ho : o.op = .pick x y z) (hs : St c s a w) {b : Bool} (hb : ev s x = .p (.bool b)) (hK : K (s.put o.dst (if b then ev s y else ev s z))) : o.wp P a w (Post K c w) Q := by
  have he : a.eval x = .bool b := LR.inv_bool (hb ▸ hs.ev x)
  refine op_val hs (v := if b then a.eval y else a.eval z) ?_ ?_ hK
  · simp [execOp, ho, he, asBool]
  · cases b
    · exact hs.ev z
    · exact hs.ev y

/-! ### Numbers -/
theorem wrap_in {k : IntKind} {n : Int} (h1 : k.min ≤ n) (h2 : n ≤ k.max) : k.wrap n = n := by
  cases k <;> simp [IntKind.wrap, IntKind.min, IntKind.max, IntKind.signed, IntKind.bits] at * <;> omega
theorem fit {k : IntKind} {e : Unit → Int} {L : I → Prop} (h : Fit k e L) : ∃ z, z.val = k.wrap (e ()) ∧ L z := by
  cases h with
  | mk h1 h2 hk => exact ⟨.sym (e ()), (wrap_in h1 h2).symm, hk _ rfl⟩
  | lit n h hk => exact ⟨.lit n, h.symm, hk⟩
  | wrap hk => exact ⟨.sym _, rfl, hk _ rfl⟩
theorem sum {e : Unit → Int} {L : I → Prop} (h : Sum e L) : ∃ z, z.val = e () ∧ L z := by
  cases h with
  | mk hk => exact ⟨.sym _, rfl, hk _ rfl⟩
  | lit n h hk => exact ⟨.lit n, h.symm, hk⟩

theorem br {p : Unit → Prop} {L : Bool → Prop} (h : Br p L) : ∃ b : Bool, (b = true ↔ p ()) ∧ L b := by
  cases h with
  | mk ht hf =>
    by_cases e : p ()
    · exact ⟨true, by simp [e], ht e⟩
    · exact ⟨false, by simp [e], hf e⟩
theorem need {p : Unit → Prop} {L : Unit → Prop} (h : Need p L) : p () ∧ L () := by
  cases h with | mk h k => exact ⟨h, k⟩
theorem str {z : Unit → ByteArray} {L : (Unit → ByteArray) → Prop} (h : Str z L) : ∃ y : Unit → ByteArray, y () = z () ∧ L y := by
  cases h with
  | mk k => exact ⟨fun _ => z (), rfl, k _ rfl⟩
  | lit y h k => exact ⟨y, h, k⟩
theorem upd {l : Unit → List PV} {L : List PV → Prop} (h : Upd l L) : L (l ()) := by
  cases h with | mk k => exact k _ rfl

theorem nz_sound {b : I} {L : Unit → Prop} (h : nz b L) : b.val ≠ 0 ∧ L () := by
  unfold nz at h
  split at h
  · split at h
    · exact h.elim
    · rename_i e; exact ⟨of_decide_eq_false e, h⟩
  · exact need h
theorem ar_sound {k : IntKind} {op : BinOp} {x y : I} {L : I → Prop} (h : ar k op x y L) (P : Program) (w : World) (t : TypeId) (xo yo : Operand) :
    ∃ z, L z ∧ ((do eqGuard op t xo yo (.int k x.val) (.int k y.val); binOp op t (.int k x.val) (.int k y.val)) : Sem Value).run P w = .ok (.int k z.val) w := by
  cases op with
  | add =>
    have key : ∃ z : I, z.val = k.wrap (x.val + y.val) ∧ L z := by
      cases x <;> cases y <;> first | exact fit h | exact ⟨_, rfl, h⟩
    obtain ⟨z, hz, hL⟩ := key
    exact ⟨z, hL, by simp [eqGuard, binOp, Op.intArith, hz]⟩
  | sub =>
    have key : ∃ z : I, z.val = k.wrap (x.val - y.val) ∧ L z := by
      cases x <;> cases y <;> first | exact fit h | exact ⟨_, rfl, h⟩
    obtain ⟨z, hz, hL⟩ := key
    exact ⟨z, hL, by simp [eqGuard, binOp, Op.intArith, hz]⟩
  | mul =>
    have key : ∃ z : I, z.val = k.wrap (x.val * y.val) ∧ L z := by
      cases x <;> cases y <;> first | exact fit h | exact ⟨_, rfl, h⟩
    obtain ⟨z, hz, hL⟩ := key
    exact ⟨z, hL, by simp [eqGuard, binOp, Op.intArith, hz]⟩
  | quo =>
    obtain ⟨h0, h⟩ := nz_sound (L := fun _ => arQuo k x y L) h
    have key : ∃ z : I, z.val = k.wrap (x.val.tdiv y.val) ∧ L z := by
      cases x <;> cases y <;> first | exact fit h | exact ⟨_, rfl, h⟩
    obtain ⟨z, hz, hL⟩ := key
    exact ⟨z, hL, by simp [eqGuard, binOp, Op.intDiv, hz, h0]⟩
  | rem =>
    obtain ⟨h0, h⟩ := nz_sound (L := fun _ => arRem x y L) h
    have key : ∃ z : I, z.val = x.val.tmod y.val ∧ L z := by
      cases x <;> cases y <;> first | exact sum h | exact ⟨_, rfl, h⟩
    obtain ⟨z, hz, hL⟩ := key
    exact ⟨z, hL, by simp [eqGuard, binOp, Op.intDiv, hz, h0]⟩
  | and =>
    obtain ⟨z, hz, hL⟩ := sum h
    exact ⟨z, hL, by simp [eqGuard, binOp, Op.intBits, hz]⟩
  | _ => exact h.elim

theorem cmp_sound {k : IntKind} {op : BinOp} {x y : I} {L : Bool → Prop} (h : cmpI op x y L) (P : Program) (w : World) (t : TypeId) (xo yo : Operand) :
    ∃ z, L z ∧ ((do eqGuard op t xo yo (.int k x.val) (.int k y.val); binOp op t (.int k x.val) (.int k y.val)) : Sem Value).run P w = .ok (.bool z) w := by
  cases op with
  | lss =>
    have key : ∃ z : Bool, (z = true ↔ x.val < y.val) ∧ L z := by
      cases x <;> cases y <;> first | exact br h | exact ⟨_, by simp [I.val], h⟩
    obtain ⟨z, hz, hL⟩ := key
    exact ⟨z, hL, by simp [eqGuard, binOp, Op.intCmp]; cases z <;> simp_all⟩
  | leq =>
    have key : ∃ z : Bool, (z = true ↔ x.val ≤ y.val) ∧ L z := by
      cases x <;> cases y <;> first | exact br h | exact ⟨_, by simp [I.val], h⟩
    obtain ⟨z, hz, hL⟩ := key
    exact ⟨z, hL, by simp [eqGuard, binOp, Op.intCmp]; cases z <;> simp_all⟩
  | gtr =>
    have key : ∃ z : Bool, (z = true ↔ y.val < x.val) ∧ L z := by
      cases x <;> cases y <;> first | exact br h | exact ⟨_, by simp [I.val], h⟩
    obtain ⟨z, hz, hL⟩ := key
    exact ⟨z, hL, by simp [eqGuard, binOp, Op.intCmp]; cases z <;> simp_all⟩
  | geq =>
    have key : ∃ z : Bool, (z = true ↔ y.val ≤ x.val) ∧ L z := by
      cases x <;> cases y <;> first | exact br h | exact ⟨_, by simp [I.val], h⟩
    obtain ⟨z, hz, hL⟩ := key
    exact ⟨z, hL, by simp [eqGuard, binOp, Op.intCmp]; cases z <;> simp_all⟩
  | eql =>
    have key : ∃ z : Bool, (z = true ↔ x.val = y.val) ∧ L z := by
      cases x <;> cases y <;> first | exact br h | exact ⟨_, by simp [I.val], h⟩
    obtain ⟨z, hz, hL⟩ := key
    exact ⟨z, hL, by simp [eqGuard, binOp, Op.intCmp]; cases z <;> simp_all⟩
  | neq =>
    have key : ∃ z : Bool, (z = true ↔ x.val ≠ y.val) ∧ L z := by
      cases x <;> cases y <;> first | exact br h | exact ⟨_, by simp [I.val], h⟩
    obtain ⟨z, hz, hL⟩ := key
    exact ⟨z, hL, by simp [eqGuard, binOp, Op.intCmp]; cases z <;> simp_all⟩
  | _ => exact h.elim

theorem str_beq (a b : ByteArray) : (a.toList == b.toList) = decide (a = b) := by
  rw [ByteArray.toList_eq, ByteArray.toList_eq]
  by_cases h : a = b
  · subst h; simp
  · rw [decide_eq_false h, beq_eq_false_iff_ne]
    exact fun e => h (Go.WideShapes.bytes_inj e)
theorem tk_ok {P : Program} {T : TT} (hT : TOK P T) {t : Nat} (h : tkOf T t ≠ .other) : ∃ d, P.underlying t = some d ∧ kindOk P (tkOf T t) d := by
  unfold tkOf at *
  cases e : lget T t with
  | none => rw [e] at h; exact absurd rfl h
  | some ti =>
    obtain ⟨⟨i, z, d, _, _, _, _, _, h1, h2, _⟩, _⟩ := hT t ti e
    exact ⟨d, h1, h2⟩
theorem guard0 {op : BinOp} {t : TypeId} {xo yo : Operand} {x y : Value} (h1 : x ≠ .nilIface) (h2 : ∀ l, x ≠ .agg l) : (eqGuard op t xo yo x y).run P w = .ok () w := by
  cases op <;> cases x <;> first | exact absurd rfl h1 | exact absurd rfl (h2 _) | simp [eqGuard]
theorem pointee_of {t e : TypeId} (h : P.underlying t = some (.pointer e)) : P.underlying t = some (.pointer (P.pointee t)) := by
  simp [Program.pointee, h]
theorem part_plain {e : TypeId} {x y : LV} (he : cmpOK P e x y = true) {xs : Array Value} {off : Nat} {v : Value} (hx : xs[off]? = some v) : (part e xs off).run P w = .ok v w := by
  unfold cmpOK at he
  split at he
  · split at he
    · rename_i hu; simp [part, isAgg, run_underlying hu, hx]
    · cases he
  · split at he
    · rename_i hu; simp [part, isAgg, run_underlying hu, hx]
    · cases he
  · split at he
    · rename_i hu; simp [part, isAgg, run_underlying hu, hx]
    · cases he
  · cases he
theorem cmp_eq {t : Nat} {x y : LV} {l m : List LV} {v u : Value} (h : cmpOK P t x y = true) (hx : LR c w x v) (hy : LR c w y u) (d : Nat) : ∃ b : Bool, (Op.equalIn (d + 1) t v u).run P w = .ok b w ∧ (eqLs (x :: l) (y :: m) ↔ b = true ∧ eqLs l m) := by
  unfold cmpOK at h
  split at h
  · rename_i k a k' b
    split at h
    · rename_i k2 hu
      have := of_decide_eq_true h
      subst this
      rw [hx.inv_int, hy.inv_int]
      exact ⟨_, run_equalIn_int w d t k k2 _ _ hu, by simp [eqLs]⟩
    · cases h
  · split at h
    · rename_i hu
      rw [hx.inv_bool, hy.inv_bool]
      exact ⟨_, run_equalIn_bool' w d t _ _ hu, by simp [eqLs]⟩
    · cases h
  · split at h
    · rename_i hu
      rw [hx.inv_str, hy.inv_str]
      exact ⟨_, run_equalIn_string w d t _ _ hu, by rw [str_beq]; simp [eqLs]⟩
    · cases h
  · cases h
theorem fields_eq {xs ys : Array Value} (d : Nat) : ∀ (fs : List Field) (j : Nat) (l m : List LV), fieldsOK P j fs l m = true → fs.length = l.length → fs.length = m.length → (∀ (i : Nat) (u : LV), l[i]? = some u → ∃ v, xs[j + i]? = some v ∧ LR c w u v) → (∀ (i : Nat) (u : LV), m[i]? = some u → ∃ v, ys[j + i]? = some v ∧ LR c w u v) →
    ∃ b : Bool, (Op.eqFields (d + 1) xs ys fs).run P w = .ok b w ∧ (eqLs l m ↔ b = true)
  | [], j, l, m, _, hl, hm, _, _ => by
    have : l = [] := List.eq_nil_of_length_eq_zero hl.symm
    subst this
    exact ⟨true, by simp [Op.eqFields], by simp [eqLs]⟩
  | f :: fs, j, [], m, h, hl, hm, _, _ => by cases hl
  | f :: fs, j, x :: l, [], h, hl, hm, _, _ => by cases hm
  | f :: fs, j, x :: l, y :: m, h, hl, hm, h1, h2 => by
    simp only [fieldsOK, Bool.and_eq_true, bne_iff_ne, ne_eq, beq_iff_eq] at h
    obtain ⟨⟨⟨g1, g2⟩, g4⟩, g5⟩ := h
    obtain ⟨v, hv, rv⟩ := h1 0 x rfl
    obtain ⟨u, hu, ru⟩ := h2 0 y rfl
    obtain ⟨b, e1, e2⟩ := cmp_eq (l := l) (m := m) g4 rv ru d
    obtain ⟨b2, e3, e4⟩ := fields_eq d fs (j + 1) l m g5 (by simpa using hl) (by simpa using hm) (fun i u hi => by have := h1 (i + 1) u (by simpa using hi); rwa [show j + 1 + i = j + (i + 1) by omega]) (fun i u hi => by have := h2 (i + 1) u (by simpa using hi); rwa [show j + 1 + i = j + (i + 1) by omega])
    have p1 := part_plain (w := w) g4 (show xs[f.offset]? = some v by rw [g2]; exact hv)
    have p2 := part_plain (w := w) g4 (show ys[f.offset]? = some u by rw [g2]; exact hu)
    refine ⟨b && b2, ?_, ?_⟩
    · simp only [Op.eqFields, g1, ne_eq, not_false_eq_true, if_true, Sem.run_bind, p1, p2, e1, Result.andThen_ok, Sem.run_ite]
      cases b
      · simp
      · simp [e3]
    · rw [e2, e4]; cases b <;> cases b2 <;> simp
theorem items_eq {xs ys : Array Value} (d e : Nat) : ∀ (l m : List LV) (j : Nat), itemsOK P e l m = true → (∀ (i : Nat) (u : LV), l[i]? = some u → ∃ v, xs[j + i]? = some v ∧ LR c w u v) → (∀ (i : Nat) (u : LV), m[i]? = some u → ∃ v, ys[j + i]? = some v ∧ LR c w u v) →
    ∃ b : Bool, (Op.eqItems (d + 1) e 1 xs ys (List.range' j l.length)).run P w = .ok b w ∧ (eqLs l m ↔ b = true)
  | [], m, j, h, _, _ => by
    cases m with
    | nil => exact ⟨true, by simp [Op.eqItems], by simp [eqLs]⟩
    | cons y m => cases h
  | x :: l, [], j, h, _, _ => by cases h
  | x :: l, y :: m, j, h, h1, h2 => by
    simp only [itemsOK, Bool.and_eq_true] at h
    obtain ⟨g4, g5⟩ := h
    obtain ⟨v, hv, rv⟩ := h1 0 x rfl
    obtain ⟨u, hu, ru⟩ := h2 0 y rfl
    obtain ⟨b, e1, e2⟩ := cmp_eq (l := l) (m := m) g4 rv ru d
    obtain ⟨b2, e3, e4⟩ := items_eq d e l m (j + 1) g5 (fun i u hi => by have := h1 (i + 1) u (by simpa using hi); rwa [show j + 1 + i = j + (i + 1) by omega]) (fun i u hi => by have := h2 (i + 1) u (by simpa using hi); rwa [show j + 1 + i = j + (i + 1) by omega])
    have p1 := part_plain (w := w) g4 (show xs[j * 1]? = some v by rw [Nat.mul_one]; exact hv)
    have p2 := part_plain (w := w) g4 (show ys[j * 1]? = some u by rw [Nat.mul_one]; exact hu)
    refine ⟨b && b2, ?_, ?_⟩
    · rw [List.length_cons, List.range'_succ]
      simp only [Op.eqItems, Sem.run_bind, p1, p2, e1, Result.andThen_ok, Sem.run_ite]
      cases b
      · simp
      · simp [e3]
    · rw [e2, e4]; cases b <;> cases b2 <;> simp
theorem agg_eq {t : Nat} {l m : List LV} {xs ys : Array Value} (h : flatOK P t l m = true) (hx : LR c w (.agg l) (.agg xs)) (hy : LR c w (.agg m) (.agg ys)) : ∃ b : Bool, (Op.equalIn 10000 t (.agg xs) (.agg ys)).run P w = .ok b w ∧ (eqLs l m ↔ b = true) ∧ P.eqGuardType P.depth t = false := by
  simp only [flatOK, Bool.and_eq_true, Bool.not_eq_true'] at h
  obtain ⟨⟨g1, g2⟩, g3⟩ := h
  have key : ∀ {l : List LV} {xs : Array Value}, LR c w (.agg l) (.agg xs) → ∀ (i : Nat) (u : LV), l[i]? = some u → ∃ v, xs[0 + i]? = some v ∧ LR c w u v := by
    intro l xs hx i u hi
    cases hx with
    | agg _ _ hl hr =>
      have hlt : i < xs.size := by rw [← hl]; exact (List.getElem?_eq_some_iff.1 hi).1
      refine ⟨xs[i], by simp [hlt], ?_⟩
      have := hr i u hi
      rwa [Array.getD_eq_getD_getElem?, Array.getElem?_eq_getElem hlt] at this
  split at g3
  · rename_i fs hu
    simp only [Bool.and_eq_true, beq_iff_eq] at g3
    have hf : P.fieldsOf t = fs := by simp [Program.fieldsOf, hu]
    obtain ⟨b, e1, e2⟩ := fields_eq (P := P) 9998 fs.toList 0 l m g3.2 (by simpa using g3.1.1) (by simpa using g3.1.2) (key hx) (key hy)
    refine ⟨b, ?_, e2, g1⟩
    rw [show (10000 : Nat) = 9999 + 1 from rfl, run_equalIn_agg w 9999 t _ _ (by rw [hf]; exact hu) g2, hf]
    exact e1
  · rename_i n e hu
    simp only [Bool.and_eq_true, beq_iff_eq] at g3
    obtain ⟨⟨⟨k1, k2⟩, k3⟩, k4⟩ := g3
    split at k4
    · rename_i i hi
      have k4 : i.size = 1 := by simpa using k4
      have hc1 : P.cellsOf e = 1 := by simp [Program.cellsOf, hi, k4]
      obtain ⟨b, e1, e2⟩ := items_eq (P := P) 9998 e l m 0 k3 (key hx) (key hy)
      refine ⟨b, ?_, e2, g1⟩
      rw [show (10000 : Nat) = 9999 + 1 from rfl, run_equalIn_array w 9999 xs ys hu hi, hc1, List.range_eq_range', k1]
      exact e1
    · cases k4
  · cases g3
theorem lop_bin (hT : TOK P T) {op : BinOp} {t t2 : TypeId} {x y : Operand} (ho : o.op = .binOp op t x y t2) (hs : St c s a w) (h : bin (fun _ => P) t (tkOf T t) s op (ev s x) (ev s y) fun v => K (s.put o.dst v)) : o.wp P a w (Post K c w) Q := by
  have hx := hs.ev x
  have hy := hs.ev y
  have key : ∃ v u, (execOp a.eval o).run P w = .ok (.value v) w ∧ LR c w u v ∧ K (s.put o.dst u) := by
    have hrun : ∀ {v}, ((do eqGuard op t x y (a.eval x) (a.eval y); binOp op t (a.eval x) (a.eval y)) : Sem Value).run P w = .ok v w → (execOp a.eval o).run P w = .ok (.value v) w := by
      intro v hv
      simp only [execOp, ho]
      rw [Sem.run_bind, hv]
      rfl
    generalize hex : ev s x = lx at *
    generalize hey : ev s y = ly at *
    generalize a.eval x = vx at *
    generalize a.eval y = vy at *
    unfold bin at h
    split at h
    · rename_i l m
      obtain ⟨xs, hxs⟩ : ∃ xs, vx = .agg xs := by cases hx; exact ⟨_, rfl⟩
      obtain ⟨ys, hys⟩ : ∃ ys, vy = .agg ys := by cases hy; exact ⟨_, rfl⟩
      subst hxs hys
      split at h
      · obtain ⟨h1, h2, h3⟩ := h
        obtain ⟨b, e1, e2, e3⟩ := agg_eq h1 hx hy
        refine ⟨_, _, hrun (v := .bool b) ?_, LR.of_bool b, ?_⟩
        · rw [Sem.run_bind, run_eqGuard_agg w .eql t x y xs ys e3, Result.andThen_ok, run_eql_struct, e1]; rfl
        · cases b with
          | true => exact h2 (e2.2 rfl)
          | false => exact h3 (fun h => by cases e2.1 h)
      · obtain ⟨h1, h2, h3⟩ := h
        obtain ⟨b, e1, e2, e3⟩ := agg_eq h1 hx hy
        refine ⟨_, _, hrun (v := .bool (!b)) ?_, LR.of_bool (!b), ?_⟩
        · rw [Sem.run_bind, run_eqGuard_agg w .neq t x y xs ys e3, Result.andThen_ok, run_neq_struct, e1]; rfl
        · cases b with
          | true => exact h2 (e2.2 rfl)
          | false => exact h3 (fun h => by cases e2.1 h)
      · exact h.elim
    · rename_i k xe k' ye
      split at h
      case h_2 => exact h.elim
      rename_i hkk
      have hkk := of_decide_eq_true hkk
      subst hkk
      cases hx.inv_int; cases hy.inv_int
      revert h
      dsimp only
      split
      all_goals intro h
      · obtain ⟨z, hL, hr⟩ := ar_sound h P w t x y
        exact ⟨_, _, hrun hr, LR.of_int _ z, hL⟩
      · obtain ⟨z, hL, hr⟩ := cmp_sound h P w t x y
        exact ⟨_, _, hrun hr, LR.of_bool z, hL⟩
    · cases hx.inv_str; cases hy.inv_str
      split at h
      · obtain ⟨h0, h⟩ := need h
        obtain ⟨y, hy, h⟩ := str h
        refine ⟨_, _, hrun (v := .string (y ())) ?_, LR.of_str y, h⟩
        simp [eqGuard, binOp, Op.stringOp, IntKind.max, IntKind.signed, IntKind.bits, hy]
        omega
      · obtain ⟨z, hz, h⟩ := br h
        refine ⟨_, _, hrun (v := .bool _) ?_, LR.of_bool z, h⟩
        simp [eqGuard, binOp, Op.stringOp]
        rw [str_beq]
        cases z <;> simp_all
      · obtain ⟨z, hz, h⟩ := br h
        refine ⟨_, _, hrun (v := .bool _) ?_, LR.of_bool z, h⟩
        simp [eqGuard, binOp, Op.stringOp]
        rw [str_beq]
        cases z <;> simp_all
      · exact h.elim
    · rename_i b1 b2
      cases hx.inv_bool; cases hy.inv_bool
      split at h
      · rename_i hk
        obtain ⟨d, hd, hkd⟩ := tk_ok hT (t := t) (by rw [hk]; intro h; cases h)
        rw [hk] at hkd
        cases d <;> first | exact hkd.elim | skip
        split at h
        · exact ⟨_, _, hrun (v := .bool (b1 == b2)) (by rw [Sem.run_bind, guard0 (by simp) (by simp)]; exact run_eql_bool w t _ _ hd), LR.of_bool _, h⟩
        · exact ⟨_, _, hrun (v := .bool (b1 != b2)) (by rw [Sem.run_bind, guard0 (by simp) (by simp)]; exact run_neq_bool w t _ _ hd), LR.of_bool _, h⟩
        · exact h.elim
      · exact h.elim
    · rename_i b o'
      split at h
      · rename_i e hk
        obtain ⟨d, hd, hkd⟩ := tk_ok hT (t := t) (by rw [hk]; intro h; cases h)
        rw [hk] at hkd
        cases d <;> first | exact hkd.elim | skip
        cases hB : hget s.h b with
        | none => rw [hB] at h; exact h.elim
        | some B =>
          rw [hB] at h
          obtain ⟨m, hm, hBR⟩ := hs.hr.live b B hB
          have hvy : vy = .pointer none := by cases hy with | p _ _ h => cases h; rfl
          obtain ⟨ad, hvx⟩ : ∃ ad, vx = .pointer (some ad) := by
            cases hx with
            | ptr _ _ r k hm' _ => exact ⟨_, rfl⟩
            | goneP _ _ _ hm' _ => rw [hm] at hm'; cases hm'
          subst hvx hvy
          dsimp only at h
          split at h
          · exact ⟨_, _, hrun (v := .bool false) (by rw [Sem.run_bind, guard0 (by simp) (by simp)]; exact run_eql_pointer_nil w t _ (pointee_of hd)), LR.of_bool _, h⟩
          · exact ⟨_, _, hrun (v := .bool true) (by rw [Sem.run_bind, guard0 (by simp) (by simp)]; exact run_neq_pointer_nil w t _ (pointee_of hd)), LR.of_bool _, h⟩
          · exact h.elim
      · exact h.elim
    · split at h
      · rename_i e hk
        obtain ⟨d, hd, hkd⟩ := tk_ok hT (t := t) (by rw [hk]; intro h; cases h)
        rw [hk] at hkd
        cases d <;> first | exact hkd.elim | skip
        have hvy : vy = .pointer none := by cases hy with | p _ _ h => cases h; rfl
        have hvx : vx = .pointer none := by cases hx with | p _ _ h => cases h; rfl
        subst hvx hvy
        split at h
        · exact ⟨_, _, hrun (v := .bool true) (by rw [Sem.run_bind, guard0 (by simp) (by simp)]; exact run_eql_pointer_nil w t _ (pointee_of hd)), LR.of_bool _, h⟩
        · exact ⟨_, _, hrun (v := .bool false) (by rw [Sem.run_bind, guard0 (by simp) (by simp)]; exact run_neq_pointer_nil w t _ (pointee_of hd)), LR.of_bool _, h⟩
        · exact h.elim
      · exact h.elim
    · exact h.elim
  obtain ⟨v, u, h1, h2, h3⟩ := key
  exact op_val hs h1 h2 h3
end
end Go.LX
