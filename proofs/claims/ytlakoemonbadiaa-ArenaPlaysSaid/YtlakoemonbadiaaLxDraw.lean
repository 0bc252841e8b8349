/-
  Regions whose operations may be done in more than one order: where all that is open is the order of operations that turn nothing, the order of the text is enough.
-/
import Derived.Test.YtlakoemonbadiaaLxFrame
namespace Go.LX
open Go

/-- An operation that turns no block, and whose answer hangs on its operands and the blocks alone. -/
def isA (o : Oper) : Bool :=
  match o.op with
  | .move _ => true
  | .assign _ => true
  | .pick _ _ _ => true
  | .binOp _ _ _ _ _ => true
  | .nilCheck _ => true
  | .load _ _ => true
  | .fieldAddr _ _ _ => true
  | .field _ _ _ => true
  | .indexAddr _ _ _ => true
  | .index _ _ _ => true
  | .convert _ _ _ => true
  | .extract _ _ => true
  | .slice _ _ _ _ none => true
  | .unOp _ _ _ => true
  | .build _ _ => true
  | .makeInterface _ _ => true
  | .call c => match c.callee with
    | .builtin .len => true
    | .builtin .max => true
    | .builtin .min => true
    | _ => false
  | _ => false

section
variable {P : Unit → Program} {T : Unit → TT} {o : Oper} {s : LS} {K : LS → Prop}
def rdN : LV → List Nat
  | .ptr b _ => [b]
  | .sl b _ _ _ _ => [b]
  | _ => []
/-- Which blocks an operation looks at. -/
def looksIn (o : Oper) : Bool :=
  match o.op with
  | .move _ => false
  | .assign _ => false
  | .pick _ _ _ => false
  | _ => true
def rds (o : Oper) (s : LS) : List Nat :=
  match looksIn o with
  | true => o.op.operands.toList.flatMap fun x => rdN (ev s x)
  | false => []
theorem rds_mem {x : Operand} {b : Nat} (hx : x ∈ o.op.operands) (hb : b ∈ rdN (ev s x)) (hl : looksIn o = true := by rfl) : b ∈ rds o s := by
  unfold rds
  rw [hl]
  exact List.mem_flatMap.2 ⟨x, by simpa using hx, hb⟩
def Agree (o : Oper) (s s' : LS) : Prop := (∀ b ∈ rds o s, hget s'.h b = hget s.h b) ∧ ∀ x ∈ o.op.operands, ev s' x = ev s x
/-- What an operation of that kind answers, wherever its operands are the same. -/
def Gives (P : Unit → Program) (T : Unit → TT) (o : Oper) (s : LS) (u : LV) : Prop := ∀ s', Agree o s s' → ∀ K' : LS → Prop, K' (s'.put o.dst u) → lop P T o s' K'

theorem fit_x {k : IntKind} {e : Unit → Int} {L : I → Prop} (h : Fit k e L) : ∃ z, L z ∧ ∀ L' : I → Prop, L' z → Fit k e L' := by
  cases h with
  | mk h1 h2 hk => exact ⟨.sym (e ()), hk _ rfl, fun L' h => .mk h1 h2 fun z hz => hz ▸ h⟩
  | lit n h hk => exact ⟨_, hk, fun L' h' => .lit n h h'⟩
  | wrap hk => exact ⟨.sym _, hk _ rfl, fun L' h => .wrap fun z hz => hz ▸ h⟩
theorem sum_x {e : Unit → Int} {L : I → Prop} (h : Sum e L) : ∃ z, L z ∧ ∀ L' : I → Prop, L' z → Sum e L' := by
  cases h with
  | mk hk => exact ⟨.sym (e ()), hk _ rfl, fun L' h => .mk fun z hz => hz ▸ h⟩
  | lit n h hk => exact ⟨_, hk, fun L' h' => .lit n h h'⟩
theorem br_x {p : Unit → Prop} {L : Bool → Prop} (h : Br p L) : ∃ z, L z ∧ ∀ L' : Bool → Prop, L' z → Br p L' := by
  cases h with
  | mk ht hf =>
    by_cases e : p ()
    · exact ⟨true, ht e, fun L' h => .mk (fun _ => h) fun hn => absurd e hn⟩
    · exact ⟨false, hf e, fun L' h => .mk (fun hp => absurd hp e) fun _ => h⟩
theorem need_x {p : Unit → Prop} {L : Unit → Prop} (h : Need p L) : L () ∧ ∀ L' : Unit → Prop, L' () → Need p L' := by
  cases h with | mk h k => exact ⟨k, fun L' h' => .mk h h'⟩
theorem str_x {z : Unit → ByteArray} {L : (Unit → ByteArray) → Prop} (h : Str z L) : ∃ y, L y ∧ ∀ L' : (Unit → ByteArray) → Prop, L' y → Str z L' := by
  cases h with
  | mk k => exact ⟨fun _ => z (), k _ rfl, fun L' h => .mk fun y hy => hy ▸ h⟩
  | lit y h k => exact ⟨y, k, fun L' h' => .lit y h h'⟩
theorem cell_x {l : Unit → List PV} {i : Unit → Int} {L : PV → Prop} (h : Cell l i L) : ∃ v, L v ∧ ∀ L' : PV → Prop, L' v → Cell l i L' := by
  cases h with | mk v h k => exact ⟨v, k, fun L' h' => .mk v h h'⟩
theorem cellAt_x {sy : Bool} {l : List PV} {i : I} {j : Nat} {L : PV → Prop} (h : cellAt sy l i j L) : ∃ v, L v ∧ ∀ L' : PV → Prop, L' v → cellAt sy l i j L' := by
  cases sy with
  | true => exact cell_x h
  | false =>
    cases i with
    | sym n => exact cell_x h
    | lit n =>
      simp only [cellAt] at h ⊢
      cases e : pnth l (n.toNat + j) with
      | none => rw [e] at h; exact h.elim
      | some v => rw [e] at h; exact ⟨v, h, fun L' h' => h'⟩
theorem getP_x {sy : Bool} {l : List PV} {i : I} : ∀ (k j : Nat) {L : List LV → Prop}, getP sy l i k j L → ∃ v, L v ∧ ∀ L' : List LV → Prop, L' v → getP sy l i k j L'
  | 0, j, L, h => ⟨[], h, fun L' h' => h'⟩
  | k + 1, j, L, h => by
    obtain ⟨v, h1, h2⟩ := cellAt_x h
    obtain ⟨vs, h3, h4⟩ := getP_x k (j + 1) h1
    exact ⟨.p v :: vs, h3, fun L' h' => h2 _ (h4 _ h')⟩
theorem ofCells_x {k : TK} {l : List LV} {L : LV → Prop} (h : ofCells k l L) : ∃ v, L v ∧ ∀ L' : LV → Prop, L' v → ofCells k l L' := by
  unfold ofCells at h ⊢
  cases e : k.agg with
  | true => rw [e] at h; exact ⟨_, h, fun L' h' => h'⟩
  | false =>
    rw [e] at h
    dsimp only at h ⊢
    split at h
    · exact ⟨_, h, fun L' h' => h'⟩
    · exact h.elim
theorem loadB_x {B : LB} {i : I} {ti : TI} {L : LV → Prop} (h : loadB B i ti L) : ∃ v, L v ∧ ∀ L' : LV → Prop, L' v → loadB B i ti L' := by
  cases B with
  | pure sy l =>
    obtain ⟨vs, h1, h2⟩ := getP_x _ _ h
    obtain ⟨v, h3, h4⟩ := ofCells_x h1
    exact ⟨v, h3, fun L' h' => h2 _ (h4 _ h')⟩
  | mix l =>
    simp only [loadB] at h ⊢
    cases i with
    | sym n => exact h.elim
    | lit n =>
      dsimp only at h ⊢
      cases e : getM l n.toNat ti.size with
      | none => rw [e] at h; exact h.elim
      | some vs => rw [e] at h; obtain ⟨v, h3, h4⟩ := ofCells_x h; exact ⟨v, h3, h4⟩
  | iter _ _ => exact h.elim
  | fix _ _ => exact h.elim
  | bld t l =>
    simp only [loadB] at h ⊢
    split at h
    · rename_i n
      cases e : getM l n ti.size with
      | none => rw [e] at h; exact h.elim
      | some vs => rw [e] at h; obtain ⟨v, h3, h4⟩ := ofCells_x h; exact ⟨v, h3, h4⟩
    · exact h.elim
theorem iadd_x {x y : I} {L : I → Prop} (h : iadd x y L) : ∃ z, L z ∧ ∀ L' : I → Prop, L' z → iadd x y L' := by
  cases x <;> cases y <;> simp only [iadd] at h ⊢
  · exact ⟨_, h, fun L' h' => h'⟩
  · split at h
    · exact ⟨_, h, fun L' h' => h'⟩
    · exact sum_x h
  · split at h
    · exact ⟨_, h, fun L' h' => h'⟩
    · exact sum_x h
  · exact sum_x h
theorem imul_x {x : I} {k : Nat} {L : I → Prop} (h : imul x k L) : ∃ z, L z ∧ ∀ L' : I → Prop, L' z → imul x k L' := by
  unfold imul at h ⊢
  split at h
  · exact ⟨_, h, fun L' h' => h'⟩
  · split at h
    · exact ⟨_, h, fun L' h' => h'⟩
    · exact sum_x h
theorem ar_x {k : IntKind} {op : BinOp} {x y : I} {L : I → Prop} (h : ar k op x y L) : ∃ z, L z ∧ ∀ L' : I → Prop, L' z → ar k op x y L' := by
  have nzx : ∀ {b : I} {M : Unit → Prop}, nz b M → M () ∧ ∀ M' : Unit → Prop, M' () → nz b M' := by
    intro b M h
    cases b with
    | lit y =>
      simp only [nz] at h ⊢
      cases e : decide (y = 0) with
      | true => rw [e] at h; exact h.elim
      | false => rw [e] at h; exact ⟨h, fun M' h' => h'⟩
    | sym y => exact need_x h
  cases op <;> simp only [ar] at h ⊢ <;> try exact h.elim
  · cases x <;> cases y <;> first | exact fit_x h | exact ⟨_, h, fun L' h' => h'⟩
  · cases x <;> cases y <;> first | exact fit_x h | exact ⟨_, h, fun L' h' => h'⟩
  · cases x <;> cases y <;> first | exact fit_x h | exact ⟨_, h, fun L' h' => h'⟩
  · obtain ⟨h1, h2⟩ := nzx h
    have key : ∃ z, L z ∧ ∀ L' : I → Prop, L' z → arQuo k x y L' := by
      cases x <;> cases y <;> first | exact fit_x h1 | exact ⟨_, h1, fun L' h' => h'⟩
    obtain ⟨z, h3, h4⟩ := key
    exact ⟨z, h3, fun L' h' => h2 _ (h4 _ h')⟩
  · obtain ⟨h1, h2⟩ := nzx h
    have key : ∃ z, L z ∧ ∀ L' : I → Prop, L' z → arRem x y L' := by
      cases x <;> cases y <;> first | exact sum_x h1 | exact ⟨_, h1, fun L' h' => h'⟩
    obtain ⟨z, h3, h4⟩ := key
    exact ⟨z, h3, fun L' h' => h2 _ (h4 _ h')⟩
  · exact sum_x h
theorem cmp_x {op : BinOp} {x y : I} {L : Bool → Prop} (h : cmpI op x y L) : ∃ z, L z ∧ ∀ L' : Bool → Prop, L' z → cmpI op x y L' := by
  cases op <;> simp only [cmpI] at h ⊢ <;> try exact h.elim
  all_goals (cases x <;> cases y <;> first | exact br_x h | exact ⟨_, h, fun L' h' => h'⟩)
theorem bin_x {t : Nat} {k : TK} {op : BinOp} {x y : LV} {L : LV → Prop} (h : bin P t k s op x y L) : ∃ v, L v ∧ ∀ s' : LS, (∀ b ∈ rdN x ++ rdN y, hget s'.h b = hget s.h b) → ∀ L' : LV → Prop, L' v → bin P t k s' op x y L' := by
  unfold bin at h
  split at h
  · rename_i l m
    split at h
    · obtain ⟨h1, h2, h3⟩ := h
      by_cases e : eqLs l m
      · exact ⟨_, h2 e, fun s' _ L' h' => .mk h1 (fun _ => h') fun hn => absurd e hn⟩
      · exact ⟨_, h3 e, fun s' _ L' h' => .mk h1 (fun hp => absurd hp e) fun _ => h'⟩
    · obtain ⟨h1, h2, h3⟩ := h
      by_cases e : eqLs l m
      · exact ⟨_, h2 e, fun s' _ L' h' => .mk h1 (fun _ => h') fun hn => absurd e hn⟩
      · exact ⟨_, h3 e, fun s' _ L' h' => .mk h1 (fun hp => absurd hp e) fun _ => h'⟩
    · exact h.elim
  · rename_i k1 a k2 b
    split at h
    · rename_i hk
      split at h
      · rename_i hA
        obtain ⟨z, h1, h2⟩ := ar_x h
        exact ⟨_, h1, fun s' _ L' h' => by simp only [bin, hk, hA]; exact h2 _ h'⟩
      · rename_i hA
        obtain ⟨z, h1, h2⟩ := cmp_x h
        exact ⟨_, h1, fun s' _ L' h' => by simp only [bin, hk, hA]; exact h2 _ h'⟩
    · exact h.elim
  · split at h
    · obtain ⟨h1, h2⟩ := need_x h
      obtain ⟨z, h3, h4⟩ := str_x h1
      exact ⟨_, h3, fun s' _ L' h' => h2 _ (h4 _ h')⟩
    · obtain ⟨z, h3, h4⟩ := br_x h
      exact ⟨_, h3, fun s' _ L' h' => h4 _ h'⟩
    · obtain ⟨z, h3, h4⟩ := br_x h
      exact ⟨_, h3, fun s' _ L' h' => h4 _ h'⟩
    · exact h.elim
  · split at h
    · split at h
      · exact ⟨_, h, fun s' _ L' h' => h'⟩
      · exact ⟨_, h, fun s' _ L' h' => h'⟩
      · exact h.elim
    · exact h.elim
  · split at h
    · split at h
      · rename_i B hB
        split at h
        · exact ⟨_, h, fun s' hs' L' h' => by simp only [bin]; rw [hs' _ (List.mem_append_left _ List.mem_cons_self), hB]; exact h'⟩
        · exact ⟨_, h, fun s' hs' L' h' => by simp only [bin]; rw [hs' _ (List.mem_append_left _ List.mem_cons_self), hB]; exact h'⟩
        · exact h.elim
      · exact h.elim
    · exact h.elim
  · split at h
    · split at h
      · exact ⟨_, h, fun s' _ L' h' => h'⟩
      · exact ⟨_, h, fun s' _ L' h' => h'⟩
      · exact h.elim
    · exact h.elim
  · exact h.elim

theorem toStr_x {T : TT} {s : LS} {ts : TI} {x : LV} {L : (Unit → ByteArray) → Prop} (h : toStr T s ts x L) : ∃ z, L z ∧ ∀ s' : LS, (∀ b ∈ rdN x, hget s'.h b = hget s.h b) → ∀ L' : (Unit → ByteArray) → Prop, L' z → toStr T s' ts x L' := by
  have by_x : ∀ {l : Unit → List PV} {p : Unit → Prop}, Need p (fun _ => Bytes l L) → ∃ z, L z ∧ ∀ L' : (Unit → ByteArray) → Prop, L' z → Need p (fun _ => Bytes l L') := by
    intro l p h
    cases h with
    | mk hp h =>
      cases h with
      | mk st hb hk => exact ⟨_, hk _ rfl, fun L' h' => .mk hp (.mk st hb fun z hz => by subst hz; exact h')⟩
  unfold toStr at h
  split at h
  case h_2 => exact h.elim
  rename_i e he
  split at h
  case h_2 => exact h.elim
  rename_i te hte
  split at h
  case h_2 => exact h.elim
  rename_i k hk
  split at h
  case h_2 => exact h.elim
  rename_i hk8
  split at h
  · exact ⟨_, h, fun s' hs' L' h' => by simp only [toStr, he, hte, hk, hk8]; exact h'⟩
  · obtain ⟨z, h1, h2⟩ := by_x h
    exact ⟨_, h1, fun s' hs' L' h' => by simp only [toStr, he, hte, hk, hk8]; exact h2 _ h'⟩
  · split at h
    · rename_i sy l hB
      split at h
      · split at h
        · rename_i hj
          obtain ⟨z, h1, h2⟩ := by_x h
          exact ⟨_, h1, fun s' hs' L' h' => by
            have hh := hs' _ List.mem_cons_self
            simp only [toStr, he, hte, hk, hk8, hh, hB, hj]; exact h2 _ h'⟩
        · exact h.elim
      · exact h.elim
    · exact h.elim
  · exact h.elim
theorem upd_x {l : Unit → List PV} {L : List PV → Prop} (h : Upd l L) : ∃ z, L z ∧ ∀ L' : List PV → Prop, L' z → Upd l L' := by
  cases h with | mk hk => exact ⟨_, hk _ rfl, fun L' h' => .mk fun l' hl => hl ▸ h'⟩
theorem sliceL_x {te : TI} {x : LV} {fr : Bool} {lo : LV} {hi : Option LV} {L : LV → Prop} (h : sliceL s te x fr lo hi L) : ∃ v, L v ∧ ∀ s' : LS, (∀ b ∈ rdN x, hget s'.h b = hget s.h b) → ∀ L' : LV → Prop, L' v → sliceL s' te x fr lo hi L' := by
  unfold sliceL at h
  split at h
  case h_2 => exact h.elim
  rename_i k l
  split at h
  · split at h
    · obtain ⟨h1, h2⟩ := need_x h
      obtain ⟨z, h3, h4⟩ := upd_x h1
      obtain ⟨y, h5, h6⟩ := sum_x h3
      exact ⟨_, h5, fun s' _ L' h' => by unfold sliceL; exact h2 _ (h4 _ (h6 _ h'))⟩
    · exact h.elim
    · obtain ⟨h1, h2⟩ := need_x h
      obtain ⟨z, h3, h4⟩ := upd_x h1
      obtain ⟨y, h5, h6⟩ := sum_x h3
      exact ⟨_, h5, fun s' _ L' h' => by unfold sliceL; exact h2 _ (h4 _ (h6 _ h'))⟩
  · rename_i b e sz o n
    split at h
    · rename_i B hB
      split at h
      · obtain ⟨h1, h2⟩ := need_x h
        exact ⟨_, h1, fun s' hs' L' h' => by
          have hh := hs' b List.mem_cons_self
          simp only [sliceL, hh, hB]; exact h2 _ h'⟩
      · exact h.elim
    · rename_i B hB
      split at h
      · rename_i hsz
        split at h
        · cases h with
          | new hp h1 =>
            obtain ⟨z, h3, h4⟩ := imul_x h1
            obtain ⟨y, h5, h6⟩ := iadd_x h3
            obtain ⟨u, h7, h8⟩ := sum_x h5
            exact ⟨_, h7, fun s' hs' L' h' => by
              have hh := hs' b List.mem_cons_self
              simp only [sliceL, hh, hB, hsz]; exact .new hp (h4 _ (h6 _ (h8 _ h')))⟩
          | within hp h1 =>
            exact ⟨_, h1, fun s' hs' L' h' => by
              have hh := hs' b List.mem_cons_self
              simp only [sliceL, hh, hB, hsz]; exact .within hp h'⟩
        · exact h.elim
        · cases h with
          | new hp h1 =>
            obtain ⟨z, h3, h4⟩ := imul_x h1
            obtain ⟨y, h5, h6⟩ := iadd_x h3
            obtain ⟨u, h7, h8⟩ := sum_x h5
            exact ⟨_, h7, fun s' hs' L' h' => by
              have hh := hs' b List.mem_cons_self
              simp only [sliceL, hh, hB, hsz]; exact .new hp (h4 _ (h6 _ (h8 _ h')))⟩
          | within hp h1 =>
            exact ⟨_, h1, fun s' hs' L' h' => by
              have hh := hs' b List.mem_cons_self
              simp only [sliceL, hh, hB, hsz]; exact .within hp h'⟩
      · exact h.elim
    · exact h.elim
  · exact h.elim
theorem eva_agree {s s' : LS} : ∀ (l : List Operand), (∀ x ∈ l, ev s' x = ev s x) → eva s' l = eva s l
  | [], _ => rfl
  | x :: l, h => by rw [eva, eva, h x List.mem_cons_self, eva_agree l fun y hy => h y (List.mem_cons_of_mem _ hy)]
theorem evs_agree {s s' : LS} : ∀ (l : List (Nat × Operand)), (∀ x ∈ l, ev s' x.2 = ev s x.2) → evs s' l = evs s l
  | [], _ => rfl
  | (i, x) :: l, h => by rw [evs, evs, h (i, x) List.mem_cons_self, evs_agree l fun y hy => h y (List.mem_cons_of_mem _ hy)]
theorem lop_x (hA : isA o = true) (h : lop P T o s K) : ∃ u, K (s.put o.dst u) ∧ Gives P T o s u := by
  obtain ⟨dst, op, ty, pos, after, guard⟩ := o
  cases op <;> simp only [isA, Bool.false_eq_true] at hA
  case move x => exact ⟨_, h, fun s' ha K' hK => by
    have := ha.2 x (by simp [Op.operands])
    simp only [lop]; rw [this]; exact hK⟩
  case assign x => exact ⟨_, h, fun s' ha K' hK => by
    have := ha.2 x (by simp [Op.operands])
    simp only [lop]; rw [this]; exact hK⟩
  case build t parts =>
    simp only [lop] at h
    split at h
    · rename_i ti ht
      split at h
      · rename_i hk
        split at h
        · rename_i cs hf
          exact ⟨_, h, fun s' ha K' hK => by
            have e1 := evs_agree (s := s) (s' := s') parts.toList (fun x hx => ha.2 x.2 (by simp only [Op.operands]; first | exact Array.mem_map.2 ⟨x, by simpa using hx, rfl⟩ | exact List.mem_map.2 ⟨x, by simpa using hx, rfl⟩ | (simp; exact ⟨x.1, by simpa using hx⟩)))
            simp only [lop, ht, hk, e1, hf]; exact hK⟩
        · exact h.elim
      · exact h.elim
    · exact h.elim
  case makeInterface t x =>
    simp only [lop] at h
    split at h
    · rename_i ti ht
      split at h
      · exact h.elim
      · rename_i hk
        exact ⟨_, h, fun s' ha K' hK => by
          have e1 := ha.2 x (by simp [Op.operands])
          simp only [lop, ht, e1]
          cases ek : ti.kind <;> first | exact hK | exact absurd ek hk⟩
    · exact h.elim
  case pick c x y =>
    simp only [lop] at h
    split at h
    · rename_i b hb
      cases b with
      | true => exact ⟨_, h, fun s' ha K' hK => by
          have h1 := ha.2 c (by simp [Op.operands]); have h2 := ha.2 x (by simp [Op.operands])
          simp only [lop]; rw [h1, hb, h2]; exact hK⟩
      | false => exact ⟨_, h, fun s' ha K' hK => by
          have h1 := ha.2 c (by simp [Op.operands]); have h2 := ha.2 y (by simp [Op.operands])
          simp only [lop]; rw [h1, hb, h2]; exact hK⟩
    · exact h.elim
  case binOp op t x y t2 =>
    simp only [lop] at h
    obtain ⟨v, h1, h2⟩ := bin_x h
    refine ⟨v, h1, fun s' ha K' hK => ?_⟩
    have e1 := ha.2 x (by simp [Op.operands]); have e2 := ha.2 y (by simp [Op.operands])
    simp only [lop]
    rw [e1, e2]
    refine h2 s' (fun b hb => ?_) _ hK
    rcases List.mem_append.1 hb with hb | hb
    · exact ha.1 b (rds_mem (x := x) (by simp [Op.operands]) hb)
    · exact ha.1 b (rds_mem (x := y) (by simp [Op.operands]) hb)
  case nilCheck x =>
    simp only [lop] at h
    split at h
    · rename_i b o' hx
      split at h
      · rename_i B hB
        exact ⟨_, h, fun s' ha K' hK => by
          have e1 := ha.2 x (by simp [Op.operands])
          have hh := ha.1 b (rds_mem (x := x) (by simp [Op.operands]) (by rw [hx]; exact List.mem_cons_self))
          simp only [lop]; rw [e1, hx]; simp only [hh, hB]; exact hK⟩
      · exact h.elim
    · rename_i sy l o' hx
      exact ⟨_, h, fun s' ha K' hK => by
          have e1 := ha.2 x (by simp [Op.operands])
          simp only [lop]; rw [e1, hx]; exact hK⟩
    · exact h.elim
  case load t x =>
    simp only [lop] at h
    split at h
    · rename_i ti ht
      split at h
      · rename_i b o' hx
        split at h
        · rename_i B hB
          obtain ⟨v, h1, h2⟩ := loadB_x h
          exact ⟨v, h1, fun s' ha K' hK => by
            have e1 := ha.2 x (by simp [Op.operands])
            have hh := ha.1 b (rds_mem (x := x) (by simp [Op.operands]) (by rw [hx]; exact List.mem_cons_self))
            simp only [lop]; rw [e1, hx]; simp only [ht, hh, hB]; exact h2 _ hK⟩
        · exact h.elim
      · rename_i sy l o' hx
        obtain ⟨vs, h1, h2⟩ := getP_x _ _ h
        obtain ⟨v, h3, h4⟩ := ofCells_x h1
        exact ⟨v, h3, fun s' ha K' hK => by
          have e1 := ha.2 x (by simp [Op.operands])
          simp only [lop]; rw [e1, hx]; simp only [ht]; exact h2 _ (h4 _ hK)⟩
      · exact h.elim
    · exact h.elim
  case fieldAddr t x f =>
    simp only [lop] at h
    split at h
    · rename_i ti ht
      split at h
      · rename_i fs hk
        split at h
        · rename_i off ft hf
          split at h
          · rename_i tf htf
            split at h
            · rename_i hle
              split at h
              · rename_i b o' hx
                split at h
                · rename_i B hB
                  obtain ⟨z, h1, h2⟩ := iadd_x h
                  exact ⟨_, h1, fun s' ha K' hK => by
                    have e1 := ha.2 x (by simp [Op.operands])
                    have hh := ha.1 b (rds_mem (x := x) (by simp [Op.operands]) (by rw [hx]; exact List.mem_cons_self))
                    simp only [lop]; rw [e1, hx]; simp only [ht, hk, hf, htf, hle, hh, hB]; exact h2 _ hK⟩
                · exact h.elim
              · rename_i sy l o' hx
                obtain ⟨z, h1, h2⟩ := iadd_x h
                exact ⟨_, h1, fun s' ha K' hK => by
                  have e1 := ha.2 x (by simp [Op.operands])
                  simp only [lop]; rw [e1, hx]; simp only [ht, hk, hf, htf, hle]; exact h2 _ hK⟩
              · exact h.elim
            · exact h.elim
          · exact h.elim
        · exact h.elim
      · exact h.elim
    · exact h.elim
  case field t x f =>
    simp only [lop] at h
    split at h
    · rename_i ti ht
      split at h
      · rename_i fs hk
        split at h
        · rename_i off ft hf
          split at h
          · rename_i tf htf
            split at h
            · rename_i l hx
              split at h
              · rename_i vs hg
                obtain ⟨v, h1, h2⟩ := ofCells_x h
                exact ⟨v, h1, fun s' ha K' hK => by
                  have e1 := ha.2 x (by simp [Op.operands])
                  simp only [lop]; rw [e1, hx]; simp only [ht, hk, hf, htf, hg]; exact h2 _ hK⟩
              · exact h.elim
            · exact h.elim
          · exact h.elim
        · exact h.elim
      · exact h.elim
    · exact h.elim
  case indexAddr t x y =>
    simp only [lop] at h
    split at h
    · rename_i ti ht
      split at h
      · rename_i k i hi
        split at h
        · rename_i e hk
          split at h
          · rename_i te hte
            split at h
            · rename_i n sy l hx
              obtain ⟨h0, h1⟩ := need_x h
              obtain ⟨z, h2, h3⟩ := imul_x h0
              exact ⟨_, h2, fun s' ha K' hK => by
                have e1 := ha.2 x (by simp [Op.operands]); have e2 := ha.2 y (by simp [Op.operands])
                simp only [lop]; rw [e1, e2, hx, hi]; simp only [ht, hk, hte]; exact h1 _ (h3 _ hK)⟩
            · rename_i b _ _ o' n hx
              split at h
              · rename_i B hB
                obtain ⟨h0, h1⟩ := need_x h
                obtain ⟨z, h2, h3⟩ := imul_x h0
                obtain ⟨z2, h4, h5⟩ := iadd_x h2
                exact ⟨_, h4, fun s' ha K' hK => by
                  have e1 := ha.2 x (by simp [Op.operands]); have e2 := ha.2 y (by simp [Op.operands])
                  have hh := ha.1 b (rds_mem (x := x) (by simp [Op.operands]) (by rw [hx]; exact List.mem_cons_self))
                  simp only [lop]; rw [e1, e2, hx, hi]; simp only [ht, hk, hte, hh, hB]; exact h1 _ (h3 _ (h5 _ hK))⟩
              · exact h.elim
            · exact h.elim
          · exact h.elim
        · rename_i n e hk
          split at h
          · rename_i te hte
            split at h
            · rename_i b o' hx
              split at h
              · rename_i B hB
                obtain ⟨h0, h1⟩ := need_x h
                obtain ⟨z, h2, h3⟩ := imul_x h0
                obtain ⟨z2, h4, h5⟩ := iadd_x h2
                exact ⟨_, h4, fun s' ha K' hK => by
                  have e1 := ha.2 x (by simp [Op.operands]); have e2 := ha.2 y (by simp [Op.operands])
                  have hh := ha.1 b (rds_mem (x := x) (by simp [Op.operands]) (by rw [hx]; exact List.mem_cons_self))
                  simp only [lop]; rw [e1, e2, hx, hi]; simp only [ht, hk, hte, hh, hB]; exact h1 _ (h3 _ (h5 _ hK))⟩
              · exact h.elim
            · exact h.elim
          · exact h.elim
        · exact h.elim
      · exact h.elim
    · exact h.elim
  case index t x y =>
    simp only [lop] at h
    split at h
    · rename_i ti ht
      split at h
      · rename_i hk
        split at h
        · rename_i z k i hx hi
          obtain ⟨h0, h1⟩ := need_x h
          obtain ⟨z, h2, h3⟩ := sum_x h0
          exact ⟨_, h2, fun s' ha K' hK => by
            have e1 := ha.2 x (by simp [Op.operands]); have e2 := ha.2 y (by simp [Op.operands])
            simp only [lop]; rw [e1, e2, hx, hi]; simp only [ht, hk]; exact h1 _ (h3 _ hK)⟩
        · exact h.elim
      · exact h.elim
    · exact h.elim
  case convert src dt x =>
    simp only [lop] at h
    split at h
    · rename_i ts ti hts ht
      split at h
      · rename_i k hk
        split at h
        · rename_i k' a hx
          split at h
          · rename_i n
            exact ⟨_, h, fun s' ha K' hK => by
              have e1 := ha.2 x (by simp [Op.operands])
              simp only [lop, hts, ht, hk]; rw [e1, hx]; exact hK⟩
          · rename_i n
            obtain ⟨z, h1, h2⟩ := fit_x h
            exact ⟨_, h1, fun s' ha K' hK => by
              have e1 := ha.2 x (by simp [Op.operands])
              simp only [lop, hts, ht, hk]; rw [e1, hx]; exact h2 _ hK⟩
        · exact h.elim
      · rename_i hk
        split at h
        · rename_i k' a hx
          obtain ⟨z, h1, h2⟩ := str_x h
          exact ⟨_, h1, fun s' ha K' hK => by
            have e1 := ha.2 x (by simp [Op.operands])
            simp only [lop, hts, ht, hk]; rw [e1, hx]; exact h2 _ hK⟩
        · rename_i z hx
          exact ⟨_, h, fun s' ha K' hK => by
            have e1 := ha.2 x (by simp [Op.operands])
            simp only [lop, hts, ht, hk]; rw [e1, hx]; exact hK⟩
        · rename_i n1 n2
          obtain ⟨z, h1, h2⟩ := toStr_x h
          refine ⟨_, h1, fun s' ha K' hK => ?_⟩
          have e1 := ha.2 x (by simp [Op.operands])
          have h3 := h2 s' (fun b hb => ha.1 b (rds_mem (x := x) (by simp [Op.operands]) hb)) (fun z => K' (s'.put dst (.p (.str z)))) hK
          rw [← e1] at h3 n1 n2
          simp only [lop, hts, ht, hk]
          exact h3
      · exact h.elim
    · exact h.elim
  case slice t x lo hi mx =>
    cases mx with
    | some mx => simp at hA
    | none =>
      simp only [lop] at h
      have same : ∀ {s' : LS}, (∀ y ∈ (Op.slice t x lo hi none).operands, ev s' y = ev s y) → ev s' x = ev s x ∧ lo.map (ev s') = lo.map (ev s) ∧ hi.map (ev s') = hi.map (ev s) := by
        intro s' ha
        refine ⟨ha x (by simp [Op.operands]), ?_, ?_⟩
        · cases lo with
          | none => rfl
          | some y => simp only [Option.map_some]; rw [ha y (by simp [Op.operands])]
        · cases hi with
          | none => rfl
          | some y => simp only [Option.map_some]; rw [ha y (by simp [Op.operands])]
      split at h
      · rename_i ti ht
        split at h
        · rename_i hk
          split at h
          · rename_i z hx
            split at h
            · rename_i k1 l1 hlo
              split at h
              · rename_i hhi
                obtain ⟨h1, h2⟩ := need_x h
                obtain ⟨y, h3, h4⟩ := str_x h1
                exact ⟨_, h3, fun s' ha K' hK => by
                  obtain ⟨e1, e2, e3⟩ := same ha.2
                  simp only [lop, ht, hk, e1, e2, e3, hx, hlo, hhi]; exact h2 _ (h4 _ hK)⟩
              · rename_i k2 l2 hhi
                obtain ⟨h1, h2⟩ := need_x h
                obtain ⟨y, h3, h4⟩ := str_x h1
                exact ⟨_, h3, fun s' ha K' hK => by
                  obtain ⟨e1, e2, e3⟩ := same ha.2
                  simp only [lop, ht, hk, e1, e2, e3, hx, hlo, hhi]; exact h2 _ (h4 _ hK)⟩
              · exact h.elim
            · exact h.elim
          · exact h.elim
        · rename_i e hk
          split at h
          · rename_i te hte
            obtain ⟨v, h1, h2⟩ := sliceL_x h
            refine ⟨v, h1, fun s' ha K' hK => ?_⟩
            obtain ⟨e1, e2, e3⟩ := same ha.2
            have h3 := h2 s' (fun b hb => ha.1 b (rds_mem (x := x) (by simp [Op.operands]) hb)) (fun v => K' (s'.put dst v)) hK
            simp only [lop, ht, hk, hte, e1, e2, e3]
            exact h3
          · exact h.elim
        · exact h.elim
      · exact h.elim
  case unOp uop t x =>
    simp only [lop] at h
    split at h
    · split at h
      · rename_i b hx
        cases b with
        | true => exact ⟨_, h, fun s' ha K' hK => by
            have e1 := ha.2 x (by simp [Op.operands])
            simp only [lop]; rw [e1, hx]; exact hK⟩
        | false => exact ⟨_, h, fun s' ha K' hK => by
            have e1 := ha.2 x (by simp [Op.operands])
            simp only [lop]; rw [e1, hx]; exact hK⟩
      · exact h.elim
    · split at h
      · rename_i k a hx
        obtain ⟨z, h1, h2⟩ := ar_x h
        exact ⟨_, h1, fun s' ha K' hK => by
          have e1 := ha.2 x (by simp [Op.operands])
          simp only [lop]; rw [e1, hx]; exact h2 _ hK⟩
      · exact h.elim
    · exact h.elim
  case call c =>
    split at hA
    · rename_i hc
      simp only [lop, hc] at h
      have same : ∀ {s' : LS}, (∀ y ∈ (Op.call c).operands, ev s' y = ev s y) → eva s' c.args.toList = eva s c.args.toList := by
        intro s' ha
        exact eva_agree _ fun x hx => ha x (by
          have hx : x ∈ c.args := by simpa using hx
          simp [Op.operands, Call.operands, hc, hx])
      split at h
      · rename_i x hargs
        split at h
        · rename_i t hty
          split at h
          · rename_i ti ht
            have fin : ∀ {v : PV}, K (s.put dst (.p v)) → (∀ s' : LS, Agree ⟨dst, .call c, ty, pos, after, guard⟩ s s' → ∀ K' : LS → Prop, K' (s'.put dst (.p v)) → lop P T ⟨dst, .call c, ty, pos, after, guard⟩ s' K') → ∃ u, K (s.put dst u) ∧ Gives P T ⟨dst, .call c, ty, pos, after, guard⟩ s u := fun h1 h2 => ⟨_, h1, h2⟩
            split at h
            · rename_i hk
              exact fin h fun s' ha K' hK => by simp only [lop, hc, same ha.2, hargs, hty, ht, hk]; exact hK
            · rename_i hk
              exact fin h fun s' ha K' hK => by simp only [lop, hc, same ha.2, hargs, hty, ht, hk]; exact hK
            · rename_i hk
              obtain ⟨y, h1, h2⟩ := sum_x h
              exact fin h1 fun s' ha K' hK => by simp only [lop, hc, same ha.2, hargs, hty, ht, hk]; exact h2 _ hK
            · rename_i e1 b e2 sz o2 n2 hk
              split at h
              · rename_i B hB
                refine fin h fun s' ha K' hK => ?_
                have hm : ∃ y ∈ c.args, ev s y = .sl b e2 sz o2 n2 := by
                  cases hl : c.args.toList with
                  | nil => rw [hl] at hargs; cases hargs
                  | cons y l =>
                    rw [hl, eva] at hargs
                    injection hargs with h5 _
                    exact ⟨y, by have : y ∈ c.args.toList := by rw [hl]; exact List.mem_cons_self
                                 simpa using this, h5⟩
                obtain ⟨y, hy1, hy2⟩ := hm
                have hh := ha.1 _ (rds_mem (x := y) (by simp [Op.operands, Call.operands, hc, hy1]) (by rw [hy2]; exact List.mem_cons_self))
                simp only [lop, hc, same ha.2, hargs, hty, ht, hk, hh, hB]; exact hK
              · exact h.elim
            · exact h.elim
          · exact h.elim
        · exact h.elim
      all_goals (first | exact h.elim | (rename_i hb _ ; cases hb) | (rename_i hb; cases hb) | skip)
    · rename_i hc
      simp only [lop, hc] at h
      have same : ∀ {s' : LS}, (∀ y ∈ (Op.call c).operands, ev s' y = ev s y) → eva s' c.args.toList = eva s c.args.toList := by
        intro s' ha
        exact eva_agree _ fun x hx => ha x (by
          have hx : x ∈ c.args := by simpa using hx
          simp [Op.operands, Call.operands, hc, hx])
      split at h
      case h_5 k x k' y hargs =>
        obtain ⟨z, h3, h4⟩ := br_x h
        cases z with
        | true => exact ⟨_, h3, fun s' ha K' hK => by simp only [lop, hc, same ha.2, hargs]; exact h4 (fun c => match c with | true => _ | false => _) hK⟩
        | false => exact ⟨_, h3, fun s' ha K' hK => by simp only [lop, hc, same ha.2, hargs]; exact h4 (fun c => match c with | true => _ | false => _) hK⟩
      all_goals (first | exact h.elim | (rename_i hb _ ; cases hb) | (rename_i hb; cases hb) | skip)
    · rename_i hc
      simp only [lop, hc] at h
      have same : ∀ {s' : LS}, (∀ y ∈ (Op.call c).operands, ev s' y = ev s y) → eva s' c.args.toList = eva s c.args.toList := by
        intro s' ha
        exact eva_agree _ fun x hx => ha x (by
          have hx : x ∈ c.args := by simpa using hx
          simp [Op.operands, Call.operands, hc, hx])
      split at h
      case h_4 k x k' y hargs =>
        obtain ⟨z, h3, h4⟩ := br_x h
        cases z with
        | true => exact ⟨_, h3, fun s' ha K' hK => by simp only [lop, hc, same ha.2, hargs]; exact h4 (fun c => match c with | true => _ | false => _) hK⟩
        | false => exact ⟨_, h3, fun s' ha K' hK => by simp only [lop, hc, same ha.2, hargs]; exact h4 (fun c => match c with | true => _ | false => _) hK⟩
      all_goals (first | exact h.elim | (rename_i hb _ ; cases hb) | (rename_i hb; cases hb) | skip)
    · cases hA
  case extract x i =>
    simp only [lop] at h
    split at h
    · rename_i l hx
      split at h
      · rename_i v hv
        exact ⟨_, h, fun s' ha K' hK => by
          have e1 := ha.2 x (by simp [Op.operands])
          simp only [lop]; rw [e1, hx]; simp only [hv]; exact hK⟩
      · exact h.elim
    · exact h.elim

/-! ### One operation, with its guard -/
def stepL (P : Unit → Program) (T : Unit → TT) (all : List Oper) (o : Oper) (s : LS) (L : LS → Prop) : Prop :=
  match yes s all o.guard with
  | some c => match c with
    | true => lop P T o s L
    | false => L (s.put o.dst .nul)
  | none => False
theorem lops_cons (all : List Oper) (o : Oper) (rest : List Oper) : lops P T all (o :: rest) s K = stepL P T all o s fun s' => lops P T all rest s' K := rfl

def AgreeS (ops : Array Oper) (o : Oper) (s s' : LS) : Prop := (∀ b ∈ rds o s, hget s'.h b = hget s.h b) ∧ ∀ t ∈ o.looksAt ops, tget s'.t t = tget s.t t
def GivesS (P : Unit → Program) (T : Unit → TT) (ops : Array Oper) (o : Oper) (s : LS) (u : LV) : Prop :=
  ∀ s', AgreeS ops o s s' → ∀ L : LS → Prop, L (s'.put o.dst u) → stepL P T ops.toList o s' L

theorem agree_of {ops : Array Oper} {s s' : LS} (h : AgreeS ops o s s') : Agree o s s' := by
  refine ⟨h.1, fun x hx => ?_⟩
  cases x with
  | tmp t =>
    refine h.2 t ?_
    simp only [Oper.looksAt, List.mem_append, List.mem_filterMap]
    exact .inl ⟨.tmp t, by simpa using hx, rfl⟩
  | const v => rfl
  | global g => rfl
  | func f => rfl
theorem yes_of {ops : Array Oper} {s s' : LS} (h : AgreeS ops o s s') : yes s' ops.toList o.guard = yes s ops.toList o.guard := by
  cases hg : o.guard with
  | none => rfl
  | some p =>
    obtain ⟨j, want⟩ := p
    simp only [yes, onth_eq]
    have hj : ops.toList[j]? = ops[j]? := by simp
    rw [hj]
    cases e : ops[j]? with
    | none => rfl
    | some q =>
      dsimp only
      cases e2 : q.dst with
      | none => rfl
      | some d =>
        dsimp only
        rw [h.2 d (by simp [Oper.looksAt, hg, e, e2])]
theorem step_x {ops : Array Oper} {L : LS → Prop} (hA : isA o = true) (h : stepL P T ops.toList o s L) : ∃ u, L (s.put o.dst u) ∧ GivesS P T ops o s u := by
  unfold stepL at h
  split at h
  · rename_i c hc
    cases c with
    | true =>
      obtain ⟨u, h1, h2⟩ := lop_x hA h
      exact ⟨u, h1, fun s' ha L' hL => by unfold stepL; rw [yes_of ha, hc]; exact h2 s' (agree_of ha) _ hL⟩
    | false => exact ⟨.nul, h, fun s' ha L' hL => by unfold stepL; rw [yes_of ha, hc]; exact hL⟩
  · exact h.elim
theorem tget_put (d : Option Nat) (v : LV) (t : Nat) (h : d ≠ some t) : tget (s.put d v).t t = tget s.t t := by
  cases d with
  | none => rfl
  | some d =>
    simp only [LS.put, tset_eq, tget_eq, List.getD_eq_getElem?_getD]
    rw [List.getElem?_set_ne (by rintro rfl; exact h rfl)]
theorem put_h (d : Option Nat) (v : LV) : (s.put d v).h = s.h := by cases d <;> rfl
theorem put_comm (x y : Option Nat) (u v : LV) (h : ∀ d, x = some d → y ≠ some d) : (s.put x u).put y v = (s.put y v).put x u := by
  cases x with
  | none => rfl
  | some x => cases y with
    | none => rfl
    | some y =>
      simp only [LS.put, tset_eq]
      rw [List.set_comm _ _ (by rintro rfl; exact h _ rfl rfl)]

def swapOK (ops : Array Oper) (p q : Oper) : Bool := isA p && isA q && p.apart ops q
theorem step_swap {ops : Array Oper} {p q : Oper} {R : LS → Prop} (hsw : swapOK ops p q = true) {u : LV} (hp : GivesS P T ops p s u) (h : stepL P T ops.toList q (s.put p.dst u) R) :
    stepL P T ops.toList q s fun s1 => stepL P T ops.toList p s1 R := by
  simp only [swapOK, Bool.and_eq_true] at hsw
  obtain ⟨⟨hA, hB⟩, hap⟩ := hsw
  obtain ⟨h1, h2, h3⟩ := Oper.apart_spec hap
  obtain ⟨v, h4, h5⟩ := step_x hB h
  refine h5 s ⟨fun _ _ => by rw [put_h], fun t ht => (tget_put _ _ _ (fun e => h1 t e ht)).symm⟩ _ ?_
  refine hp _ ⟨fun _ _ => by rw [put_h], fun t ht => tget_put _ _ _ (fun e => h3 t e ht)⟩ _ ?_
  rw [← put_comm _ _ _ _ h2]
  exact h4

def opAt (ops : Array Oper) (j : Nat) : Oper := ops.toList.getD j default
theorem front {ops : Array Oper} {i : Nat} : ∀ (l : List Nat) {s : LS}, l.Pairwise (· < ·) → i ∈ l → (∀ p ∈ l, p < i → swapOK ops (opAt ops p) (opAt ops i) = true) → lops P T ops.toList (l.map (opAt ops)) s K →
    stepL P T ops.toList (opAt ops i) s fun s1 => lops P T ops.toList ((l.filter (· != i)).map (opAt ops)) s1 K
  | [], s, _, hi, _, _ => by cases hi
  | p :: l, s, hp, hi, hsw, h => by
    rw [List.map_cons, lops_cons] at h
    rw [List.pairwise_cons] at hp
    rcases List.mem_cons.1 hi with rfl | hi'
    · have : (i :: l).filter (· != i) = l := by
        rw [List.filter_cons_of_neg (by simp), List.filter_eq_self]
        intro a ha; have := hp.1 a ha; simp; omega
      rw [this]; exact h
    · have hlt := hp.1 i hi'
      have hs := hsw p (List.mem_cons_self) hlt
      have hA : isA (opAt ops p) = true := by simp only [swapOK, Bool.and_eq_true] at hs; exact hs.1.1
      obtain ⟨u, h1, h2⟩ := step_x hA h
      have h3 := front l hp.2 hi' (fun p' hp' => hsw p' (List.mem_cons_of_mem _ hp')) h1
      have h4 := step_swap hs h2 h3
      have : (p :: l).filter (· != i) = p :: l.filter (· != i) := List.filter_cons_of_pos (by simp; omega)
      rw [this, List.map_cons]
      exact h4
end

/-! ### All orders -/
section
variable {P : Program} {T : TT} {K : LS → Prop}
def unl (ops : Array Oper) (listed : Array Bool) : List Nat := (List.range ops.size).filter fun j => !listed.getD j true
def reach (ops : Array Oper) : Nat → Nat → Nat → Bool
  | 0, _, _ => false
  | n + 1, p, q => match ops[q]? with
    | some o => o.after.any fun e => Region.binds .any e && (e.on == p || reach ops n p e.on)
    | none => false
def drawOK (ops : Array Oper) : Bool :=
  (List.range ops.size).all fun q => (match ops[q]? with
    | some o => o.after.all fun e => !Region.binds .any e || decide (e.on < q)
    | none => true) && (List.range q).all fun p => reach ops ops.size p q || swapOK ops (opAt ops p) (opAt ops q)
def Closed (ops : Array Oper) (listed : Array Bool) : Prop := ∀ q o, ops[q]? = some o → listed.getD q false = true → ∀ e ∈ o.after, Region.binds .any e = true → listed.getD e.on false = true
theorem reach_listed {ops : Array Oper} {listed : Array Bool} (hc : Closed ops listed) {p : Nat} : ∀ (n q : Nat) (o : Oper), ops[q]? = some o → reach ops n p q = true → (∀ e ∈ o.after, Region.binds .any e = true → listed.getD e.on false = true) → listed.getD p false = true
  | 0, q, o, _, hr, _ => by cases hr
  | n + 1, q, o, ho, hr, ha => by
    rw [reach, ho] at hr
    dsimp only at hr
    obtain ⟨e, he, hb⟩ := Array.any_eq_true'.1 hr
    simp only [Bool.and_eq_true, Bool.or_eq_true, beq_iff_eq] at hb
    have hl := ha e he hb.1
    rcases hb.2 with h | h
    · rw [← h]; exact hl
    · cases e2 : ops[e.on]? with
      | none => cases n <;> simp [reach, e2] at h
      | some o2 => exact reach_listed hc n e.on o2 e2 h (hc e.on o2 e2 hl)

theorem getD_tf {listed : Array Bool} {j : Nat} (h : j < listed.size) (d d' : Bool) : listed.getD j d = listed.getD j d' := by
  rw [Array.getD_eq_getD_getElem?, Array.getD_eq_getD_getElem?, Array.getElem?_eq_getElem h]; rfl
theorem unl_set {ops : Array Oper} {listed : Array Bool} {i : Nat} (hs : listed.size = ops.size) : unl ops (listed.setIfInBounds i true) = (unl ops listed).filter (· != i) := by
  unfold unl
  rw [List.filter_filter]
  refine List.filter_congr fun j hj => ?_
  have hj : j < ops.size := List.mem_range.1 hj
  by_cases e : i = j
  · subst e
    rw [Array.getD_eq_getD_getElem?, Array.getElem?_setIfInBounds_self_of_lt (by omega)]
    simp
  · rw [getD_set_ne _ e]
    have : (j != i) = true := by simp; omega
    rw [this]; simp
theorem unl_sorted (ops : Array Oper) (listed : Array Bool) : (unl ops listed).Pairwise (· < ·) := List.Pairwise.filter _ (List.pairwise_lt_range)
theorem filter_len {i : Nat} : ∀ {l : List Nat}, l.Pairwise (· < ·) → i ∈ l → (l.filter (· != i)).length + 1 = l.length
  | [], _, hi => by cases hi
  | p :: l, hp, hi => by
    rw [List.pairwise_cons] at hp
    by_cases e : p = i
    · subst e
      have : (p :: l).filter (· != p) = l := by
        rw [List.filter_cons_of_neg (by simp), List.filter_eq_self]
        intro a ha; have := hp.1 a ha; simp; omega
      rw [this]; rfl
    · have hi' : i ∈ l := by
        rcases List.mem_cons.1 hi with h | h
        · exact absurd h.symm e
        · exact h
      rw [List.filter_cons_of_pos (by simpa using e), List.length_cons, List.length_cons, filter_len hp.2 hi']

theorem any_sound (hT : TOK P T) {ops : Array Oper} (hd : drawOK ops = true) {c0 : Ctx} {w0 : World} {Q : Exit → Act → World → Prop} (hQ : ∀ a' w', Post K c0 w0 a' w' → Q .normal a' w') :
    ∀ (fuel : Nat) (listed : Array Bool) {s : LS} {c : Ctx} {a : Act} {w : World}, listed.size = ops.size → Closed ops listed → (unl ops listed).length = fuel → Ext c0 w0 c w → St c s a w →
    lops (fun _ => P) (fun _ => T) ops.toList ((unl ops listed).map (opAt ops)) s K → wpAny P .any ops Q fuel listed a w := by
  have hd1 : ∀ q o, ops[q]? = some o → (∀ e ∈ o.after, Region.binds .any e = true → e.on < q) ∧ ∀ p, p < q → reach ops ops.size p q = true ∨ swapOK ops (opAt ops p) (opAt ops q) = true := by
    intro q o ho
    have hq : q < ops.size := (Array.getElem?_eq_some_iff.1 ho).1
    simp only [drawOK, List.all_eq_true, List.mem_range] at hd
    have h1 := hd q hq
    rw [ho] at h1
    simp only [Bool.and_eq_true, List.all_eq_true, List.mem_range, Bool.or_eq_true] at h1
    refine ⟨fun e he hb => ?_, h1.2⟩
    have h2 := Array.all_eq_true_iff_forall_mem.1 h1.1 e he
    simpa [hb] using h2
  have mem_unl : ∀ {listed : Array Bool} {j : Nat}, j ∈ unl ops listed ↔ j < ops.size ∧ listed.getD j true = false := by
    intro listed j
    simp [unl, List.mem_filter]
  have at_ : ∀ {j o}, ops[j]? = some o → opAt ops j = o := by
    intro j o ho
    simp [opAt, ho]
  intro fuel
  induction fuel with
  | zero =>
    intro listed s c a w hsz hcl hlen he hs h
    have h0 : unl ops listed = [] := List.eq_nil_of_length_eq_zero hlen
    refine ⟨List.eq_nil_iff_forall_not_mem.2 fun j hj => ?_, ?_⟩
    · obtain ⟨h1, o, h2, _⟩ := mem_ready.1 hj
      have : j ∈ unl ops listed := mem_unl.2 ⟨(Array.getElem?_eq_some_iff.1 h2).1, h1⟩
      rw [h0] at this; cases this
    · rw [h0] at h
      exact hQ _ _ ⟨c, s, h, hs, he⟩
  | succ fuel ih =>
    intro listed s c a w hsz hcl hlen he hs h
    have hsort := unl_sorted ops listed
    refine ⟨fun hr => ?_, fun i hi => ?_⟩
    · exfalso
      cases hu : unl ops listed with
      | nil => rw [hu] at hlen; cases hlen
      | cons i0 rest =>
        rw [hu, List.pairwise_cons] at hsort
        have hi0 : i0 ∈ unl ops listed := by rw [hu]; exact List.mem_cons_self
        obtain ⟨hlt, hun⟩ := mem_unl.1 hi0
        have : i0 ∈ Region.ready .any ops listed := by
          refine mem_ready.2 ⟨hun, ops[i0], Array.getElem?_eq_getElem hlt, fun e hee hb => ?_⟩
          have hlt2 := (hd1 i0 _ (Array.getElem?_eq_getElem hlt)).1 e hee hb
          cases hx : listed.getD e.on false with
          | true => rfl
          | false =>
            exfalso
            have : e.on ∈ unl ops listed := mem_unl.2 ⟨by omega, by rw [getD_tf (by omega) true false]; exact hx⟩
            rw [hu] at this
            rcases List.mem_cons.1 this with h3 | h3
            · omega
            · have := hsort.1 _ h3; omega
        rw [hr] at this; cases this
    · obtain ⟨hun, o, ho, haft⟩ := mem_ready.1 hi
      have hlt : i < ops.size := (Array.getElem?_eq_some_iff.1 ho).1
      have hiu : i ∈ unl ops listed := mem_unl.2 ⟨hlt, hun⟩
      have hf := front (ops := ops) (i := i) (unl ops listed) hsort hiu (fun p hp hpi => by
        rcases (hd1 i o ho).2 p hpi with h1 | h1
        · have := reach_listed hcl _ i o ho h1 haft
          have h2 := (mem_unl.1 hp).2
          rw [getD_tf (by rw [hsz]; exact (mem_unl.1 hp).1) true false, this] at h2; cases h2
        · exact h1) h
      rw [at_ ho, ← unl_set hsz] at hf
      have hsz' : (listed.setIfInBounds i true).size = ops.size := by simp [hsz]
      have hcl' : Closed ops (listed.setIfInBounds i true) := by
        intro q oq hoq hq e hee hb
        by_cases hqi : i = q
        · subst hqi
          rw [ho] at hoq; cases hoq
          exact getD_set_true (haft e hee hb)
        · rw [getD_set_ne _ hqi] at hq
          exact getD_set_true (hcl q oq hoq hq e hee hb)
      have hlen' : (unl ops (listed.setIfInBounds i true)).length = fuel := by
        have := filter_len hsort hiu
        rw [unl_set hsz]; omega
      unfold wpOp
      rw [ho]
      dsimp only
      unfold stepL at hf
      split at hf
      · rename_i cb hy
        have hw := yes_sound hs hy
        cases cb with
        | true =>
          rw [if_pos hw]
          left
          refine Oper.wp_mono (fun a' w' hp => ?_) (lop_sound (Q := Q) hT hs hf)
          obtain ⟨c', s', hK, hs', he'⟩ := hp
          exact ih _ hsz' hcl' hlen' (he.trans he') hs' hK
        | false =>
          rw [if_neg (by rw [hw]; simp)]
          exact ih _ hsz' hcl' hlen' he (hs.put .nul _) hf
      · exact hf.elim

theorem draw_sound (hT : TOK P T) (hm : P.follows .mixedOrders = true) {ops : Unit → Array Oper} {l : List Oper} {s : LS} (hl : (ops ()).toList = l) (hd : drawOK (ops ()) = true) (h : lops (fun _ => P) (fun _ => T) l l s K) : DrawF (fun _ => P) ops s K := by
  refine .mk fun c a w t Q hs hQ => ?_
  subst hl
  generalize ops () = ops at *
  simp only [Region.schedule, hm, Bool.true_or, if_true]
  have hget : ∀ i, (Array.replicate ops.size false).getD i false = false := by
    intro i
    rw [Array.getD_eq_getD_getElem?, Array.getElem?_replicate]
    split <;> rfl
  have hun : unl ops (Array.replicate ops.size false) = List.range ops.size := by
    unfold unl
    rw [List.filter_eq_self]
    intro j hj
    have hj := List.mem_range.1 hj
    simp [hj]
  refine wpAny_sound ops.size t _ a w (any_sound (K := K) hT hd (c0 := c) (w0 := w) (fun a' w' hp => hQ a' w' ?_) ops.size _ (by simp) ?_ (by rw [hun]; simp) (Ext.refl hs.hr) hs ?_)
  · obtain ⟨c', s', hK, hs', he⟩ := hp
    exact ⟨c', s', hK, hs', he⟩
  · intro q o _ hq
    rw [hget] at hq; cases hq
  · rw [hun]
    have : (List.range ops.size).map (opAt ops) = ops.toList := by
      apply List.ext_getElem
      · simp
      · intro i h1 h2
        simp [opAt] at h1 h2 ⊢
        simp [h1]
    rw [this]; exact h
end
end Go.LX
