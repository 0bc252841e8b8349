/-
  Regions with calls and stores whose order is told, and other operations whose order to them is open: one order is enough, where what the others look at is kept.
-/
import Derived.Test.YtlakoemonbadiaaLxLend
namespace Go.LX
open Go
set_option linter.unusedVariables false

/-- A call, or an operation that turns or makes a block. -/
def isX (o : Oper) : Bool :=
  match o.op with
  | .call c => match c.callee with
    | .value _ => true
    | .builtin b => match b with
      | .append => true
      | .clear => true
      | _ => false
    | _ => false
  | .store _ _ _ => true
  | .alloc _ => true
  | .box _ _ => true
  | .buildSlice _ _ _ => true
  | _ => false

section
variable {P : Unit → Program} {T : Unit → TT} {o : Oper} {s : LS} {K : LS → Prop}
theorem upd_m {l : Unit → List PV} {L L' : List PV → Prop} (h : Upd l L) (hL : ∀ z, L z → L' z) : Upd l L' := by
  cases h with | mk hk => exact .mk fun l' hl => hL _ (hk l' hl)
theorem need_m {p : Unit → Prop} {L L' : Unit → Prop} (h : Need p L) (hL : L () → L' ()) : Need p L' := by
  cases h with | mk hp hk => exact .mk hp (hL hk)
theorem storeB_m {B : LB} {o : I} {vs : List LV} {L L' : LB → Prop} (h : storeB B o vs L) (hL : ∀ B', L B' → L' B') : storeB B o vs L' := by
  unfold storeB at h ⊢
  split at h
  · exact h.elim
  · rename_i ha
    cases B with
    | iter z p => exact h.elim
    | fix g o => exact h.elim
    | bld t l =>
      dsimp only at h ⊢
      split at h
      · rename_i n
        cases e : putM l n vs with
        | none => rw [e] at h; exact h.elim
        | some l' => rw [e] at h; exact hL _ h
      · split at h
        · exact hL _ h
        · exact h.elim
      · exact h.elim
    | mix l =>
      cases o with
      | sym n => exact h.elim
      | lit n =>
        dsimp only at h ⊢
        cases e : putM l n.toNat vs with
        | none => rw [e] at h; exact h.elim
        | some l' => rw [e] at h; exact hL _ h
    | pure sy l =>
      dsimp only at h ⊢
      cases e : allP vs with
      | some us =>
        rw [e] at h
        dsimp only at h ⊢
        cases sy with
        | true => exact need_m h fun h => upd_m h fun z h => hL _ h
        | false =>
          cases o with
          | sym n => exact need_m h fun h => upd_m h fun z h => hL _ h
          | lit n =>
            dsimp only at h ⊢
            cases e2 : putP l n.toNat us with
            | none => rw [e2] at h; exact h.elim
            | some l' => rw [e2] at h; exact hL _ h
      | none =>
        rw [e] at h
        dsimp only at h ⊢
        cases sy with
        | true => exact h.elim
        | false =>
          cases o with
          | sym n => exact h.elim
          | lit n =>
            dsimp only at h ⊢
            cases e2 : putM (pvs l) n.toNat vs with
            | none => rw [e2] at h; exact h.elim
            | some l' => rw [e2] at h; exact hL _ h
theorem put_with (d : Option Nat) (u : LV) (h : LH) (n : Nat) : ({ s.put d u with h := h, n := n } : LS) = ({ s with h := h, n := n } : LS).put d u := by cases d <;> rfl
theorem put_n (d : Option Nat) (v : LV) : (s.put d v).n = s.n := by cases d <;> rfl

def Slots (o : Oper) (s s1 : LS) : Prop := ∀ t, o.dst ≠ some t → tget s1.t t = tget s.t t
theorem slots_put (v : LV) (h : LH) (n : Nat) : Slots o s (({ s with h := h, n := n } : LS).put o.dst v) := fun t ht => tget_put (s := { s with h := h, n := n }) _ _ _ ht
theorem ev_put {d : Option Nat} {u : LV} {x : Operand} (hx : ∀ t, d = some t → x ≠ .tmp t) : ev (s.put d u) x = ev s x := by
  cases x with
  | tmp t => exact tget_put _ _ _ fun e => hx t e rfl
  | const v => rfl
  | global g => rfl
  | func f => rfl
theorem eva_put {d : Option Nat} {u : LV} : ∀ (l : List Operand), (∀ x ∈ l, ev (s.put d u) x = ev s x) → eva (s.put d u) l = eva s l
  | [], _ => rfl
  | x :: l, h => by rw [eva, eva, h x List.mem_cons_self, eva_put l fun y hy => h y (List.mem_cons_of_mem _ hy)]
theorem evs_put {d : Option Nat} {u : LV} : ∀ (l : List (Nat × Operand)), (∀ x ∈ l, ev (s.put d u) x.2 = ev s x.2) → evs (s.put d u) l = evs s l
  | [], _ => rfl
  | (i, x) :: l, h => by rw [evs, evs, h (i, x) List.mem_cons_self, evs_put l fun y hy => h y (List.mem_cons_of_mem _ hy)]
theorem room_m {p q : Unit → Prop} {L1 L2 L1' L2' : Unit → Prop} (h : Room p q L1 L2) (h1 : L1 () → L1' ()) (h2 : L2 () → L2' ()) : Room p q L1' L2' := by
  cases h with
  | new h k => exact .new h (h1 k)
  | within h k => exact .within h (h2 k)
theorem catL_m {sa sb : Bool} {a b : List PV} {L L' : Bool → List PV → Prop} (h : catL sa sb a b L) (hL : ∀ sc l, L sc l → L' sc l) : catL sa sb a b L' := by
  unfold catL at h ⊢
  split at h
  · exact hL _ _ h
  · exact upd_m h fun l h => hL _ _ h
theorem iadd_m {x y : I} {L L' : I → Prop} (h : iadd x y L) (hL : ∀ z, L z → L' z) : iadd x y L' := by
  obtain ⟨z, h1, h2⟩ := iadd_x h
  exact h2 L' (hL z h1)
theorem appendC_gen {d : Option Nat} {u : LV} {e : Nat} {te : TI} {sb : Bool} {b : List PV} {m : I} {x : LV} {L L' : LV → LS → Prop} (h : appendC (s.put d u) e te sb b m x L)
    (hL : ∀ r h' n', L r ({ s.put d u with h := h', n := n' } : LS) → L' r ({ s with h := h', n := n' } : LS)) : appendC s e te sb b m x L' := by
  unfold appendC at h ⊢
  simp only [LS.new, put_h, put_n] at h ⊢
  split at h
  · exact need_m h fun h => hL _ _ _ h
  · split at h
    · split at h
      · refine room_m h (fun h => ?_) (fun h => ?_)
        · exact catL_m h fun sc l h => iadd_m h fun k h => hL _ _ _ h
        · exact upd_m h fun l h => iadd_m h fun k h => hL _ _ s.n h
      · exact h.elim
    · exact h.elim
  · exact h.elim
theorem newCells_m {te : TI} {y : LV} {L L' : Bool → List PV → I → Prop} (h : newCells s te y L) (hL : ∀ a b c, L a b c → L' a b c) : newCells s te y L' := by
  unfold newCells at h ⊢
  split at h
  · exact hL _ _ _ h
  · exact need_m h fun h => hL _ _ _ h
  · split at h
    · split at h
      · split at h
        · exact room_m h (fun h => hL _ _ _ h) (fun h => upd_m h fun l h => hL _ _ _ h)
        · exact need_m h fun h => upd_m h fun l h => hL _ _ _ h
      · exact need_m h fun h => upd_m h fun l h => hL _ _ _ h
    · exact h.elim
  · exact h.elim
theorem newCells_put {d : Option Nat} {u : LV} {te : TI} {y : LV} {L : Bool → List PV → I → Prop} (h : newCells (s.put d u) te y L) : newCells s te y L := by
  unfold newCells at h ⊢
  simp only [put_h] at h
  exact h
theorem appendL_gen {d : Option Nat} {u : LV} {e : Nat} {te : TI} {x y : LV} {L L' : LV → LS → Prop} (h : appendL (s.put d u) e te x y L)
    (hL : ∀ r h' n', L r ({ s.put d u with h := h', n := n' } : LS) → L' r ({ s with h := h', n := n' } : LS)) : appendL s e te x y L' := by
  unfold appendL at h ⊢
  split at h
  · exact newCells_m (newCells_put h) fun a b c h => appendC_gen h hL
  · exact h.elim
theorem sum_m {p : Unit → Int} {L L' : I → Prop} (h : Sum p L) (hL : ∀ z, L z → L' z) : Sum p L' := by
  obtain ⟨z, h1, h2⟩ := sum_x h
  exact h2 L' (hL z h1)
theorem appendS_gen {d : Option Nat} {u : LV} {e : Nat} {te : TI} {x y : LV} {L L' : LV → LS → Prop} (h : appendS (s.put d u) e te x y L)
    (hL : ∀ r h' n', L r ({ s.put d u with h := h', n := n' } : LS) → L' r ({ s with h := h', n := n' } : LS)) : appendS s e te x y L' := by
  unfold appendS at h ⊢
  split at h
  · split at h
    · exact need_m h fun h => upd_m h fun l h => sum_m h fun m h => appendC_gen h hL
    · exact h.elim
  · exact h.elim
theorem clearL_gen {d : Option Nat} {u : LV} {te : TI} {x : LV} {L L' : LS → Prop} (h : clearL (s.put d u) te x L)
    (hL : ∀ h' n', L ({ s.put d u with h := h', n := n' } : LS) → L' ({ s with h := h', n := n' } : LS)) : clearL s te x L' := by
  unfold clearL at h ⊢
  split at h
  · split at h
    · exact hL (s.put d u).h (s.put d u).n h |> fun h => by simpa [put_h, put_n] using h
    · exact need_m h fun h => hL (s.put d u).h (s.put d u).n h |> fun h => by simpa [put_h, put_n] using h
    · rw [put_h] at h
      split at h
      · exact need_m h fun h => upd_m h fun l h => hL _ (s.put d u).n h |> fun h => by simpa [put_h, put_n] using h
      · exact h.elim
    · exact h.elim
  · exact h.elim
theorem lop_slot {d : Option Nat} {u : LV} (hX : isX o = true) (hev : ∀ x ∈ o.op.operands, ev (s.put d u) x = ev s x) (hd : ∀ t, d = some t → o.dst ≠ some t) {R : LS → Prop} (h : lop P T o (s.put d u) R) :
    lop P T o s fun s1 => Slots o s s1 ∧ R (s1.put d u) := by
  obtain ⟨dst, op, ty, pos, after, guard⟩ := o
  have fin : ∀ {v : LV} {h' : LH} {n' : Nat}, R (({ s.put d u with h := h', n := n' } : LS).put dst v) → Slots ⟨dst, op, ty, pos, after, guard⟩ s (({ s with h := h', n := n' } : LS).put dst v) ∧ R ((({ s with h := h', n := n' } : LS).put dst v).put d u) := by
    intro v h' n' hR
    refine ⟨slots_put (o := ⟨dst, op, ty, pos, after, guard⟩) v h' n', ?_⟩
    rw [put_with, put_comm _ _ _ _ hd] at hR
    exact hR
  cases op <;> simp only [isX, Bool.false_eq_true] at hX
  case alloc t =>
    simp only [lop] at h ⊢
    split at h
    · rename_i ti ht
      simp only [LS.new, put_h, put_n] at h ⊢
      split at h
      · split at h
        · exact fin h
        · exact h.elim
      · exact fin h
    · exact h.elim
  case box t x =>
    have e1 := hev x (by simp [Op.operands])
    simp only [lop] at h ⊢
    rw [e1] at h
    split at h
    · simp only [LS.new, put_h, put_n] at h ⊢
      exact fin h
    · exact h.elim
  case buildSlice t len parts =>
    have e1 := evs_put (d := d) (u := u) parts.toList (fun x hx => hev x.2 (by simp only [Op.operands]; first | exact Array.mem_map.2 ⟨x, by simpa using hx, rfl⟩ | exact List.mem_map.2 ⟨x, by simpa using hx, rfl⟩ | (simp; exact ⟨x.1, by simpa using hx⟩)))
    simp only [lop] at h ⊢
    rw [e1] at h
    split at h
    · split at h
      · split at h
        · split at h
          · split at h
            · simp only [LS.new, put_h, put_n] at h ⊢
              exact fin h
            · exact h.elim
          · exact h.elim
        · exact h.elim
      · exact h.elim
    · exact h.elim
  case store t x v =>
    have e1 := hev x (by simp [Op.operands])
    have e2 := hev v (by simp [Op.operands])
    simp only [lop] at h ⊢
    rw [e1, e2] at h
    split at h
    · rename_i ti ht
      split at h
      · rename_i b o' hx
        split at h
        · rename_i h1 h2
          rw [put_h] at h
          split at h
          · rename_i B hB
            exact storeB_m h fun B' h' => fin (h' := hset s.h b B') (n' := s.n) (by have : ({ s.put d u with h := hset s.h b B', n := s.n } : LS) = { s.put d u with h := hset s.h b B' } := by rw [← put_n d u]
                                                                                    rw [this]; exact h')
          · exact h.elim
        · exact h.elim
      · exact h.elim
    · exact h.elim
  case call c =>
    have e2 : eva (s.put d u) c.args.toList = eva s c.args.toList := eva_put _ fun x hx => hev x (by
      have hx : x ∈ c.args := by simpa using hx
      simp only [Op.operands, Call.operands]
      split <;> simp [hx])
    simp only [lop] at h ⊢
    cases hc : c.callee with
    | value f =>
      have e1 := hev f (by simp [Op.operands, Call.operands, hc])
      rw [hc] at h
      dsimp only at h ⊢
      rw [e1, e2, put_h, put_n] at h
      split at h
      · exact h.mono fun r h' n' hk => fin hk
      · exact h.mono fun r h' n' hk => fin hk
      · exact h.elim
    | builtin b =>
      rw [hc] at hX h
      cases b <;> try (cases hX; done)
      case append =>
        dsimp only at h ⊢
        rw [e2] at h
        split at h
        case h_2 =>
          split at h
          · split at h
            · split at h
              · split at h
                · exact appendL_gen h fun r h' n' hk => fin hk
                · exact h.elim
              · exact h.elim
            · split at h
              · split at h
                · exact appendS_gen h fun r h' n' hk => fin hk
                · exact h.elim
              · exact h.elim
            · exact h.elim
          · exact h.elim
        all_goals first | exact h.elim | (rename_i e9 _; cases e9) | (rename_i e9; cases e9)
      case clear =>
        dsimp only at h ⊢
        rw [e2] at h
        split at h
        case h_6 =>
          split at h
          · split at h
            · split at h
              · split at h
                · exact clearL_gen h fun h' n' hk => fin hk
                · exact h.elim
              · exact h.elim
            · exact h.elim
          · exact h.elim
        all_goals first | exact h.elim | (rename_i e9 _; cases e9) | (rename_i e9; cases e9)
    | _ => rw [hc] at hX; cases hX

theorem lop_m (hX : isX o = true) {R R' : LS → Prop} (h : lop P T o s R) (hR : ∀ s1, R s1 → R' s1) : lop P T o s R' := by
  have := lop_slot (d := none) (u := .undef) hX (fun _ _ => rfl) (fun _ h => by cases h) (R := R) h
  obtain ⟨dst, op, ty, pos, after, guard⟩ := o
  cases op <;> simp only [isX, Bool.false_eq_true] at hX
  case alloc t =>
    simp only [lop] at h ⊢
    split at h
    · split at h
      · split at h
        · exact hR _ h
        · exact h.elim
      · exact hR _ h
    · exact h.elim
  case box t x =>
    simp only [lop] at h ⊢
    split at h
    · exact hR _ h
    · exact h.elim
  case buildSlice t len parts =>
    simp only [lop] at h ⊢
    split at h
    · split at h
      · split at h
        · split at h
          · split at h
            · exact hR _ h
            · exact h.elim
          · exact h.elim
        · exact h.elim
      · exact h.elim
    · exact h.elim
  case store t x v =>
    simp only [lop] at h ⊢
    split at h
    · split at h
      · split at h
        · split at h
          · exact storeB_m h fun B' h' => hR _ h'
          · exact h.elim
        · exact h.elim
      · exact h.elim
    · exact h.elim
  case call c =>
    simp only [lop] at h ⊢
    cases hc : c.callee with
    | value f =>
      rw [hc] at h
      dsimp only at h ⊢
      split at h
      · exact h.mono fun r h' n' hk => hR _ hk
      · exact h.mono fun r h' n' hk => hR _ hk
      · exact h.elim
    | builtin b =>
      rw [hc] at hX h
      cases b <;> try (cases hX; done)
      case append =>
        dsimp only at h ⊢
        split at h
        case h_2 =>
          split at h
          · split at h
            · split at h
              · split at h
                · exact appendL_gen (d := none) (u := .undef) h fun r h' n' hk => hR _ hk
                · exact h.elim
              · exact h.elim
            · split at h
              · split at h
                · exact appendS_gen (d := none) (u := .undef) h fun r h' n' hk => hR _ hk
                · exact h.elim
              · exact h.elim
            · exact h.elim
          · exact h.elim
        all_goals first | exact h.elim | (rename_i e9 _; cases e9) | (rename_i e9; cases e9)
      case clear =>
        dsimp only at h ⊢
        split at h
        case h_6 =>
          split at h
          · split at h
            · split at h
              · split at h
                · exact clearL_gen (d := none) (u := .undef) h fun h' n' hk => hR _ hk
                · exact h.elim
              · exact h.elim
            · exact h.elim
          · exact h.elim
        all_goals first | exact h.elim | (rename_i e9 _; cases e9) | (rename_i e9; cases e9)
    | _ => rw [hc] at hX; cases hX

def keptL : List Nat → LS → LS → Prop
  | [], _, _ => True
  | b :: l, s, s1 => hget s1.h b = hget s.h b ∧ keptL l s s1
def look : List (Nat × List Nat) → Nat → List Nat
  | [], _ => []
  | (a, l) :: F, q => match Nat.beq a q with
    | true => l
    | false => look F q
/-- What was looked at before, and may be looked at behind as well, is kept. -/
def keptB (ops : Array Oper) : List Nat → LS → LS → Prop
  | [], _, _ => True
  | p :: fl, s, s1 => keptL (rds (opAt ops p) s) s s1 ∧ keptB ops fl s s1
/-- A region in one order. -/
def lopsG (P : Unit → Program) (T : Unit → TT) (ops : Array Oper) (F : List (Nat × List Nat)) : List Nat → LS → (LS → Prop) → Prop
  | [], s, K => K s
  | i :: l, s, K => match isA (opAt ops i) with
    | true => stepL P T ops.toList (opAt ops i) s fun s1 => lopsG P T ops F l s1 K
    | false => stepL P T ops.toList (opAt ops i) s fun s1 => keptB ops (look F i) s s1 ∧ lopsG P T ops F l s1 K

theorem keptL_get : ∀ {l : List Nat} {s s1 : LS}, keptL l s s1 → ∀ b ∈ l, hget s1.h b = hget s.h b
  | [], _, _, _, b, h => by cases h
  | x :: l, s, s1, h, b, hb => by
    rcases List.mem_cons.1 hb with rfl | hb
    · exact h.1
    · exact keptL_get h.2 b hb
theorem keptL_mk : ∀ {l : List Nat} {s s1 : LS}, (∀ b ∈ l, hget s1.h b = hget s.h b) → keptL l s s1
  | [], _, _, _ => trivial
  | x :: l, s, s1, h => ⟨h x List.mem_cons_self, keptL_mk fun b hb => h b (List.mem_cons_of_mem _ hb)⟩
theorem keptB_get {ops : Array Oper} : ∀ {fl : List Nat} {s s1 : LS}, keptB ops fl s s1 → ∀ p ∈ fl, keptL (rds (opAt ops p) s) s s1
  | [], _, _, _, p, h => by cases h
  | x :: l, s, s1, h, p, hp => by
    rcases List.mem_cons.1 hp with rfl | hp
    · exact h.1
    · exact keptB_get h.2 p hp
theorem stepL_m {all : List Oper} (hX : isX o = true ∨ isA o = true) {R R' : LS → Prop} (h : stepL P T all o s R) (hR : ∀ s1, R s1 → R' s1) : stepL P T all o s R' := by
  rcases hX with hX | hX
  · unfold stepL at h ⊢
    split at h
    · split at h
      · exact lop_m hX h hR
      · exact hR _ h
    · exact h.elim
  · unfold stepL at h ⊢
    split at h
    · split at h
      · obtain ⟨u, h1, h2⟩ := lop_x hX h
        exact h2 s ⟨fun _ _ => rfl, fun _ _ => rfl⟩ _ (hR _ h1)
      · exact hR _ h
    · exact h.elim
def known (ops : Array Oper) (i : Nat) : Prop := isX (opAt ops i) = true ∨ isA (opAt ops i) = true
/-- May they stand in this order, whatever order they are done in? -/
def pairOK (ops : Array Oper) (F : List (Nat × List Nat)) (p q : Nat) : Bool :=
  p != q && (reach ops ops.size p q || (isA (opAt ops p) && (opAt ops p).apart ops (opAt ops q) && (isA (opAt ops q) || (look F q).contains p))) && (!(F.any fun e => e.2.contains p && e.2.contains q) || match (opAt ops q).dst with
    | some d => !isA (opAt ops p) || !isA (opAt ops q) || !((opAt ops p).looksAt ops).contains d
    | none => true)
theorem look_any : ∀ {F : List (Nat × List Nat)} {i p q : Nat}, p ∈ look F i → q ∈ look F i → (F.any fun e => e.2.contains p && e.2.contains q) = true
  | [], i, p, q, h, _ => by cases h
  | (a, l) :: F, i, p, q, hp, hq => by
    rw [look] at hp hq
    rw [List.any_cons, Bool.or_eq_true]
    cases e : Nat.beq a i with
    | true =>
      rw [e] at hp hq
      left
      rw [Bool.and_eq_true]
      exact ⟨by simpa using hp, by simpa using hq⟩
    | false =>
      rw [e] at hp hq
      right
      exact look_any hp hq
def selfOK (ops : Array Oper) (q : Nat) : Bool :=
  (isX (opAt ops q) || isA (opAt ops q)) && (match (opAt ops q).dst with
    | some d => !((opAt ops q).looksAt ops).contains d
    | none => true)
def PairP (ops : Array Oper) (F : List (Nat × List Nat)) (p q : Nat) : Prop := p ≠ q ∧ (reach ops ops.size p q = true ∨ (isA (opAt ops p) = true ∧ (opAt ops p).apart ops (opAt ops q) = true ∧ (isA (opAt ops q) = true ∨ p ∈ look F q))) ∧ (∀ i, p ∈ look F i → q ∈ look F i → isA (opAt ops p) = true → isA (opAt ops q) = true → ∀ d, (opAt ops q).dst = some d → d ∉ (opAt ops p).looksAt ops)
theorem pairOK_spec {ops : Array Oper} {F : List (Nat × List Nat)} {p q : Nat} (h : pairOK ops F p q = true) : PairP ops F p q := by
  simp only [pairOK, Bool.and_eq_true, Bool.or_eq_true, bne_iff_ne, ne_eq] at h
  obtain ⟨⟨h1, h2⟩, h3⟩ := h
  refine ⟨h1, h2.imp id (fun h => ⟨h.1.1, h.1.2, h.2.imp id (fun h => by simpa using h)⟩), fun i hpi hqi hp hq d hd => ?_⟩
  rw [look_any hpi hqi, hd, hp, hq] at h3
  simpa using h3
theorem selfOK_spec {ops : Array Oper} {q : Nat} (h : selfOK ops q = true) : known ops q ∧ ∀ d, (opAt ops q).dst = some d → d ∉ (opAt ops q).looksAt ops := by
  simp only [selfOK, Bool.and_eq_true, Bool.or_eq_true] at h
  refine ⟨h.1, fun d hd => ?_⟩
  have := h.2
  rw [hd] at this
  simpa using this

theorem rds_put {ops : Array Oper} {p : Nat} {d : Option Nat} {u : LV} (hd : ∀ t, d = some t → t ∉ (opAt ops p).looksAt ops) : rds (opAt ops p) (s.put d u) = rds (opAt ops p) s := by
  unfold rds
  cases looksIn (opAt ops p) with
  | false => rfl
  | true =>
  dsimp only
  have : ∀ x ∈ (opAt ops p).op.operands.toList, rdN (ev (s.put d u) x) = rdN (ev s x) := by
    intro x hx
    rw [ev_put]
    rintro t ht rfl
    refine hd t ht ?_
    simp only [Oper.looksAt, List.mem_append, List.mem_filterMap]
    exact .inl ⟨.tmp t, hx, rfl⟩
  revert this
  generalize (opAt ops p).op.operands.toList = l
  intro this
  induction l with
  | nil => rfl
  | cons x l ih => rw [List.flatMap_cons, List.flatMap_cons, this x List.mem_cons_self, ih fun y hy => this y (List.mem_cons_of_mem _ hy)]
theorem step_slot {ops : Array Oper} {i : Nat} {d : Option Nat} {u : LV} (hX : isX (opAt ops i) = true) (h1 : ∀ t, d = some t → t ∉ (opAt ops i).looksAt ops) (h2 : ∀ t, d = some t → (opAt ops i).dst ≠ some t) {R : LS → Prop}
    (h : stepL P T ops.toList (opAt ops i) (s.put d u) R) : stepL P T ops.toList (opAt ops i) s fun s1 => Slots (opAt ops i) s s1 ∧ R (s1.put d u) := by
  have hag : AgreeS ops (opAt ops i) (s.put d u) s := ⟨fun _ _ => by rw [put_h], fun t ht => (tget_put _ _ _ fun e => h1 t e ht).symm⟩
  have hy := yes_of hag
  unfold stepL at h ⊢
  rw [hy]
  split at h
  · split at h
    · refine lop_slot hX (fun x hx => ev_put fun t ht e => ?_) h2 h
      refine h1 t ht ?_
      subst e
      simp only [Oper.looksAt, List.mem_append, List.mem_filterMap]
      exact .inl ⟨.tmp t, by simpa using hx, rfl⟩
    · refine ⟨fun t ht => tget_put _ _ _ ht, ?_⟩
      rw [put_comm _ _ _ _ h2] at h
      exact h
  · exact h.elim
theorem front2 {ops : Array Oper} {F : List (Nat × List Nat)} {i : Nat} {l2 : List Nat} {K : LS → Prop} (hki : known ops i) :
    ∀ (l1 gh : List Nat) {s : LS}, (∀ p ∈ l1, known ops p ∧ (∀ d, (opAt ops p).dst = some d → d ∉ (opAt ops p).looksAt ops)) → (∀ p ∈ l1, PairP ops F p i ∧ reach ops ops.size p i = false) → l1.Pairwise (PairP ops F) → (∀ p ∈ gh, p ∈ look F i ∧ isA (opAt ops p) = true ∧ ∀ q ∈ l1, PairP ops F p q) →
      lopsG P T ops F (l1 ++ i :: l2) s K → stepL P T ops.toList (opAt ops i) s fun s1 => (isA (opAt ops i) = false → ∀ p ∈ gh, keptL (rds (opAt ops p) s) s s1) ∧ lopsG P T ops F (l1 ++ l2) s1 K
  | [], gh, s, _, _, _, hgh, h => by
    rw [List.nil_append, lopsG] at h
    split at h
    · rename_i hA
      exact stepL_m hki h fun s1 h1 => ⟨fun e => (by rw [hA] at e; cases e), h1⟩
    · exact stepL_m hki h fun s1 h1 => ⟨fun _ p hp => keptB_get h1.1 p (hgh p hp).1, h1.2⟩
  | p :: l1, gh, s, hk, hi, hpw, hdn, h => by
    obtain ⟨hkp, hself⟩ := hk p List.mem_cons_self
    obtain ⟨⟨hpi1, hpi2, hpi3⟩, hnr⟩ := hi p List.mem_cons_self
    rw [List.pairwise_cons] at hpw
    obtain ⟨hA, hap, hfl⟩ : isA (opAt ops p) = true ∧ (opAt ops p).apart ops (opAt ops i) = true ∧ (isA (opAt ops i) = true ∨ p ∈ look F i) := by
      rcases hpi2 with e | e
      · rw [hnr] at e; cases e
      · exact e
    obtain ⟨a1, a2, a3⟩ := Oper.apart_spec hap
    rw [List.cons_append, lopsG] at h
    rw [hA] at h
    dsimp only at h
    obtain ⟨u, h1, hg⟩ := step_x hA h
    have next : ∀ {s1 : LS}, AgreeS ops (opAt ops p) s s1 → lopsG P T ops F (l1 ++ l2) (s1.put (opAt ops p).dst u) K → lopsG P T ops F (p :: l1 ++ l2) s1 K := by
      intro s1 hag h2
      rw [List.cons_append, lopsG, hA]
      exact hg s1 hag _ h2
    have hkl : ∀ q ∈ l1, known ops q ∧ (∀ d, (opAt ops q).dst = some d → d ∉ (opAt ops q).looksAt ops) := fun q hq => hk q (List.mem_cons_of_mem _ hq)
    have hil : ∀ q ∈ l1, PairP ops F q i ∧ reach ops ops.size q i = false := fun q hq => hi q (List.mem_cons_of_mem _ hq)
    by_cases hAi : isA (opAt ops i) = true
    · have ih := front2 hki l1 [] hkl hil hpw.2 (fun q hq => (by cases hq)) h1
      obtain ⟨v, h4, h5⟩ := step_x hAi ih
      refine h5 s ⟨fun _ _ => by rw [put_h], fun t ht => (tget_put _ _ _ (fun e => a1 t e ht)).symm⟩ _ ⟨fun e => (by rw [hAi] at e; cases e), ?_⟩
      refine next ⟨fun _ _ => by rw [put_h], fun t ht => tget_put _ _ _ (fun e => a3 t e ht)⟩ ?_
      rw [← put_comm _ _ _ _ a2]
      exact h4.2
    · have hX : isX (opAt ops i) = true := hki.resolve_right hAi
      have hnA : isA (opAt ops i) = false := by simpa using hAi
      have hpf : p ∈ look F i := hfl.resolve_left hAi
      have ih := front2 hki l1 (p :: gh) hkl hil hpw.2 (fun q hq => by
        rcases List.mem_cons.1 hq with rfl | hq
        · exact ⟨hpf, hA, hpw.1⟩
        · exact ⟨(hdn q hq).1, (hdn q hq).2.1, fun r hr => (hdn q hq).2.2 r (List.mem_cons_of_mem _ hr)⟩) h1
      have h3 := step_slot hX a1 a2 ih
      refine stepL_m (.inl hX) h3 fun s1 ⟨h4, h5, h6⟩ => ?_
      have h5 := h5 hnA
      have hkp2 := h5 p List.mem_cons_self
      rw [rds_put hself] at hkp2
      refine ⟨fun _ q hq => ?_, next ⟨fun b hb => ?_, fun t ht => h4 t fun e => a3 t e ht⟩ h6⟩
      · have e := h5 q (List.mem_cons_of_mem _ hq)
        rw [rds_put (((hdn q hq).2.2 p List.mem_cons_self).2.2 i (hdn q hq).1 hpf (hdn q hq).2.1 hA)] at e
        refine keptL_mk fun b hb => ?_
        have := keptL_get e b hb
        rwa [put_h, put_h] at this
      · have := keptL_get hkp2 b hb
        rwa [put_h, put_h] at this
end

/-! ### All orders -/
def unlO (order : List Nat) (listed : Array Bool) : List Nat := order.filter fun j => !listed.getD j true
def edgesOK (ops : Array Oper) (pre : List Nat) (q : Nat) : Bool :=
  match ops[q]? with
  | some o => o.after.all fun e => !Region.binds .any e || pre.contains e.on
  | none => false
def orderOK (ops : Array Oper) (F : List (Nat × List Nat)) : List Nat → List Nat → Bool
  | _, [] => true
  | pre, q :: l => edgesOK ops pre q && selfOK ops q && l.all (fun r => pairOK ops F q r) && orderOK ops F (q :: pre) l
def drawnOK (ops : Array Oper) (F : List (Nat × List Nat)) (order : List Nat) : Bool := orderOK ops F [] order && (List.range ops.size).all (fun j => order.contains j)
section
variable {P : Program} {T : TT} {K : LS → Prop}
theorem orderOK_spec {ops : Array Oper} {F : List (Nat × List Nat)} : ∀ {l pre : List Nat}, orderOK ops F pre l = true → l.Pairwise (PairP ops F) ∧ (∀ q ∈ l, known ops q ∧ (∀ d, (opAt ops q).dst = some d → d ∉ (opAt ops q).looksAt ops)) ∧
    ∀ l1 q l2, l = l1 ++ q :: l2 → ∃ o, ops[q]? = some o ∧ ∀ e ∈ o.after, Region.binds .any e = true → e.on ∈ pre ∨ e.on ∈ l1
  | [], pre, _ => ⟨.nil, fun q hq => (by cases hq), fun l1 q l2 h => (by cases l1 <;> cases h)⟩
  | r :: l, pre, h => by
    simp only [orderOK, Bool.and_eq_true] at h
    obtain ⟨⟨⟨h1, h2⟩, h3⟩, h4⟩ := h
    obtain ⟨k1, k2, k3⟩ := orderOK_spec h4
    refine ⟨List.pairwise_cons.2 ⟨fun q hq => pairOK_spec (List.all_eq_true.1 h3 q hq), k1⟩, fun q hq => ?_, fun l1 q l2 e => ?_⟩
    · rcases List.mem_cons.1 hq with rfl | hq
      · exact selfOK_spec h2
      · exact k2 q hq
    · cases l1 with
      | nil =>
        cases e
        unfold edgesOK at h1
        split at h1
        · rename_i o ho
          refine ⟨o, ho, fun e he hb => .inl ?_⟩
          have := Array.all_eq_true_iff_forall_mem.1 h1 e he
          simpa [hb] using this
        · cases h1
      | cons x l1 =>
        cases e
        obtain ⟨o, ho, h5⟩ := k3 l1 q l2 rfl
        refine ⟨o, ho, fun e he hb => ?_⟩
        rcases h5 e he hb with h | h
        · rcases List.mem_cons.1 h with h | h
          · exact .inr (by rw [h]; exact List.mem_cons_self)
          · exact .inl h
        · exact .inr (List.mem_cons_of_mem _ h)

theorem anyO_sound (hT : TOK P T) {ops : Array Oper} {F : List (Nat × List Nat)} {order : List Nat} (hd : drawnOK ops F order = true) {c0 : Ctx} {w0 : World} {Q : Exit → Act → World → Prop} (hQ : ∀ a' w', Post K c0 w0 a' w' → Q .normal a' w') :
    ∀ (fuel : Nat) (listed : Array Bool) {s : LS} {c : Ctx} {a : Act} {w : World}, listed.size = ops.size → Closed ops listed → (unlO order listed).length = fuel → Ext c0 w0 c w → St c s a w →
    lopsG (fun _ => P) (fun _ => T) ops F (unlO order listed) s K → wpAny P .any ops Q fuel listed a w := by
  simp only [drawnOK, Bool.and_eq_true, List.all_eq_true, List.mem_range] at hd
  obtain ⟨hpw, hkn, hed⟩ := orderOK_spec hd.1
  have hall : ∀ j, j < ops.size → j ∈ order := fun j hj => by simpa using hd.2 j hj
  have mem_unl : ∀ {listed : Array Bool} {j : Nat}, j ∈ unlO order listed ↔ j ∈ order ∧ listed.getD j true = false := by
    intro listed j
    simp [unlO, List.mem_filter]
  have at_ : ∀ {j o}, ops[j]? = some o → opAt ops j = o := by
    intro j o ho
    simp [opAt, ho]
  have hlt_ : ∀ {listed : Array Bool} {j : Nat}, listed.size = ops.size → listed.getD j true = false → j < ops.size := by
    intro listed j hsz h
    rcases Nat.lt_or_ge j ops.size with h1 | h1
    · exact h1
    · rw [Array.getD_eq_getD_getElem?, Array.getElem?_eq_none (by omega)] at h; cases h
  intro fuel
  induction fuel with
  | zero =>
    intro listed s c a w hsz hcl hlen he hs h
    have h0 : unlO order listed = [] := List.eq_nil_of_length_eq_zero hlen
    refine ⟨List.eq_nil_iff_forall_not_mem.2 fun j hj => ?_, ?_⟩
    · obtain ⟨h1, o, h2, _⟩ := mem_ready.1 hj
      have : j ∈ unlO order listed := mem_unl.2 ⟨hall j (Array.getElem?_eq_some_iff.1 h2).1, h1⟩
      rw [h0] at this; cases this
    · rw [h0] at h
      exact hQ _ _ ⟨c, s, h, hs, he⟩
  | succ fuel ih =>
    intro listed s c a w hsz hcl hlen he hs h
    refine ⟨fun hr => ?_, fun i hi => ?_⟩
    · exfalso
      cases hu : unlO order listed with
      | nil => rw [hu] at hlen; cases hlen
      | cons i0 rest =>
        obtain ⟨l1, l2, e1, e2, e3, e4⟩ := List.filter_eq_cons_iff.1 hu
        have hun : listed.getD i0 true = false := by simpa using e3
        obtain ⟨o, ho, h5⟩ := hed l1 i0 l2 e1
        have : i0 ∈ Region.ready .any ops listed := by
          refine mem_ready.2 ⟨hun, o, ho, fun e hee hb => ?_⟩
          rcases h5 e hee hb with h6 | h6
          · cases h6
          · have h7 := e2 _ h6
            have h8 : listed.getD e.on true = true := by simpa using h7
            -- an operation of the order is one of the region
            rcases Nat.lt_or_ge e.on listed.size with h9 | h9
            · rw [getD_tf h9 false true]; exact h8
            · exfalso
              obtain ⟨m1, m2, hm⟩ := List.append_of_mem h6
              obtain ⟨o2, ho2, _⟩ := hed m1 e.on (m2 ++ i0 :: l2) (by rw [e1, hm]; simp)
              have := (Array.getElem?_eq_some_iff.1 ho2).1
              omega
        rw [hr] at this; cases this
    · obtain ⟨hun, o, ho, haft⟩ := mem_ready.1 hi
      have hlt : i < ops.size := (Array.getElem?_eq_some_iff.1 ho).1
      have hiu : i ∈ unlO order listed := mem_unl.2 ⟨hall i hlt, hun⟩
      obtain ⟨l1, l2, hl⟩ := List.append_of_mem hiu
      have hpu : (unlO order listed).Pairwise (PairP ops F) := hpw.filter _
      have hku : ∀ q ∈ unlO order listed, known ops q ∧ (∀ d, (opAt ops q).dst = some d → d ∉ (opAt ops q).looksAt ops) := fun q hq => hkn q (mem_unl.1 hq).1
      rw [hl] at hpu hku h
      rw [List.pairwise_append] at hpu
      obtain ⟨hp1, hp2, hp3⟩ := hpu
      rw [List.pairwise_cons] at hp2
      have hrest : unlO order (listed.setIfInBounds i true) = l1 ++ l2 := by
        have e1 : unlO order (listed.setIfInBounds i true) = (unlO order listed).filter (· != i) := by
          unfold unlO
          rw [List.filter_filter]
          refine List.filter_congr fun j hj => ?_
          by_cases e : i = j
          · subst e
            rw [Array.getD_eq_getD_getElem?, Array.getElem?_setIfInBounds_self_of_lt (by omega)]
            simp
          · rw [getD_set_ne _ e]
            have : (j != i) = true := by simp; omega
            rw [this]; simp
        rw [e1, hl, List.filter_append, List.filter_cons_of_neg (by simp)]
        congr 1
        · rw [List.filter_eq_self]
          intro p hp
          have := (hp3 p hp i List.mem_cons_self).1
          simpa using this
        · rw [List.filter_eq_self]
          intro p hp
          have := (hp2.1 p hp).1
          have : p ≠ i := fun e => this e.symm
          simpa using this
      have hf := front2 (ops := ops) (F := F) (i := i) (l2 := l2) (hku i (by simp)).1 l1 [] (fun p hp => hku p (by simp [hp])) (fun p hp => ⟨hp3 p hp i List.mem_cons_self, by
        cases e : reach ops ops.size p i with
        | false => rfl
        | true =>
          exfalso
          have h1 := reach_listed hcl _ i o ho e haft
          have hpm : p ∈ unlO order listed := by rw [hl]; simp [hp]
          have h2 := (mem_unl.1 hpm).2
          rw [getD_tf (by rw [hsz]; exact hlt_ hsz h2) true false, h1] at h2; cases h2⟩) hp1 (fun p hp => (by cases hp)) h
      rw [at_ ho, ← hrest] at hf
      have hsz' : (listed.setIfInBounds i true).size = ops.size := by simp [hsz]
      have hcl' : Closed ops (listed.setIfInBounds i true) := by
        intro q oq hoq hq e hee hb
        by_cases hqi : i = q
        · subst hqi
          rw [ho] at hoq; cases hoq
          exact getD_set_true (haft e hee hb)
        · rw [getD_set_ne _ hqi] at hq
          exact getD_set_true (hcl q oq hoq hq e hee hb)
      have hlen' : (unlO order (listed.setIfInBounds i true)).length = fuel := by
        rw [hrest]
        rw [hl] at hlen
        simp at hlen ⊢; omega
      unfold wpOp
      rw [ho]
      dsimp only
      unfold stepL at hf
      split at hf
      · rename_i cb hy
        have hw := yes_sound hs hy
        cases cb with
        | true =>
          rw [if_pos hw]
          left
          refine Oper.wp_mono (fun a' w' hp => ?_) (lop_sound (Q := Q) hT hs hf)
          obtain ⟨c', s', hK, hs', he'⟩ := hp
          exact ih _ hsz' hcl' hlen' (he.trans he') hs' hK.2
        | false =>
          rw [if_neg (by rw [hw]; simp)]
          exact ih _ hsz' hcl' hlen' he (hs.put .nul _) hf.2
      · exact hf.elim

/-- A drawn region: in the order that is told. -/
theorem drawn_sound (hT : TOK P T) (hm : P.follows .mixedOrders = true) (F : List (Nat × List Nat)) (order : List Nat) {ops : Unit → Array Oper} {s : LS} (hd : drawnOK (ops ()) F order = true) (h : lopsG (fun _ => P) (fun _ => T) (ops ()) F order s K) : DrawF (fun _ => P) ops s K := by
  refine .mk fun c a w t Q hs hQ => ?_
  generalize ops () = ops at *
  simp only [Region.schedule, hm, Bool.true_or, if_true]
  have hget : ∀ i, (Array.replicate ops.size false).getD i false = false := by
    intro i
    rw [Array.getD_eq_getD_getElem?, Array.getElem?_replicate]
    split <;> rfl
  have hd' := hd
  simp only [drawnOK, Bool.and_eq_true] at hd'
  obtain ⟨hpw, _, hed⟩ := orderOK_spec hd'.1
  have hlt : ∀ j ∈ order, j < ops.size := fun j hj => by
    obtain ⟨l1, l2, e⟩ := List.append_of_mem hj
    obtain ⟨o, ho, _⟩ := hed l1 j l2 e
    exact (Array.getElem?_eq_some_iff.1 ho).1
  have hun : unlO order (Array.replicate ops.size false) = order := by
    unfold unlO
    rw [List.filter_eq_self]
    intro j hj
    have := hlt j hj
    rw [Array.getD_eq_getD_getElem?, Array.getElem?_replicate, if_pos this]; rfl
  have hnd : order.Nodup := hpw.imp fun h => h.1
  have hlen : order.length = ops.size := by
    have h1 : order.Perm (List.range ops.size) := by
      rw [List.perm_ext_iff_of_nodup hnd List.nodup_range]
      intro j
      rw [List.mem_range]
      exact ⟨hlt j, fun hj => by have := List.all_eq_true.1 hd'.2 j (List.mem_range.2 hj); simpa using this⟩
    simpa using h1.length_eq
  refine wpAny_sound ops.size t _ a w (anyO_sound (K := K) hT hd (c0 := c) (w0 := w) (fun a' w' hp => hQ a' w' ?_) ops.size _ (by simp) ?_ (by rw [hun]; exact hlen) (Ext.refl hs.hr) hs ?_)
  · obtain ⟨c', s', hK, hs', he⟩ := hp
    exact ⟨c', s', hK, hs', he⟩
  · intro q o _ hq
    rw [hget] at hq; cases hq
  · rw [hun]; exact h

/-! ### An order, found by program: it is asked anew by the kernel -/
def firstOf (f : Nat → Bool) : List Nat → Option Nat
  | [] => none
  | q :: l => if f q then some q else firstOf f l
def autoO (ops : Array Oper) : Nat → List Nat → List Nat → List Nat
  | 0, _, _ => []
  | n + 1, pre, rest => match firstOf (fun q => isA (opAt ops q) && edgesOK ops pre q) rest with
    | some q => q :: autoO ops n (q :: pre) (rest.filter (· != q))
    | none => match firstOf (fun q => edgesOK ops pre q) rest with
      | some q => q :: autoO ops n (q :: pre) (rest.filter (· != q))
      | none => []
def autoF (ops : Array Oper) : List Nat → List Nat → List (Nat × List Nat)
  | _, [] => []
  | pre, q :: l => if isA (opAt ops q) then autoF ops (q :: pre) l else (q, pre.filter fun p => isA (opAt ops p) && !reach ops ops.size p q) :: autoF ops (q :: pre) l
def autoD (ops : Array Oper) : List (Nat × List Nat) × List Nat :=
  let o := autoO ops ops.size [] (List.range ops.size)
  (autoF ops [] o, o)
end
end Go.LX
