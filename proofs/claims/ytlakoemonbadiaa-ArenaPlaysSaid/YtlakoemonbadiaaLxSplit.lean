/-
  A drawn region in which two operations that turn or make blocks may be done in either order: it is enough to show it with each order told.
-/
import Derived.Test.YtlakoemonbadiaaLxFix
namespace Go.LX
open Go
set_option linter.unusedVariables false

def addE (ops : Array Oper) (p q : Nat) : Array Oper := ops.modify q fun o => { o with after := o.after.push ⟨p, .data⟩ }

section
variable {P : Program} {Q : Exit → Act → World → Prop} {ops : Array Oper} {K K1 K2 : Act → World → Prop} {a : Act} {w : World} {p q i : Nat}

theorem addE_get (ops : Array Oper) (p q i : Nat) : (addE ops p q)[i]? = (ops[i]?).map fun o => if q = i then { o with after := o.after.push ⟨p, .data⟩ } else o := by
  unfold addE
  rw [Array.getElem?_modify]
  by_cases h : q = i
  · simp [h]
  · simp [h]
theorem addE_size : (addE ops p q).size = ops.size := by unfold addE; exact Array.size_modify
theorem addE_yielded (t : Array Value) : yielded (addE ops p q) t = yielded ops t := by
  funext j
  unfold yielded
  have : ((addE ops p q)[j]?).bind (·.dst) = (ops[j]?).bind (·.dst) := by
    rw [addE_get]
    cases ops[j]? with
    | none => rfl
    | some o => simp only [Option.map_some, Option.bind_some]; split <;> rfl
  rw [this]
theorem wpOp_addE (h : wpOp P (addE ops p q) Q i K a w) : wpOp P ops Q i K a w := by
  unfold wpOp at h ⊢
  rw [addE_get, addE_yielded] at h
  cases ho : ops[i]? with
  | none => rw [ho] at h; exact h
  | some o =>
    rw [ho] at h
    simp only [Option.map_some] at h ⊢
    by_cases e : q = i
    · rw [if_pos e] at h
      exact h
    · rw [if_neg e] at h; exact h

/-- It enters no call. -/
def NoE (P : Program) (s : Sem Next) : Prop := ∀ w, (∀ f args w', s.run P w ≠ .ok (.enter f args) w') ∧ ∀ r args w', s.run P w ≠ .ok (.row r args) w'
theorem NoE.v (s : Sem Value) : NoE P (do pure (Next.value (← s))) := fun w => by
  rw [Sem.run_bind]
  cases s.run P w <;> exact ⟨fun _ _ _ h => (by cases h), fun _ _ _ h => (by cases h)⟩
theorem NoE.u (s : Sem Unit) : NoE P (do s; pure Next.skip) := fun w => by
  rw [Sem.run_bind]
  cases s.run P w <;> exact ⟨fun _ _ _ h => (by cases h), fun _ _ _ h => (by cases h)⟩
theorem NoE.pu (x : Value) : NoE P (pure (Next.value x)) := fun w => ⟨fun _ _ _ h => (by cases h), fun _ _ _ h => (by cases h)⟩
theorem NoE.bind {α : Type} {s : Sem α} {f : α → Sem Next} (h : ∀ x, NoE P (f x)) : NoE P (s >>= f) := fun w => by
  rw [Sem.run_bind]
  cases s.run P w with
  | ok v w' => exact h v w'
  | halt x w' => exact ⟨fun _ _ _ h => (by cases h), fun _ _ _ h => (by cases h)⟩
theorem NoE.halt (x : Halt) : NoE P (Sem.halt x) := fun w => ⟨fun _ _ _ h => (by cases h), fun _ _ _ h => (by cases h)⟩
theorem NoE.deref : NoE P (runtimePanic .nilDeref : Sem Next) := by
  unfold runtimePanic
  exact NoE.bind fun p => NoE.halt _
theorem nilCheck_ne (x : Operand) (dst : Option Nat) (ty : TypeId) (pos : String) (after : Array Edge) (guard : Option (Nat × Bool)) (ρ : Operand → Value) : NoE P (execOp ρ ⟨dst, .nilCheck x, ty, pos, after, guard⟩) := by
  unfold execOp
  dsimp only
  repeat' (first | exact NoE.deref | exact NoE.pu _ | exact NoE.halt _ | split | (refine NoE.bind fun _ => ?_))
def simpleOp (o : Oper) : Bool :=
  match o.op with
  | .move _ => true
  | .assign _ => true
  | .alloc _ => true
  | .box _ _ => true
  | .build _ _ => true
  | .buildSlice _ _ _ => true
  | .load _ _ => true
  | .nilCheck _ => true
  | .store _ _ _ => true
  | .binOp _ _ _ _ _ => true
  | .unOp _ _ _ => true
  | .convert _ _ _ => true
  | .makeInterface _ _ => true
  | .slice _ _ _ _ _ => true
  | .fieldAddr _ _ _ => true
  | .field _ _ _ => true
  | .indexAddr _ _ _ => true
  | .index _ _ _ => true
  | .extract _ _ => true
  | .call c => match c.callee with
    | .builtin b => match b with
      | .append => true
      | _ => false
    | _ => false
  | _ => false
theorem append_ne {c : Call} (hc : c.callee = .builtin .append) (dst : Option Nat) (ty : TypeId) (pos : String) (after : Array Edge) (guard : Option (Nat × Bool)) (ρ : Operand → Value) : NoE P (execOp ρ ⟨dst, .call c, ty, pos, after, guard⟩) := by
  intro w
  have key : ∃ cs, (execOp ρ ⟨dst, .call c, ty, pos, after, guard⟩).run P w = (builtin .append c.argTypes ty cs (c.args.map ρ)).run P w := by
    unfold execOp
    simp [resolve, hc, invoke]
    exact ⟨_, rfl⟩
  obtain ⟨cs, key⟩ := key
  rw [key]
  exact NoE.v _ w
theorem simple_ne {o : Oper} (h : simpleOp o = true) (ρ : Operand → Value) : NoE P (execOp ρ o) := by
  obtain ⟨dst, op, ty, pos, after, guard⟩ := o
  cases op
  case call c =>
    simp only [simpleOp] at h
    split at h
    · rename_i b hc
      split at h
      · exact append_ne hc _ _ _ _ _ _
      · cases h
    · cases h
  case nilCheck x => exact nilCheck_ne x _ _ _ _ _ _
  all_goals simp only [simpleOp, Bool.false_eq_true] at h
  all_goals (unfold execOp; first | exact NoE.pu _ | exact NoE.v _ | exact NoE.u _)
theorem wp_and {o : Oper} (hne : NoE P (execOp a.eval o)) (h1 : o.wp P a w K1 Q) (h2 : o.wp P a w K2 Q) : o.wp P a w (fun a w => K1 a w ∧ K2 a w) Q := by
  unfold Oper.wp at *
  have hn := hne w
  generalize (execOp a.eval o).run P w = r at *
  cases r with
  | ok n w' =>
    cases n <;> simp only [Oper.upon] at h1 h2 ⊢ <;> first | exact ⟨h1, h2⟩ | exact absurd rfl (hn.1 _ _ _) | exact absurd rfl (hn.2 _ _ _) | exact h1
  | halt x w' => cases x <;> simp only [Oper.upon] at h1 ⊢ <;> exact h1
theorem wpOp_and (hne : ∀ o, ops[i]? = some o → simpleOp o = true) (h1 : wpOp P ops Q i K1 a w) (h2 : wpOp P ops Q i K2 a w) : wpOp P ops Q i (fun a w => K1 a w ∧ K2 a w) a w := by
  unfold wpOp at *
  cases ho : ops[i]? with
  | none => rw [ho] at h1 h2; exact ⟨h1, h2⟩
  | some o =>
    rw [ho] at h1 h2
    dsimp only at h1 h2 ⊢
    split
    · rename_i hw
      rw [if_pos hw] at h1 h2
      rcases h1 with h1 | h1
      · rcases h2 with h2 | h2
        · exact .inl (wp_and (simple_ne (hne o ho) _) h1 h2)
        · exact .inr h2
      · exact .inr h1
    · rename_i hw
      rw [if_neg hw] at h1 h2
      exact ⟨h1, h2⟩

theorem ready_sub {listed : Array Bool} (h : i ∈ Region.ready .any (addE ops p q) listed) : i ∈ Region.ready .any ops listed := by
  obtain ⟨h1, o, ho, h2⟩ := mem_ready.1 h
  rw [addE_get] at ho
  cases e : ops[i]? with
  | none => rw [e] at ho; cases ho
  | some o' =>
    rw [e] at ho
    simp only [Option.map_some, Option.some.injEq] at ho
    refine mem_ready.2 ⟨h1, o', e, fun ed hed hb => h2 ed ?_ hb⟩
    rw [← ho]
    split
    · exact Array.mem_push.2 (.inl hed)
    · exact hed
theorem ready_sup {listed : Array Bool} (h : i ∈ Region.ready .any ops listed) (hp : i = q → listed.getD p false = true) : i ∈ Region.ready .any (addE ops p q) listed := by
  obtain ⟨h1, o, ho, h2⟩ := mem_ready.1 h
  refine mem_ready.2 ⟨h1, _, by rw [addE_get, ho]; rfl, fun ed hed hb => ?_⟩
  split at hed
  · rename_i hq
    rcases Array.mem_push.1 hed with hed | hed
    · exact h2 ed hed hb
    · rw [hed]; exact hp hq.symm
  · exact h2 ed hed hb
theorem getD_keep {listed : Array Bool} (h : listed.getD p false = true) : (listed.setIfInBounds i true).getD p false = true := by
  rw [Array.getD_eq_getD_getElem?, Array.getElem?_setIfInBounds]
  rw [Array.getD_eq_getD_getElem?] at h
  split
  · rename_i e
    split
    · rfl
    · rename_i hlt
      subst e
      rw [Array.getElem?_eq_none (by omega)] at h; cases h
  · exact h
/-- Once p is done, the edge from it says nothing. -/
theorem any_done : ∀ (fuel : Nat) (listed : Array Bool) (a : Act) (w : World), listed.getD p false = true → wpAny P .any (addE ops p q) Q fuel listed a w → wpAny P .any ops Q fuel listed a w := by
  intro fuel
  induction fuel with
  | zero =>
    intro listed a w hp h
    refine ⟨List.eq_nil_iff_forall_not_mem.2 fun j hj => ?_, h.2⟩
    have := ready_sup (p := p) (q := q) hj (fun _ => hp)
    rw [h.1] at this; cases this
  | succ fuel ih =>
    intro listed a w hp h
    refine ⟨fun hr => h.1 (List.eq_nil_iff_forall_not_mem.2 fun j hj => ?_), fun i hi => ?_⟩
    · have := ready_sub hj
      rw [hr] at this; cases this
    · exact wpOp_mono (fun a w h => ih _ a w (getD_keep hp) h) (wpOp_addE (h.2 i (ready_sup hi fun _ => hp)))
def splitOK (ops : Array Oper) (p q : Nat) : Bool :=
  p != q && Nat.blt p ops.size && Nat.blt q ops.size && (List.range ops.size).all fun i => i == p || i == q || simpleOp (opAt ops i) || reach ops ops.size p i || reach ops ops.size q i
theorem any_split (hs : splitOK ops p q = true) : ∀ (fuel : Nat) (listed : Array Bool) (a : Act) (w : World), listed.size = ops.size → Closed ops listed → listed.getD p true = false → listed.getD q true = false →
    wpAny P .any (addE ops p q) Q fuel listed a w → wpAny P .any (addE ops q p) Q fuel listed a w → wpAny P .any ops Q fuel listed a w := by
  simp only [splitOK, Bool.and_eq_true, bne_iff_ne, ne_eq, List.all_eq_true, List.mem_range, Bool.or_eq_true, beq_iff_eq] at hs
  obtain ⟨⟨⟨hpq, hp⟩, hq⟩, hall⟩ := hs
  have hp : p < ops.size := Nat.le_of_ble_eq_true hp
  have hq : q < ops.size := Nat.le_of_ble_eq_true hq
  intro fuel
  induction fuel with
  | zero =>
    intro listed a w hsz hcl hlp hlq h1 h2
    refine ⟨List.eq_nil_iff_forall_not_mem.2 fun j hj => ?_, h1.2⟩
    by_cases e : j = q
    · have := ready_sup (p := q) (q := p) hj (fun e2 => absurd (e2.symm.trans e) hpq)
      rw [h2.1] at this; cases this
    · have := ready_sup (p := p) (q := q) hj (fun e2 => absurd e2 e)
      rw [h1.1] at this; cases this
  | succ fuel ih =>
    intro listed a w hsz hcl hlp hlq h1 h2
    refine ⟨fun hr => h1.1 (List.eq_nil_iff_forall_not_mem.2 fun j hj => ?_), fun i hi => ?_⟩
    · have := ready_sub hj
      rw [hr] at this; cases this
    · obtain ⟨hun, o, ho, haft⟩ := mem_ready.1 hi
      have hlt : i < ops.size := (Array.getElem?_eq_some_iff.1 ho).1
      have hset : ∀ {k : Nat}, k < ops.size → (listed.setIfInBounds k true).getD k false = true := by
        intro k hk
        rw [Array.getD_eq_getD_getElem?, Array.getElem?_setIfInBounds_self_of_lt (by omega)]; rfl
      by_cases e1 : i = p
      · subst e1
        exact wpOp_mono (fun a w h => any_done _ _ a w (hset hp) h) (wpOp_addE (h1.2 i (ready_sup hi fun e => absurd e hpq)))
      · by_cases e2 : i = q
        · subst e2
          exact wpOp_mono (fun a w h => any_done _ _ a w (hset hq) h) (wpOp_addE (h2.2 i (ready_sup hi fun e => absurd e e1)))
        · have hsim : simpleOp o = true := by
            have hat : opAt ops i = o := by simp [opAt, ho]
            rcases hall i hlt with (((h | h) | h) | h) | h
            · exact absurd h e1
            · exact absurd h e2
            · rw [hat] at h; exact h
            · have := reach_listed hcl _ i o ho h haft
              rw [getD_tf (by rw [hsz]; exact hp) true false, this] at hlp; cases hlp
            · have := reach_listed hcl _ i o ho h haft
              rw [getD_tf (by rw [hsz]; exact hq) true false, this] at hlq; cases hlq
          have hcl' : Closed ops (listed.setIfInBounds i true) := by
            intro j oj hoj hj e hee hb
            by_cases hji : i = j
            · subst hji
              rw [ho] at hoj; cases hoj
              exact getD_set_true (haft e hee hb)
            · rw [getD_set_ne _ hji] at hj
              exact getD_set_true (hcl j oj hoj hj e hee hb)
          refine wpOp_mono (fun a w h => ?_) (wpOp_and (fun o' ho' => by rw [ho] at ho'; cases ho'; exact hsim) (wpOp_addE (h1.2 i (ready_sup hi fun e => absurd e e2))) (wpOp_addE (h2.2 i (ready_sup hi fun e => absurd e e1))))
          exact ih _ a w (by simp [hsz]) hcl' (by rw [getD_set_ne _ e1]; exact hlp) (by rw [getD_set_ne _ e2]; exact hlq) h.1 h.2
end
end Go.LX
namespace Go.LX
open Go
section
variable {P : Program} {T : TT} {K : LS → Prop}
/-- A region, whatever order its operations are done in. -/
def DrawAny (P : Program) (ops : Array Oper) (s : LS) (K : LS → Prop) : Prop :=
  ∀ c a w Q, St c s a w → (∀ a' w', Post K c w a' w' → Q Exit.normal a' w') → wpAny P .any ops Q ops.size (Array.replicate ops.size false) a w
theorem rep_get (n i : Nat) : (Array.replicate n false).getD i false = false := by
  rw [Array.getD_eq_getD_getElem?, Array.getElem?_replicate]
  split <;> rfl
theorem rep_get' {n i : Nat} (h : i < n) : (Array.replicate n false).getD i true = false := by
  rw [Array.getD_eq_getD_getElem?, Array.getElem?_replicate, if_pos h]; rfl
theorem drawF_of_any (hm : P.follows .mixedOrders = true) {ops : Unit → Array Oper} {s : LS} (h : DrawAny P (ops ()) s K) : DrawF (fun _ => P) ops s K := by
  refine .mk fun c a w t Q hs hQ => ?_
  simp only [Region.schedule, hm, Bool.true_or, if_true]
  exact wpAny_sound (ops ()).size t _ a w (h c a w Q hs fun a' w' hp => hQ a' w' (let ⟨c', s', hK, hs', he⟩ := hp; ⟨c', s', hK, hs', he⟩))
theorem any_of_drawn (hT : TOK P T) (F : List (Nat × List Nat)) (order : List Nat) {ops : Array Oper} {s : LS} (hd : drawnOK ops F order = true) (h : lopsG (fun _ => P) (fun _ => T) ops F order s K) : DrawAny P ops s K := by
  intro c a w Q hs hQ
  have hd' := hd
  simp only [drawnOK, Bool.and_eq_true] at hd'
  obtain ⟨hpw, _, hed⟩ := orderOK_spec hd'.1
  have hlt : ∀ j ∈ order, j < ops.size := fun j hj => by
    obtain ⟨l1, l2, e⟩ := List.append_of_mem hj
    obtain ⟨o, ho, _⟩ := hed l1 j l2 e
    exact (Array.getElem?_eq_some_iff.1 ho).1
  have hun : unlO order (Array.replicate ops.size false) = order := by
    unfold unlO
    rw [List.filter_eq_self]
    intro j hj
    rw [rep_get' (hlt j hj)]; rfl
  have hnd : order.Nodup := hpw.imp fun h => h.1
  have hlen : order.length = ops.size := by
    have h1 : order.Perm (List.range ops.size) := by
      rw [List.perm_ext_iff_of_nodup hnd List.nodup_range]
      intro j
      rw [List.mem_range]
      exact ⟨hlt j, fun hj => by have := List.all_eq_true.1 hd'.2 j (List.mem_range.2 hj); simpa using this⟩
    simpa using h1.length_eq
  refine anyO_sound (K := K) hT hd (c0 := c) (w0 := w) (fun a' w' hp => hQ a' w' hp) ops.size _ (by simp) ?_ (by rw [hun]; exact hlen) (Ext.refl hs.hr) hs ?_
  · intro q o _ hq
    rw [rep_get] at hq; cases hq
  · rw [hun]; exact h
theorem drawAny_split (p q : Nat) {ops : Array Oper} {s : LS} (hs : splitOK ops p q = true) (h1 : DrawAny P (addE ops p q) s K) (h2 : DrawAny P (addE ops q p) s K) : DrawAny P ops s K := by
  intro c a w Q hst hQ
  have hb : p < ops.size ∧ q < ops.size := by
    simp only [splitOK, Bool.and_eq_true] at hs
    exact ⟨Nat.le_of_ble_eq_true hs.1.1.2, Nat.le_of_ble_eq_true hs.1.2⟩
  have e1 := h1 c a w Q hst hQ
  have e2 := h2 c a w Q hst hQ
  rw [addE_size] at e1 e2
  refine any_split hs ops.size _ a w (by simp) (fun k o _ hk => ?_) (rep_get' hb.1) (rep_get' hb.2) e1 e2
  rw [rep_get] at hk; cases hk
/-- A region in which p and q may be done in either order: each order told. -/
theorem split_sound (hT : TOK P T) (hm : P.follows .mixedOrders = true) (p q : Nat) (F1 : List (Nat × List Nat)) (o1 : List Nat) (F2 : List (Nat × List Nat)) (o2 : List Nat) {ops : Unit → Array Oper} {s : LS} (hs : splitOK (ops ()) p q = true)
    (hd1 : drawnOK (addE (ops ()) p q) F1 o1 = true) (hd2 : drawnOK (addE (ops ()) q p) F2 o2 = true)
    (h1 : lopsG (fun _ => P) (fun _ => T) (addE (ops ()) p q) F1 o1 s K) (h2 : lopsG (fun _ => P) (fun _ => T) (addE (ops ()) q p) F2 o2 s K) : DrawF (fun _ => P) ops s K :=
  drawF_of_any hm (drawAny_split p q hs (any_of_drawn hT F1 o1 hd1 h1) (any_of_drawn hT F2 o2 hd2 h2))
end
end Go.LX
