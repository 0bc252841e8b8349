/-
  A drawn region in which two operations that turn or make blocks may be done in either order: it is enough to show it with each order told.
-/
import Derived.Test.YtllafhhnciobhaaGreatDoorLxFrame
namespace Go.LX
open Go
set_option linter.unusedVariables false

def addE (ops : Array Oper) (p q : Nat) : Array Oper := ops.modify q fun o => { o with after := o.after.push ⟨p, .data⟩ }

section
variable {P : Program} {Q : Exit → Act → World → Prop} {ops : Array Oper} {K K1 K2 : Act → World → Prop} {a : Act} {w : World} {p q i : Nat}

theorem addE_get (ops : Array Oper) (p q i : Nat) : (addE ops p q)[i]? = (ops[i]?).map fun o => if q = i then { o with after := o.after.push ⟨p, .data⟩ } else o := by
  unfold addE
  rw [Array.getElem?_modify]
  by_cases h : q = i
  · simp [h]
  · simp [h]
theorem addE_size : (addE ops p q).size = ops.size := by unfold addE; exact Array.size_modify
theorem addE_yielded (t : Array Value) : yielded (addE ops p q) t = yielded ops t := by
  funext j
  unfold yielded
  have : ((addE ops p q)[j]?).bind (·.dst) = (ops[j]?).bind (·.dst) := by
    rw [addE_get]
    cases ops[j]? with
    | none => rfl
    | some o => simp only [Option.map_some, Option.bind_some]; split <;> rfl
  rw [this]
theorem wpOp_addE (h : wpOp P (addE ops p q) Q i K a w) : wpOp P ops Q i K a w := by
  unfold wpOp at h ⊢
  rw [addE_get, addE_yielded] at h
  cases ho : ops[i]? with
  | none => rw [ho] at h; exact h
  | some o =>
    rw [ho] at h
    simp only [Option.map_some] at h ⊢
    by_cases e : q = i
    · rw [if_pos e] at h
      exact h
    · rw [if_neg e] at h; exact h

/-- It enters no call. -/
def NoE (P : Program) (s : Sem Next) : Prop := ∀ w, (∀ f args w', s.run P w ≠ .ok (.enter f args) w') ∧ ∀ r args w', s.run P w ≠ .ok (.row r args) w'
theorem NoE.v (s : Sem Value) : NoE P (do pure (Next.value (← s))) := fun w => by
  rw [Sem.run_bind]
  cases s.run P w <;> exact ⟨fun _ _ _ h => (by cases h), fun _ _ _ h => (by cases h)⟩
theorem NoE.u (s : Sem Unit) : NoE P (do s; pure Next.skip) := fun w => by
  rw [Sem.run_bind]
  cases s.run P w <;> exact ⟨fun _ _ _ h => (by cases h), fun _ _ _ h => (by cases h)⟩
theorem NoE.pu (x : Value) : NoE P (pure (Next.value x)) := fun w => ⟨fun _ _ _ h => (by cases h), fun _ _ _ h => (by cases h)⟩
theorem NoE.bind {α : Type} {s : Sem α} {f : α → Sem Next} (h : ∀ x, NoE P (f x)) : NoE P (s >>= f) := fun w => by
  rw [Sem.run_bind]
  cases s.run P w with
  | ok v w' => exact h v w'
  | halt x w' => exact ⟨fun _ _ _ h => (by cases h), fun _ _ _ h => (by cases h)⟩
theorem NoE.halt (x : Halt) : NoE P (Sem.halt x) := fun w => ⟨fun _ _ _ h => (by cases h), fun _ _ _ h => (by cases h)⟩
theorem NoE.deref : NoE P (runtimePanic .nilDeref : Sem Next) := by
  unfold runtimePanic
  exact NoE.bind fun p => NoE.halt _
theorem nilCheck_ne (x : Operand) (dst : Option Nat) (ty : TypeId) (pos : String) (after : Array Edge) (guard : Option (Nat × Bool)) (ρ : Operand → Value) : NoE P (execOp ρ ⟨dst, .nilCheck x, ty, pos, after, guard⟩) := by
  unfold execOp
  dsimp only
  repeat' (first | exact NoE.deref | exact NoE.pu _ | exact NoE.halt _ | split | (refine NoE.bind fun _ => ?_))
def simpleOp (o : Oper) : Bool :=
  match o.op with
  | .move _ => true
  | .assign _ => true
  | .alloc _ => true
  | .box _ _ => true
  | .build _ _ => true
  | .buildSlice _ _ _ => true
  | .load _ _ => true
  | .nilCheck _ => true
  | .store _ _ _ => true
  | .binOp _ _ _ _ _ => true
  | .unOp _ _ _ => true
  | .convert _ _ _ => true
  | .makeInterface _ _ => true
  | .slice _ _ _ _ _ => true
  | .fieldAddr _ _ _ => true
  | .field _ _ _ => true
  | .indexAddr _ _ _ => true
  | .index _ _ _ => true
  | .extract _ _ => true
  | .call c => match c.callee with
    | .builtin b => match b with
      | .append => true
      | _ => false
    | _ => false
  | _ => false
theorem append_ne {c : Call} (hc : c.callee = .builtin .append) (dst : Option Nat) (ty : TypeId) (pos : String) (after : Array Edge) (guard : Option (Nat × Bool)) (ρ : Operand → Value) : NoE P (execOp ρ ⟨dst, .call c, ty, pos, after, guard⟩) := by
  intro w
  have key : ∃ cs, (execOp ρ ⟨dst, .call c, ty, pos, after, guard⟩).run P w = (builtin .append c.argTypes ty cs (c.args.map ρ)).run P w := by
    unfold execOp
    simp [resolve, hc, invoke]
    exact ⟨_, rfl⟩
  obtain ⟨cs, key⟩ := key
  rw [key]
  exact NoE.v _ w
theorem simple_ne {o : Oper} (h : simpleOp o = true) (ρ : Operand → Value) : NoE P (execOp ρ o) := by
  obtain ⟨dst, op, ty, pos, after, guard⟩ := o
  cases op
  case call c =>
    simp only [simpleOp] at h
    split at h
    · rename_i b hc
      split at h
      · exact append_ne hc _ _ _ _ _ _
      · cases h
    · cases h
  case nilCheck x => exact nilCheck_ne x _ _ _ _ _ _
  all_goals simp only [simpleOp, Bool.false_eq_true] at h
  all_goals (unfold execOp; first | exact NoE.pu _ | exact NoE.v _ | exact NoE.u _)
theorem wp_and {o : Oper} (hne : NoE P (execOp a.eval o)) (h1 : o.wp P a w K1 Q) (h2 : o.wp P a w K2 Q) : o.wp P a w (fun a w => K1 a w ∧ K2 a w) Q := by
  unfold Oper.wp at *
  have hn := hne w
  generalize (execOp a.eval o).run P w = r at *
  cases r with
  | ok n w' =>
    cases n <;> simp only [Oper.upon] at h1 h2 ⊢ <;> first | exact ⟨h1, h2⟩ | exact absurd rfl (hn.1 _ _ _) | exact absurd rfl (hn.2 _ _ _) | exact h1
  | halt x w' => cases x <;> simp only [Oper.upon] at h1 ⊢ <;> exact h1
theorem wpOp_and (hne : ∀ o, ops[i]? = some o → simpleOp o = true) (h1 : wpOp P ops Q i K1 a w) (h2 : wpOp P ops Q i K2 a w) : wpOp P ops Q i (fun a w => K1 a w ∧ K2 a w) a w := by
  unfold wpOp at *
  cases ho : ops[i]? with
  | none => rw [ho] at h1 h2; exact ⟨h1, h2⟩
  | some o =>
    rw [ho] at h1 h2
    dsimp only at h1 h2 ⊢
    split
    · rename_i hw
      rw [if_pos hw] at h1 h2
      rcases h1 with h1 | h1
      · rcases h2 with h2 | h2
        · exact .inl (wp_and (simple_ne (hne o ho) _) h1 h2)
        · exact .inr h2
      · exact .inr h1
    · rename_i hw
      rw [if_neg hw] at h1 h2
      exact ⟨h1, h2⟩

theorem ready_sub {listed : Array Bool} (h : i ∈ Region.ready .any (addE ops p q) listed) : i ∈ Region.ready .any ops listed := by
  obtain ⟨h1, o, ho, h2⟩ := mem_ready.1 h
  rw [addE_get] at ho
  cases e : ops[i]? with
  | none => rw [e] at ho; cases ho
  | some o' =>
    rw [e] at ho
    simp only [Option.map_some, Option.some.injEq] at ho
    refine mem_ready.2 ⟨h1, o', e, fun ed hed hb => h2 ed ?_ hb⟩
    rw [← ho]
    split
    · exact Array.mem_push.2 (.inl hed)
    · exact hed
theorem ready_sup {listed : Array Bool} (h : i ∈ Region.ready .any ops listed) (hp : i = q → listed.getD p false = true) : i ∈ Region.ready .any (addE ops p q) listed := by
  obtain ⟨h1, o, ho, h2⟩ := mem_ready.1 h
  refine mem_ready.2 ⟨h1, _, by rw [addE_get, ho]; rfl, fun ed hed hb => ?_⟩
  split at hed
  · rename_i hq
    rcases Array.mem_push.1 hed with hed | hed
    · exact h2 ed hed hb
    · rw [hed]; exact hp hq.symm
  · exact h2 ed hed hb
theorem getD_keep {listed : Array Bool} (h : listed.getD p false = true) : (listed.setIfInBounds i true).getD p false = true := by
  rw [Array.getD_eq_getD_getElem?, Array.getElem?_setIfInBounds]
  rw [Array.getD_eq_getD_getElem?] at h
  split
  · rename_i e
    split
    · rfl
    · rename_i hlt
      subst e
      rw [Array.getElem?_eq_none (by omega)] at h; cases h
  · exact h
/-- Once p is done, the edge from it says nothing. -/
theorem any_done : ∀ (fuel : Nat) (listed : Array Bool) (a : Act) (w : World), listed.getD p false = true → wpAny P .any (addE ops p q) Q fuel listed a w → wpAny P .any ops Q fuel listed a w := by
  intro fuel
  induction fuel with
  | zero =>
    intro listed a w hp h
    refine ⟨List.eq_nil_iff_forall_not_mem.2 fun j hj => ?_, h.2⟩
    have := ready_sup (p := p) (q := q) hj (fun _ => hp)
    rw [h.1] at this; cases this
  | succ fuel ih =>
    intro listed a w hp h
    refine ⟨fun hr => h.1 (List.eq_nil_iff_forall_not_mem.2 fun j hj => ?_), fun i hi => ?_⟩
    · have := ready_sub hj
      rw [hr] at this; cases this
    · exact wpOp_mono (fun a w h => ih _ a w (getD_keep hp) h) (wpOp_addE (h.2 i (ready_sup hi fun _ => hp)))
def splitOK (ops : Array Oper) (p q : Nat) : Bool :=
  p != q && Nat.blt p ops.size && Nat.blt q ops.size && (List.range ops.size).all fun i => i == p || i == q || simpleOp (opAt ops i) || reach ops ops.size p i || reach ops ops.size q i
theorem any_split (hs : splitOK ops p q = true) : ∀ (fuel : Nat) (listed : Array Bool) (a : Act) (w : World), listed.size = ops.size → Closed ops listed → listed.getD p true = false → listed.getD q true = false →
    wpAny P .any (addE ops p q) Q fuel listed a w → wpAny P .any (addE ops q p) Q fuel listed a w → wpAny P .any ops Q fuel listed a w := by
  simp only [splitOK, Bool.and_eq_true, bne_iff_ne, ne_eq, List.all_eq_true, List.mem_range, Bool.or_eq_true, beq_iff_eq] at hs
  obtain ⟨⟨⟨hpq, hp⟩, hq⟩, hall⟩ := hs
  have hp : p < ops.size := Nat.le_of_ble_eq_true hp
  have hq : q < ops.size := Nat.le_of_ble_eq_true hq
  intro fuel
  induction fuel with
  | zero =>
    intro listed a w hsz hcl hlp hlq h1 h2
    refine ⟨List.eq_nil_iff_forall_not_mem.2 fun j hj => ?_, h1.2⟩
    by_cases e : j = q
    · have := ready_sup (p := q) (q := p) hj (fun e2 => absurd (e2.symm.trans e) hpq)
      rw [h2.1] at this; cases this
    · have := ready_sup (p := p) (q := q) hj (fun e2 => absurd e2 e)
      rw [h1.1] at this; cases this
  | succ fuel ih =>
    intro listed a w hsz hcl hlp hlq h1 h2
    refine ⟨fun hr => h1.1 (List.eq_nil_iff_forall_not_mem.2 fun j hj => ?_), fun i hi => ?_⟩
    · have := ready_sub hj
      rw [hr] at this; cases this
    · obtain ⟨hun, o, ho, haft⟩ := mem_ready.1 hi
      have hlt : i < ops.size := (Array.getElem?_eq_some_iff.1 ho).1
      have hset : ∀ {k : Nat}, k < ops.size → (listed.setIfInBounds k true).getD k false = true := by
        intro k hk
        rw [Array.getD_eq_getD_getElem?, Array.getElem?_setIfInBounds_self_of_lt (by omega)]; rfl
      by_cases e1 : i = p
      · subst e1
        exact wpOp_mono (fun a w h => any_done _ _ a w (hset hp) h) (wpOp_addE (h1.2 i (ready_sup hi fun e => absurd e hpq)))
      · by_cases e2 : i = q
        · subst e2
          exact wpOp_mono (fun a w h => any_done _ _ a w (hset hq) h) (wpOp_addE (h2.2 i (ready_sup hi fun e => absurd e e1)))
        · have hsim : simpleOp o = true := by
            have hat : opAt ops i = o := by simp [opAt, ho]
            rcases hall i hlt with (((h | h) | h) | h) | h
            · exact absurd h e1
            · exact absurd h e2
            · rw [hat] at h; exact h
            · have := reach_listed hcl _ i o ho h haft
              rw [getD_tf (by rw [hsz]; exact hp) true false, this] at hlp; cases hlp
            · have := reach_listed hcl _ i o ho h haft
              rw [getD_tf (by rw [hsz]; exact hq) true false, this] at hlq; cases hlq
          have hcl' : Closed ops (listed.setIfInBounds i true) := by
            intro j oj hoj hj e hee hb
            by_cases hji : i = j
            · subst hji
              rw [ho] at hoj; cases hoj
              exact getD_set_true (haft e hee hb)
            · rw [getD_set_ne _ hji] at hj
              exact getD_set_true (hcl j oj hoj hj e hee hb)
          refine wpOp_mono (fun a w h => ?_) (wpOp_and (fun o' ho' => by rw [ho] at ho'; cases ho'; exact hsim) (wpOp_addE (h1.2 i (ready_sup hi fun e => absurd e e2))) (wpOp_addE (h2.2 i (ready_sup hi fun e => absurd e e1))))
          exact ih _ a w (by simp [hsz]) hcl' (by rw [getD_set_ne _ e1]; exact hlp) (by rw [getD_set_ne _ e2]; exact hlq) h.1 h.2
end
end Go.LX
namespace Go.LX
open Go
section
variable {P : Program} {T : TT} {K : LS → Prop}
/-- A region, whatever order its operations are done in. -/
def DrawAny (P : Program) (ops : Array Oper) (s : LS) (K : LS → Prop) : Prop :=
  ∀ c a w Q, St c s a w → (∀ a' w', Post K c w a' w' → Q Exit.normal a' w') → wpAny P .any ops Q ops.size (Array.replicate ops.size false) a w
theorem rep_get (n i : Nat) : (Array.replicate n false).getD i false = false := by
  rw [Array.getD_eq_getD_getElem?, Array.getElem?_replicate]
  split <;> rfl
theorem rep_get' {n i : Nat} (h : i < n) : (Array.replicate n false).getD i true = false := by
  rw [Array.getD_eq_getD_getElem?, Array.getElem?_replicate, if_pos h]; rfl
theorem drawF_of_any (hm : P.follows .mixedOrders = true) {ops : Unit → Array Oper} {s : LS} (h : DrawAny P (ops ()) s K) : DrawF (fun _ => P) ops s K := by
  refine .mk fun c a w t Q hs hQ => ?_
  simp only [Region.schedule, hm, Bool.true_or, if_true]
  exact wpAny_sound (ops ()).size t _ a w (h c a w Q hs fun a' w' hp => hQ a' w' (let ⟨c', s', hK, hs', he⟩ := hp; ⟨c', s', hK, hs', he⟩))
theorem any_of_drawn (hT : TOK P T) (F : List (Nat × List Nat)) (order : List Nat) {ops : Array Oper} {s : LS} (hd : drawnOK ops F order = true) (h : lopsG (fun _ => P) (fun _ => T) ops F order s K) : DrawAny P ops s K := by
  intro c a w Q hs hQ
  have hd' := hd
  simp only [drawnOK, Bool.and_eq_true] at hd'
  obtain ⟨hpw, _, hed⟩ := orderOK_spec hd'.1
  have hlt : ∀ j ∈ order, j < ops.size := fun j hj => by
    obtain ⟨l1, l2, e⟩ := List.append_of_mem hj
    obtain ⟨o, ho, _⟩ := hed l1 j l2 e
    exact (Array.getElem?_eq_some_iff.1 ho).1
  have hun : unlO order (Array.replicate ops.size false) = order := by
    unfold unlO
    rw [List.filter_eq_self]
    intro j hj
    rw [rep_get' (hlt j hj)]; rfl
  have hnd : order.Nodup := hpw.imp fun h => h.1
  have hlen : order.length = ops.size := by
    have h1 : order.Perm (List.range ops.size) := by
      rw [List.perm_ext_iff_of_nodup hnd List.nodup_range]
      intro j
      rw [List.mem_range]
      exact ⟨hlt j, fun hj => by have := List.all_eq_true.1 hd'.2 j (List.mem_range.2 hj); simpa using this⟩
    simpa using h1.length_eq
  refine anyO_sound (K := K) hT hd (c0 := c) (w0 := w) (fun a' w' hp => hQ a' w' hp) ops.size _ (by simp) ?_ (by rw [hun]; exact hlen) (Ext.refl hs.hr) hs ?_
  · intro q o _ hq
    rw [rep_get] at hq; cases hq
  · rw [hun]; exact h
theorem drawAny_split (p q : Nat) {ops : Array Oper} {s : LS} (hs : splitOK ops p q = true) (h1 : DrawAny P (addE ops p q) s K) (h2 : DrawAny P (addE ops q p) s K) : DrawAny P ops s K := by
  intro c a w Q hst hQ
  have hb : p < ops.size ∧ q < ops.size := by
    simp only [splitOK, Bool.and_eq_true] at hs
    exact ⟨Nat.le_of_ble_eq_true hs.1.1.2, Nat.le_of_ble_eq_true hs.1.2⟩
  have e1 := h1 c a w Q hst hQ
  have e2 := h2 c a w Q hst hQ
  rw [addE_size] at e1 e2
  refine any_split hs ops.size _ a w (by simp) (fun k o _ hk => ?_) (rep_get' hb.1) (rep_get' hb.2) e1 e2
  rw [rep_get] at hk; cases hk
/-- A region in which p and q may be done in either order: each order told. -/
theorem split_sound (hT : TOK P T) (hm : P.follows .mixedOrders = true) (p q : Nat) (F1 : List (Nat × List Nat)) (o1 : List Nat) (F2 : List (Nat × List Nat)) (o2 : List Nat) {ops : Unit → Array Oper} {s : LS} (hs : splitOK (ops ()) p q = true)
    (hd1 : drawnOK (addE (ops ()) p q) F1 o1 = true) (hd2 : drawnOK (addE (ops ()) q p) F2 o2 = true)
    (h1 : lopsG (fun _ => P) (fun _ => T) (addE (ops ()) p q) F1 o1 s K) (h2 : lopsG (fun _ => P) (fun _ => T) (addE (ops ()) q p) F2 o2 s K) : DrawF (fun _ => P) ops s K :=
  drawF_of_any hm (drawAny_split p q hs (any_of_drawn hT F1 o1 hd1 h1) (any_of_drawn hT F2 o2 hd2 h2))
end
end Go.LX
/-
  The order of a drawn region, held against its edges by masks: quick where the region is large.
-/
namespace Go.LX
open Go
set_option linter.unusedVariables false

theorem reach_succ {ops : Array Oper} {p : Nat} : ∀ {n q : Nat}, reach ops n p q = true → reach ops (n + 1) p q = true
  | 0, q, h => by cases h
  | n + 1, q, h => by
    rw [reach] at h ⊢
    split at h
    · rw [Array.any_eq_true'] at h ⊢
      obtain ⟨e, he, h⟩ := h
      refine ⟨e, he, ?_⟩
      rw [Bool.and_eq_true, Bool.or_eq_true] at h ⊢
      exact ⟨h.1, h.2.imp id reach_succ⟩
    · cases h
theorem reach_mono {ops : Array Oper} {p q n m : Nat} (h : reach ops n p q = true) (hm : n ≤ m) : reach ops m p q = true := by
  induction hm with
  | refl => exact h
  | step _ ih => exact reach_succ ih
def maskL (M : List Nat) : List Edge → Nat
  | [] => 0
  | e :: l => if Region.binds .any e then (2 ^ e.on ||| M.getD e.on 0) ||| maskL M l else maskL M l
def forceN {α : Type} (n : Nat) (k : Nat → α) : α :=
  match n with
  | 0 => k 0
  | m + 1 => k (m + 1)
theorem forceN_eq {α : Type} (n : Nat) (k : Nat → α) : forceN n k = k n := by cases n <;> rfl
def masksL : List Oper → List Nat → List Nat
  | [], M => M
  | o :: l, M => forceN (maskL M o.after.toList) fun v => masksL l (M ++ [v])
theorem maskL_bit {M : List Nat} {p : Nat} : ∀ {l : List Edge}, (maskL M l).testBit p = true → ∃ e ∈ l, Region.binds .any e = true ∧ (e.on = p ∨ (M.getD e.on 0).testBit p = true)
  | [], h => by simp [maskL] at h
  | e :: l, h => by
    rw [maskL] at h
    split at h
    · rename_i hb
      rw [Nat.testBit_or, Nat.testBit_or, Bool.or_eq_true, Bool.or_eq_true] at h
      rcases h with (h | h) | h
      · rw [Nat.testBit_two_pow] at h
        exact ⟨e, List.mem_cons_self, hb, .inl (by simpa using h)⟩
      · exact ⟨e, List.mem_cons_self, hb, .inr h⟩
      · obtain ⟨e', he, h⟩ := maskL_bit h
        exact ⟨e', List.mem_cons_of_mem _ he, h⟩
    · obtain ⟨e', he, h⟩ := maskL_bit h
      exact ⟨e', List.mem_cons_of_mem _ he, h⟩
def MasksOk (ops : Array Oper) (M : List Nat) : Prop := ∀ q p : Nat, (M.getD q 0).testBit p = true → q < M.length ∧ reach ops (q + 1) p q = true
theorem masksL_ok {ops : Array Oper} : ∀ (l done : List Oper) (M : List Nat), ops.toList = done ++ l → M.length = done.length → MasksOk ops M → MasksOk ops (masksL l M) ∧ (masksL l M).length = ops.size
  | [], done, M, ho, hl, hM => ⟨hM, by rw [masksL, hl, ← Array.length_toList, ho, List.append_nil]⟩
  | o :: l, done, M, ho, hl, hM => by
    rw [masksL, forceN_eq]
    refine masksL_ok l (done ++ [o]) _ (by rw [ho]; simp) (by simp [hl]) fun q p h => ?_
    have hoq : ops[M.length]? = some o := by rw [← Array.getElem?_toList, ho, hl]; simp
    rw [List.getD_eq_getElem?_getD] at h
    by_cases h1 : q < M.length
    · rw [List.getElem?_append_left h1, ← List.getD_eq_getElem?_getD] at h
      exact ⟨by simp; omega, (hM q p h).2⟩
    · by_cases h2 : q = M.length
      · subst h2
        rw [List.getElem?_append_right (by omega)] at h
        simp only [Nat.sub_self, List.getElem?_cons_zero, Option.getD_some] at h
        obtain ⟨e, he, hb, h⟩ := maskL_bit h
        refine ⟨by simp, ?_⟩
        rw [reach, hoq]
        dsimp only
        rw [Array.any_eq_true']
        refine ⟨e, by simpa using he, ?_⟩
        rw [Bool.and_eq_true, Bool.or_eq_true]
        refine ⟨hb, ?_⟩
        rcases h with h | h
        · left; simp [h]
        · right
          obtain ⟨g1, g2⟩ := hM _ _ h
          exact reach_mono g2 g1
      · rw [List.getElem?_eq_none (by simp; omega)] at h
        simp at h
def pairOKF (ops : Array Oper) (F : List (Nat × List Nat)) (M : List Nat) (p q : Nat) : Bool :=
  p != q && ((isA (opAt ops p) && (opAt ops p).apart ops (opAt ops q) && (isA (opAt ops q) || (look F q).contains p)) || (M.getD q 0).testBit p) && (!(F.any fun e => e.2.contains p && e.2.contains q) || match (opAt ops q).dst with
    | some d => !isA (opAt ops p) || !isA (opAt ops q) || !((opAt ops p).looksAt ops).contains d
    | none => true)
def orderOKF (ops : Array Oper) (F : List (Nat × List Nat)) (M : List Nat) : List Nat → List Nat → Bool
  | _, [] => true
  | pre, q :: l => edgesOK ops pre q && selfOK ops q && l.all (fun r => pairOKF ops F M q r) && orderOKF ops F M (q :: pre) l
def drawnOKF (ops : Array Oper) (F : List (Nat × List Nat)) (order : List Nat) : Bool := orderOKF ops F (masksL ops.toList []) [] order && (List.range ops.size).all (fun j => order.contains j)
theorem pairOKF_ok {ops : Array Oper} {F : List (Nat × List Nat)} {M : List Nat} (hM : MasksOk ops M) (hl : M.length = ops.size) {p q : Nat} (h : pairOKF ops F M p q = true) : pairOK ops F p q = true := by
  unfold pairOKF at h
  unfold pairOK
  rw [Bool.and_eq_true, Bool.and_eq_true] at h ⊢
  refine ⟨⟨h.1.1, ?_⟩, h.2⟩
  have h2 := h.1.2
  rw [Bool.or_eq_true] at h2 ⊢
  rcases h2 with h2 | h2
  · exact .inr h2
  · obtain ⟨g1, g2⟩ := hM _ _ h2
    exact .inl (reach_mono g2 (by omega))
theorem orderOKF_ok {ops : Array Oper} {F : List (Nat × List Nat)} {M : List Nat} (hM : MasksOk ops M) (hl : M.length = ops.size) : ∀ {l pre : List Nat}, orderOKF ops F M pre l = true → orderOK ops F pre l = true
  | [], pre, _ => rfl
  | q :: l, pre, h => by
    rw [orderOKF, Bool.and_eq_true, Bool.and_eq_true] at h
    rw [orderOK, Bool.and_eq_true, Bool.and_eq_true]
    refine ⟨⟨h.1.1, ?_⟩, orderOKF_ok hM hl h.2⟩
    rw [List.all_eq_true] at *
    exact fun r hr => pairOKF_ok hM hl (h.1.2 r hr)
theorem drawnOKF_ok {ops : Array Oper} {F : List (Nat × List Nat)} {order : List Nat} (h : drawnOKF ops F order = true) : drawnOK ops F order = true := by
  unfold drawnOKF at h
  unfold drawnOK
  rw [Bool.and_eq_true] at h ⊢
  obtain ⟨g1, g2⟩ := masksL_ok (ops := ops) ops.toList [] [] rfl rfl (fun q p h => by simp at h)
  exact ⟨orderOKF_ok g1 g2 h.1, h.2⟩
end Go.LX
/-
  Branches that join: behind a block of the code, what holds of every branch is enough; what follows is walked once.
-/
namespace Go.LX
open Go

def lmem (n : Nat) : List Nat → Bool
  | [] => false
  | m :: l => match Nat.beq n m with
    | true => true
    | false => lmem n l
inductive Joined (J : LS → Prop) (n0 : Nat) (s' : LS) : Prop
  | mk (s'' : LS) (hr : Re n0 s' s'') (hj : J s'')
def JoinK (J : LS → Prop) (n0 : Nat) (K : Exit → LS → Prop) : Exit → LS → Prop
  | .normal, s' => Joined J n0 s'
  | .exit j, s' => K (.exit j) s'
  | .ret, s' => K .ret s'
  | .goto j, s' => K (.goto j) s'
  | .panic c, s' => K (.panic c) s'
  | .outgrown, s' => K .outgrown s'
inductive JoinF (n0 : Nat) (B : Unit → (Exit → LS → Prop) → Prop) (K : Exit → LS → Prop) : Prop
  | mk (J : LS → Prop) (hx : B () (JoinK J n0 K)) (hy : ∀ s, J s → K .normal s)
def headReg : Code → Nat
  | .region r _ _ => r
  | _ => 1000000
def seqK (N : LS → Prop) (K : Exit → LS → Prop) : Exit → LS → Prop
  | .normal, s' => N s'
  | .exit j, s' => K (.exit j) s'
  | .ret, s' => K .ret s'
  | .goto _, _ => False
  | .panic _, _ => False
  | .outgrown, _ => False
def blockK (id : Nat) (K : Exit → LS → Prop) (e : Exit) (s' : LS) : Prop := match e with
  | .exit j => match Nat.beq j id with
    | true => K .normal s'
    | false => K (.exit j) s'
  | .normal => K .normal s'
  | .ret => K .ret s'
  | .goto _ => False
  | .panic _ => False
  | .outgrown => False
def lcodeB (P : Unit → Program) (T : Unit → TT) (n0 : Nat) (bs : List Nat) : Code → LS → (Exit → LS → Prop) → Prop
  | .skip, s, K => K .normal s
  | .label _, s, K => K .normal s
  | .region _ ops d, s, K => match d with
    | false => lops P T ops.toList ops.toList s fun s' => K .normal s'
    | true => DrawF P (fun _ => ops) s fun s' => K .normal s'
  | .seq a b, s, K => match lmem (headReg a) bs with
    | true => JoinF n0 (fun _ K => lcodeB P T n0 bs a s (seqK (fun s' => lcodeB P T n0 bs b s' K) K)) K
    | false => lcodeB P T n0 bs a s (seqK (fun s' => lcodeB P T n0 bs b s' K) K)
  | .cond c a b, s, K => match ev s c with
    | .p (.bool c) => match c with
      | true => lcodeB P T n0 bs a s K
      | false => lcodeB P T n0 bs b s K
    | _ => False
  | .block id c, s, K => lcodeB P T n0 bs c s (blockK id K)
  | .loop c, s, K => LoopF n0 (fun _ s K => lcodeB P T n0 bs c s K) s K
  | .exit id, s, K => K (.exit id) s
  | .ret, s, K => K .ret s
  | _, _, _ => False
def lbodyB (P : Unit → Program) (T : Unit → TT) (bs : List Nat) (cd : Code) (rs : List ResultVar) (nt : Nat) (args : List LV) (h : LH) (n : Nat) (K : LV → LH → Nat → Prop) : Prop :=
  lcodeB P T n bs cd ⟨args ++ undefs (nt - llen args), h, n⟩ fun e s' => match e with
    | .normal => lres T s' rs fun vs => RetF n vs s'.h s'.n K
    | .ret => lres T s' rs fun vs => RetF n vs s'.h s'.n K
    | .exit _ => False
    | .goto _ => False
    | .panic _ => False
    | .outgrown => False

section
variable {P : Program} {T : TT} {c : Ctx} {a : Act} {w w' : World}

theorem lcodeB_sound (hT : TOK P T) {c0 : Ctx} {w0 : World} (n0 : Nat) (hn0 : c0.N = n0) (bs : List Nat) : ∀ (cd : Code) {s : LS} {K : Exit → LS → Prop} {c : Ctx} {a : Act} {w : World}, Ext c0 w0 c w → St c s a w → lcodeB (fun _ => P) (fun _ => T) n0 bs cd s K → cd.wp P (PostE K c0 w0) a w
  | .skip, s, K, c, a, w, he, hs, h => wp_skip ⟨c, s, h, hs, he⟩
  | .label _, s, K, c, a, w, he, hs, h => wp_label ⟨c, s, h, hs, he⟩
  | .exit _, s, K, c, a, w, he, hs, h => wp_exit ⟨c, s, h, hs, he⟩
  | .ret, s, K, c, a, w, he, hs, h => wp_ret ⟨c, s, h, hs, he⟩
  | .region _ ops d, s, K, c, a, w, he, hs, h => by
    cases d with
    | false =>
      refine wp_region ?_
      rw [List.range_eq_range']
      refine lops_sound hT (c0 := c0) (w0 := w0) (K := fun s' => K .normal s') (fun a' w' hp => ?_) ops.size 0 (by omega) he hs (by rw [List.drop_zero]; exact h)
      obtain ⟨c', s', hK, hs', he'⟩ := hp
      exact ⟨c', s', hK, hs', he'⟩
    | true =>
      refine wp_region_draw fun t => ?_
      obtain ⟨e1, r1⟩ := hs.hr.same (w' := { w with drawn := w.drawn + 1 }) rfl rfl rfl rfl
      have hs1 : St c s a { w with drawn := w.drawn + 1 } := ⟨hs.tl, fun i u hu => (hs.tr i u hu).ext hs.hr.fresh e1, hs.df, r1, hs.nn⟩
      cases h with
      | mk h =>
        refine h c a _ t _ hs1 (fun a' w' hp => ?_)
        obtain ⟨c', s', hK, hs', he'⟩ := hp
        exact ⟨c', s', hK, hs', he.trans (e1.trans he')⟩
  | .seq x y, s, K, c, a, w, he, hs, h => by
    rw [lcodeB] at h
    have key : ∀ (K : Exit → LS → Prop), lcodeB (fun _ => P) (fun _ => T) n0 bs x s (seqK (fun s' => lcodeB (fun _ => P) (fun _ => T) n0 bs y s' K) K) → (Code.seq x y).wp P (PostE K c0 w0) a w := by
      intro K h
      refine wp_seq (wp_mono (lcodeB_sound hT n0 hn0 bs x he hs h) fun e a' w' hp => ?_)
      obtain ⟨c', s', hK, hs', he'⟩ := hp
      cases e with
      | normal => exact lcodeB_sound hT n0 hn0 bs y he' hs' hK
      | exit j => exact ⟨c', s', hK, hs', he'⟩
      | ret => exact ⟨c', s', hK, hs', he'⟩
      | goto l => exact hK.elim
      | panic ch => exact hK.elim
      | outgrown => exact hK.elim
    split at h
    · cases h with
      | mk J hx hy =>
        refine wp_mono (key _ hx) fun e a' w' hp => ?_
        obtain ⟨c2, s2, hK, hs2, he2⟩ := hp
        cases e with
        | normal =>
          obtain ⟨s3, hre, hj⟩ := hK
          obtain ⟨hre⟩ := hre
          obtain ⟨c3, he3, hs3⟩ := hre c0 w0 c2 a' w' hn0 he2 hs2
          exact ⟨c3, s3, hy s3 hj, hs3, he3⟩
        | exit j => exact ⟨c2, s2, hK, hs2, he2⟩
        | ret => exact ⟨c2, s2, hK, hs2, he2⟩
        | goto l => exact ⟨c2, s2, hK, hs2, he2⟩
        | panic ch => exact ⟨c2, s2, hK, hs2, he2⟩
        | outgrown => exact ⟨c2, s2, hK, hs2, he2⟩
    · exact key _ h
  | .cond co x y, s, K, c, a, w, he, hs, h => by
    rw [lcodeB] at h
    split at h
    · rename_i b hb
      have hv : a.eval co = .bool b := LR.inv_bool (hb ▸ hs.ev co)
      cases b with
      | true => exact wp_cond_true hv (lcodeB_sound hT n0 hn0 bs x he hs h)
      | false => exact wp_cond_false hv (lcodeB_sound hT n0 hn0 bs y he hs h)
    · exact h.elim
  | .block id x, s, K, c, a, w, he, hs, h => by
    refine wp_block (wp_mono (lcodeB_sound hT n0 hn0 bs x he hs h) fun e a' w' hp => ?_)
    obtain ⟨c', s', hK, hs', he'⟩ := hp
    cases e with
    | normal => exact ⟨c', s', hK, hs', he'⟩
    | exit j =>
      show if j = id then _ else _
      unfold blockK at hK
      dsimp only at hK
      by_cases hj : j = id
      · rw [if_pos hj]
        subst hj
        rw [Nat.beq_refl] at hK
        exact ⟨c', s', hK, hs', he'⟩
      · rw [if_neg hj]
        rw [nbeq hj] at hK
        exact ⟨c', s', hK, hs', he'⟩
    | ret => exact ⟨c', s', hK, hs', he'⟩
    | goto l => exact hK.elim
    | panic ch => exact hK.elim
    | outgrown => exact hK.elim
  | .loop x, s, K, c, a, w, he, hs, h => by
    cases h with
    | mk V k0 s0 h0 hv hr =>
      obtain ⟨h0⟩ := h0
      obtain ⟨c', he', hs'⟩ := h0 c0 w0 c a w hn0 he hs
      refine wp_loop_ghost (fun n a w => ∃ s c, V n s ∧ Ext c0 w0 c w ∧ St c s a w) k0 ⟨s0, c', hv, he', hs'⟩ fun n a w hI => ?_
      obtain ⟨s1, c1, hv1, he1, hs1⟩ := hI
      refine wp_mono (lcodeB_sound hT n0 hn0 bs x he1 hs1 (hr n s1 hv1)) fun e a' w' hp => ?_
      obtain ⟨c2, s2, hK, hs2, he2⟩ := hp
      cases e with
      | normal =>
        obtain ⟨k3, s3, hm3, hre, hv3⟩ := hK
        obtain ⟨hre⟩ := hre
        obtain ⟨c3, he3, hs3⟩ := hre c0 w0 c2 a' w' hn0 he2 hs2
        exact ⟨k3, hm3, s3, c3, hv3, he3, hs3⟩
      | exit j => exact ⟨c2, s2, hK, hs2, he2⟩
      | ret => exact ⟨c2, s2, hK, hs2, he2⟩
      | goto l => exact ⟨c2, s2, hK, hs2, he2⟩
      | panic ch => exact ⟨c2, s2, hK, hs2, he2⟩
      | outgrown => exact ⟨c2, s2, hK, hs2, he2⟩
  | .rangeFunc _ _ _ _, s, K, c, a, w, he, hs, h => h.elim
  | .scope _, s, K, c, a, w, he, hs, h => h.elim
  | .goto _, s, K, c, a, w, he, hs, h => h.elim
  | .refuse _, s, K, c, a, w, he, hs, h => h.elim

theorem callF_of_bodyB (hT : TOK P T) {f : Nat} {fn : Func} {cd : Code} {args : List LV} {h : LH} {n : Nat} {K : LV → LH → Nat → Prop} (hf : P.funcs[f]? = some fn) (hname : (fn.name == "runtime.NumGoroutine") = false) (hb : fn.body = some cd)
    {rs : List ResultVar} {nt : Nat} (hrs : fn.results.toList = rs) (hnt : fn.ntmps = nt) (bs : List Nat) (hbody : lbodyB (fun _ => P) (fun _ => T) bs cd rs nt args h n K) : CallF (fun _ => P) f args h n K := by
  refine .mk ⟨fn, cd, hf, hname, hb⟩ fun c w xs hr hN hl hrel => ?_
  refine calls_of_wp hf hb ?_
  subst hrs hnt
  unfold lbodyB at hbody
  have hs : St c ⟨args ++ undefs (fn.ntmps - llen args), h, n⟩ { tmps := xs ++ Array.replicate (fn.ntmps - xs.size) undef, defers := [] } w := by
    refine ⟨by simp [undefs_length, llen_eq, hl], fun i u hu => ?_, rfl, hr, hN⟩
    dsimp only at hu ⊢
    by_cases hi : i < args.length
    · rw [List.getElem?_append_left hi] at hu
      have := hrel i u hu
      rw [Array.getD_eq_getD_getElem?] at this ⊢
      rw [Array.getElem?_append_left (by omega)]
      exact this
    · rw [List.getElem?_append_right (by omega)] at hu
      rw [undefs_get _ _ _ hu]; exact .undef _
  refine wp_mono (lcodeB_sound hT n hN bs cd (Ext.refl hr) hs hbody) fun e a' w' hp => ?_
  obtain ⟨c', s', hK, hs', he'⟩ := hp
  have fin : lres (fun _ => T) s' fn.results.toList (fun rs => RetF n rs s'.h s'.n K) → a'.defers = [] ∧ ∃ v, (results fn a'.tmps).run P w' = .ok v w' ∧
      (fun (e : Ending) w' => ∃ (c' : Ctx) (r : LV) (v : Value) (h' : LH) (n' : Nat), e = .returned v ∧ K r h' n' ∧ HR c' w' h' ∧ c'.N = n' ∧ LR c' w' r v ∧ Ext c w c' w') (.returned v) w' := by
    intro hres
    refine ⟨hs'.df, ?_⟩
    obtain ⟨us, vs, h1, h2, h3⟩ := lres_sound hT hs' _ hres
    obtain ⟨rs', h', n', ⟨hre⟩, hlr, hk⟩ := h3
    have hs2 : St c' ⟨us, s'.h, s'.n⟩ { tmps := vs.toArray, defers := [] } w' := ⟨by simpa using h2.1, fun i u hu => (Rel2.getD (x := vs.toArray) (by simpa using h2)).2 i u hu, rfl, hs'.hr, hs'.nn⟩
    obtain ⟨c2, he2, hs3⟩ := hre c w c' _ w' hN he' hs2
    refine ⟨if h : vs.toArray.size = 1 then vs.toArray[0] else .tuple vs.toArray, ?_, c2, one rs', _, h', n', rfl, hk, hs3.hr, hs3.nn, ?_, he2⟩
    · rw [results_eq, Sem.run_bind, Array.mapM_eq_mapM_toList, Sem.run_map, h1]
      rfl
    · have hr3 : Rel2 c2 w' rs' vs := by
        have := Rel2.ofD hs3.tl hs3.tr
        simpa using this
      cases rs' with
      | nil =>
        have : vs = [] := List.eq_nil_of_length_eq_zero hr3.1.symm
        subst this
        exact .tup [] #[] rfl (fun j u hu => by simp at hu)
      | cons u rs =>
        obtain ⟨y, ys, rfl, h5, h6⟩ := hr3.head
        cases rs with
        | nil =>
          have : ys = [] := List.eq_nil_of_length_eq_zero h6.1.symm
          subst this
          simpa [one] using h5
        | cons u2 rs =>
          have hne : ¬ (y :: ys).toArray.size = 1 := by
            have := h6.1
            simp at this ⊢
            intro h; rw [h] at this; simp at this
          rw [dif_neg hne]
          exact .tup _ _ (by simpa using hr3.1) (Rel2.getD (x := (y :: ys).toArray) (by simpa using hr3)).2
  cases e with
  | normal => exact fin hK
  | ret => exact fin hK
  | exit j => exact hK.elim
  | goto l => exact hK.elim
  | panic ch => exact hK.elim
  | outgrown => exact hK.elim
end
theorem Br.yes {p : Unit → Prop} {K : Bool → Prop} (h : p ()) (hk : K true) : Br p K := .mk (fun _ => hk) (fun n => absurd h n)
theorem Br.no {p : Unit → Prop} {K : Bool → Prop} (h : ¬ p ()) (hk : K false) : Br p K := .mk (fun y => absurd y h) (fun _ => hk)
end Go.LX
