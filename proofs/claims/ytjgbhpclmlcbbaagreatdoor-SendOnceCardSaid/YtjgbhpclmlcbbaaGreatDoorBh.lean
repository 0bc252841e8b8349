/-
  The ground of the proof, part 8: the calculus and what is proved with it.
-/
import Derived.Test.YtjgbhpclmlcbbaaGreatDoorBd
import Derived.Test.YtjgbhpclmlcbbaaGreatDoorBc
import Derived.Test.YtjgbhpclmlcbbaaGreatDoorBg
namespace Go.LX
open Go
set_option linter.unusedVariables false
set_option maxHeartbeats 32000000
inductive ReadF (P : Unit → Program) (f : Nat) (args : List LV) (bs : List Nat) (h : LH) (n : Nat) (K : LV → Prop) : Prop
 | mk (u : LV) (hq : ∀ h' n', (∀ b ∈ bs, hget h' b = hget h b) → n ≤ n' → CallF P f args h' n' fun r h2 n2 => r = u ∧ h2 = h' ∧ n2 = n') (hk : K u)
section
variable {P : Unit → Program} {T : Unit → TT} {o : Oper} {s : LS}
def rowL (T : Unit → TT) (o : Oper) (s : LS) : Option LV :=
 match o.op with
 | .buildSlice t len parts => match lget (T ()) t with
  | some ti => match ti.kind with
   | .slice e => match lget (T ()) e with
    | some te => match Nat.ble (len * te.size) 10000, Nat.beq (llen (pvs te.zero)) te.size, Nat.ble 1 te.size with
     | true, true, true => match fillL (T ()) ti.kind (reps te.zero len) (evs s parts.toList) with
      | some cs => match allP cs with
       | some ps => some (.p (.vsl (.lit len) false ps))
       | none => none
      | none => none
     | _, _, _ => none
    | none => none
   | _ => none
  | none => none
 | _ => none
def readL (P : Unit → Program) (T : Unit → TT) (all : List Oper) (bs : List Nat) (o : Oper) (s : LS) (L : LS → Prop) : Prop :=
 match yes s all o.guard with
 | some c => match c with
  | true => match o.op with
   | .call c => match c.callee with
    | .value (.func f) => ReadF P f (eva s c.args.toList) bs s.h s.n fun u => L (s.put o.dst u)
    | _ => False
   | .buildSlice _ _ _ => match rowL T o s with
    | some u => L (s.put o.dst u)
    | none => False
   | _ => False
  | false => L (s.put o.dst .nul)
 | none => False
theorem rowL_agree {T : Unit → TT} {o : Oper} {s s' : LS} {ops : Array Oper} (h : ∀ t ∈ o.looksAt ops, tget s'.t t = tget s.t t) : rowL T o s' = rowL T o s := by
 unfold rowL
 split
 ·rename_i t len parts ho
  have hev : evs s' parts.toList = evs s parts.toList := evs_agree _ fun x hx => by
   have hx2 : x.2 ∈ o.op.operands := by
    rw [ho]
    simp only [Op.operands]
    simpa using ⟨x.1, (by simpa using hx)⟩
   cases hx3 : x.2 with
   | tmp t =>
    rw [hx3] at hx2
    refine h t ?_
    simp only [Oper.looksAt, List.mem_append, List.mem_filterMap]
    exact .inl ⟨.tmp t, by simpa using hx2, rfl⟩
   | const v => rfl
   | global g => rfl
   | func f => rfl
  rw [hev]
 ·rfl
theorem Ext.mute {c : Ctx} {w : World} {h : LH} (hr : HR c w h) (o : Obj) : Ext c w c (w.alloc o) := by
 refine ⟨rfl, rfl, rfl, by simp, rfl, Nat.le_refl _, fun b hb => .inl rfl, fun b r hb h => ?_, fun r hr _ => heap_alloc_old w o hr, fun b r hb h => ?_⟩
 ·rw [hr.fresh b hb] at h; cases h
 ·simp only [World.shape?, heap_alloc_old w o (hr.lt b r h)]
theorem row_sound {P : Program} {T : TT} {o : Oper} {s : LS} {u : LV} {c : Ctx} {a : Act} {w : World} {Q : Exit → Act → World → Prop} (hT : TOK P T) (hs : St c s a w) (h : rowL (fun _ => T) o s = some u) : o.wp P a w (Post (fun s1 => s1 = s.put o.dst u) c w) Q := by
 unfold rowL at h
 split at h
 ·rename_i t len parts ho
  split at h
  ·rename_i ti ht
   split at h
   ·rename_i e hk
    split at h
    ·rename_i te hte
     split at h
     ·rename_i hlen hzl h1
      split at h
      ·rename_i cs hf
       split at h
       ·rename_i ps hps
        cases h
        have hlen := Nat.le_of_ble_eq_true hlen
        have h1 := Nat.le_of_ble_eq_true h1
        obtain ⟨z, hz, hzc, hzr⟩ := zero_cells (hT e te hte)
        obtain ⟨hl, hq⟩ := evs_rel hs parts.toList
        obtain ⟨⟨i, z', d, hi, hsz, _, hz', _, hu, hkd, _⟩, _⟩ := hT t ti ht
        rw [hk] at hkd hf
        cases d <;> try exact hkd.elim
        rename_i e'
        have hkd : e = e' := hkd
        subst hkd
        have hse := tok_size (w := w) (hT e te hte)
        have hzs : z.cells.size = te.size := by
         have h2 := Nat.eq_of_beq_eq_true hzl
         rw [llen_eq, pvs_length] at h2
         have : z.cells.toList.length = te.zero.length := by rw [hzc, List.length_map]
         rw [Array.length_toList] at this; omega
        have hpl2 : ∀ i off sz, place T (.slice e) i = some (off, sz) → (fun i => some (i * te.size, te.size)) i = some (off, sz) := by
         intro i off sz hp
         simp only [place, hte] at hp
         exact hp
        have hrel0 := reps_rel c w (hzr c w) (by omega) len
        rw [hzs] at hrel0
        obtain ⟨arr', h3, h4, h5⟩ := fill_sound (c := c) (w := w) hpl2 _ _ _ _ hl hq hrel0 hf
        have hlens : arr'.size = len * te.size := by rw [h5]; simp
        have hmap : (parts.map fun (i, x) => (i, a.eval x)).toList = parts.toList.map fun (i, x) => (i, a.eval x) := by simp
        have hrun : (execOp a.eval o).run P w = .ok (.value (.slice (some ⟨w.heap.size, 0, none⟩) len len)) (w.alloc (.cells arr' e)) := by
         unfold execOp; rw [ho]
         refine runv ?_
         have hbig : ¬ len * te.size > 2 ^ 24 := by omega
         by_cases h0 : len * te.size = 0
         ·have e0 : (Array.range (len * te.size)).map (fun j => z.cells[j % te.size]!) = (#[] : Array Value) := by rw [h0]; simp
          rw [e0] at h3
          have e1 : (Array.map (fun _ => (default : Value)) (Array.range 0)) = (#[] : Array Value) := by simp
          have hmap2 : (List.map (fun x : Nat × Operand => (x.fst, a.eval x.snd)) parts.toList) = parts.toList.map fun (i, x) => (i, a.eval x) := rfl
          simp [Instr.buildSlice, run_underlying hu, hse, h0, newRow]
          rw [e1, hmap2, h3]
          simp
         ·simp only at h3
          simp [Instr.buildSlice, run_underlying hu, hse, hbig, h0, hz, hzs, h3, newRow]
        have he := Ext.mute hs.hr (.cells arr' e)
        have hr' : HR c (w.alloc (.cells arr' e)) s.h := hs.hr.step he (.inl rfl) hs.hr.fresh (fun b => .inl rfl) (fun b B hb => .inl ⟨hb, rfl, fun r hm => heap_alloc_old w _ (hs.hr.lt b r hm)⟩)
        have hs1 : St c s a (w.alloc (.cells arr' e)) := ⟨hs.tl, fun i u hu => (hs.tr i u hu).ext hs.hr.fresh he, hs.df, hr', hs.nn⟩
        have hps := allP_eq _ hps
        subst hps
        have hcell : ∀ (j : Nat) (u : PV), ps[j]? = some u → ∃ x, arr'.toList[j]? = some x ∧ PR c.mut w u x := by
         intro j u hj
         obtain ⟨x, hx, hxr⟩ := h4.2 j (.p u) (by rw [pvs_get, hj]; rfl)
         cases hxr with
         | p _ _ hxr => exact ⟨x, hx, hxr⟩
        have hnew : LR c (w.alloc (.cells arr' e)) (.p (.vsl (.lit len) false ps)) (.slice (some ⟨w.heap.size, 0, none⟩) len len) := by
         refine .p _ _ (.vsl _ _ _ _ len len (fun j => arr'.toList.getD j Go.undef) rfl rfl ?_ ?_ (Nat.le_refl _) ?_ ?_ ?_)
         ·rintro (hx | ⟨b, hb⟩)
          ·exact Nat.lt_irrefl _ (hs.hr.ltX _ hx)
          ·exact Nat.lt_irrefl _ (hs.hr.lt _ _ hb)
         ·simp
         ·unfold maxLen
          have : len ≤ len * te.size := Nat.le_mul_of_pos_right _ h1
          omega
         ·intro j u hj
          obtain ⟨x, hx, _⟩ := hcell j u hj
          have hx2 : arr'[j]? = some x := by simpa using hx
          have hg2 : (w.alloc (.cells arr' e)).heap[w.heap.size]? = some (.cells arr' e (0, 0)) := by rw [heap_alloc_new]
          rw [add_lit]
          simp only [World.cell?, hg2]
          rw [List.getD_eq_getElem?_getD, hx]
          simpa using hx2
         ·intro j u hj
          obtain ⟨x, hx, hxr⟩ := hcell j u hj
          rw [List.getD_eq_getElem?_getD, hx]
          exact hxr.ext hs.hr.fresh he
        unfold Oper.wp
        rw [hrun, Oper.upon_value]
        exact ⟨c, _, rfl, hs1.put hnew _, he⟩
       ·cases h
      ·cases h
     ·cases h
    ·cases h
   ·cases h
  ·cases h
 ·cases h
def rdsR (ops : Array Oper) (bs : List Nat) (p : Nat) (s : LS) : List Nat := match isA (opAt ops p) with
 | true => rds (opAt ops p) s
 | false => bs
def AgreeR (ops : Array Oper) (bs : List Nat) (p : Nat) (s s' : LS) : Prop := (∀ b ∈ rdsR ops bs p s, hget s'.h b = hget s.h b) ∧ (∀ t ∈ (opAt ops p).looksAt ops, tget s'.t t = tget s.t t) ∧ s.n ≤ s'.n
theorem rdsR_put {ops : Array Oper} {bs : List Nat} {p : Nat} {d : Option Nat} {u : LV} (hd : ∀ t, d = some t → t ∉ (opAt ops p).looksAt ops) : rdsR ops bs p (s.put d u) = rdsR ops bs p s := by
 unfold rdsR
 cases isA (opAt ops p) with
 | true => exact rds_put hd
 | false => rfl
def keptR (ops : Array Oper) (bs : List Nat) : List Nat → LS → LS → Prop
 | [], s, s1 => Nat.ble s.n s1.n = true
 | p :: fl, s, s1 => keptL (rdsR ops bs p s) s s1 ∧ keptR ops bs fl s s1
theorem keptR_get {ops : Array Oper} {bs : List Nat} : ∀ {fl : List Nat} {s s1 : LS}, keptR ops bs fl s s1 → s.n ≤ s1.n ∧ ∀ p ∈ fl, keptL (rdsR ops bs p s) s s1
 | [], _, _, h => ⟨Nat.le_of_ble_eq_true h, fun p hp => by cases hp⟩
 | x :: l, s, s1, h => ⟨(keptR_get h.2).1, fun p hp => by
  rcases List.mem_cons.1 hp with rfl | hp
  ·exact h.1
  ·exact (keptR_get h.2).2 p hp⟩
theorem yes_agree {ops : Array Oper} {s s' : LS} (h : ∀ t ∈ o.looksAt ops, tget s'.t t = tget s.t t) : yes s' ops.toList o.guard = yes s ops.toList o.guard := by
 cases hg : o.guard with
 | none => rfl
 | some p =>
  obtain ⟨j, want⟩ := p
  simp only [yes, onth_eq]
  have hj : ops.toList[j]? = ops[j]? := by simp
  rw [hj]
  cases e : ops[j]? with
  | none => rfl
  | some q =>
   dsimp only
   cases e2 : q.dst with
   | none => rfl
   | some d =>
    dsimp only
    rw [h d (by simp [Oper.looksAt, hg, e, e2])]
def headR (P : Unit → Program) (T : Unit → TT) (ops : Array Oper) (bs : List Nat) (i : Nat) (s : LS) (L : LS → Prop) : Prop :=
 match isA (opAt ops i) with
 | true => stepL P T ops.toList (opAt ops i) s L
 | false => readL P T ops.toList bs (opAt ops i) s L
theorem AgreeR.toS {ops : Array Oper} {bs : List Nat} {i : Nat} {s s' : LS} (hA : isA (opAt ops i) = true) (h : AgreeR ops bs i s s') : AgreeS ops (opAt ops i) s s' := by
 refine ⟨?_, h.2.1⟩
 have := h.1
 unfold rdsR at this
 rw [hA] at this
 exact this
theorem headR_x {ops : Array Oper} {bs : List Nat} {i : Nat} {L : LS → Prop} (h : headR P T ops bs i s L) : ∃ u, L (s.put (opAt ops i).dst u) ∧ (∀ s', AgreeR ops bs i s s' → ∀ L' : LS → Prop, L' (s'.put (opAt ops i).dst u) → headR P T ops bs i s' L') ∧ (∀ s', AgreeR ops bs i s s' → (∀ L' : LS → Prop, L' (s'.put (opAt ops i).dst u) → stepL P T ops.toList (opAt ops i) s' L') ∨ (yes s' ops.toList (opAt ops i).guard = some true ∧ rowL T (opAt ops i) s' = some u)) := by
 unfold headR at h
 split at h
 ·rename_i hA
  obtain ⟨u, h1, h2⟩ := step_x hA h
  refine ⟨u, h1, fun s' ha L' hL => ?_, fun s' ha => .inl (h2 s' (ha.toS hA))⟩
  unfold headR
  rw [hA]
  exact h2 s' (ha.toS hA) L' hL
 ·rename_i hA
  have hbs : ∀ s', AgreeR ops bs i s s' → ∀ b ∈ bs, hget s'.h b = hget s.h b := fun s' ha => by
   have := ha.1
   unfold rdsR at this
   rw [hA] at this
   exact this
  have hlk : ∀ s', AgreeR ops bs i s s' → ∀ t ∈ (opAt ops i).looksAt ops, tget s'.t t = tget s.t t := fun s' ha => ha.2.1
  have hn : ∀ s', AgreeR ops bs i s s' → s.n ≤ s'.n := fun s' ha => ha.2.2
  generalize hoo : opAt ops i = o at *
  unfold readL at h
  split at h
  ·rename_i cb hy
   have hy' : ∀ s', AgreeR ops bs i s s' → yes s' ops.toList o.guard = some cb := fun s' ha => (yes_agree (hlk s' ha)).trans hy
   split at h
   ·split at h
    ·rename_i c ho
     split at h
     ·rename_i f hc
      cases h with
      | mk u hq hk =>
       have hev : ∀ s', AgreeR ops bs i s s' → eva s' c.args.toList = eva s c.args.toList := fun s' ha => eva_agree _ fun x hx => by
        have hx : x ∈ c.args := by simpa using hx
        have hx2 : x ∈ o.op.operands := by rw [ho]; simp [Op.operands, Call.operands, hc, hx]
        cases x with
        | tmp t =>
         refine hlk s' ha t ?_
         simp only [Oper.looksAt, List.mem_append, List.mem_filterMap]
         exact .inl ⟨.tmp t, by simpa using hx2, rfl⟩
        | const v => rfl
        | global g => rfl
        | func f => rfl
       refine ⟨u, hk, fun s' ha L' hL => ?_, fun s' ha => .inl fun L' hL => ?_⟩
       ·unfold headR
        rw [hoo, hA]
        dsimp only
        unfold readL
        rw [hy' s' ha]
        dsimp only
        rw [ho]
        dsimp only
        rw [hc]
        dsimp only
        rw [hev s' ha]
        exact .mk u (fun h' n' hb hn' => hq h' n' (fun b hbm => (hb b hbm).trans (hbs s' ha b hbm)) (Nat.le_trans (hn s' ha) hn')) hL
       ·unfold stepL
        rw [hy' s' ha]
        dsimp only
        unfold lop
        rw [ho]
        dsimp only
        rw [hc]
        dsimp only [ev]
        rw [hev s' ha]
        refine (hq s'.h s'.n (hbs s' ha) (hn s' ha)).mono fun r h' n' ⟨e1, e2, e3⟩ => ?_
        subst e1 e2 e3
        exact hL
     ·exact h.elim
    ·rename_i t0 len0 parts0 ho
     split at h
     ·rename_i u hu
      refine ⟨u, h, fun s' ha L' hL => ?_, fun s' ha => .inr ⟨hy' s' ha, (rowL_agree (hlk s' ha)).trans hu⟩⟩
      unfold headR
      rw [hoo, hA]
      dsimp only
      unfold readL
      rw [hy' s' ha]
      dsimp only
      rw [ho]
      dsimp only
      rw [rowL_agree (hlk s' ha), hu]
      exact hL
     ·exact h.elim
    ·exact h.elim
   ·refine ⟨.nul, h, fun s' ha L' hL => ?_, fun s' ha => .inl fun L' hL => ?_⟩
    ·unfold headR
     rw [hoo, hA]
     dsimp only
     unfold readL
     rw [hy' s' ha]
     exact hL
    ·unfold stepL
     rw [hy' s' ha]
     exact hL
  ·exact h.elim
def lopsR (P : Unit → Program) (T : Unit → TT) (ops : Array Oper) (bs : List Nat) (qs : List Nat) (F : List (Nat × List Nat)) : List Nat → LS → (LS → Prop) → Prop
 | [], s, K => K s
 | i :: l, s, K => match cA ops qs i with
  | true => headR P T ops bs i s fun s1 => lopsR P T ops bs qs F l s1 K
  | false => stepL P T ops.toList (opAt ops i) s fun s1 => keptR ops bs (look F i) s s1 ∧ lopsR P T ops bs qs F l s1 K
def pairR (ops : Array Oper) (qs : List Nat) (F : List (Nat × List Nat)) (p q : Nat) : Bool :=
 p != q && (reach ops ops.size p q || (cA ops qs p && (opAt ops p).apart ops (opAt ops q) && (cA ops qs q || (look F q).contains p))) && (!(F.any fun e => e.2.contains p && e.2.contains q) || match (opAt ops q).dst with
  | some d => !cA ops qs p || !cA ops qs q || !((opAt ops p).looksAt ops).contains d
  | none => true)
def PairR (ops : Array Oper) (qs : List Nat) (F : List (Nat × List Nat)) (p q : Nat) : Prop := p ≠ q ∧ (reach ops ops.size p q = true ∨ (cA ops qs p = true ∧ (opAt ops p).apart ops (opAt ops q) = true ∧ (cA ops qs q = true ∨ p ∈ look F q))) ∧ (∀ i, p ∈ look F i → q ∈ look F i → cA ops qs p = true → cA ops qs q = true → ∀ d, (opAt ops q).dst = some d → d ∉ (opAt ops p).looksAt ops)
theorem pairR_spec {ops : Array Oper} {qs : List Nat} {F : List (Nat × List Nat)} {p q : Nat} (h : pairR ops qs F p q = true) : PairR ops qs F p q := by
 simp only [pairR, Bool.and_eq_true, Bool.or_eq_true, bne_iff_ne, ne_eq] at h
 obtain ⟨⟨h1, h2⟩, h3⟩ := h
 refine ⟨h1, h2.imp id (fun h => ⟨h.1.1, h.1.2, h.2.imp id (fun h => by simpa using h)⟩), fun i hpi hqi hp hq d hd => ?_⟩
 rw [look_any hpi hqi, hd, hp, hq] at h3
 simpa using h3
theorem frontR {ops : Array Oper} {bs : List Nat} {qs : List Nat} {F : List (Nat × List Nat)} {i : Nat} {l2 : List Nat} {K : LS → Prop} (hki : known ops i) :
  ∀ (l1 gh : List Nat) {s : LS}, (∀ p ∈ l1, known ops p ∧ (∀ d, (opAt ops p).dst = some d → d ∉ (opAt ops p).looksAt ops)) → (∀ p ∈ l1, PairR ops qs F p i ∧ reach ops ops.size p i = false) → l1.Pairwise (PairR ops qs F) → (∀ p ∈ gh, p ∈ look F i ∧ cA ops qs p = true ∧ ∀ q ∈ l1, PairR ops qs F p q) →
   lopsR P T ops bs qs F (l1 ++ i :: l2) s K → (cA ops qs i = true → headR P T ops bs i s fun s1 => lopsR P T ops bs qs F (l1 ++ l2) s1 K) ∧ (cA ops qs i = false → stepL P T ops.toList (opAt ops i) s fun s1 => (s.n ≤ s1.n ∧ ∀ p ∈ gh, keptL (rdsR ops bs p s) s s1) ∧ lopsR P T ops bs qs F (l1 ++ l2) s1 K)
 | [], gh, s, _, _, _, hgh, h => by
  rw [List.nil_append, lopsR] at h
  split at h
  ·rename_i hA
   exact ⟨fun _ => h, fun e => (by rw [hA] at e; cases e)⟩
  ·rename_i hA
   exact ⟨fun e => (by rw [hA] at e; cases e), fun _ => stepL_m hki h fun s1 h1 => ⟨⟨(keptR_get h1.1).1, fun p hp => (keptR_get h1.1).2 p (hgh p hp).1⟩, h1.2⟩⟩
 | p :: l1, gh, s, hk, hi, hpw, hdn, h => by
  obtain ⟨hkp, hself⟩ := hk p List.mem_cons_self
  obtain ⟨⟨hpi1, hpi2, hpi3⟩, hnr⟩ := hi p List.mem_cons_self
  rw [List.pairwise_cons] at hpw
  obtain ⟨hA, hap, hfl⟩ : cA ops qs p = true ∧ (opAt ops p).apart ops (opAt ops i) = true ∧ (cA ops qs i = true ∨ p ∈ look F i) := by
   rcases hpi2 with e | e
   ·rw [hnr] at e; cases e
   ·exact e
  obtain ⟨a1, a2, a3⟩ := Oper.apart_spec hap
  rw [List.cons_append, lopsR] at h
  rw [hA] at h
  dsimp only at h
  obtain ⟨u, h1, hg, _⟩ := headR_x h
  have next : ∀ {s1 : LS}, AgreeR ops bs p s s1 → lopsR P T ops bs qs F (l1 ++ l2) (s1.put (opAt ops p).dst u) K → lopsR P T ops bs qs F (p :: l1 ++ l2) s1 K := by
   intro s1 hag h2
   rw [List.cons_append, lopsR, hA]
   exact hg s1 hag _ h2
  have hkl : ∀ q ∈ l1, known ops q ∧ (∀ d, (opAt ops q).dst = some d → d ∉ (opAt ops q).looksAt ops) := fun q hq => hk q (List.mem_cons_of_mem _ hq)
  have hil : ∀ q ∈ l1, PairR ops qs F q i ∧ reach ops ops.size q i = false := fun q hq => hi q (List.mem_cons_of_mem _ hq)
  refine ⟨fun hAi => ?_, fun hnA => ?_⟩
  ·have ih := (frontR hki l1 [] hkl hil hpw.2 (fun q hq => (by cases hq)) h1).1 hAi
   obtain ⟨v, h4, h5, _⟩ := headR_x ih
   refine h5 s ⟨fun _ _ => by rw [put_h], fun t ht => (tget_put _ _ _ (fun e => a1 t e ht)).symm, by rw [put_n]; exact Nat.le_refl _⟩ _ ?_
   refine next ⟨fun _ _ => by rw [put_h], fun t ht => tget_put _ _ _ (fun e => a3 t e ht), by rw [put_n]; exact Nat.le_refl _⟩ ?_
   rw [← put_comm _ _ _ _ a2]
   exact h4
  ·have hX : isX (opAt ops i) = true := hki.resolve_right (fun e => by unfold cA at hnA; rw [e] at hnA; cases hnA)
   have hpf : p ∈ look F i := hfl.resolve_left (fun e => by rw [hnA] at e; cases e)
   have ih := (frontR hki l1 (p :: gh) hkl hil hpw.2 (fun q hq => by
    rcases List.mem_cons.1 hq with rfl | hq
    ·exact ⟨hpf, hA, hpw.1⟩
    ·exact ⟨(hdn q hq).1, (hdn q hq).2.1, fun r hr => (hdn q hq).2.2 r (List.mem_cons_of_mem _ hr)⟩) h1).2 hnA
   have h3 := step_slot hX a1 a2 ih
   refine stepL_m (.inl hX) h3 fun s1 ⟨h4, ⟨hn5, h5⟩, h6⟩ => ?_
   simp only [put_n] at hn5
   have hkp2 := h5 p List.mem_cons_self
   rw [rdsR_put hself] at hkp2
   refine ⟨⟨hn5, fun q hq => ?_⟩, next ⟨fun b hb => ?_, (fun t ht => h4 t fun e => a3 t e ht), hn5⟩ h6⟩
   ·have e := h5 q (List.mem_cons_of_mem _ hq)
    rw [rdsR_put (((hdn q hq).2.2 p List.mem_cons_self).2.2 i (hdn q hq).1 hpf (hdn q hq).2.1 hA)] at e
    refine keptL_mk fun b hb => ?_
    have := keptL_get e b hb
    rwa [put_h, put_h] at this
   ·have := keptL_get hkp2 b hb
    rwa [put_h, put_h] at this
end
def orderR (ops : Array Oper) (qs : List Nat) (F : List (Nat × List Nat)) : List Nat → List Nat → Bool
 | _, [] => true
 | pre, q :: l => edgesOK ops pre q && selfOK ops q && l.all (fun r => pairR ops qs F q r) && orderR ops qs F (q :: pre) l
def drawnR (ops : Array Oper) (qs : List Nat) (F : List (Nat × List Nat)) (order : List Nat) : Bool := orderR ops qs F [] order && (List.range ops.size).all (fun j => order.contains j)
section
variable {P : Program} {T : TT} {K : LS → Prop}
theorem orderR_spec {ops : Array Oper} {qs : List Nat} {F : List (Nat × List Nat)} : ∀ {l pre : List Nat}, orderR ops qs F pre l = true → l.Pairwise (PairR ops qs F) ∧ (∀ q ∈ l, known ops q ∧ (∀ d, (opAt ops q).dst = some d → d ∉ (opAt ops q).looksAt ops)) ∧
  ∀ l1 q l2, l = l1 ++ q :: l2 → ∃ o, ops[q]? = some o ∧ ∀ e ∈ o.after, Region.binds .any e = true → e.on ∈ pre ∨ e.on ∈ l1
 | [], pre, _ => ⟨.nil, fun q hq => (by cases hq), fun l1 q l2 h => (by cases l1 <;> cases h)⟩
 | r :: l, pre, h => by
  simp only [orderR, Bool.and_eq_true] at h
  obtain ⟨⟨⟨h1, h2⟩, h3⟩, h4⟩ := h
  obtain ⟨k1, k2, k3⟩ := orderR_spec h4
  refine ⟨List.pairwise_cons.2 ⟨fun q hq => pairR_spec (List.all_eq_true.1 h3 q hq), k1⟩, fun q hq => ?_, fun l1 q l2 e => ?_⟩
  ·rcases List.mem_cons.1 hq with rfl | hq
   ·exact selfOK_spec h2
   ·exact k2 q hq
  ·cases l1 with
   | nil =>
    cases e
    unfold edgesOK at h1
    split at h1
    ·rename_i o ho
     refine ⟨o, ho, fun e he hb => .inl ?_⟩
     have := Array.all_eq_true_iff_forall_mem.1 h1 e he
     simpa [hb] using this
    ·cases h1
   | cons x l1 =>
    cases e
    obtain ⟨o, ho, h5⟩ := k3 l1 q l2 rfl
    refine ⟨o, ho, fun e he hb => ?_⟩
    rcases h5 e he hb with h | h
    ·rcases List.mem_cons.1 h with h | h
     ·exact .inr (by rw [h]; exact List.mem_cons_self)
     ·exact .inl h
    ·exact .inr (List.mem_cons_of_mem _ h)
theorem anyR_sound (hT : TOK P T) {ops : Array Oper} {bs : List Nat} {qs : List Nat} {F : List (Nat × List Nat)} {order : List Nat} (hd : drawnR ops qs F order = true) {c0 : Ctx} {w0 : World} {Q : Exit → Act → World → Prop} (hQ : ∀ a' w', Post K c0 w0 a' w' → Q .normal a' w') :
  ∀ (fuel : Nat) (listed : Array Bool) {s : LS} {c : Ctx} {a : Act} {w : World}, listed.size = ops.size → Closed ops listed → (unlO order listed).length = fuel → Ext c0 w0 c w → St c s a w →
  lopsR (fun _ => P) (fun _ => T) ops bs qs F (unlO order listed) s K → wpAny P .any ops Q fuel listed a w := by
 simp only [drawnR, Bool.and_eq_true, List.all_eq_true, List.mem_range] at hd
 obtain ⟨hpw, hkn, hed⟩ := orderR_spec hd.1
 have hall : ∀ j, j < ops.size → j ∈ order := fun j hj => by simpa using hd.2 j hj
 have mem_unl : ∀ {listed : Array Bool} {j : Nat}, j ∈ unlO order listed ↔ j ∈ order ∧ listed.getD j true = false := by
  intro listed j
  simp [unlO, List.mem_filter]
 have at_ : ∀ {j o}, ops[j]? = some o → opAt ops j = o := by
  intro j o ho
  simp [opAt, ho]
 have hlt_ : ∀ {listed : Array Bool} {j : Nat}, listed.size = ops.size → listed.getD j true = false → j < ops.size := by
  intro listed j hsz h
  rcases Nat.lt_or_ge j ops.size with h1 | h1
  ·exact h1
  ·rw [Array.getD_eq_getD_getElem?, Array.getElem?_eq_none (by omega)] at h; cases h
 intro fuel
 induction fuel with
 | zero =>
  intro listed s c a w hsz hcl hlen he hs h
  have h0 : unlO order listed = [] := List.eq_nil_of_length_eq_zero hlen
  refine ⟨List.eq_nil_iff_forall_not_mem.2 fun j hj => ?_, ?_⟩
  ·obtain ⟨h1, o, h2, _⟩ := mem_ready.1 hj
   have : j ∈ unlO order listed := mem_unl.2 ⟨hall j (Array.getElem?_eq_some_iff.1 h2).1, h1⟩
   rw [h0] at this; cases this
  ·rw [h0] at h
   exact hQ _ _ ⟨c, s, h, hs, he⟩
 | succ fuel ih =>
  intro listed s c a w hsz hcl hlen he hs h
  refine ⟨fun hr => ?_, fun i hi => ?_⟩
  ·exfalso
   cases hu : unlO order listed with
   | nil => rw [hu] at hlen; cases hlen
   | cons i0 rest =>
    obtain ⟨l1, l2, e1, e2, e3, e4⟩ := List.filter_eq_cons_iff.1 hu
    have hun : listed.getD i0 true = false := by simpa using e3
    obtain ⟨o, ho, h5⟩ := hed l1 i0 l2 e1
    have : i0 ∈ Region.ready .any ops listed := by
     refine mem_ready.2 ⟨hun, o, ho, fun e hee hb => ?_⟩
     rcases h5 e hee hb with h6 | h6
     ·cases h6
     ·have h7 := e2 _ h6
      have h8 : listed.getD e.on true = true := by simpa using h7
      rcases Nat.lt_or_ge e.on listed.size with h9 | h9
      ·rw [getD_tf h9 false true]; exact h8
      ·exfalso
       obtain ⟨m1, m2, hm⟩ := List.append_of_mem h6
       obtain ⟨o2, ho2, _⟩ := hed m1 e.on (m2 ++ i0 :: l2) (by rw [e1, hm]; simp)
       have := (Array.getElem?_eq_some_iff.1 ho2).1
       omega
    rw [hr] at this; cases this
  ·obtain ⟨hun, o, ho, haft⟩ := mem_ready.1 hi
   have hlt : i < ops.size := (Array.getElem?_eq_some_iff.1 ho).1
   have hiu : i ∈ unlO order listed := mem_unl.2 ⟨hall i hlt, hun⟩
   obtain ⟨l1, l2, hl⟩ := List.append_of_mem hiu
   have hpu : (unlO order listed).Pairwise (PairR ops qs F) := hpw.filter _
   have hku : ∀ q ∈ unlO order listed, known ops q ∧ (∀ d, (opAt ops q).dst = some d → d ∉ (opAt ops q).looksAt ops) := fun q hq => hkn q (mem_unl.1 hq).1
   rw [hl] at hpu hku h
   rw [List.pairwise_append] at hpu
   obtain ⟨hp1, hp2, hp3⟩ := hpu
   rw [List.pairwise_cons] at hp2
   have hrest : unlO order (listed.setIfInBounds i true) = l1 ++ l2 := by
    have e1 : unlO order (listed.setIfInBounds i true) = (unlO order listed).filter (· != i) := by
     unfold unlO
     rw [List.filter_filter]
     refine List.filter_congr fun j hj => ?_
     by_cases e : i = j
     ·subst e
      rw [Array.getD_eq_getD_getElem?, Array.getElem?_setIfInBounds_self_of_lt (by omega)]
      simp
     ·rw [getD_set_ne _ e]
      have : (j != i) = true := by simp; omega
      rw [this]; simp
    rw [e1, hl, List.filter_append, List.filter_cons_of_neg (by simp)]
    congr 1
    ·rw [List.filter_eq_self]
     intro p hp
     have := (hp3 p hp i List.mem_cons_self).1
     simpa using this
    ·rw [List.filter_eq_self]
     intro p hp
     have := (hp2.1 p hp).1
     have : p ≠ i := fun e => this e.symm
     simpa using this
   have hf := frontR (ops := ops) (bs := bs) (F := F) (i := i) (l2 := l2) (hku i (by simp)).1 l1 [] (fun p hp => hku p (by simp [hp])) (fun p hp => ⟨hp3 p hp i List.mem_cons_self, by
    cases e : reach ops ops.size p i with
    | false => rfl
    | true =>
     exfalso
     have h1 := reach_listed hcl _ i o ho e haft
     have hpm : p ∈ unlO order listed := by rw [hl]; simp [hp]
     have h2 := (mem_unl.1 hpm).2
     rw [getD_tf (by rw [hsz]; exact hlt_ hsz h2) true false, h1] at h2; cases h2⟩) hp1 (fun p hp => (by cases hp)) h
   rw [← hrest] at hf
   have hsz' : (listed.setIfInBounds i true).size = ops.size := by simp [hsz]
   have hcl' : Closed ops (listed.setIfInBounds i true) := by
    intro q oq hoq hq e hee hb
    by_cases hqi : i = q
    ·subst hqi
     rw [ho] at hoq; cases hoq
     exact getD_set_true (haft e hee hb)
    ·rw [getD_set_ne _ hqi] at hq
     exact getD_set_true (hcl q oq hoq hq e hee hb)
   have hlen' : (unlO order (listed.setIfInBounds i true)).length = fuel := by
    rw [hrest]
    rw [hl] at hlen
    simp at hlen ⊢; omega
   have hgo : ∀ (R : LS → Prop), stepL (fun _ => P) (fun _ => T) ops.toList o s R → (∀ s1, R s1 → lopsR (fun _ => P) (fun _ => T) ops bs qs F (unlO order (listed.setIfInBounds i true)) s1 K) → wpOp P ops Q i (fun a' w' => wpAny P .any ops Q fuel (listed.setIfInBounds i true) a' w') a w := by
    intro R hf hR
    unfold wpOp
    rw [ho]
    dsimp only
    unfold stepL at hf
    split at hf
    ·rename_i cb hy
     have hw := yes_sound hs hy
     cases cb with
     | true =>
      rw [if_pos hw]
      left
      refine Oper.wp_mono (fun a' w' hp => ?_) (lop_sound (Q := Q) hT hs hf)
      obtain ⟨c', s', hK, hs', he'⟩ := hp
      exact ih _ hsz' hcl' hlen' (he.trans he') hs' (hR _ hK)
     | false =>
      rw [if_neg (by rw [hw]; simp)]
      exact ih _ hsz' hcl' hlen' he (hs.put .nul _) (hR _ hf)
    ·exact hf.elim
   cases hcA : cA ops qs i with
   | true =>
    obtain ⟨u, h1, _, h3⟩ := headR_x (hf.1 hcA)
    rw [at_ ho] at h1 h3
    rcases h3 s ⟨fun _ _ => rfl, fun _ _ => rfl, Nat.le_refl _⟩ with h3 | h3
    ·refine hgo _ (h3 (fun s1 => s1 = s.put o.dst u) rfl) fun s1 e => ?_
     rw [e]; exact h1
    ·unfold wpOp
     rw [ho]
     dsimp only
     rw [if_pos (yes_sound hs h3.1)]
     left
     refine Oper.wp_mono (fun a' w' hp => ?_) (row_sound (Q := Q) hT hs h3.2)
     obtain ⟨c', s', hK, hs', he'⟩ := hp
     subst hK
     exact ih _ hsz' hcl' hlen' (he.trans he') hs' h1
   | false =>
    have h3 := hf.2 hcA
    rw [at_ ho] at h3
    exact hgo _ h3 fun s1 h => h.2
theorem read_sound (hT : TOK P T) (hm : P.follows .mixedOrders = true) (bs : List Nat) (qs : List Nat) (F : List (Nat × List Nat)) (order : List Nat) {ops : Unit → Array Oper} {s : LS} (hd : drawnR (ops ()) qs F order = true) (h : lopsR (fun _ => P) (fun _ => T) (ops ()) bs qs F order s K) : DrawF (fun _ => P) ops s K := by
 refine .mk fun c a w t Q hs hQ => ?_
 generalize ops () = ops at *
 simp only [Region.schedule, hm, Bool.true_or, if_true]
 have hget : ∀ i, (Array.replicate ops.size false).getD i false = false := by
  intro i
  rw [Array.getD_eq_getD_getElem?, Array.getElem?_replicate]
  split <;> rfl
 have hd' := hd
 simp only [drawnR, Bool.and_eq_true] at hd'
 obtain ⟨hpw, _, hed⟩ := orderR_spec hd'.1
 have hlt : ∀ j ∈ order, j < ops.size := fun j hj => by
  obtain ⟨l1, l2, e⟩ := List.append_of_mem hj
  obtain ⟨o, ho, _⟩ := hed l1 j l2 e
  exact (Array.getElem?_eq_some_iff.1 ho).1
 have hun : unlO order (Array.replicate ops.size false) = order := by
  unfold unlO
  rw [List.filter_eq_self]
  intro j hj
  have := hlt j hj
  rw [Array.getD_eq_getD_getElem?, Array.getElem?_replicate, if_pos this]; rfl
 have hnd : order.Nodup := hpw.imp fun h => h.1
 have hlen : order.length = ops.size := by
  have h1 : order.Perm (List.range ops.size) := by
   rw [List.perm_ext_iff_of_nodup hnd List.nodup_range]
   intro j
   rw [List.mem_range]
   exact ⟨hlt j, fun hj => by have := List.all_eq_true.1 hd'.2 j (List.mem_range.2 hj); simpa using this⟩
  simpa using h1.length_eq
 refine wpAny_sound ops.size t _ a w (anyR_sound (K := K) (bs := bs) hT hd (c0 := c) (w0 := w) (fun a' w' hp => hQ a' w' ?_) ops.size _ (by simp) ?_ (by rw [hun]; exact hlen) (Ext.refl hs.hr) hs ?_)
 ·obtain ⟨c', s', hK, hs', he⟩ := hp
  exact ⟨c', s', hK, hs', he⟩
 ·intro q o _ hq
  rw [hget] at hq; cases hq
 ·rw [hun]; exact h
end
def pairRF (ops : Array Oper) (qs : List Nat) (F : List (Nat × List Nat)) (M : List Nat) (p q : Nat) : Bool :=
 p != q && ((cA ops qs p && (opAt ops p).apart ops (opAt ops q) && (cA ops qs q || (look F q).contains p)) || (M.getD q 0).testBit p) && (!(F.any fun e => e.2.contains p && e.2.contains q) || match (opAt ops q).dst with
  | some d => !cA ops qs p || !cA ops qs q || !((opAt ops p).looksAt ops).contains d
  | none => true)
def orderRF (ops : Array Oper) (qs : List Nat) (F : List (Nat × List Nat)) (M : List Nat) : List Nat → List Nat → Bool
 | _, [] => true
 | pre, q :: l => edgesOK ops pre q && selfOK ops q && l.all (fun r => pairRF ops qs F M q r) && orderRF ops qs F M (q :: pre) l
def drawnRF (ops : Array Oper) (qs : List Nat) (F : List (Nat × List Nat)) (order : List Nat) : Bool := orderRF ops qs F (masksL ops.toList []) [] order && (List.range ops.size).all (fun j => order.contains j)
theorem pairRF_ok {ops : Array Oper} {qs : List Nat} {F : List (Nat × List Nat)} {M : List Nat} (hM : MasksOk ops M) (hl : M.length = ops.size) {p q : Nat} (h : pairRF ops qs F M p q = true) : pairR ops qs F p q = true := by
 unfold pairRF at h
 unfold pairR
 rw [Bool.and_eq_true, Bool.and_eq_true] at h ⊢
 refine ⟨⟨h.1.1, ?_⟩, h.2⟩
 have h2 := h.1.2
 rw [Bool.or_eq_true] at h2 ⊢
 rcases h2 with h2 | h2
 ·exact .inr h2
 ·obtain ⟨g1, g2⟩ := hM _ _ h2
  exact .inl (reach_mono g2 (by omega))
theorem orderRF_ok {ops : Array Oper} {qs : List Nat} {F : List (Nat × List Nat)} {M : List Nat} (hM : MasksOk ops M) (hl : M.length = ops.size) : ∀ {l pre : List Nat}, orderRF ops qs F M pre l = true → orderR ops qs F pre l = true
 | [], pre, _ => rfl
 | q :: l, pre, h => by
  rw [orderRF, Bool.and_eq_true, Bool.and_eq_true] at h
  rw [orderR, Bool.and_eq_true, Bool.and_eq_true]
  refine ⟨⟨h.1.1, ?_⟩, orderRF_ok hM hl h.2⟩
  rw [List.all_eq_true] at *
  exact fun r hr => pairRF_ok hM hl (h.1.2 r hr)
theorem drawnRF_ok {ops : Array Oper} {qs : List Nat} {F : List (Nat × List Nat)} {order : List Nat} (h : drawnRF ops qs F order = true) : drawnR ops qs F order = true := by
 unfold drawnRF at h
 unfold drawnR
 rw [Bool.and_eq_true] at h ⊢
 obtain ⟨g1, g2⟩ := masksL_ok (ops := ops) ops.toList [] [] rfl rfl (fun q p h => by simp at h)
 exact ⟨orderRF_ok g1 g2 h.1, h.2⟩
theorem readF_sound {P : Program} {T : TT} {K : LS → Prop} (hT : TOK P T) (hm : P.follows .mixedOrders = true) (bs : List Nat) (qs : List Nat) (F : List (Nat × List Nat)) (order : List Nat) {ops : Unit → Array Oper} {s : LS} (hd : drawnRF (ops ()) qs F order = true) (h : lopsR (fun _ => P) (fun _ => T) (ops ()) bs qs F order s K) : DrawF (fun _ => P) ops s K :=
 read_sound hT hm bs qs F order (drawnRF_ok hd) h
theorem re_same {n : Nat} {t : List LV} {h1 h : LH} (he : ∀ b B, hget h b = some B → hget h1 b = some B) : Re n ⟨t, h1, n⟩ ⟨t, h, n⟩ := by
 refine .mk fun c w c2 a w' hN hx hs => ⟨c2, hx, ⟨hs.tl, hs.tr, hs.df, ⟨fun b B hb => hs.hr.live b B (he b B hb), hs.hr.fresh, hs.hr.inj, hs.hr.noX, hs.hr.ltX, hs.hr.lt⟩, hs.nn⟩⟩
theorem renH_some {ρ : List (Nat × Nat)} {n0 n : Nat} : ∀ {h0 : LH} {a b : Nat} {A : LB}, hget h0 a = some A → rn ρ n0 n a = some b → ∃ B, hget (renH ρ n0 n h0) b = some B
 | [], _, _, _, h, _ => by cases h
 | (d, D) :: h0, a, b, A, h, hr => by
  rw [hget_cons] at h
  rw [renH]
  by_cases e : d = a
  ·subst e
   rw [hr]
   exact ⟨_, by rw [hget_cons, if_pos rfl]⟩
  ·rw [if_neg e] at h
   obtain ⟨B, hB⟩ := renH_some h hr
   cases hd : rn ρ n0 n d with
   | none => exact ⟨B, hB⟩
   | some d' =>
    dsimp only
    rw [hget_cons]
    by_cases e2 : d' = b
    ·rw [if_pos e2]; exact ⟨_, rfl⟩
    ·rw [if_neg e2]; exact ⟨B, hB⟩
theorem hdels_not : ∀ (ρ : List (Nat × Nat)) (h : LH) (b : Nat), nback ρ b = none → hget (hdels ρ h) b = hget h b
 | [], _, _, _ => rfl
 | (x, y) :: ρ, h, b, hn => by
  rw [nback_cons] at hn
  split at hn
  ·cases hn
  ·rename_i e
   rw [hdels, hget_del, if_neg (fun q => e q.symm)]
   exact hdels_not ρ h b hn
theorem nback_mem : ∀ {ρ : List (Nat × Nat)} {a b : Nat}, nback ρ b = some a → (a, b) ∈ ρ
 | [], _, _, h => by cases h
 | (x, y) :: ρ, a, b, h => by
  rw [nback_cons] at h
  split at h
  ·rename_i e
   cases h
   subst e
   exact List.mem_cons_self
  ·exact List.mem_cons_of_mem _ (nback_mem h)
theorem frameH_same {ρ : List (Nat × Nat)} {n0 n : Nat} {h h0 : LH} (hF : fok n0 n ρ = true) (hm : hmapOk ρ n0 n h h0) (hall : ρ.all (fun p => (hget h0 p.1).isSome) = true) : ∀ b B, hget h b = some B → hget (frameH ρ n0 n h h0) b = some B := by
 intro b B hb
 have hF' := fok_ok hF
 unfold frameH
 rw [hget_happ]
 cases e : hget (renH ρ n0 n h0) b with
 | some B' =>
  dsimp only
  obtain ⟨a, A, k1, k2, k3⟩ := hget_renH hF' h0 b B' e
  obtain ⟨b', g1, g2, _⟩ := hmapOk_get hm a A k2
  have : rn ρ n0 n a = some b' := by unfold rn; rw [g1]
  obtain rfl : b' = b := Option.some.inj (this.symm.trans k1)
  rw [k3]
  exact g2.symm.trans hb
 | none =>
  dsimp only
  cases en : nback ρ b with
  | none => rw [hdels_not ρ h b en]; exact hb
  | some a =>
   have hab := nback_mem en
   have := List.all_eq_true.1 hall _ hab
   obtain ⟨A, hA⟩ := Option.isSome_iff_exists.1 this
   obtain ⟨b', g1, _, _⟩ := hmapOk_get hm a A hA
   have hr : rn ρ n0 n a = some b := by
    unfold rn
    rw [(hF'.iff a b).2 en]
   obtain ⟨B', hB'⟩ := renH_some hA hr
   rw [e] at hB'; cases hB'
theorem callF_read {P : Unit → Program} {f : Nat} {args0 args : List LV} {h0 h : LH} {n0 n : Nat} {u0 u : LV} (hc : CallF P f args0 h0 n0 fun r h1 n1 => r = u0 ∧ h1 = h0 ∧ n1 = n0) (ρ : List (Nat × Nat)) (hF : fok n0 n ρ = true) (hm : hmapOk ρ n0 n h h0) (ha : args = renVs ρ n0 n args0) (hok : okVs ρ args0 = true) (hu : u = renV ρ n0 n u0) (hall : ρ.all (fun p => (hget h0 p.1).isSome) = true) : CallF P f args h n fun r h2 n2 => r = u ∧ h2 = h ∧ n2 = n := by
 refine CallF.ret (callF_frame (K := fun r h1 n1 => r = u ∧ h1 = frameH ρ n0 n h h0 ∧ n1 = n) hc ρ hF hm ha hok (fun r h' n' ⟨e1, e2, e3⟩ => ?_)) (fun r h' n' ⟨e1, e2, e3⟩ => ?_)
 ·subst e1 e2 e3
  exact ⟨hu.symm, rfl, by omega⟩
 ·subst e1 e2 e3
  exact .mk [r] h n' (re_same (frameH_same hF hm hall)) rfl ⟨rfl, rfl, rfl⟩
end Go.LX
namespace Go.Proofs.YtjgbhpclmlcbbaaGreatDoor
open Go Go.LX
set_option maxRecDepth 100000
set_option linter.unusedVariables false
set_option linter.unusedSimpArgs false
set_option maxHeartbeats 32000000
theorem lends_lx (y0 y1 y2 y3 y4 y5 y6 y7 y8 : Int) (d : Bool) : CallF (fun _ => Tryz.prog) 61 [.agg [i6 y0, i6 y1, i6 y2, i6 y3, i6 y4, i6 y5, i6 y6, i6 y7, i6 y8], .p (.bool d)] [] 0 (fun r h n => (∃ a b : Int, r = .tup [i6 a, i6 b] ∧ a = (if d then y7 else y5) ∧ b = (if d then y8 else y6)) ∧ h = [] ∧ n = 0) := by
 cases d with
 | false =>
  refine callF_of_body tok Tryz.func61 (by kernel_rfl) rfl rfl rfl ?_; conv => cbv
  refine drawn_sound tok (by kernel_rfl) [] [0, 1, 2, 3, 4, 5] (by kernel_rfl) ?_; conv => cbv
  refine RetF.mk [i6 y5, i6 y6] [] 0 (Re.at [] []) rfl ⟨⟨y5, y6, rfl, rfl, rfl⟩, rfl, rfl⟩
 | true =>
  refine callF_of_body tok Tryz.func61 (by kernel_rfl) rfl rfl rfl ?_; conv => cbv
  refine drawn_sound tok (by kernel_rfl) [] [0, 1, 2, 3, 4, 5] (by kernel_rfl) ?_; conv => cbv
  refine RetF.mk [i6 y7, i6 y8] [] 0 (Re.at [] []) rfl ⟨⟨y7, y8, rfl, rfl, rfl⟩, rfl, rfl⟩
inductive Wtg (M : Hp) (a : Int) : LV → Prop
 | is (y0 y1 y2 y3 y4 y5 y6 : Int) (h : M a = some (3, [y0, y1, y2, y3, y4, y5, y6])) : Wtg M a (.iface 39 (.agg [i6 y0, i6 y1, i6 y2, i6 y3, i6 y4, i6 y5, i6 y6]))
 | no (h : ∀ F, M a ≠ some (3, F)) : Wtg M a (.iface 176 (.agg []))
theorem waiting_lx (R : List Rw) (ws C G : List Int) (N W ph sp cy : Int) (L D Q : List PV) (z : ByteArray) (ov : Bool) (h : HM R ws C G N W L D Q z) (M : Hp) (hM : Cont R ws M) (a : Int) (hs : ∀ F, M a = some (3, F) → ∃ y0 y1 y2 y3 y4 y5 y6, F = [y0, y1, y2, y3, y4, y5, y6]) : CallF (fun _ => Tryz.prog) 92 [.ptr 0 (.lit 0), i6 a] [hpA 0 1 5 6 3 W ph sp cy, hpB 1 2 4 3 W, hpC 2 3 214 2 N, hpP 3 L, hpP 4 D, hpF 5 z ov, hpP 6 Q] 7 (fun r h n => Wtg M a r ∧ h = [hpA 0 1 5 6 3 W ph sp cy, hpB 1 2 4 3 W, hpC 2 3 214 2 N, hpP 3 L, hpP 4 D, hpF 5 z ov, hpP 6 Q] ∧ n = 7) := by
 by_cases hq : ∃ F, M a = some (3, F)
 ·obtain ⟨F, hF⟩ := hq
  obtain ⟨y0, y1, y2, y3, y4, y5, y6, rfl⟩ := hs F hF
  refine callF_of_body tok Tryz.func92 (by kernel_rfl) rfl rfl rfl ?_; conv => cbv
  refine cfr (sudogM_lx R ws C G N W ph sp cy L D Q z ov h M hM a y0 y1 y2 y3 y4 y5 y6 hF) [(0, 0), (1, 1), (2, 2), (3, 3), (4, 4), (5, 5), (6, 6)] (fun r h' n' hrr => ?_)
  obtain ⟨⟨e, e1, he⟩, e2, e3⟩ := hrr
  subst e1 e2 e3
  conv => cbv
  refine Br.no (show ¬ ¬ (e = 0) from fun q => q he) ?_
  conv => cbv
  refine RetF.mk [.iface 39 (.agg [i6 y0, i6 y1, i6 y2, i6 y3, i6 y4, i6 y5, i6 y6])] [hpA 0 1 5 6 3 W ph sp cy, hpB 1 2 4 3 W, hpC 2 3 214 2 N, hpP 3 L, hpP 4 D, hpF 5 z ov, hpP 6 Q] 7 (Re.at [(0, 0), (1, 1), (2, 2), (3, 3), (4, 4), (5, 5), (6, 6)] []) rfl ⟨.is y0 y1 y2 y3 y4 y5 y6 hF, rfl, rfl⟩
 ·have hno : ∀ F, M a ≠ some (3, F) := fun F e => hq ⟨F, e⟩
  refine callF_of_body tok Tryz.func92 (by kernel_rfl) rfl rfl rfl ?_; conv => cbv
  refine cfr (sudogNoM_lx R ws C G N W ph sp cy L D Q z ov h M hM a hno) [(0, 0), (1, 1), (2, 2), (3, 3), (4, 4), (5, 5), (6, 6)] (fun r h' n' hrr => ?_)
  obtain ⟨⟨y0, y1, y2, y3, y4, y5, y6, e, e1, he, hz⟩, e2, e3⟩ := hrr
  subst e1 e2 e3
  conv => cbv
  refine Br.yes (show ¬ (e = 0) by omega) ?_
  conv => cbv
  refine RetF.mk [.iface 176 (.agg [])] [hpA 0 1 5 6 3 W ph sp cy, hpB 1 2 4 3 W, hpC 2 3 214 2 N, hpP 3 L, hpP 4 D, hpF 5 z ov, hpP 6 Q] 7 (Re.at [(0, 0), (1, 1), (2, 2), (3, 3), (4, 4), (5, 5), (6, 6)] []) rfl ⟨.no hno, rfl, rfl⟩
theorem nodup_len {l : List Int} {n : Nat} (hn : l.Nodup) (hb : ∀ x ∈ l, 0 ≤ x ∧ x < n) : l.length ≤ n := by
 have := nodup_le (l := l) (m := (List.range n).map fun (i : Nat) => (i : Int)) hn fun x hx => by
  obtain ⟨h0, h1⟩ := hb x hx
  exact List.mem_map.2 ⟨x.toNat, List.mem_range.2 (by omega), by omega⟩
 simpa using this
theorem Sys.len {M : Hp} {q : Qs} {R : List Rw} {ws : List Int} (hA : AOk R ws) (hM : Cont R ws M) (hY : Sys M q) (c : Int) (d : Bool) : (q c d).length ≤ 32 * R.length := by
 refine nodup_len (hY.nd c d) fun x hx => ?_
 obtain ⟨g, w, n, p, r, m, e⟩ := hY.sg c d x hx
 have := hM.len hA e
 simp at this
 omega
theorem neg_none {M : Hp} {R : List Rw} {ws : List Int} (hA : AOk R ws) (hM : Cont R ws M) : M (-1) = none := by
 cases h : M (-1) with
 | none => rfl
 | some v => have := hM.len hA (k := v.1) (F := v.2) h; omega
theorem listAll_lx (R : List Rw) (ws C G : List Int) (N W ph sp cy : Int) (L D Q : List PV) (z : ByteArray) (ov : Bool) (h : HM R ws C G N W L D Q z) (M : Hp) (hM : Cont R ws M) (q : Qs) (hY : Sys M q) (c : Int) (d : Bool) (hch : ∀ F, M c = some (1, F) → ∃ y0 y1 y2 y3 y4 y5 y6 y7 y8, F = [y0, y1, y2, y3, y4, y5, y6, y7, y8]) (hsu : ∀ a F, M a = some (3, F) → ∃ y0 y1 y2 y3 y4 y5 y6, F = [y0, y1, y2, y3, y4, y5, y6]) : CallF (fun _ => Tryz.prog) 40 [.ptr 0 (.lit 0), i6 c, .p (.bool d)] [hpA 0 1 5 6 3 W ph sp cy, hpB 1 2 4 3 W, hpC 2 3 214 2 N, hpP 3 L, hpP 4 D, hpF 5 z ov, hpP 6 Q] 7 (fun r h n => ∃ (m : Int) (cells : List PV), r = .sl 7 3 1 (.lit 0) (.sym m) ∧ h = [hpA 0 1 5 6 3 W ph sp cy, hpB 1 2 4 3 W, hpC 2 3 214 2 N, hpP 3 L, hpP 4 D, hpF 5 z ov, hpP 6 Q, hpP 7 cells] ∧ n = 8 ∧ m = (q c d).length ∧ cells = ipv (q c d)) := by
 have hlen := hY.len h.a hM c d
 have hNR := h.n; have hRr := h.r
 by_cases hq : ∃ F, M c = some (1, F)
 ·obtain ⟨F, hF⟩ := hq
  obtain ⟨y0, y1, y2, y3, y4, y5, y6, y7, y8, rfl⟩ := hch F hF
  refine callF_of_body tok Tryz.func40 (by kernel_rfl) rfl rfl rfl ?_; conv => cbv
  refine cfr (chanM_lx R ws C G N W ph sp cy L D Q z ov h M hM c y0 y1 y2 y3 y4 y5 y6 y7 y8 hF) [(0, 0), (1, 1), (2, 2), (3, 3), (4, 4), (5, 5), (6, 6)] (fun r h' n' hrr => ?_)
  obtain ⟨⟨e, e1, he⟩, e2, e3⟩ := hrr
  subst e1 e2 e3
  conv => cbv
  refine Br.no (show ¬ ¬ (e = 0) from fun q => q he) ?_
  conv => cbv
  refine callF_frame (lends_lx y0 y1 y2 y3 y4 y5 y6 y7 y8 d) [] rfl trivial rfl rfl (fun r h' n' hrr => ?_)
  obtain ⟨⟨at0, at1, e1, hat0, hat1⟩, e2, e3⟩ := hrr
  subst e1 e2 e3
  conv => cbv
  have hlk := hY.lnk hF
  rw [lnk_chan] at hlk
  simp only [Prod.mk.injEq, List.cons.injEq, true_and, and_true] at hlk
  obtain ⟨hl5, hl6, hl7, hl8⟩ := hlk
  obtain ⟨l0, hl0⟩ : ∃ l0, l0 = q c d := ⟨_, rfl⟩
  have hat : at0 = (l0[0]?).getD (-1) := by
   have hh : hdQ l0 = (l0[0]?).getD (-1) := by unfold hdQ; rw [List.head?_eq_getElem?]
   rw [hat0, ← hh, hl0]
   cases d with
   | false => exact hl5.symm
   | true => exact hl7.symm
  rw [← hl0] at hlen ⊢
  have hnd : l0.Nodup := hl0 ▸ hY.nd c d
  have hneg := neg_none h.a hM
  refine LoopF.mk (fun kk s => ∃ (i at_ : Int) (dn : List Int) (cells : List PV), s = ⟨.ptr 0 (.lit 0) :: (undefs 8 ++ .sl 9 3 1 (.lit 0) (.sym i) :: .mp 8 :: .p (.int .i64 (.sym at_)) :: undefs 48), [hpA 0 1 5 6 3 W ph sp cy, hpB 1 2 4 3 W, hpC 2 3 214 2 N, hpP 3 L, hpP 4 D, hpF 5 z ov, hpP 6 Q, (8, .set dn), hpP 9 cells], 10⟩ ∧ 0 ≤ i ∧ i ≤ l0.length ∧ kk = ((l0.length : Int) - i).toNat ∧ dn = l0.take i.toNat ∧ cells = ipv dn ∧ at_ = (l0[i.toNat]?).getD (-1)) l0.length _
   (Re.at [(0, 0), (1, 1), (2, 2), (3, 3), (4, 4), (5, 5), (6, 6), (8, 8)] [9]) ⟨0, at0, [], [], rfl, by omega, by omega, by omega, rfl, rfl, hat⟩ ?_
  rintro kk s ⟨i, at_, dn, cells, rfl, hi0, hi1, hkk, hdn, hcs, hat_⟩
  have hi1 : i ≤ (l0.length : Int) := hi1
  have hkk : kk = ((l0.length : Int) - i).toNat := hkk
  have hdl : dn.length = i.toNat := by rw [hdn, List.length_take]; omega
  conv => cbv
  refine cfr (waiting_lx R ws C G N W ph sp cy L D Q z ov h M hM at_ (hsu at_)) [(0, 0), (1, 1), (2, 2), (3, 3), (4, 4), (5, 5), (6, 6)] (fun r h' n' hrr => ?_)
  obtain ⟨hW, e2, e3⟩ := hrr
  subst e2 e3
  cases hW with
  | is z0 z1 z2 z3 z4 z5 z6 hz =>
   have hil : i < (l0.length : Int) := by
    rcases Int.lt_or_le i l0.length with h1 | h1
    ·exact h1
    ·rw [List.getElem?_eq_none (by omega)] at hat_
     rw [show at_ = -1 from hat_, hneg] at hz
     cases hz
   obtain ⟨x, hx⟩ : ∃ x, l0[i.toNat]? = some x := ⟨_, List.getElem?_eq_getElem (by omega)⟩
   obtain rfl : at_ = x := by rw [hat_, hx]; rfl
   have hni : at_ ∉ dn := by
    rw [hdn]
    intro hm
    obtain ⟨k, hk⟩ := List.getElem?_of_mem hm
    rw [List.getElem?_take] at hk
    split at hk
    ·rename_i hkl
     have := (List.getElem?_inj (by have := (List.getElem?_eq_some_iff.1 hk).1; omega) hnd).1 (hk.trans hx.symm)
     omega
    ·cases hk
   conv => cbv
   refine Br.no (show ¬ (at_ ∈ dn) from hni) ?_
   conv => cbv
   have hcl : cells.length = dn.length := by rw [hcs, ipv_length]
   refine Room.new rfl ?_
   conv => cbv
   refine Room.new ⟨?_, ?_, ?_⟩ ?_
   ·show (cells.length : Int) = i * 1; omega
   ·show (i + 1) * 8 ≤ 140737488355328; omega
   ·show i + 1 ≤ 9223372036854775807; omega
   conv => cbv
   refine Upd.mk fun cells2 hcs2 => ?_
   have hcs2 : cells2 = cells ++ [.int .i64 (.sym at_)] := hcs2
   have hcs3 : cells2 = ipv (dn ++ [at_]) := by rw [hcs2, hcs, ← ipv_app]; rfl
   conv => cbv
   refine Sum.mk fun j2 hj2 => ?_
   have hj2 : j2 = i + 1 := hj2
   conv => cbv
   refine Need.mk (show ¬ (at_ ∈ dn) from hni) ?_
   conv => cbv
   refine UpdI.mk fun dn2 hdn2 => ?_
   have hdn2 : dn2 = dn ++ [at_] := hdn2
   have hdn3 : dn2 = l0.take j2.toNat := by rw [hdn2, hdn, show j2.toNat = i.toNat + 1 by omega, List.take_add_one, hx]; rfl
   have hnx : z3 = (l0[j2.toNat]?).getD (-1) := by
    have h1 := hY.lnk hz
    have hsm : at_ ∈ q c d := hl0 ▸ List.mem_of_getElem? hx
    obtain ⟨g, w, n, p, r, m, e⟩ := hY.sg c d at_ hsm
    rw [hz] at e
    simp only [Option.some.injEq, Prod.mk.injEq, List.cons.injEq, true_and, and_true] at e
    obtain ⟨_, ec, _⟩ := e
    rw [lnk_sudog, ec, hY.nxt hsm, sucL_get _ _ (hY.nd c d) (hl0 ▸ hx)] at h1
    simp only [Prod.mk.injEq, List.cons.injEq, true_and, and_true] at h1
    rw [show j2.toNat = i.toNat + 1 by omega, hl0]
    exact h1.symm
   conv => cbv
   refine Again.mk ((l0.length : Int) - j2).toNat _ (by omega) (Re.at [(0, 0), (1, 1), (2, 2), (3, 3), (4, 4), (5, 5), (6, 6), (8, 8), (13, 9)] []) ⟨j2, z3, dn2, cells2, rfl, (show (0 : Int) ≤ j2 by omega), (show j2 ≤ (l0.length : Int) by omega), rfl, hdn3, by rw [hcs3, hdn2], hnx⟩
  | no hz =>
   have hil : i = (l0.length : Int) := by
    rcases Int.lt_or_le i l0.length with h1 | h1
    ·obtain ⟨x, hx⟩ : ∃ x, l0[i.toNat]? = some x := ⟨_, List.getElem?_eq_getElem (by omega)⟩
     obtain ⟨g, w, n, p, r, m, e⟩ := hY.sg c d x (hl0 ▸ List.mem_of_getElem? hx)
     rw [hat_, hx] at hz
     exact absurd e (hz _)
    ·omega
   have hdn2 : dn = l0 := by rw [hdn, hil]; simp
   conv => cbv
   refine Br.mk (fun gq => ?_) (fun gq => ?_)
   ·conv => cbv
    refine RetF.mk [.sl 7 3 1 (.lit 0) (.sym i)] [hpA 0 1 5 6 3 W ph sp cy, hpB 1 2 4 3 W, hpC 2 3 214 2 N, hpP 3 L, hpP 4 D, hpF 5 z ov, hpP 6 Q, hpP 7 cells] 8 (Re.at [(0, 0), (1, 1), (2, 2), (3, 3), (4, 4), (5, 5), (6, 6), (9, 7)] []) rfl ⟨i, cells, rfl, rfl, rfl, hil, by rw [hcs, hdn2]⟩
   ·conv => cbv
    refine RetF.mk [.sl 7 3 1 (.lit 0) (.sym i)] [hpA 0 1 5 6 3 W ph sp cy, hpB 1 2 4 3 W, hpC 2 3 214 2 N, hpP 3 L, hpP 4 D, hpF 5 z ov, hpP 6 Q, hpP 7 cells] 8 (Re.at [(0, 0), (1, 1), (2, 2), (3, 3), (4, 4), (5, 5), (6, 6), (9, 7)] []) rfl ⟨i, cells, rfl, rfl, rfl, hil, by rw [hcs, hdn2]⟩
 ·have hno : ∀ F, M c ≠ some (1, F) := fun F e => hq ⟨F, e⟩
  have hqe : q c d = [] := hY.none hno d
  refine callF_of_body tok Tryz.func40 (by kernel_rfl) rfl rfl rfl ?_; conv => cbv
  refine cfr (chanNoM_lx R ws C G N W ph sp cy L D Q z ov h M hM c hno) [(0, 0), (1, 1), (2, 2), (3, 3), (4, 4), (5, 5), (6, 6)] (fun r h' n' hrr => ?_)
  obtain ⟨⟨y0, y1, y2, y3, y4, y5, y6, y7, y8, e, e1, he, hz⟩, e2, e3⟩ := hrr
  subst e1 e2 e3
  conv => cbv
  refine Br.yes (show ¬ (e = 0) by omega) ?_
  conv => cbv
  refine RetF.mk [.sl 7 3 1 (.lit 0) (.sym 0)] [hpA 0 1 5 6 3 W ph sp cy, hpB 1 2 4 3 W, hpC 2 3 214 2 N, hpP 3 L, hpP 4 D, hpF 5 z ov, hpP 6 Q, (7, .pure true [])] 8 (Re.at [(0, 0), (1, 1), (2, 2), (3, 3), (4, 4), (5, 5), (6, 6)] [7]) rfl ⟨0, [], rfl, rfl, rfl, by rw [hqe]; rfl, by rw [hqe]; rfl⟩
end Go.Proofs.YtjgbhpclmlcbbaaGreatDoor
namespace Go.Proofs.YtjgbhpclmlcbbaaGreatDoor
open Go Go.LX
set_option maxRecDepth 100000
set_option linter.unusedVariables false
set_option linter.unusedSimpArgs false
set_option maxHeartbeats 32000000
theorem setNextM_lx (R : List Rw) (ws C G : List Int) (N W ph sp cy : Int) (L D Q : List PV) (z : ByteArray) (ov : Bool) (h : HM R ws C G N W L D Q z) (M : Hp) (hM : Cont R ws M) (o : Unit → Obj) (ho : IsPow o) (hph : ph = 0) (a x z0 z1 z2 z3 z4 z5 z6 : Int) (hMa : M a = some (3, [z0, z1, z2, z3, z4, z5, z6])) (hx : -1 ≤ x) (hx2 : b62 x) : CallF (fun _ => Tryz.prog) 62 [.ptr 0 (.lit 0), i6 a, i6 x] [hpA 0 1 5 6 3 W ph sp cy, hpB 1 2 4 3 W, hpC 2 3 214 2 N, hpP 3 L, hpP 4 D, hpF 5 z ov, hpP 6 Q, (7, .fix 0 o)] 8 (fun r h n => ∃ (ws' : List Int) (D' : List PV), r = .tup [] ∧ h = [hpA 0 1 5 6 3 W ph sp cy, hpB 1 2 4 3 W, hpC 2 3 214 2 N, hpP 3 L, hpP 4 D', hpF 5 z ov, hpP 6 Q, (7, .fix 0 o)] ∧ n = 8 ∧ HM R ws' C G N W L D' Q z ∧ Cont R ws' (upd M a (3, [z0, z1, z2, x, z4, z5, z6]))) := by
 obtain ⟨hp, hb, hw⟩ := hM.sudog h.a hMa
 have hp' : ∀ q ∈ [z0, z1, x, z6], -1 ≤ q := by
  simp only [List.forall_mem_cons] at hp ⊢
  obtain ⟨p0, p1, p3, p6, _⟩ := hp
  exact ⟨p0, p1, hx, p6, fun q hq => by cases hq⟩
 have hb' : ∀ q ∈ [z0, z1, x, z4, z5, z6], b62 q := by
  simp only [List.forall_mem_cons] at hb ⊢
  obtain ⟨b0, b1, b3, b4, b5, b6, _⟩ := hb
  exact ⟨b0, b1, hx2, b4, b5, b6, fun q hq => by cases hq⟩
 refine callF_of_body tok Tryz.func62 (by kernel_rfl) rfl rfl rfl ?_; conv => cbv
 refine cfr (sudogM_lx R ws C G N W ph sp cy L D Q z ov h M hM a z0 z1 z2 z3 z4 z5 z6 hMa) [(0, 0), (1, 1), (2, 2), (3, 3), (4, 4), (5, 5), (6, 6)] (fun r h' n' hrr => ?_)
 obtain ⟨⟨e0, e1, he0⟩, e2, e3⟩ := hrr
 subst e1 e2 e3
 conv => cbv
 refine cfr (putSudogM_lx R ws C G N W ph sp cy L D Q z ov h M hM o ho hph a z0 z1 z2 x z4 z5 z6 [z0, z1, z2, z3, z4, z5, z6] hMa rfl hb' hw hp') [(0, 0), (1, 1), (2, 2), (3, 3), (4, 4), (5, 5), (6, 6), (7, 7)] (fun r h' n' hrr => ?_)
 obtain ⟨e, ws', D', e1, he, e2, e3, h1, hM'⟩ := hrr
 subst e1 e2 e3
 conv => cbv
 refine RetF.mk [] [hpA 0 1 5 6 3 W ph sp cy, hpB 1 2 4 3 W, hpC 2 3 214 2 N, hpP 3 L, hpP 4 D', hpF 5 z ov, hpP 6 Q, (7, .fix 0 o)] 8 (Re.at [(0, 0), (1, 1), (2, 2), (3, 3), (4, 4), (5, 5), (6, 6), (7, 7)] []) rfl ⟨ws', D', rfl, rfl, rfl, h1, hM'⟩
theorem setEnds0_lx (R : List Rw) (ws C G : List Int) (N W ph sp cy : Int) (L D Q : List PV) (z : ByteArray) (ov : Bool) (h : HM R ws C G N W L D Q z) (M : Hp) (hM : Cont R ws M) (o : Unit → Obj) (ho : IsPow o) (hph : ph = 0) (a hd tl y0 y1 y2 y3 y4 y5 y6 y7 y8 : Int) (hMa : M a = some (1, [y0, y1, y2, y3, y4, y5, y6, y7, y8])) (hx : -1 ≤ hd ∧ b62 hd) (hx2 : -1 ≤ tl ∧ b62 tl) : CallF (fun _ => Tryz.prog) 63 [.ptr 0 (.lit 0), i6 a, .p (.bool false), i6 hd, i6 tl] [hpA 0 1 5 6 3 W ph sp cy, hpB 1 2 4 3 W, hpC 2 3 214 2 N, hpP 3 L, hpP 4 D, hpF 5 z ov, hpP 6 Q, (7, .fix 0 o)] 8 (fun r h n => ∃ (ws' : List Int) (D' : List PV), r = .tup [] ∧ h = [hpA 0 1 5 6 3 W ph sp cy, hpB 1 2 4 3 W, hpC 2 3 214 2 N, hpP 3 L, hpP 4 D', hpF 5 z ov, hpP 6 Q, (7, .fix 0 o)] ∧ n = 8 ∧ HM R ws' C G N W L D' Q z ∧ Cont R ws' (upd M a (1, [y0, y1, y2, y3, y4, hd, tl, y7, y8]))) := by
 obtain ⟨hp, hb⟩ := hM.chan h.a hMa
 have hp' : ∀ q ∈ [y4, hd, tl, y7, y8], -1 ≤ q := by
  simp only [List.forall_mem_cons] at hp ⊢
  obtain ⟨p4, p5, p6, p7, p8, _⟩ := hp
  exact ⟨p4, hx.1, hx2.1, p7, p8, fun q hq => by cases hq⟩
 have hb' : ∀ q ∈ [y0, y1, y2, y3, y4, hd, tl, y7, y8], b62 q := by
  simp only [List.forall_mem_cons] at hb ⊢
  obtain ⟨b0, b1, b2, b3, b4, b5, b6, b7, b8, _⟩ := hb
  exact ⟨b0, b1, b2, b3, b4, hx.2, hx2.2, b7, b8, fun q hq => by cases hq⟩
 refine callF_of_body tok Tryz.func63 (by kernel_rfl) rfl rfl rfl ?_; conv => cbv
 refine cfr (chanM_lx R ws C G N W ph sp cy L D Q z ov h M hM a y0 y1 y2 y3 y4 y5 y6 y7 y8 hMa) [(0, 0), (1, 1), (2, 2), (3, 3), (4, 4), (5, 5), (6, 6)] (fun r h' n' hrr => ?_)
 obtain ⟨⟨e0, e1, he0⟩, e2, e3⟩ := hrr
 subst e1 e2 e3
 conv => cbv
 refine cfr (putChanM_lx R ws C G N W ph sp cy L D Q z ov h M hM o ho hph a y0 y1 y2 y3 y4 hd tl y7 y8 [y0, y1, y2, y3, y4, y5, y6, y7, y8] hMa rfl hb' hp') [(0, 0), (1, 1), (2, 2), (3, 3), (4, 4), (5, 5), (6, 6), (7, 7)] (fun r h' n' hrr => ?_)
 obtain ⟨e, ws', D', e1, he, e2, e3, h1, hM'⟩ := hrr
 subst e1 e2 e3
 conv => cbv
 refine RetF.mk [] [hpA 0 1 5 6 3 W ph sp cy, hpB 1 2 4 3 W, hpC 2 3 214 2 N, hpP 3 L, hpP 4 D', hpF 5 z ov, hpP 6 Q, (7, .fix 0 o)] 8 (Re.at [(0, 0), (1, 1), (2, 2), (3, 3), (4, 4), (5, 5), (6, 6), (7, 7)] []) rfl ⟨ws', D', rfl, rfl, rfl, h1, hM'⟩
theorem setEnds1_lx (R : List Rw) (ws C G : List Int) (N W ph sp cy : Int) (L D Q : List PV) (z : ByteArray) (ov : Bool) (h : HM R ws C G N W L D Q z) (M : Hp) (hM : Cont R ws M) (o : Unit → Obj) (ho : IsPow o) (hph : ph = 0) (a hd tl y0 y1 y2 y3 y4 y5 y6 y7 y8 : Int) (hMa : M a = some (1, [y0, y1, y2, y3, y4, y5, y6, y7, y8])) (hx : -1 ≤ hd ∧ b62 hd) (hx2 : -1 ≤ tl ∧ b62 tl) : CallF (fun _ => Tryz.prog) 63 [.ptr 0 (.lit 0), i6 a, .p (.bool true), i6 hd, i6 tl] [hpA 0 1 5 6 3 W ph sp cy, hpB 1 2 4 3 W, hpC 2 3 214 2 N, hpP 3 L, hpP 4 D, hpF 5 z ov, hpP 6 Q, (7, .fix 0 o)] 8 (fun r h n => ∃ (ws' : List Int) (D' : List PV), r = .tup [] ∧ h = [hpA 0 1 5 6 3 W ph sp cy, hpB 1 2 4 3 W, hpC 2 3 214 2 N, hpP 3 L, hpP 4 D', hpF 5 z ov, hpP 6 Q, (7, .fix 0 o)] ∧ n = 8 ∧ HM R ws' C G N W L D' Q z ∧ Cont R ws' (upd M a (1, [y0, y1, y2, y3, y4, y5, y6, hd, tl]))) := by
 obtain ⟨hp, hb⟩ := hM.chan h.a hMa
 have hp' : ∀ q ∈ [y4, y5, y6, hd, tl], -1 ≤ q := by
  simp only [List.forall_mem_cons] at hp ⊢
  obtain ⟨p4, p5, p6, p7, p8, _⟩ := hp
  exact ⟨p4, p5, p6, hx.1, hx2.1, fun q hq => by cases hq⟩
 have hb' : ∀ q ∈ [y0, y1, y2, y3, y4, y5, y6, hd, tl], b62 q := by
  simp only [List.forall_mem_cons] at hb ⊢
  obtain ⟨b0, b1, b2, b3, b4, b5, b6, b7, b8, _⟩ := hb
  exact ⟨b0, b1, b2, b3, b4, b5, b6, hx.2, hx2.2, fun q hq => by cases hq⟩
 refine callF_of_body tok Tryz.func63 (by kernel_rfl) rfl rfl rfl ?_; conv => cbv
 refine cfr (chanM_lx R ws C G N W ph sp cy L D Q z ov h M hM a y0 y1 y2 y3 y4 y5 y6 y7 y8 hMa) [(0, 0), (1, 1), (2, 2), (3, 3), (4, 4), (5, 5), (6, 6)] (fun r h' n' hrr => ?_)
 obtain ⟨⟨e0, e1, he0⟩, e2, e3⟩ := hrr
 subst e1 e2 e3
 conv => cbv
 refine cfr (putChanM_lx R ws C G N W ph sp cy L D Q z ov h M hM o ho hph a y0 y1 y2 y3 y4 y5 y6 hd tl [y0, y1, y2, y3, y4, y5, y6, y7, y8] hMa rfl hb' hp') [(0, 0), (1, 1), (2, 2), (3, 3), (4, 4), (5, 5), (6, 6), (7, 7)] (fun r h' n' hrr => ?_)
 obtain ⟨e, ws', D', e1, he, e2, e3, h1, hM'⟩ := hrr
 subst e1 e2 e3
 conv => cbv
 refine RetF.mk [] [hpA 0 1 5 6 3 W ph sp cy, hpB 1 2 4 3 W, hpC 2 3 214 2 N, hpP 3 L, hpP 4 D', hpF 5 z ov, hpP 6 Q, (7, .fix 0 o)] 8 (Re.at [(0, 0), (1, 1), (2, 2), (3, 3), (4, 4), (5, 5), (6, 6), (7, 7)] []) rfl ⟨ws', D', rfl, rfl, rfl, h1, hM'⟩
end Go.Proofs.YtjgbhpclmlcbbaaGreatDoor
namespace Go.Proofs.YtjgbhpclmlcbbaaGreatDoor
open Go Go.LX
set_option maxRecDepth 100000
set_option linter.unusedVariables false
set_option linter.unusedSimpArgs false
set_option maxHeartbeats 32000000
theorem listPush0_lx (R : List Rw) (ws C G : List Int) (N W ph sp cy : Int) (L D Q : List PV) (z : ByteArray) (ov : Bool) (h : HM R ws C G N W L D Q z) (M : Hp) (hM : Cont R ws M) (q : Qs) (hY : Sys M q) (o : Unit → Obj) (ho : IsPow o) (hph : ph = 0) (hch : ∀ a F, M a = some (1, F) → ∃ y0 y1 y2 y3 y4 y5 y6 y7 y8, F = [y0, y1, y2, y3, y4, y5, y6, y7, y8]) (hsu : ∀ a F, M a = some (3, F) → ∃ z0 z1 z2 z3 z4 z5 z6, F = [z0, z1, z2, z3, z4, z5, z6]) (c s y0 y1 y2 y3 y4 y5 y6 y7 y8 g w n p r_ m_ : Int) (hMc : M c = some (1, [y0, y1, y2, y3, y4, y5, y6, y7, y8])) (hMs : M s = some (3, [g, c, w, n, p, r_, m_])) (hns : ∀ d, s ∉ q c d) : CallF (fun _ => Tryz.prog) 16 [.ptr 0 (.lit 0), i6 c, .p (.bool false), i6 s] [hpA 0 1 5 6 3 W ph sp cy, hpB 1 2 4 3 W, hpC 2 3 214 2 N, hpP 3 L, hpP 4 D, hpF 5 z ov, hpP 6 Q, (7, .fix 0 o)] 8 (fun r h n => ∃ (e : Int) (ws' : List Int) (D' : List PV), r = .p (.int .i64 (.sym e)) ∧ e = 0 ∧ h = [hpA 0 1 5 6 3 W ph sp cy, hpB 1 2 4 3 W, hpC 2 3 214 2 N, hpP 3 L, hpP 4 D', hpF 5 z ov, hpP 6 Q, (7, .fix 0 o)] ∧ n = 8 ∧ HM R ws' C G N W L D' Q z ∧ Cont R ws' (relink M (updQ q c false (q c false ++ [s])))) := by
 obtain ⟨hY2, hpe, hpn⟩ := hY.push (d := false) hMc hMs hns
 obtain ⟨hp, hb⟩ := hM.chan h.a hMc
 have hsl := hM.len h.a hMs
 have hRr := h.r
 have hcl := hY.len h.a hM c false
 have hs1 : -1 ≤ s := by omega
 have hs2 : b62 s := by unfold b62; omega
 have hsc : s ≠ c := fun e => by rw [e, hMc] at hMs; cases hMs
 have hh1 : -1 ≤ y5 := hp _ (by simp)
 have hh2 : b62 y5 := hb _ (by simp)
 have hm2 : b62 (-1) := by unfold b62; omega
 refine callF_of_body tok Tryz.func16 (by kernel_rfl) rfl rfl rfl ?_; conv => cbv
 refine cfr (chanM_lx R ws C G N W ph sp cy L D Q z ov h M hM c y0 y1 y2 y3 y4 y5 y6 y7 y8 hMc) [(0, 0), (1, 1), (2, 2), (3, 3), (4, 4), (5, 5), (6, 6)] (fun r h' n' hrr => ?_)
 obtain ⟨⟨e0, e1, he0⟩, e2, e3⟩ := hrr
 subst e1 e2 e3
 conv => cbv
 refine Br.no (show ¬ ¬ (e0 = 0) from fun q => q he0) ?_
 conv => cbv
 refine cfr (sudogM_lx R ws C G N W ph sp cy L D Q z ov h M hM s g c w n p r_ m_ hMs) [(0, 0), (1, 1), (2, 2), (3, 3), (4, 4), (5, 5), (6, 6)] (fun r h' n' hrr => ?_)
 obtain ⟨⟨e5, e1, he5⟩, e2, e3⟩ := hrr
 subst e1 e2 e3
 conv => cbv
 refine Br.no (show ¬ ¬ (e5 = 0) from fun q => q he5) ?_
 conv => cbv
 refine callF_frame (lends_lx y0 y1 y2 y3 y4 y5 y6 y7 y8 false) [] rfl trivial rfl rfl (fun r h' n' hrr => ?_)
 obtain ⟨⟨hd, tl, e1, hhd, htl⟩, e2, e3⟩ := hrr
 subst e1 e2 e3
 obtain rfl : y5 = hd := hhd.symm
 conv => cbv
 refine cfr (listAll_lx R ws C G N W ph sp cy L D Q z ov h M hM q hY c false (hch c) hsu) [(0, 0), (1, 1), (2, 2), (3, 3), (4, 4), (5, 5), (6, 6)] (fun r h' n' hrr => ?_)
 obtain ⟨ml, cells, e1, e2, e3, hml, hcel⟩ := hrr
 subst e1 e2 e3
 conv => cbv
 refine Br.mk (fun gm => ?_) (fun gm => ?_)
 ·have gm : ml = 0 := gm
  have he : q c false = [] := List.eq_nil_of_length_eq_zero (by omega)
  conv => cbv
  refine CallF.le (args0 := [.ptr 0 (.lit 0), i6 c, .p (.bool false), i6 s, i6 s]) (cfr (setEnds0_lx R ws C G N W ph sp cy L D Q z ov h M hM o ho hph c s s y0 y1 y2 y3 y4 y5 y6 y7 y8 hMc ⟨hs1, hs2⟩ ⟨hs1, hs2⟩) [(0, 0), (1, 1), (2, 2), (3, 3), (4, 4), (5, 5), (6, 6), (7, 7)] (fun r h' n' hrr => ?_)) (by simp [ales, ale, pvle, I.val])
  obtain ⟨ws1, D1, e1, e2, e3, h1, c1⟩ := hrr
  subst e1 e2 e3
  conv => cbv
  refine CallF.le (args0 := [.ptr 0 (.lit 0), i6 s, i6 (-1)]) (cfr (setNextM_lx R ws1 C G N W ph sp cy L D1 Q z ov h1 _ c1 o ho hph s (-1) g c w n p r_ m_ ((upd_ne hsc).trans hMs) (by decide) hm2) [(0, 0), (1, 1), (2, 2), (3, 3), (4, 4), (5, 5), (6, 6), (7, 7)] (fun r h' n' hrr => ?_)) (by simp [ales, ale, pvle, I.val])
  obtain ⟨ws2, D2, e1, e2, e3, h2, c2⟩ := hrr
  subst e1 e2 e3
  conv => cbv
  refine RetF.mk [i6 0] [hpA 0 1 5 6 3 W ph sp cy, hpB 1 2 4 3 W, hpC 2 3 214 2 N, hpP 3 L, hpP 4 D2, hpF 5 z ov, hpP 6 Q, (7, .fix 0 o)] 8 (Re.at [(0, 0), (1, 1), (2, 2), (3, 3), (4, 4), (5, 5), (6, 6), (7, 7)] []) rfl ⟨0, ws2, D2, rfl, rfl, rfl, rfl, h2, by rw [hpe he]; exact c2⟩
 ·have gm : ¬ ml = 0 := gm
  have he : q c false ≠ [] := fun e => gm (by rw [hml, e]; rfl)
  obtain ⟨gx, wx, nx, px, rx, mx, hMx, hxs, heq⟩ := hpn he
  obtain ⟨x, hx⟩ : ∃ x, x = ltQ (q c false) := ⟨_, rfl⟩
  rw [← hx] at hMx hxs heq
  have hxc : x ≠ c := fun e => by rw [e, hMc] at hMx; cases hMx
  obtain ⟨k1, hk1⟩ : ∃ k1, k1 = ml - 1 := ⟨_, rfl⟩
  have hcell : cells[k1.toNat]? = some (.int .i64 (.sym x)) := by
   rw [hcel]
   refine ipv_get ?_
   rw [hx]
   unfold ltQ
   rw [List.getLast?_eq_getElem?, show (q c false).length - 1 = k1.toNat by omega]
   obtain ⟨v, hv⟩ : ∃ v, (q c false)[k1.toNat]? = some v := ⟨_, List.getElem?_eq_getElem (by omega)⟩
   rw [hv]; rfl
  conv => cbv
  refine Fit.mk (by show (-9223372036854775808 : Int) ≤ ml - 1; omega) (by show ml - 1 ≤ 9223372036854775807; omega) fun k2 hk2 => ?_
  obtain rfl : k1 = k2 := hk1.trans (show k2 = ml - 1 from hk2).symm
  conv => cbv
  refine Need.mk (show 0 ≤ k1 ∧ k1 < ml by omega) ?_
  conv => cbv
  refine Cell.at k1 _ hcell (by simp [I.val]) rfl ?_
  conv => cbv
  refine CallF.le (args0 := [.ptr 0 (.lit 0), i6 x, i6 s]) (cfr (setNextM_lx R ws C G N W ph sp cy L D Q z ov h M hM o ho hph x s gx c wx nx px rx mx hMx hs1 hs2) [(0, 0), (1, 1), (2, 2), (3, 3), (4, 4), (5, 5), (6, 6), (7, 7)] (fun r h' n' hrr => ?_)) (by simp [ales, ale, pvle, I.val])
  obtain ⟨ws1, D1, e1, e2, e3, h1, c1⟩ := hrr
  subst e1 e2 e3
  conv => cbv
  refine CallF.le (args0 := [.ptr 0 (.lit 0), i6 c, .p (.bool false), i6 y5, i6 s]) (cfr (setEnds0_lx R ws1 C G N W ph sp cy L D1 Q z ov h1 _ c1 o ho hph c y5 s y0 y1 y2 y3 y4 y5 y6 y7 y8 ((upd_ne hxc.symm).trans hMc) ⟨hh1, hh2⟩ ⟨hs1, hs2⟩) [(0, 0), (1, 1), (2, 2), (3, 3), (4, 4), (5, 5), (6, 6), (7, 7)] (fun r h' n' hrr => ?_)) (by simp [ales, ale, pvle, I.val])
  obtain ⟨ws2, D2, e1, e2, e3, h2, c2⟩ := hrr
  subst e1 e2 e3
  conv => cbv
  refine CallF.le (args0 := [.ptr 0 (.lit 0), i6 s, i6 (-1)]) (cfr (setNextM_lx R ws2 C G N W ph sp cy L D2 Q z ov h2 _ c2 o ho hph s (-1) g c w n p r_ m_ ((upd_ne hsc).trans ((upd_ne hxs.symm).trans hMs)) (by decide) hm2) [(0, 0), (1, 1), (2, 2), (3, 3), (4, 4), (5, 5), (6, 6), (7, 7)] (fun r h' n' hrr => ?_)) (by simp [ales, ale, pvle, I.val])
  obtain ⟨ws3, D3, e1, e2, e3, h3, c3⟩ := hrr
  subst e1 e2 e3
  conv => cbv
  refine RetF.mk [i6 0] [hpA 0 1 5 6 3 W ph sp cy, hpB 1 2 4 3 W, hpC 2 3 214 2 N, hpP 3 L, hpP 4 D3, hpF 5 z ov, hpP 6 Q, (7, .fix 0 o)] 8 (Re.at [(0, 0), (1, 1), (2, 2), (3, 3), (4, 4), (5, 5), (6, 6), (7, 7)] []) rfl ⟨0, ws3, D3, rfl, rfl, rfl, rfl, h3, by rw [heq]; exact c3⟩
theorem listPush1_lx (R : List Rw) (ws C G : List Int) (N W ph sp cy : Int) (L D Q : List PV) (z : ByteArray) (ov : Bool) (h : HM R ws C G N W L D Q z) (M : Hp) (hM : Cont R ws M) (q : Qs) (hY : Sys M q) (o : Unit → Obj) (ho : IsPow o) (hph : ph = 0) (hch : ∀ a F, M a = some (1, F) → ∃ y0 y1 y2 y3 y4 y5 y6 y7 y8, F = [y0, y1, y2, y3, y4, y5, y6, y7, y8]) (hsu : ∀ a F, M a = some (3, F) → ∃ z0 z1 z2 z3 z4 z5 z6, F = [z0, z1, z2, z3, z4, z5, z6]) (c s y0 y1 y2 y3 y4 y5 y6 y7 y8 g w n p r_ m_ : Int) (hMc : M c = some (1, [y0, y1, y2, y3, y4, y5, y6, y7, y8])) (hMs : M s = some (3, [g, c, w, n, p, r_, m_])) (hns : ∀ d, s ∉ q c d) : CallF (fun _ => Tryz.prog) 16 [.ptr 0 (.lit 0), i6 c, .p (.bool true), i6 s] [hpA 0 1 5 6 3 W ph sp cy, hpB 1 2 4 3 W, hpC 2 3 214 2 N, hpP 3 L, hpP 4 D, hpF 5 z ov, hpP 6 Q, (7, .fix 0 o)] 8 (fun r h n => ∃ (e : Int) (ws' : List Int) (D' : List PV), r = .p (.int .i64 (.sym e)) ∧ e = 0 ∧ h = [hpA 0 1 5 6 3 W ph sp cy, hpB 1 2 4 3 W, hpC 2 3 214 2 N, hpP 3 L, hpP 4 D', hpF 5 z ov, hpP 6 Q, (7, .fix 0 o)] ∧ n = 8 ∧ HM R ws' C G N W L D' Q z ∧ Cont R ws' (relink M (updQ q c true (q c true ++ [s])))) := by
 obtain ⟨hY2, hpe, hpn⟩ := hY.push (d := true) hMc hMs hns
 obtain ⟨hp, hb⟩ := hM.chan h.a hMc
 have hsl := hM.len h.a hMs
 have hRr := h.r
 have hcl := hY.len h.a hM c true
 have hs1 : -1 ≤ s := by omega
 have hs2 : b62 s := by unfold b62; omega
 have hsc : s ≠ c := fun e => by rw [e, hMc] at hMs; cases hMs
 have hh1 : -1 ≤ y7 := hp _ (by simp)
 have hh2 : b62 y7 := hb _ (by simp)
 have hm2 : b62 (-1) := by unfold b62; omega
 refine callF_of_body tok Tryz.func16 (by kernel_rfl) rfl rfl rfl ?_; conv => cbv
 refine cfr (chanM_lx R ws C G N W ph sp cy L D Q z ov h M hM c y0 y1 y2 y3 y4 y5 y6 y7 y8 hMc) [(0, 0), (1, 1), (2, 2), (3, 3), (4, 4), (5, 5), (6, 6)] (fun r h' n' hrr => ?_)
 obtain ⟨⟨e0, e1, he0⟩, e2, e3⟩ := hrr
 subst e1 e2 e3
 conv => cbv
 refine Br.no (show ¬ ¬ (e0 = 0) from fun q => q he0) ?_
 conv => cbv
 refine cfr (sudogM_lx R ws C G N W ph sp cy L D Q z ov h M hM s g c w n p r_ m_ hMs) [(0, 0), (1, 1), (2, 2), (3, 3), (4, 4), (5, 5), (6, 6)] (fun r h' n' hrr => ?_)
 obtain ⟨⟨e5, e1, he5⟩, e2, e3⟩ := hrr
 subst e1 e2 e3
 conv => cbv
 refine Br.no (show ¬ ¬ (e5 = 0) from fun q => q he5) ?_
 conv => cbv
 refine callF_frame (lends_lx y0 y1 y2 y3 y4 y5 y6 y7 y8 true) [] rfl trivial rfl rfl (fun r h' n' hrr => ?_)
 obtain ⟨⟨hd, tl, e1, hhd, htl⟩, e2, e3⟩ := hrr
 subst e1 e2 e3
 obtain rfl : y7 = hd := hhd.symm
 conv => cbv
 refine cfr (listAll_lx R ws C G N W ph sp cy L D Q z ov h M hM q hY c true (hch c) hsu) [(0, 0), (1, 1), (2, 2), (3, 3), (4, 4), (5, 5), (6, 6)] (fun r h' n' hrr => ?_)
 obtain ⟨ml, cells, e1, e2, e3, hml, hcel⟩ := hrr
 subst e1 e2 e3
 conv => cbv
 refine Br.mk (fun gm => ?_) (fun gm => ?_)
 ·have gm : ml = 0 := gm
  have he : q c true = [] := List.eq_nil_of_length_eq_zero (by omega)
  conv => cbv
  refine CallF.le (args0 := [.ptr 0 (.lit 0), i6 c, .p (.bool true), i6 s, i6 s]) (cfr (setEnds1_lx R ws C G N W ph sp cy L D Q z ov h M hM o ho hph c s s y0 y1 y2 y3 y4 y5 y6 y7 y8 hMc ⟨hs1, hs2⟩ ⟨hs1, hs2⟩) [(0, 0), (1, 1), (2, 2), (3, 3), (4, 4), (5, 5), (6, 6), (7, 7)] (fun r h' n' hrr => ?_)) (by simp [ales, ale, pvle, I.val])
  obtain ⟨ws1, D1, e1, e2, e3, h1, c1⟩ := hrr
  subst e1 e2 e3
  conv => cbv
  refine CallF.le (args0 := [.ptr 0 (.lit 0), i6 s, i6 (-1)]) (cfr (setNextM_lx R ws1 C G N W ph sp cy L D1 Q z ov h1 _ c1 o ho hph s (-1) g c w n p r_ m_ ((upd_ne hsc).trans hMs) (by decide) hm2) [(0, 0), (1, 1), (2, 2), (3, 3), (4, 4), (5, 5), (6, 6), (7, 7)] (fun r h' n' hrr => ?_)) (by simp [ales, ale, pvle, I.val])
  obtain ⟨ws2, D2, e1, e2, e3, h2, c2⟩ := hrr
  subst e1 e2 e3
  conv => cbv
  refine RetF.mk [i6 0] [hpA 0 1 5 6 3 W ph sp cy, hpB 1 2 4 3 W, hpC 2 3 214 2 N, hpP 3 L, hpP 4 D2, hpF 5 z ov, hpP 6 Q, (7, .fix 0 o)] 8 (Re.at [(0, 0), (1, 1), (2, 2), (3, 3), (4, 4), (5, 5), (6, 6), (7, 7)] []) rfl ⟨0, ws2, D2, rfl, rfl, rfl, rfl, h2, by rw [hpe he]; exact c2⟩
 ·have gm : ¬ ml = 0 := gm
  have he : q c true ≠ [] := fun e => gm (by rw [hml, e]; rfl)
  obtain ⟨gx, wx, nx, px, rx, mx, hMx, hxs, heq⟩ := hpn he
  obtain ⟨x, hx⟩ : ∃ x, x = ltQ (q c true) := ⟨_, rfl⟩
  rw [← hx] at hMx hxs heq
  have hxc : x ≠ c := fun e => by rw [e, hMc] at hMx; cases hMx
  obtain ⟨k1, hk1⟩ : ∃ k1, k1 = ml - 1 := ⟨_, rfl⟩
  have hcell : cells[k1.toNat]? = some (.int .i64 (.sym x)) := by
   rw [hcel]
   refine ipv_get ?_
   rw [hx]
   unfold ltQ
   rw [List.getLast?_eq_getElem?, show (q c true).length - 1 = k1.toNat by omega]
   obtain ⟨v, hv⟩ : ∃ v, (q c true)[k1.toNat]? = some v := ⟨_, List.getElem?_eq_getElem (by omega)⟩
   rw [hv]; rfl
  conv => cbv
  refine Fit.mk (by show (-9223372036854775808 : Int) ≤ ml - 1; omega) (by show ml - 1 ≤ 9223372036854775807; omega) fun k2 hk2 => ?_
  obtain rfl : k1 = k2 := hk1.trans (show k2 = ml - 1 from hk2).symm
  conv => cbv
  refine Need.mk (show 0 ≤ k1 ∧ k1 < ml by omega) ?_
  conv => cbv
  refine Cell.at k1 _ hcell (by simp [I.val]) rfl ?_
  conv => cbv
  refine CallF.le (args0 := [.ptr 0 (.lit 0), i6 x, i6 s]) (cfr (setNextM_lx R ws C G N W ph sp cy L D Q z ov h M hM o ho hph x s gx c wx nx px rx mx hMx hs1 hs2) [(0, 0), (1, 1), (2, 2), (3, 3), (4, 4), (5, 5), (6, 6), (7, 7)] (fun r h' n' hrr => ?_)) (by simp [ales, ale, pvle, I.val])
  obtain ⟨ws1, D1, e1, e2, e3, h1, c1⟩ := hrr
  subst e1 e2 e3
  conv => cbv
  refine CallF.le (args0 := [.ptr 0 (.lit 0), i6 c, .p (.bool true), i6 y7, i6 s]) (cfr (setEnds1_lx R ws1 C G N W ph sp cy L D1 Q z ov h1 _ c1 o ho hph c y7 s y0 y1 y2 y3 y4 y5 y6 y7 y8 ((upd_ne hxc.symm).trans hMc) ⟨hh1, hh2⟩ ⟨hs1, hs2⟩) [(0, 0), (1, 1), (2, 2), (3, 3), (4, 4), (5, 5), (6, 6), (7, 7)] (fun r h' n' hrr => ?_)) (by simp [ales, ale, pvle, I.val])
  obtain ⟨ws2, D2, e1, e2, e3, h2, c2⟩ := hrr
  subst e1 e2 e3
  conv => cbv
  refine CallF.le (args0 := [.ptr 0 (.lit 0), i6 s, i6 (-1)]) (cfr (setNextM_lx R ws2 C G N W ph sp cy L D2 Q z ov h2 _ c2 o ho hph s (-1) g c w n p r_ m_ ((upd_ne hsc).trans ((upd_ne hxs.symm).trans hMs)) (by decide) hm2) [(0, 0), (1, 1), (2, 2), (3, 3), (4, 4), (5, 5), (6, 6), (7, 7)] (fun r h' n' hrr => ?_)) (by simp [ales, ale, pvle, I.val])
  obtain ⟨ws3, D3, e1, e2, e3, h3, c3⟩ := hrr
  subst e1 e2 e3
  conv => cbv
  refine RetF.mk [i6 0] [hpA 0 1 5 6 3 W ph sp cy, hpB 1 2 4 3 W, hpC 2 3 214 2 N, hpP 3 L, hpP 4 D3, hpF 5 z ov, hpP 6 Q, (7, .fix 0 o)] 8 (Re.at [(0, 0), (1, 1), (2, 2), (3, 3), (4, 4), (5, 5), (6, 6), (7, 7)] []) rfl ⟨0, ws3, D3, rfl, rfl, rfl, rfl, h3, by rw [heq]; exact c3⟩
end Go.Proofs.YtjgbhpclmlcbbaaGreatDoor
namespace Go.Proofs.YtjgbhpclmlcbbaaGreatDoor
open Go Go.LX
set_option maxRecDepth 100000
set_option linter.unusedVariables false
set_option linter.unusedSimpArgs false
set_option maxHeartbeats 32000000
theorem ringPutM {R : List Rw} {ws : List Int} {M : Hp} (hA : AOk R ws) (hM : Cont R ws M) {ph c w e cp cl k s b th tt sh st : Int} {c0 : List Int × List Int × Bool} {s' : St4} (hph : ph = 0) (hMc : M c = some (1, [cp, cl, k, s, b, th, tt, sh, st])) (hw : -9223372036854775808 ≤ w ∧ w ≤ 9223372036854775807) (hk : 0 ≤ k) (hs : 0 ≤ s) (h : RPut R ph c w (ws, c0) e s') : s'.2 = c0 ∧
  (cp ≤ 0 ∧ e = 9 ∧ s'.1 = ws ∨ ∀ X, M b = some (2, X) → (X.length : Int) = cp → (¬ k < cp ∧ e = 9 ∧ s'.1 = ws) ∨ (0 < cp ∧ k < cp ∧ e = 0 ∧ Cont R s'.1 (upd (upd M b (2, X.set ((s % cp + k) % cp).toNat w)) c (1, [cp, cl, k + 1, s, b, th, tt, sh, st])))) := by
 generalize hs0 : (ws, c0) = s0 at h
 have hKc := hM.kept hMc
 obtain ⟨hp, hb⟩ := hM.chan hA hMc
 cases h with
 | no hh => subst hs0; exact absurd hKc hh
 | full X0 y0 y1 y2 y3 y4 y5 y6 y7 y8 hh hX0 hy hf =>
  subst hs0
  refine ⟨rfl, ?_⟩
  have hy2 : chanFs X0 = [cp, cl, k, s, b, th, tt, sh, st] := (hM.tr hMc rfl rfl (TR.ok X0 hh hX0)).2
  rw [hy2] at hy
  simp only [List.cons.injEq, and_true] at hy
  obtain ⟨rfl, rfl, rfl, rfl, rfl, rfl, rfl, rfl, rfl⟩ := hy
  by_cases q : y0 ≤ 0
  ·exact .inl ⟨q, rfl, rfl⟩
  ·refine .inr fun X hMb hX => .inl ⟨fun q2 => hf ⟨⟨by omega, ?_⟩, by omega⟩, rfl, rfl⟩
   have := hM.kept hMb
   rw [hX] at this
   exact this
 | ok X0 y0 y1 y2 y3 y4 y5 y6 y7 y8 hh hX0 hy h0 hK hf f _ ws1 c1 _ hst hc hP =>
  subst hs0
  have hy2 : chanFs X0 = [cp, cl, k, s, b, th, tt, sh, st] := (hM.tr hMc rfl rfl (TR.ok X0 hh hX0)).2
  rw [hy2] at hy
  simp only [List.cons.injEq, and_true] at hy
  obtain ⟨rfl, rfl, rfl, rfl, rfl, rfl, rfl, rfl, rfl⟩ := hy
  have hc1 : c1 = c0 := hc.trans (storeS_idle hph _)
  have hP2 := hP.idle hph
  refine ⟨hP2.trans hc1, .inr fun X hMb hX => .inr ⟨h0, by omega, ?_⟩⟩
  have e1 : max y3 0 = y3 := by omega
  have e2 : max y2 0 = y2 := by omega
  rw [e1, e2] at hst
  rw [e2] at hP
  have hA1 : AOk R ws1 := hA.stored hw hst
  have hi0 := Int.emod_nonneg (y3 % y0 + y2) (show y0 ≠ 0 by omega)
  have hi1 := Int.emod_lt_of_pos (y3 % y0 + y2) h0
  obtain ⟨_, hM1⟩ := hM.store hA hMb ⟨by decide, by decide, by decide⟩ ⟨hi0, by omega⟩ hw hst
  have hcb : c ≠ y4 := fun q => by rw [q, hMb] at hMc; cases hMc
  have hb' : ∀ x ∈ [y0, y1, y2 + 1, y3, y4, y5, y6, y7, y8], b62 x := by
   have hlen := hM.len hA hMb
   simp only [List.forall_mem_cons] at hb ⊢
   obtain ⟨q0, q1, q2, q3, q4, q5, q6, q7, q8, _⟩ := hb
   exact ⟨q0, q1, by unfold b62; omega, q3, q4, q5, q6, q7, q8, fun x hx => by cases hx⟩
  exact Cont.put (ph := ph) (F' := [y0, y1, y2 + 1, y3, y4, y5, y6, y7, y8]) hM1 hA1 ((upd_ne hcb).trans hMc) rfl rfl (FOk.chan hp) rfl (chanWs_bd _ _ _ _ _ _ _ _ _ hb') hP
end Go.Proofs.YtjgbhpclmlcbbaaGreatDoor
namespace Go.Proofs.YtjgbhpclmlcbbaaGreatDoor
open Go Go.LX
set_option maxRecDepth 100000
set_option linter.unusedVariables false
set_option linter.unusedSimpArgs false
set_option maxHeartbeats 32000000
theorem ringPutM_lx (R : List Rw) (ws C G : List Int) (N W ph sp cy : Int) (L D Q : List PV) (z : ByteArray) (ov : Bool) (h : HM R ws C G N W L D Q z) (M : Hp) (hM : Cont R ws M) (o : Unit → Obj) (ho : IsPow o) (hph : ph = 0) (c w cp cl k s b th tt sh st : Int) (hMc : M c = some (1, [cp, cl, k, s, b, th, tt, sh, st])) (hw : -9223372036854775808 ≤ w ∧ w ≤ 9223372036854775807) (hk : 0 ≤ k) (hs : 0 ≤ s) : CallF (fun _ => Tryz.prog) 84 [.ptr 0 (.lit 0), i6 c, i6 w] [hpA 0 1 5 6 3 W ph sp cy, hpB 1 2 4 3 W, hpC 2 3 214 2 N, hpP 3 L, hpP 4 D, hpF 5 z ov, hpP 6 Q, (7, .fix 0 o)] 8 (fun r h n => ∃ (e : Int) (ws' : List Int) (D' : List PV), r = .p (.int .i64 (.sym e)) ∧ h = [hpA 0 1 5 6 3 W ph sp cy, hpB 1 2 4 3 W, hpC 2 3 214 2 N, hpP 3 L, hpP 4 D', hpF 5 z ov, hpP 6 Q, (7, .fix 0 o)] ∧ n = 8 ∧ HM R ws' C G N W L D' Q z ∧
  (cp ≤ 0 ∧ e = 9 ∧ ws' = ws ∨ ∀ X, M b = some (2, X) → (X.length : Int) = cp → (¬ k < cp ∧ e = 9 ∧ ws' = ws) ∨ (0 < cp ∧ k < cp ∧ e = 0 ∧ Cont R ws' (upd (upd M b (2, X.set ((s % cp + k) % cp).toNat w)) c (1, [cp, cl, k + 1, s, b, th, tt, sh, st]))))) :=
 (ringPut_lx R ws C G N W ph sp cy L D Q z ov h o ho c w hw).mono fun r h' n hrr => by
  obtain ⟨e, ws', C', G', ov', D', Q', z', e1, e2, e3, h1, hP⟩ := hrr
  obtain ⟨g1, g2⟩ := ringPutM h.a hM hph hMc hw hk hs hP
  obtain ⟨q1, q2, q3, q4, q5⟩ := h.still h1 g1
  rw [q3, q4, q5] at e2
  rw [q1, q2, q4, q5] at h1
  exact ⟨e, ws', D', e1, e2, e3, h1, g2⟩
end Go.Proofs.YtjgbhpclmlcbbaaGreatDoor
namespace Go.Proofs.YtjgbhpclmlcbbaaGreatDoor
open Go Go.LX
set_option maxRecDepth 100000
set_option linter.unusedVariables false
set_option linter.unusedSimpArgs false
set_option maxHeartbeats 32000000
theorem listPopE_lx (R : List Rw) (ws C G : List Int) (N W ph sp cy : Int) (L D Q : List PV) (z : ByteArray) (ov : Bool) (h : HM R ws C G N W L D Q z) (M : Hp) (hM : Cont R ws M) (q : Qs) (hY : Sys M q) (o : Unit → Obj) (hch : ∀ a F, M a = some (1, F) → ∃ y0 y1 y2 y3 y4 y5 y6 y7 y8, F = [y0, y1, y2, y3, y4, y5, y6, y7, y8]) (hsu : ∀ a F, M a = some (3, F) → ∃ z0 z1 z2 z3 z4 z5 z6, F = [z0, z1, z2, z3, z4, z5, z6]) (c : Int) (d : Bool) (he : q c d = []) : CallF (fun _ => Tryz.prog) 57 [.ptr 0 (.lit 0), i6 c, .p (.bool d)] [hpA 0 1 5 6 3 W ph sp cy, hpB 1 2 4 3 W, hpC 2 3 214 2 N, hpP 3 L, hpP 4 D, hpF 5 z ov, hpP 6 Q, (7, .fix 0 o)] 8 (fun r h n => r = .tup [i6 0, .p (.bool false)] ∧ h = [hpA 0 1 5 6 3 W ph sp cy, hpB 1 2 4 3 W, hpC 2 3 214 2 N, hpP 3 L, hpP 4 D, hpF 5 z ov, hpP 6 Q, (7, .fix 0 o)] ∧ n = 8) := by
 refine callF_of_body tok Tryz.func57 (by kernel_rfl) rfl rfl rfl ?_; conv => cbv
 refine cfr (listAll_lx R ws C G N W ph sp cy L D Q z ov h M hM q hY c d (hch c) hsu) [(0, 0), (1, 1), (2, 2), (3, 3), (4, 4), (5, 5), (6, 6)] (fun r h' n' hrr => ?_)
 obtain ⟨ml, cells, e1, e2, e3, hml, hcel⟩ := hrr
 subst e1 e2 e3
 conv => cbv
 refine Br.yes (show ml = 0 by rw [hml, he]; rfl) ?_
 conv => cbv
 refine RetF.mk [i6 0, .p (.bool false)] [hpA 0 1 5 6 3 W ph sp cy, hpB 1 2 4 3 W, hpC 2 3 214 2 N, hpP 3 L, hpP 4 D, hpF 5 z ov, hpP 6 Q, (7, .fix 0 o)] 8 (Re.at [(0, 0), (1, 1), (2, 2), (3, 3), (4, 4), (5, 5), (6, 6), (7, 7)] []) rfl ⟨rfl, rfl, rfl⟩
theorem listPop0_lx (R : List Rw) (ws C G : List Int) (N W ph sp cy : Int) (L D Q : List PV) (z : ByteArray) (ov : Bool) (h : HM R ws C G N W L D Q z) (M : Hp) (hM : Cont R ws M) (q : Qs) (hY : Sys M q) (o : Unit → Obj) (ho : IsPow o) (hph : ph = 0) (hch : ∀ a F, M a = some (1, F) → ∃ y0 y1 y2 y3 y4 y5 y6 y7 y8, F = [y0, y1, y2, y3, y4, y5, y6, y7, y8]) (hsu : ∀ a F, M a = some (3, F) → ∃ z0 z1 z2 z3 z4 z5 z6, F = [z0, z1, z2, z3, z4, z5, z6]) (c s y0 y1 y2 y3 y4 y5 y6 y7 y8 g w n p r_ m_ : Int) (B : List Int) (hq : q c false = s :: B) (hMc : M c = some (1, [y0, y1, y2, y3, y4, y5, y6, y7, y8])) (hMs : M s = some (3, [g, c, w, n, p, r_, m_])) : CallF (fun _ => Tryz.prog) 57 [.ptr 0 (.lit 0), i6 c, .p (.bool false)] [hpA 0 1 5 6 3 W ph sp cy, hpB 1 2 4 3 W, hpC 2 3 214 2 N, hpP 3 L, hpP 4 D, hpF 5 z ov, hpP 6 Q, (7, .fix 0 o)] 8 (fun r h n => ∃ (ws' : List Int) (D' : List PV), r = .tup [i6 s, .p (.bool true)] ∧ h = [hpA 0 1 5 6 3 W ph sp cy, hpB 1 2 4 3 W, hpC 2 3 214 2 N, hpP 3 L, hpP 4 D', hpF 5 z ov, hpP 6 Q, (7, .fix 0 o)] ∧ n = 8 ∧ HM R ws' C G N W L D' Q z ∧ Cont R ws' (relink M (updQ q c false B))) := by
 obtain ⟨hnB, heq⟩ := hY.pop hq hMc hMs
 obtain ⟨hp, hb⟩ := hM.chan h.a hMc
 obtain ⟨hp3, hb3, _⟩ := hM.sudog h.a hMs
 have hlk := hY.lnk hMc
 rw [lnk_chan] at hlk
 simp only [Prod.mk.injEq, List.cons.injEq, true_and, and_true] at hlk
 obtain ⟨hl5, hl6, hl7, hl8⟩ := hlk
 have hsl := hM.len h.a hMs
 have hsc : s ≠ c := fun e => by rw [e, hMc] at hMs; cases hMs
 have hn1 : -1 ≤ n := hp3 _ (by simp)
 have hn2 : b62 n := hb3 _ (by simp)
 have ht1 : -1 ≤ y6 := hp _ (by simp)
 have ht2 : b62 y6 := hb _ (by simp)
 have hm2 : b62 (-1) := by unfold b62; omega
 have hBn : n = -1 ↔ B = [] := by
  rw [hnB]
  constructor
  ·intro e
   cases hB : B with
   | nil => rfl
   | cons x l =>
    have hx : x ∈ q c false := by rw [hq, hB]; simp
    obtain ⟨g', w', n', p', r', m', e'⟩ := hY.sg c false x hx
    have := (hM.len h.a e').2.1
    rw [hB] at e
    have : x = -1 := e
    omega
  ·intro e; rw [e]; rfl
 have htl : ltQ B = if n = -1 then -1 else y6 := by
  rw [ltQ_tail (a := s), ← hq]
  by_cases e : B = []
  ·rw [if_pos e, if_pos (hBn.2 e)]
  ·rw [if_neg e, if_neg (fun k => e (hBn.1 k))]; exact hl6
 refine callF_of_body tok Tryz.func57 (by kernel_rfl) rfl rfl rfl ?_; conv => cbv
 refine cfr (listAll_lx R ws C G N W ph sp cy L D Q z ov h M hM q hY c false (hch c) hsu) [(0, 0), (1, 1), (2, 2), (3, 3), (4, 4), (5, 5), (6, 6)] (fun r h' n' hrr => ?_)
 obtain ⟨ml, cells, e1, e2, e3, hml, hcel⟩ := hrr
 subst e1 e2 e3
 conv => cbv
 have hml1 : 0 < ml := by rw [hml, hq]; simp
 have hcell : cells[(0 : Int).toNat]? = some (.int .i64 (.sym s)) := by rw [hcel, hq]; rfl
 refine Br.no (show ¬ (ml = 0) by omega) ?_
 conv => cbv
 refine cfr (chanM_lx R ws C G N W ph sp cy L D Q z ov h M hM c y0 y1 y2 y3 y4 y5 y6 y7 y8 hMc) [(0, 0), (1, 1), (2, 2), (3, 3), (4, 4), (5, 5), (6, 6)] (fun r h' n' hrr => ?_)
 obtain ⟨⟨e0, e1, he0⟩, e2, e3⟩ := hrr
 subst e1 e2 e3
 conv => cbv
 refine callF_frame (lends_lx y0 y1 y2 y3 y4 y5 y6 y7 y8 false) [] rfl trivial rfl rfl (fun r h' n' hrr => ?_)
 obtain ⟨⟨hd, tl, e1, hhd, htl2⟩, e2, e3⟩ := hrr
 subst e1 e2 e3
 obtain rfl : y6 = tl := htl2.symm
 conv => cbv
 refine Need.mk (show 0 ≤ (0 : Int) ∧ 0 < ml by omega) ?_
 conv => cbv
 refine Cell.at 0 _ hcell (by simp [I.val]) rfl ?_
 conv => cbv
 refine cfr (sudogM_lx R ws C G N W ph sp cy L D Q z ov h M hM s g c w n p r_ m_ hMs) [(0, 0), (1, 1), (2, 2), (3, 3), (4, 4), (5, 5), (6, 6)] (fun r h' n' hrr => ?_)
 obtain ⟨⟨e5, e1, he5⟩, e2, e3⟩ := hrr
 subst e1 e2 e3
 conv => cbv
 refine Br.mk (fun gn => ?_) (fun gn => ?_)
 ·have gn : n = -1 := gn
  rw [if_pos gn] at htl
  rw [htl, ← hnB] at heq
  conv => cbv
  refine CallF.le (args0 := [.ptr 0 (.lit 0), i6 c, .p (.bool false), i6 n, i6 (-1)]) (cfr (setEnds0_lx R ws C G N W ph sp cy L D Q z ov h M hM o ho hph c n (-1) y0 y1 y2 y3 y4 y5 y6 y7 y8 hMc ⟨hn1, hn2⟩ ⟨by decide, hm2⟩) [(0, 0), (1, 1), (2, 2), (3, 3), (4, 4), (5, 5), (6, 6), (7, 7)] (fun r h' n' hrr => ?_)) (by simp [ales, ale, pvle, I.val])
  obtain ⟨ws1, D1, e1, e2, e3, h1, c1⟩ := hrr
  subst e1 e2 e3
  conv => cbv
  refine Need.mk (show 0 ≤ (0 : Int) ∧ 0 < ml by omega) ?_
  conv => cbv
  refine Cell.at 0 _ hcell (by simp [I.val]) rfl ?_
  conv => cbv
  refine CallF.le (args0 := [.ptr 0 (.lit 0), i6 s, i6 (-1)]) (cfr (setNextM_lx R ws1 C G N W ph sp cy L D1 Q z ov h1 _ c1 o ho hph s (-1) g c w n p r_ m_ ((upd_ne hsc).trans hMs) (by decide) hm2) [(0, 0), (1, 1), (2, 2), (3, 3), (4, 4), (5, 5), (6, 6), (7, 7)] (fun r h' n' hrr => ?_)) (by simp [ales, ale, pvle, I.val])
  obtain ⟨ws2, D2, e1, e2, e3, h2, c2⟩ := hrr
  subst e1 e2 e3
  conv => cbv
  refine Need.mk (show 0 ≤ (0 : Int) ∧ 0 < ml by omega) ?_
  conv => cbv
  refine Cell.at 0 _ hcell (by simp [I.val]) rfl ?_
  conv => cbv
  refine RetF.mk [i6 s, .p (.bool true)] [hpA 0 1 5 6 3 W ph sp cy, hpB 1 2 4 3 W, hpC 2 3 214 2 N, hpP 3 L, hpP 4 D2, hpF 5 z ov, hpP 6 Q, (7, .fix 0 o)] 8 (Re.at [(0, 0), (1, 1), (2, 2), (3, 3), (4, 4), (5, 5), (6, 6), (7, 7)] []) rfl ⟨ws2, D2, rfl, rfl, rfl, h2, by rw [heq]; exact c2⟩
 ·have gn : ¬ n = -1 := gn
  rw [if_neg gn] at htl
  rw [htl, ← hnB] at heq
  conv => cbv
  refine CallF.le (args0 := [.ptr 0 (.lit 0), i6 c, .p (.bool false), i6 n, i6 y6]) (cfr (setEnds0_lx R ws C G N W ph sp cy L D Q z ov h M hM o ho hph c n y6 y0 y1 y2 y3 y4 y5 y6 y7 y8 hMc ⟨hn1, hn2⟩ ⟨ht1, ht2⟩) [(0, 0), (1, 1), (2, 2), (3, 3), (4, 4), (5, 5), (6, 6), (7, 7)] (fun r h' n' hrr => ?_)) (by simp [ales, ale, pvle, I.val])
  obtain ⟨ws1, D1, e1, e2, e3, h1, c1⟩ := hrr
  subst e1 e2 e3
  conv => cbv
  refine Need.mk (show 0 ≤ (0 : Int) ∧ 0 < ml by omega) ?_
  conv => cbv
  refine Cell.at 0 _ hcell (by simp [I.val]) rfl ?_
  conv => cbv
  refine CallF.le (args0 := [.ptr 0 (.lit 0), i6 s, i6 (-1)]) (cfr (setNextM_lx R ws1 C G N W ph sp cy L D1 Q z ov h1 _ c1 o ho hph s (-1) g c w n p r_ m_ ((upd_ne hsc).trans hMs) (by decide) hm2) [(0, 0), (1, 1), (2, 2), (3, 3), (4, 4), (5, 5), (6, 6), (7, 7)] (fun r h' n' hrr => ?_)) (by simp [ales, ale, pvle, I.val])
  obtain ⟨ws2, D2, e1, e2, e3, h2, c2⟩ := hrr
  subst e1 e2 e3
  conv => cbv
  refine Need.mk (show 0 ≤ (0 : Int) ∧ 0 < ml by omega) ?_
  conv => cbv
  refine Cell.at 0 _ hcell (by simp [I.val]) rfl ?_
  conv => cbv
  refine RetF.mk [i6 s, .p (.bool true)] [hpA 0 1 5 6 3 W ph sp cy, hpB 1 2 4 3 W, hpC 2 3 214 2 N, hpP 3 L, hpP 4 D2, hpF 5 z ov, hpP 6 Q, (7, .fix 0 o)] 8 (Re.at [(0, 0), (1, 1), (2, 2), (3, 3), (4, 4), (5, 5), (6, 6), (7, 7)] []) rfl ⟨ws2, D2, rfl, rfl, rfl, h2, by rw [heq]; exact c2⟩
end Go.Proofs.YtjgbhpclmlcbbaaGreatDoor
namespace Go.Proofs.YtjgbhpclmlcbbaaGreatDoor
open Go Go.LX
set_option maxRecDepth 100000
set_option linter.unusedVariables false
set_option maxHeartbeats 32000000
def ints (A : List Int) : List PV := A.map fun a => .int .i64 (.sym a)
theorem ints_get (A : List Int) (j : Nat) : (ints A)[j]? = A[j]?.map fun a => .int .i64 (.sym a) := by rw [ints, List.getElem?_map]
def Found (A : List Int) (v r : Int) : Prop := (∃ i : Nat, A[i]? = some v ∧ (∀ j, j < i → A[j]? ≠ some v) ∧ r = i) ∨ (v ∉ A ∧ r = -1)
theorem index_lx (A : List Int) (v k : Int) (L : List PV) (hL : L = ints A) (hk : k = A.length) (hm : A.length ≤ 1000000) :
  CallF (fun _ => Tryz.prog) 167 [.p (.vsl (.sym k) true L), i6 v] [] 0 (fun r h n => (∃ m : Int, r = .p (.int .i64 (.sym m)) ∧ Found A v m) ∧ h = [] ∧ n = 0) := by
 refine callF_of_body tok Tryz.func167 (by kernel_rfl) rfl rfl rfl ?_; conv => cbv
 refine LoopF.mk (fun m s => ∃ i : Int, s = ⟨.p (.vsl (.sym k) true L) :: .p (.int .i64 (.sym v)) :: .undef :: .undef :: .undef :: .undef :: .p (.vsl (.sym k) true L) :: .p (.int .i64 (.sym k)) :: .p (.int .i64 (.sym i)) :: undefs 10, [], 0⟩ ∧ 0 ≤ i ∧ i ≤ k ∧ (∀ j : Nat, (j : Int) < i → A[j]? ≠ some v) ∧ m = (k - i).toNat) k.toNat _
  (Re.at [] []) ⟨0, rfl, by omega, by omega, fun j hj => absurd hj (by omega), by omega⟩ ?_
 rintro m s ⟨i, rfl, h0, h1, hno, hm2⟩
 conv => cbv
 refine Br.mk (fun g => ?_) (fun g => ?_)
 ·have g : i < k := g
  obtain ⟨x, hx⟩ : ∃ x, A[i.toNat]? = some x := ⟨_, List.getElem?_eq_getElem (by omega)⟩
  conv => cbv
  refine Need.mk ⟨h0, g⟩ ?_
  conv => cbv
  refine Cell.mk (.int .i64 (.sym x)) (by show L[(i + 0).toNat]? = _; rw [Int.add_zero, hL, ints_get, hx]; rfl) ?_
  conv => cbv
  refine Br.mk (fun g2 => ?_) (fun g2 => ?_)
  ·have g2 : v = x := g2
   conv => cbv
   refine RetF.mk [i6 i] [] 0 (Re.at [] []) rfl ⟨⟨i, rfl, .inl ⟨i.toNat, by rw [hx, g2], fun j hj => hno j (by omega), by omega⟩⟩, rfl, rfl⟩
  ·have g2 : ¬ v = x := g2
   obtain ⟨m', rfl⟩ : ∃ m', m = m' + 1 := ⟨m - 1, by omega⟩
   conv => cbv
   refine Fit.mk (by show (-9223372036854775808 : Int) ≤ i + 1; omega) (by show i + 1 ≤ 9223372036854775807; omega) fun i2 hi2 => ?_
   have hi2 : i2 = i + 1 := hi2
   conv => cbv
   refine Again.mk m' _ (Nat.lt_succ_self _) (Re.at [] []) ⟨i2, rfl, by omega, by omega, fun j hj => ?_, by omega⟩
   have hj : (j : Int) < i2 := hj
   by_cases e : (j : Int) = i
   ·have : i.toNat = j := by omega
    rw [← this, hx]
    exact fun h => g2 (Option.some.inj h).symm
   ·exact hno j (by omega)
 ·have g : ¬ i < k := g
  conv => cbv
  refine RetF.mk [i6 (-1)] [] 0 (Re.at [] []) rfl ⟨⟨-1, rfl, .inr ⟨fun h => ?_, rfl⟩⟩, rfl, rfl⟩
  obtain ⟨j, hj⟩ := List.getElem?_of_mem h
  have := (List.getElem?_eq_some_iff.1 hj).1
  exact hno j (by omega) hj
end Go.Proofs.YtjgbhpclmlcbbaaGreatDoor
namespace Go.Proofs.YtjgbhpclmlcbbaaGreatDoor
open Go Go.LX
set_option maxRecDepth 100000
set_option linter.unusedVariables false
set_option linter.unusedSimpArgs false
set_option maxHeartbeats 32000000
theorem filter_ne {A B : List Int} {s : Int} (h : (A ++ s :: B).Nodup) : (A ++ s :: B).filter (fun x => decide (x ≠ s)) = A ++ B := by
 have h1 := List.nodup_append.1 h
 have h2 := List.nodup_cons.1 h1.2.1
 rw [List.filter_append, List.filter_cons_of_neg (by simp), List.filter_eq_self.2, List.filter_eq_self.2]
 ·intro x hx
  have : x ≠ s := fun e => h2.1 (e ▸ hx)
  simpa using this
 ·intro x hx
  have : x ≠ s := h1.2.2 x hx s (by simp)
  simpa using this
theorem listRemoveNo_lx (R : List Rw) (ws C G : List Int) (N W ph sp cy : Int) (L D Q : List PV) (z : ByteArray) (ov : Bool) (h : HM R ws C G N W L D Q z) (M : Hp) (hM : Cont R ws M) (q : Qs) (hY : Sys M q) (o : Unit → Obj) (hch : ∀ a F, M a = some (1, F) → ∃ y0 y1 y2 y3 y4 y5 y6 y7 y8, F = [y0, y1, y2, y3, y4, y5, y6, y7, y8]) (hsu : ∀ a F, M a = some (3, F) → ∃ z0 z1 z2 z3 z4 z5 z6, F = [z0, z1, z2, z3, z4, z5, z6]) (c s : Int) (d : Bool) (hns : s ∉ q c d) : CallF (fun _ => Tryz.prog) 125 [.ptr 0 (.lit 0), i6 c, .p (.bool d), i6 s] [hpA 0 1 5 6 3 W ph sp cy, hpB 1 2 4 3 W, hpC 2 3 214 2 N, hpP 3 L, hpP 4 D, hpF 5 z ov, hpP 6 Q, (7, .fix 0 o)] 8 (fun r h n => r = .p (.bool false) ∧ h = [hpA 0 1 5 6 3 W ph sp cy, hpB 1 2 4 3 W, hpC 2 3 214 2 N, hpP 3 L, hpP 4 D, hpF 5 z ov, hpP 6 Q, (7, .fix 0 o)] ∧ n = 8) := by
 have hcl := hY.len h.a hM c d
 have hRr := h.r
 refine callF_of_body tok Tryz.func125 (by kernel_rfl) rfl rfl rfl ?_; conv => cbv
 refine cfr (listAll_lx R ws C G N W ph sp cy L D Q z ov h M hM q hY c d (hch c) hsu) [(0, 0), (1, 1), (2, 2), (3, 3), (4, 4), (5, 5), (6, 6)] (fun r h' n' hrr => ?_)
 obtain ⟨ml, cells, e1, e2, e3, hml, hcel⟩ := hrr
 subst e1 e2 e3
 conv => cbv
 refine callF_lend (index_lx (q c d) s ml cells hcel hml (by omega)) (by simp [lends, lendV, hget, I.val, pvle]) (fun r h' n' ⟨⟨k, e1, hk⟩, e2, e3⟩ => by subst e1 e2; exact ⟨trivial, trivial⟩) (fun r h' n' ⟨⟨k, e1, hk⟩, e2, e3⟩ => ?_)
 subst e1 e2 e3
 conv => cbv
 have hk1 : k = -1 := by
  rcases hk with ⟨i, h1, _⟩ | ⟨_, h1⟩
  ·exact absurd (List.mem_of_getElem? h1) hns
  ·exact h1
 refine Br.yes (show k < 0 by omega) ?_
 conv => cbv
 refine RetF.mk [.p (.bool false)] [hpA 0 1 5 6 3 W ph sp cy, hpB 1 2 4 3 W, hpC 2 3 214 2 N, hpP 3 L, hpP 4 D, hpF 5 z ov, hpP 6 Q, (7, .fix 0 o)] 8 (Re.at [(0, 0), (1, 1), (2, 2), (3, 3), (4, 4), (5, 5), (6, 6), (7, 7)] []) rfl ⟨rfl, rfl, rfl⟩
theorem listRemove0_lx (R : List Rw) (ws C G : List Int) (N W ph sp cy : Int) (L D Q : List PV) (z : ByteArray) (ov : Bool) (h : HM R ws C G N W L D Q z) (M : Hp) (hM : Cont R ws M) (q : Qs) (hY : Sys M q) (o : Unit → Obj) (ho : IsPow o) (hph : ph = 0) (hch : ∀ a F, M a = some (1, F) → ∃ y0 y1 y2 y3 y4 y5 y6 y7 y8, F = [y0, y1, y2, y3, y4, y5, y6, y7, y8]) (hsu : ∀ a F, M a = some (3, F) → ∃ z0 z1 z2 z3 z4 z5 z6, F = [z0, z1, z2, z3, z4, z5, z6]) (c s y0 y1 y2 y3 y4 y5 y6 y7 y8 : Int) (hMc : M c = some (1, [y0, y1, y2, y3, y4, y5, y6, y7, y8])) (hsq : s ∈ q c false) : CallF (fun _ => Tryz.prog) 125 [.ptr 0 (.lit 0), i6 c, .p (.bool false), i6 s] [hpA 0 1 5 6 3 W ph sp cy, hpB 1 2 4 3 W, hpC 2 3 214 2 N, hpP 3 L, hpP 4 D, hpF 5 z ov, hpP 6 Q, (7, .fix 0 o)] 8 (fun r h n => ∃ (ws' : List Int) (D' : List PV), r = .p (.bool true) ∧ h = [hpA 0 1 5 6 3 W ph sp cy, hpB 1 2 4 3 W, hpC 2 3 214 2 N, hpP 3 L, hpP 4 D', hpF 5 z ov, hpP 6 Q, (7, .fix 0 o)] ∧ n = 8 ∧ HM R ws' C G N W L D' Q z ∧ Cont R ws' (relink M (updQ q c false ((q c false).filter (fun x => decide (x ≠ s)))))) := by
 have hcl := hY.len h.a hM c false
 have hRr := h.r
 have hnd := hY.nd c false
 obtain ⟨A, B, hq⟩ := List.append_of_mem hsq
 have hfil : (q c false).filter (fun x => decide (x ≠ s)) = A ++ B := by rw [hq]; rw [hq] at hnd; exact filter_ne hnd
 rw [hfil]
 obtain ⟨g, w, n, p, r_, m_, hMs⟩ : ∃ g w n p r m, M s = some (3, [g, c, w, n, p, r, m]) := by
  obtain ⟨g, w, n, p, r, m, e⟩ := hY.sg c false s hsq
  exact ⟨g, w, n, p, r, m, e⟩
 obtain ⟨hp, hb⟩ := hM.chan h.a hMc
 obtain ⟨hp3, hb3, _⟩ := hM.sudog h.a hMs
 have hlk := hY.lnk hMc
 rw [lnk_chan] at hlk
 simp only [Prod.mk.injEq, List.cons.injEq, true_and, and_true] at hlk
 obtain ⟨hl5, hl6, hl7, hl8⟩ := hlk
 have hsl := hM.len h.a hMs
 have hsc : s ≠ c := fun e => by rw [e, hMc] at hMs; cases hMs
 have hn1 : -1 ≤ n := hp3 _ (by simp)
 have hn2 : b62 n := hb3 _ (by simp)
 have hh1 : -1 ≤ y5 := hp _ (by simp)
 have hh2 : b62 y5 := hb _ (by simp)
 have ht1 : -1 ≤ y6 := hp _ (by simp)
 have ht2 : b62 y6 := hb _ (by simp)
 have hm2 : b62 (-1) := by unfold b62; omega
 have hty : y6 = ltQ (A ++ s :: B) := by rw [← hq]; exact hl6.symm
 have hBs : ltQ (A ++ s :: B) = s ↔ B = [] := by
  constructor
  ·intro e
   cases hB : B with
   | nil => rfl
   | cons x l =>
    have h1 : ltQ (A ++ s :: x :: l) = ltQ (x :: l) := by
     unfold ltQ
     simp [List.getLast?_cons_cons]
     cases hgl : (x :: l).getLast? with
     | none => simp at hgl
     | some v => rfl
    rw [hB, h1] at e
    have h2 : s ∈ x :: l := e ▸ ltQ_mem (by simp)
    rw [hq, hB] at hnd
    exact absurd h2 (List.nodup_cons.1 (List.nodup_append.1 hnd).2.1).1
  ·intro e; rw [e]; unfold ltQ; simp
 refine callF_of_body tok Tryz.func125 (by kernel_rfl) rfl rfl rfl ?_; conv => cbv
 refine cfr (listAll_lx R ws C G N W ph sp cy L D Q z ov h M hM q hY c false (hch c) hsu) [(0, 0), (1, 1), (2, 2), (3, 3), (4, 4), (5, 5), (6, 6)] (fun r h' n' hrr => ?_)
 obtain ⟨ml, cells, e1, e2, e3, hml, hcel⟩ := hrr
 subst e1 e2 e3
 conv => cbv
 refine callF_lend (index_lx (q c false) s ml cells hcel hml (by omega)) (by simp [lends, lendV, hget, I.val, pvle]) (fun r h' n' ⟨⟨k, e1, hk⟩, e2, e3⟩ => by subst e1 e2; exact ⟨trivial, trivial⟩) (fun r h' n' ⟨⟨k, e1, hk⟩, e2, e3⟩ => ?_)
 subst e1 e2 e3
 have hk1 : k = (A.length : Int) := by
  rcases hk with ⟨i, h1, _, h2⟩ | ⟨h1, _⟩
  ·have h3 : (q c false)[A.length]? = some s := by rw [hq]; simp
   have := (List.getElem?_inj (by have := (List.getElem?_eq_some_iff.1 h1).1; omega) hnd).1 (h1.trans h3.symm)
   omega
  ·exact absurd hsq h1
 have hkl : k < ml := by rw [hml, hq, hk1]; simp; omega
 conv => cbv
 refine Br.no (show ¬ (k < 0) by omega) ?_
 conv => cbv
 refine cfr (chanM_lx R ws C G N W ph sp cy L D Q z ov h M hM c y0 y1 y2 y3 y4 y5 y6 y7 y8 hMc) [(0, 0), (1, 1), (2, 2), (3, 3), (4, 4), (5, 5), (6, 6)] (fun r h' n' hrr => ?_)
 obtain ⟨⟨e0, e1, he0⟩, e2, e3⟩ := hrr
 subst e1 e2 e3
 conv => cbv
 refine callF_frame (lends_lx y0 y1 y2 y3 y4 y5 y6 y7 y8 false) [] rfl trivial rfl rfl (fun r h' n' hrr => ?_)
 obtain ⟨⟨hd, tl, e1, hhd, htl2⟩, e2, e3⟩ := hrr
 subst e1 e2 e3
 obtain rfl : y5 = hd := hhd.symm
 obtain rfl : y6 = tl := htl2.symm
 conv => cbv
 refine cfr (sudogM_lx R ws C G N W ph sp cy L D Q z ov h M hM s g c w n p r_ m_ hMs) [(0, 0), (1, 1), (2, 2), (3, 3), (4, 4), (5, 5), (6, 6)] (fun r h' n' hrr => ?_)
 obtain ⟨⟨e5, e1, he5⟩, e2, e3⟩ := hrr
 subst e1 e2 e3
 conv => cbv
 refine Br.mk (fun gk => ?_) (fun gk => ?_)
 ·have gk : k = 0 := gk
  have hA : A = [] := List.eq_nil_of_length_eq_zero (by omega)
  subst hA
  simp only [List.nil_append] at hq hty hBs
  obtain ⟨hnB, heq⟩ := hY.pop hq hMc hMs
  conv => cbv
  refine Br.mk (fun gt => ?_) (fun gt => ?_)
  ·have gt : y6 = s := gt
   have hBe : B = [] := hBs.1 (hty.symm.trans gt)
   rw [← hnB, show ltQ B = -1 by rw [hBe]; rfl] at heq
   simp only [List.nil_append]
   conv => cbv
   refine CallF.le (args0 := [.ptr 0 (.lit 0), i6 c, .p (.bool false), i6 n, i6 (-1)]) (cfr (setEnds0_lx R ws C G N W ph sp cy L D Q z ov h M hM o ho hph c n (-1) y0 y1 y2 y3 y4 y5 y6 y7 y8 hMc ⟨hn1, hn2⟩ ⟨by decide, hm2⟩) [(0, 0), (1, 1), (2, 2), (3, 3), (4, 4), (5, 5), (6, 6), (7, 7)] (fun r h' n' hrr => ?_)) (by simp [ales, ale, pvle, I.val])
   obtain ⟨ws1, D1, e1, e2, e3, h1, c1⟩ := hrr
   subst e1 e2 e3
   conv => cbv
   refine CallF.le (args0 := [.ptr 0 (.lit 0), i6 s, i6 (-1)]) (cfr (setNextM_lx R ws1 C G N W ph sp cy L D1 Q z ov h1 _ c1 o ho hph s (-1) g c w n p r_ m_ ((upd_ne hsc).trans hMs) (by decide) hm2) [(0, 0), (1, 1), (2, 2), (3, 3), (4, 4), (5, 5), (6, 6), (7, 7)] (fun r h' n' hrr => ?_)) (by simp [ales, ale, pvle, I.val])
   obtain ⟨ws2, D2, e1, e2, e3, h2, c2⟩ := hrr
   subst e1 e2 e3
   conv => cbv
   refine RetF.mk [.p (.bool true)] [hpA 0 1 5 6 3 W ph sp cy, hpB 1 2 4 3 W, hpC 2 3 214 2 N, hpP 3 L, hpP 4 D2, hpF 5 z ov, hpP 6 Q, (7, .fix 0 o)] 8 (Re.at [(0, 0), (1, 1), (2, 2), (3, 3), (4, 4), (5, 5), (6, 6), (7, 7)] []) rfl ⟨ws2, D2, rfl, rfl, rfl, h2, by rw [heq]; exact c2⟩
  ·have gt : ¬ y6 = s := gt
   have hBe : B ≠ [] := fun e => gt (hty.trans (hBs.2 e))
   have hlB : ltQ B = y6 := by rw [ltQ_tail (a := s), if_neg hBe, ← hty]
   rw [← hnB, hlB] at heq
   simp only [List.nil_append]
   conv => cbv
   refine CallF.le (args0 := [.ptr 0 (.lit 0), i6 c, .p (.bool false), i6 n, i6 y6]) (cfr (setEnds0_lx R ws C G N W ph sp cy L D Q z ov h M hM o ho hph c n y6 y0 y1 y2 y3 y4 y5 y6 y7 y8 hMc ⟨hn1, hn2⟩ ⟨ht1, ht2⟩) [(0, 0), (1, 1), (2, 2), (3, 3), (4, 4), (5, 5), (6, 6), (7, 7)] (fun r h' n' hrr => ?_)) (by simp [ales, ale, pvle, I.val])
   obtain ⟨ws1, D1, e1, e2, e3, h1, c1⟩ := hrr
   subst e1 e2 e3
   conv => cbv
   refine CallF.le (args0 := [.ptr 0 (.lit 0), i6 s, i6 (-1)]) (cfr (setNextM_lx R ws1 C G N W ph sp cy L D1 Q z ov h1 _ c1 o ho hph s (-1) g c w n p r_ m_ ((upd_ne hsc).trans hMs) (by decide) hm2) [(0, 0), (1, 1), (2, 2), (3, 3), (4, 4), (5, 5), (6, 6), (7, 7)] (fun r h' n' hrr => ?_)) (by simp [ales, ale, pvle, I.val])
   obtain ⟨ws2, D2, e1, e2, e3, h2, c2⟩ := hrr
   subst e1 e2 e3
   conv => cbv
   refine RetF.mk [.p (.bool true)] [hpA 0 1 5 6 3 W ph sp cy, hpB 1 2 4 3 W, hpC 2 3 214 2 N, hpP 3 L, hpP 4 D2, hpF 5 z ov, hpP 6 Q, (7, .fix 0 o)] 8 (Re.at [(0, 0), (1, 1), (2, 2), (3, 3), (4, 4), (5, 5), (6, 6), (7, 7)] []) rfl ⟨ws2, D2, rfl, rfl, rfl, h2, by rw [heq]; exact c2⟩
 ·have gk : ¬ k = 0 := gk
  obtain ⟨A', x, rfl⟩ : ∃ A' x, A = A' ++ [x] := by
   rcases List.eq_nil_or_concat A with e | ⟨l, x, e⟩
   ·rw [e] at hk1; exact absurd hk1 gk
   ·exact ⟨l, x, by rw [e]; simp⟩
  simp only [List.append_assoc, List.singleton_append] at hq hty hBs ⊢
  obtain ⟨gx, wx, nx, px, rx, mx, hMx⟩ : ∃ gx wx nx px rx mx, M x = some (3, [gx, c, wx, nx, px, rx, mx]) := hY.sg c false x (by rw [hq]; simp)
  obtain ⟨hnB, hxs, heq⟩ := hY.rem hq hMc hMs hMx
  have hxl := hM.len h.a hMx
  have hx1 : -1 ≤ x := by omega
  have hx2 : b62 x := by unfold b62; omega
  have hxc : x ≠ c := fun e => by rw [e, hMc] at hMx; cases hMx
  obtain ⟨k1, hk1'⟩ : ∃ k1, k1 = k - 1 := ⟨_, rfl⟩
  have hcell : cells[k1.toNat]? = some (.int .i64 (.sym x)) := by
   rw [hcel, hq]
   refine ipv_get ?_
   simp at hk1
   rw [List.getElem?_append_right (by omega), show k1.toNat - A'.length = 0 by omega]
   rfl
  conv => cbv
  refine Fit.mk (by show (-9223372036854775808 : Int) ≤ k - 1; omega) (by show k - 1 ≤ 9223372036854775807; omega) fun k2 hk2 => ?_
  obtain rfl : k1 = k2 := hk1'.trans (show k2 = k - 1 from hk2).symm
  conv => cbv
  refine Need.mk (show 0 ≤ k1 ∧ k1 < ml by omega) ?_
  conv => cbv
  refine Cell.at k1 _ hcell (by simp [I.val]) rfl ?_
  conv => cbv
  refine CallF.le (args0 := [.ptr 0 (.lit 0), i6 x, i6 n]) (cfr (setNextM_lx R ws C G N W ph sp cy L D Q z ov h M hM o ho hph x n gx c wx nx px rx mx hMx hn1 hn2) [(0, 0), (1, 1), (2, 2), (3, 3), (4, 4), (5, 5), (6, 6), (7, 7)] (fun r h' n' hrr => ?_)) (by simp [ales, ale, pvle, I.val])
  obtain ⟨ws1, D1, e1, e2, e3, h1, c1⟩ := hrr
  subst e1 e2 e3
  conv => cbv
  refine Br.mk (fun gt => ?_) (fun gt => ?_)
  ·have gt : y6 = s := gt
   have hBe : B = [] := hBs.1 (hty.symm.trans gt)
   rw [← hnB, if_pos hBe] at heq
   conv => cbv
   refine CallF.le (args0 := [.ptr 0 (.lit 0), i6 c, .p (.bool false), i6 y5, i6 x]) (cfr (setEnds0_lx R ws1 C G N W ph sp cy L D1 Q z ov h1 _ c1 o ho hph c y5 x y0 y1 y2 y3 y4 y5 y6 y7 y8 ((upd_ne hxc.symm).trans hMc) ⟨hh1, hh2⟩ ⟨hx1, hx2⟩) [(0, 0), (1, 1), (2, 2), (3, 3), (4, 4), (5, 5), (6, 6), (7, 7)] (fun r h' n' hrr => ?_)) (by simp [ales, ale, pvle, I.val])
   obtain ⟨ws2, D2, e1, e2, e3, h2, c2⟩ := hrr
   subst e1 e2 e3
   conv => cbv
   refine CallF.le (args0 := [.ptr 0 (.lit 0), i6 s, i6 (-1)]) (cfr (setNextM_lx R ws2 C G N W ph sp cy L D2 Q z ov h2 _ c2 o ho hph s (-1) g c w n p r_ m_ ((upd_ne hsc).trans ((upd_ne hxs.symm).trans hMs)) (by decide) hm2) [(0, 0), (1, 1), (2, 2), (3, 3), (4, 4), (5, 5), (6, 6), (7, 7)] (fun r h' n' hrr => ?_)) (by simp [ales, ale, pvle, I.val])
   obtain ⟨ws3, D3, e1, e2, e3, h3, c3⟩ := hrr
   subst e1 e2 e3
   conv => cbv
   refine RetF.mk [.p (.bool true)] [hpA 0 1 5 6 3 W ph sp cy, hpB 1 2 4 3 W, hpC 2 3 214 2 N, hpP 3 L, hpP 4 D3, hpF 5 z ov, hpP 6 Q, (7, .fix 0 o)] 8 (Re.at [(0, 0), (1, 1), (2, 2), (3, 3), (4, 4), (5, 5), (6, 6), (7, 7)] []) rfl ⟨ws3, D3, rfl, rfl, rfl, h3, by rw [heq]; exact c3⟩
  ·have gt : ¬ y6 = s := gt
   have hBe : B ≠ [] := fun e => gt (hty.trans (hBs.2 e))
   rw [← hnB, if_neg hBe] at heq
   conv => cbv
   refine CallF.le (args0 := [.ptr 0 (.lit 0), i6 c, .p (.bool false), i6 y5, i6 y6]) (cfr (setEnds0_lx R ws1 C G N W ph sp cy L D1 Q z ov h1 _ c1 o ho hph c y5 y6 y0 y1 y2 y3 y4 y5 y6 y7 y8 ((upd_ne hxc.symm).trans hMc) ⟨hh1, hh2⟩ ⟨ht1, ht2⟩) [(0, 0), (1, 1), (2, 2), (3, 3), (4, 4), (5, 5), (6, 6), (7, 7)] (fun r h' n' hrr => ?_)) (by simp [ales, ale, pvle, I.val])
   obtain ⟨ws2, D2, e1, e2, e3, h2, c2⟩ := hrr
   subst e1 e2 e3
   conv => cbv
   refine CallF.le (args0 := [.ptr 0 (.lit 0), i6 s, i6 (-1)]) (cfr (setNextM_lx R ws2 C G N W ph sp cy L D2 Q z ov h2 _ c2 o ho hph s (-1) g c w n p r_ m_ ((upd_ne hsc).trans ((upd_ne hxs.symm).trans hMs)) (by decide) hm2) [(0, 0), (1, 1), (2, 2), (3, 3), (4, 4), (5, 5), (6, 6), (7, 7)] (fun r h' n' hrr => ?_)) (by simp [ales, ale, pvle, I.val])
   obtain ⟨ws3, D3, e1, e2, e3, h3, c3⟩ := hrr
   subst e1 e2 e3
   conv => cbv
   refine RetF.mk [.p (.bool true)] [hpA 0 1 5 6 3 W ph sp cy, hpB 1 2 4 3 W, hpC 2 3 214 2 N, hpP 3 L, hpP 4 D3, hpF 5 z ov, hpP 6 Q, (7, .fix 0 o)] 8 (Re.at [(0, 0), (1, 1), (2, 2), (3, 3), (4, 4), (5, 5), (6, 6), (7, 7)] []) rfl ⟨ws3, D3, rfl, rfl, rfl, h3, by rw [heq]; exact c3⟩
theorem listRemove1_lx (R : List Rw) (ws C G : List Int) (N W ph sp cy : Int) (L D Q : List PV) (z : ByteArray) (ov : Bool) (h : HM R ws C G N W L D Q z) (M : Hp) (hM : Cont R ws M) (q : Qs) (hY : Sys M q) (o : Unit → Obj) (ho : IsPow o) (hph : ph = 0) (hch : ∀ a F, M a = some (1, F) → ∃ y0 y1 y2 y3 y4 y5 y6 y7 y8, F = [y0, y1, y2, y3, y4, y5, y6, y7, y8]) (hsu : ∀ a F, M a = some (3, F) → ∃ z0 z1 z2 z3 z4 z5 z6, F = [z0, z1, z2, z3, z4, z5, z6]) (c s y0 y1 y2 y3 y4 y5 y6 y7 y8 : Int) (hMc : M c = some (1, [y0, y1, y2, y3, y4, y5, y6, y7, y8])) (hsq : s ∈ q c true) : CallF (fun _ => Tryz.prog) 125 [.ptr 0 (.lit 0), i6 c, .p (.bool true), i6 s] [hpA 0 1 5 6 3 W ph sp cy, hpB 1 2 4 3 W, hpC 2 3 214 2 N, hpP 3 L, hpP 4 D, hpF 5 z ov, hpP 6 Q, (7, .fix 0 o)] 8 (fun r h n => ∃ (ws' : List Int) (D' : List PV), r = .p (.bool true) ∧ h = [hpA 0 1 5 6 3 W ph sp cy, hpB 1 2 4 3 W, hpC 2 3 214 2 N, hpP 3 L, hpP 4 D', hpF 5 z ov, hpP 6 Q, (7, .fix 0 o)] ∧ n = 8 ∧ HM R ws' C G N W L D' Q z ∧ Cont R ws' (relink M (updQ q c true ((q c true).filter (fun x => decide (x ≠ s)))))) := by
 have hcl := hY.len h.a hM c true
 have hRr := h.r
 have hnd := hY.nd c true
 obtain ⟨A, B, hq⟩ := List.append_of_mem hsq
 have hfil : (q c true).filter (fun x => decide (x ≠ s)) = A ++ B := by rw [hq]; rw [hq] at hnd; exact filter_ne hnd
 rw [hfil]
 obtain ⟨g, w, n, p, r_, m_, hMs⟩ : ∃ g w n p r m, M s = some (3, [g, c, w, n, p, r, m]) := by
  obtain ⟨g, w, n, p, r, m, e⟩ := hY.sg c true s hsq
  exact ⟨g, w, n, p, r, m, e⟩
 obtain ⟨hp, hb⟩ := hM.chan h.a hMc
 obtain ⟨hp3, hb3, _⟩ := hM.sudog h.a hMs
 have hlk := hY.lnk hMc
 rw [lnk_chan] at hlk
 simp only [Prod.mk.injEq, List.cons.injEq, true_and, and_true] at hlk
 obtain ⟨hl5, hl6, hl7, hl8⟩ := hlk
 have hsl := hM.len h.a hMs
 have hsc : s ≠ c := fun e => by rw [e, hMc] at hMs; cases hMs
 have hn1 : -1 ≤ n := hp3 _ (by simp)
 have hn2 : b62 n := hb3 _ (by simp)
 have hh1 : -1 ≤ y7 := hp _ (by simp)
 have hh2 : b62 y7 := hb _ (by simp)
 have ht1 : -1 ≤ y8 := hp _ (by simp)
 have ht2 : b62 y8 := hb _ (by simp)
 have hm2 : b62 (-1) := by unfold b62; omega
 have hty : y8 = ltQ (A ++ s :: B) := by rw [← hq]; exact hl8.symm
 have hBs : ltQ (A ++ s :: B) = s ↔ B = [] := by
  constructor
  ·intro e
   cases hB : B with
   | nil => rfl
   | cons x l =>
    have h1 : ltQ (A ++ s :: x :: l) = ltQ (x :: l) := by
     unfold ltQ
     simp [List.getLast?_cons_cons]
     cases hgl : (x :: l).getLast? with
     | none => simp at hgl
     | some v => rfl
    rw [hB, h1] at e
    have h2 : s ∈ x :: l := e ▸ ltQ_mem (by simp)
    rw [hq, hB] at hnd
    exact absurd h2 (List.nodup_cons.1 (List.nodup_append.1 hnd).2.1).1
  ·intro e; rw [e]; unfold ltQ; simp
 refine callF_of_body tok Tryz.func125 (by kernel_rfl) rfl rfl rfl ?_; conv => cbv
 refine cfr (listAll_lx R ws C G N W ph sp cy L D Q z ov h M hM q hY c true (hch c) hsu) [(0, 0), (1, 1), (2, 2), (3, 3), (4, 4), (5, 5), (6, 6)] (fun r h' n' hrr => ?_)
 obtain ⟨ml, cells, e1, e2, e3, hml, hcel⟩ := hrr
 subst e1 e2 e3
 conv => cbv
 refine callF_lend (index_lx (q c true) s ml cells hcel hml (by omega)) (by simp [lends, lendV, hget, I.val, pvle]) (fun r h' n' ⟨⟨k, e1, hk⟩, e2, e3⟩ => by subst e1 e2; exact ⟨trivial, trivial⟩) (fun r h' n' ⟨⟨k, e1, hk⟩, e2, e3⟩ => ?_)
 subst e1 e2 e3
 have hk1 : k = (A.length : Int) := by
  rcases hk with ⟨i, h1, _, h2⟩ | ⟨h1, _⟩
  ·have h3 : (q c true)[A.length]? = some s := by rw [hq]; simp
   have := (List.getElem?_inj (by have := (List.getElem?_eq_some_iff.1 h1).1; omega) hnd).1 (h1.trans h3.symm)
   omega
  ·exact absurd hsq h1
 have hkl : k < ml := by rw [hml, hq, hk1]; simp; omega
 conv => cbv
 refine Br.no (show ¬ (k < 0) by omega) ?_
 conv => cbv
 refine cfr (chanM_lx R ws C G N W ph sp cy L D Q z ov h M hM c y0 y1 y2 y3 y4 y5 y6 y7 y8 hMc) [(0, 0), (1, 1), (2, 2), (3, 3), (4, 4), (5, 5), (6, 6)] (fun r h' n' hrr => ?_)
 obtain ⟨⟨e0, e1, he0⟩, e2, e3⟩ := hrr
 subst e1 e2 e3
 conv => cbv
 refine callF_frame (lends_lx y0 y1 y2 y3 y4 y5 y6 y7 y8 true) [] rfl trivial rfl rfl (fun r h' n' hrr => ?_)
 obtain ⟨⟨hd, tl, e1, hhd, htl2⟩, e2, e3⟩ := hrr
 subst e1 e2 e3
 obtain rfl : y7 = hd := hhd.symm
 obtain rfl : y8 = tl := htl2.symm
 conv => cbv
 refine cfr (sudogM_lx R ws C G N W ph sp cy L D Q z ov h M hM s g c w n p r_ m_ hMs) [(0, 0), (1, 1), (2, 2), (3, 3), (4, 4), (5, 5), (6, 6)] (fun r h' n' hrr => ?_)
 obtain ⟨⟨e5, e1, he5⟩, e2, e3⟩ := hrr
 subst e1 e2 e3
 conv => cbv
 refine Br.mk (fun gk => ?_) (fun gk => ?_)
 ·have gk : k = 0 := gk
  have hA : A = [] := List.eq_nil_of_length_eq_zero (by omega)
  subst hA
  simp only [List.nil_append] at hq hty hBs
  obtain ⟨hnB, heq⟩ := hY.pop hq hMc hMs
  conv => cbv
  refine Br.mk (fun gt => ?_) (fun gt => ?_)
  ·have gt : y8 = s := gt
   have hBe : B = [] := hBs.1 (hty.symm.trans gt)
   rw [← hnB, show ltQ B = -1 by rw [hBe]; rfl] at heq
   simp only [List.nil_append]
   conv => cbv
   refine CallF.le (args0 := [.ptr 0 (.lit 0), i6 c, .p (.bool true), i6 n, i6 (-1)]) (cfr (setEnds1_lx R ws C G N W ph sp cy L D Q z ov h M hM o ho hph c n (-1) y0 y1 y2 y3 y4 y5 y6 y7 y8 hMc ⟨hn1, hn2⟩ ⟨by decide, hm2⟩) [(0, 0), (1, 1), (2, 2), (3, 3), (4, 4), (5, 5), (6, 6), (7, 7)] (fun r h' n' hrr => ?_)) (by simp [ales, ale, pvle, I.val])
   obtain ⟨ws1, D1, e1, e2, e3, h1, c1⟩ := hrr
   subst e1 e2 e3
   conv => cbv
   refine CallF.le (args0 := [.ptr 0 (.lit 0), i6 s, i6 (-1)]) (cfr (setNextM_lx R ws1 C G N W ph sp cy L D1 Q z ov h1 _ c1 o ho hph s (-1) g c w n p r_ m_ ((upd_ne hsc).trans hMs) (by decide) hm2) [(0, 0), (1, 1), (2, 2), (3, 3), (4, 4), (5, 5), (6, 6), (7, 7)] (fun r h' n' hrr => ?_)) (by simp [ales, ale, pvle, I.val])
   obtain ⟨ws2, D2, e1, e2, e3, h2, c2⟩ := hrr
   subst e1 e2 e3
   conv => cbv
   refine RetF.mk [.p (.bool true)] [hpA 0 1 5 6 3 W ph sp cy, hpB 1 2 4 3 W, hpC 2 3 214 2 N, hpP 3 L, hpP 4 D2, hpF 5 z ov, hpP 6 Q, (7, .fix 0 o)] 8 (Re.at [(0, 0), (1, 1), (2, 2), (3, 3), (4, 4), (5, 5), (6, 6), (7, 7)] []) rfl ⟨ws2, D2, rfl, rfl, rfl, h2, by rw [heq]; exact c2⟩
  ·have gt : ¬ y8 = s := gt
   have hBe : B ≠ [] := fun e => gt (hty.trans (hBs.2 e))
   have hlB : ltQ B = y8 := by rw [ltQ_tail (a := s), if_neg hBe, ← hty]
   rw [← hnB, hlB] at heq
   simp only [List.nil_append]
   conv => cbv
   refine CallF.le (args0 := [.ptr 0 (.lit 0), i6 c, .p (.bool true), i6 n, i6 y8]) (cfr (setEnds1_lx R ws C G N W ph sp cy L D Q z ov h M hM o ho hph c n y8 y0 y1 y2 y3 y4 y5 y6 y7 y8 hMc ⟨hn1, hn2⟩ ⟨ht1, ht2⟩) [(0, 0), (1, 1), (2, 2), (3, 3), (4, 4), (5, 5), (6, 6), (7, 7)] (fun r h' n' hrr => ?_)) (by simp [ales, ale, pvle, I.val])
   obtain ⟨ws1, D1, e1, e2, e3, h1, c1⟩ := hrr
   subst e1 e2 e3
   conv => cbv
   refine CallF.le (args0 := [.ptr 0 (.lit 0), i6 s, i6 (-1)]) (cfr (setNextM_lx R ws1 C G N W ph sp cy L D1 Q z ov h1 _ c1 o ho hph s (-1) g c w n p r_ m_ ((upd_ne hsc).trans hMs) (by decide) hm2) [(0, 0), (1, 1), (2, 2), (3, 3), (4, 4), (5, 5), (6, 6), (7, 7)] (fun r h' n' hrr => ?_)) (by simp [ales, ale, pvle, I.val])
   obtain ⟨ws2, D2, e1, e2, e3, h2, c2⟩ := hrr
   subst e1 e2 e3
   conv => cbv
   refine RetF.mk [.p (.bool true)] [hpA 0 1 5 6 3 W ph sp cy, hpB 1 2 4 3 W, hpC 2 3 214 2 N, hpP 3 L, hpP 4 D2, hpF 5 z ov, hpP 6 Q, (7, .fix 0 o)] 8 (Re.at [(0, 0), (1, 1), (2, 2), (3, 3), (4, 4), (5, 5), (6, 6), (7, 7)] []) rfl ⟨ws2, D2, rfl, rfl, rfl, h2, by rw [heq]; exact c2⟩
 ·have gk : ¬ k = 0 := gk
  obtain ⟨A', x, rfl⟩ : ∃ A' x, A = A' ++ [x] := by
   rcases List.eq_nil_or_concat A with e | ⟨l, x, e⟩
   ·rw [e] at hk1; exact absurd hk1 gk
   ·exact ⟨l, x, by rw [e]; simp⟩
  simp only [List.append_assoc, List.singleton_append] at hq hty hBs ⊢
  obtain ⟨gx, wx, nx, px, rx, mx, hMx⟩ : ∃ gx wx nx px rx mx, M x = some (3, [gx, c, wx, nx, px, rx, mx]) := hY.sg c true x (by rw [hq]; simp)
  obtain ⟨hnB, hxs, heq⟩ := hY.rem hq hMc hMs hMx
  have hxl := hM.len h.a hMx
  have hx1 : -1 ≤ x := by omega
  have hx2 : b62 x := by unfold b62; omega
  have hxc : x ≠ c := fun e => by rw [e, hMc] at hMx; cases hMx
  obtain ⟨k1, hk1'⟩ : ∃ k1, k1 = k - 1 := ⟨_, rfl⟩
  have hcell : cells[k1.toNat]? = some (.int .i64 (.sym x)) := by
   rw [hcel, hq]
   refine ipv_get ?_
   simp at hk1
   rw [List.getElem?_append_right (by omega), show k1.toNat - A'.length = 0 by omega]
   rfl
  conv => cbv
  refine Fit.mk (by show (-9223372036854775808 : Int) ≤ k - 1; omega) (by show k - 1 ≤ 9223372036854775807; omega) fun k2 hk2 => ?_
  obtain rfl : k1 = k2 := hk1'.trans (show k2 = k - 1 from hk2).symm
  conv => cbv
  refine Need.mk (show 0 ≤ k1 ∧ k1 < ml by omega) ?_
  conv => cbv
  refine Cell.at k1 _ hcell (by simp [I.val]) rfl ?_
  conv => cbv
  refine CallF.le (args0 := [.ptr 0 (.lit 0), i6 x, i6 n]) (cfr (setNextM_lx R ws C G N W ph sp cy L D Q z ov h M hM o ho hph x n gx c wx nx px rx mx hMx hn1 hn2) [(0, 0), (1, 1), (2, 2), (3, 3), (4, 4), (5, 5), (6, 6), (7, 7)] (fun r h' n' hrr => ?_)) (by simp [ales, ale, pvle, I.val])
  obtain ⟨ws1, D1, e1, e2, e3, h1, c1⟩ := hrr
  subst e1 e2 e3
  conv => cbv
  refine Br.mk (fun gt => ?_) (fun gt => ?_)
  ·have gt : y8 = s := gt
   have hBe : B = [] := hBs.1 (hty.symm.trans gt)
   rw [← hnB, if_pos hBe] at heq
   conv => cbv
   refine CallF.le (args0 := [.ptr 0 (.lit 0), i6 c, .p (.bool true), i6 y7, i6 x]) (cfr (setEnds1_lx R ws1 C G N W ph sp cy L D1 Q z ov h1 _ c1 o ho hph c y7 x y0 y1 y2 y3 y4 y5 y6 y7 y8 ((upd_ne hxc.symm).trans hMc) ⟨hh1, hh2⟩ ⟨hx1, hx2⟩) [(0, 0), (1, 1), (2, 2), (3, 3), (4, 4), (5, 5), (6, 6), (7, 7)] (fun r h' n' hrr => ?_)) (by simp [ales, ale, pvle, I.val])
   obtain ⟨ws2, D2, e1, e2, e3, h2, c2⟩ := hrr
   subst e1 e2 e3
   conv => cbv
   refine CallF.le (args0 := [.ptr 0 (.lit 0), i6 s, i6 (-1)]) (cfr (setNextM_lx R ws2 C G N W ph sp cy L D2 Q z ov h2 _ c2 o ho hph s (-1) g c w n p r_ m_ ((upd_ne hsc).trans ((upd_ne hxs.symm).trans hMs)) (by decide) hm2) [(0, 0), (1, 1), (2, 2), (3, 3), (4, 4), (5, 5), (6, 6), (7, 7)] (fun r h' n' hrr => ?_)) (by simp [ales, ale, pvle, I.val])
   obtain ⟨ws3, D3, e1, e2, e3, h3, c3⟩ := hrr
   subst e1 e2 e3
   conv => cbv
   refine RetF.mk [.p (.bool true)] [hpA 0 1 5 6 3 W ph sp cy, hpB 1 2 4 3 W, hpC 2 3 214 2 N, hpP 3 L, hpP 4 D3, hpF 5 z ov, hpP 6 Q, (7, .fix 0 o)] 8 (Re.at [(0, 0), (1, 1), (2, 2), (3, 3), (4, 4), (5, 5), (6, 6), (7, 7)] []) rfl ⟨ws3, D3, rfl, rfl, rfl, h3, by rw [heq]; exact c3⟩
  ·have gt : ¬ y8 = s := gt
   have hBe : B ≠ [] := fun e => gt (hty.trans (hBs.2 e))
   rw [← hnB, if_neg hBe] at heq
   conv => cbv
   refine CallF.le (args0 := [.ptr 0 (.lit 0), i6 c, .p (.bool true), i6 y7, i6 y8]) (cfr (setEnds1_lx R ws1 C G N W ph sp cy L D1 Q z ov h1 _ c1 o ho hph c y7 y8 y0 y1 y2 y3 y4 y5 y6 y7 y8 ((upd_ne hxc.symm).trans hMc) ⟨hh1, hh2⟩ ⟨ht1, ht2⟩) [(0, 0), (1, 1), (2, 2), (3, 3), (4, 4), (5, 5), (6, 6), (7, 7)] (fun r h' n' hrr => ?_)) (by simp [ales, ale, pvle, I.val])
   obtain ⟨ws2, D2, e1, e2, e3, h2, c2⟩ := hrr
   subst e1 e2 e3
   conv => cbv
   refine CallF.le (args0 := [.ptr 0 (.lit 0), i6 s, i6 (-1)]) (cfr (setNextM_lx R ws2 C G N W ph sp cy L D2 Q z ov h2 _ c2 o ho hph s (-1) g c w n p r_ m_ ((upd_ne hsc).trans ((upd_ne hxs.symm).trans hMs)) (by decide) hm2) [(0, 0), (1, 1), (2, 2), (3, 3), (4, 4), (5, 5), (6, 6), (7, 7)] (fun r h' n' hrr => ?_)) (by simp [ales, ale, pvle, I.val])
   obtain ⟨ws3, D3, e1, e2, e3, h3, c3⟩ := hrr
   subst e1 e2 e3
   conv => cbv
   refine RetF.mk [.p (.bool true)] [hpA 0 1 5 6 3 W ph sp cy, hpB 1 2 4 3 W, hpC 2 3 214 2 N, hpP 3 L, hpP 4 D3, hpF 5 z ov, hpP 6 Q, (7, .fix 0 o)] 8 (Re.at [(0, 0), (1, 1), (2, 2), (3, 3), (4, 4), (5, 5), (6, 6), (7, 7)] []) rfl ⟨ws3, D3, rfl, rfl, rfl, h3, by rw [heq]; exact c3⟩
end Go.Proofs.YtjgbhpclmlcbbaaGreatDoor
namespace Go.Proofs.YtjgbhpclmlcbbaaGreatDoor
open Go Go.LX
set_option maxRecDepth 100000
set_option linter.unusedVariables false
set_option linter.unusedSimpArgs false
set_option maxHeartbeats 32000000
def rmQ (q : Qs) (l : List Int) : Qs := fun c d => (q c d).filter (fun x => decide (x ∉ l))
theorem rmQ_nil (q : Qs) : rmQ q [] = q := by
 funext c d
 unfold rmQ
 rw [List.filter_eq_self.2]
 intro x _
 simp
theorem rmQ_rmQ (q : Qs) (l l' : List Int) : rmQ (rmQ q l) l' = rmQ q (l ++ l') := by
 funext c d
 unfold rmQ
 rw [List.filter_filter]
 congr 1
 funext x
 by_cases h1 : x ∈ l <;> by_cases h2 : x ∈ l' <;> simp [h1, h2]
theorem rmQ_mem {q : Qs} {l : List Int} {c x : Int} {d : Bool} : x ∈ rmQ q l c d ↔ x ∈ q c d ∧ x ∉ l := by
 unfold rmQ
 rw [List.mem_filter]
 simp
theorem sysFilt {M : Hp} {q : Qs} (h : Sys M q) (l : List Int) : Sys (relink M (rmQ q l)) (rmQ q l) :=
 h.relink (fun c d s hs => ⟨h.ch c d s (rmQ_mem.1 hs).1, h.sg c d s (rmQ_mem.1 hs).1⟩) (fun c d => List.filter_sublist.nodup (h.nd c d)) (fun c s h1 h2 => h.dj c s (rmQ_mem.1 h1).1 (rmQ_mem.1 h2).1)
def cutQ (q : Qs) (c : Int) (d : Bool) (s : Int) : Qs := updQ q c d ((q c d).filter (fun x => decide (x ≠ s)))
theorem cutQ_no {q : Qs} {c s : Int} {d : Bool} (h : s ∉ q c d) : cutQ q c d s = q := by
 unfold cutQ
 rw [List.filter_eq_self.2 (fun x hx => by have : x ≠ s := fun e => h (e ▸ hx); simpa using this)]
 funext c' d'
 by_cases e : c' = c ∧ d' = d
 ·obtain ⟨rfl, rfl⟩ := e; exact updQ_same _ _ _ _
 ·exact updQ_ne e
theorem sysCut {M : Hp} {q : Qs} (h : Sys M q) (c : Int) (d : Bool) (s : Int) : Sys (relink M (cutQ q c d s)) (cutQ q c d s) := by
 have hm : ∀ c' d' x, x ∈ cutQ q c d s c' d' → x ∈ q c' d' := fun c' d' x hx => by
  unfold cutQ at hx
  by_cases e : c' = c ∧ d' = d
  ·obtain ⟨rfl, rfl⟩ := e; rw [updQ_same] at hx; exact (List.mem_filter.1 hx).1
  ·rw [updQ_ne e] at hx; exact hx
 refine h.relink (fun c d s hs => ⟨h.ch c d s (hm _ _ _ hs), h.sg c d s (hm _ _ _ hs)⟩) (fun c' d' => ?_) (fun c s h1 h2 => h.dj c s (hm _ _ _ h1) (hm _ _ _ h2))
 unfold cutQ
 by_cases e : c' = c ∧ d' = d
 ·obtain ⟨rfl, rfl⟩ := e; rw [updQ_same]; exact List.filter_sublist.nodup (h.nd _ _)
 ·rw [updQ_ne e]; exact h.nd _ _
theorem cutQ_both {M : Hp} {q : Qs} (h : Sys M q) {c s g w n p r m : Int} (hs : M s = some (3, [g, c, w, n, p, r, m])) : cutQ (cutQ q c true s) c false s = rmQ q [s] := by
 funext c' d'
 unfold cutQ
 by_cases hc : c' = c
 ·subst hc
  cases d' with
  | false =>
   rw [updQ_same, updQ_ne (fun k => by cases k.2)]
   unfold rmQ
   congr 1
   funext x
   simp
  | true =>
   rw [updQ_ne (fun k => by cases k.2), updQ_same]
   unfold rmQ
   congr 1
   funext x
   simp
 ·rw [updQ_ne (fun k => hc k.1), updQ_ne (fun k => hc k.1)]
  unfold rmQ
  rw [List.filter_eq_self.2]
  intro x hx
  have : x ≠ s := fun e => by
   subst e
   obtain ⟨g', w', n', p', r', m', e2⟩ := h.sg c' d' x hx
   rw [hs] at e2
   simp only [Option.some.injEq, Prod.mk.injEq, List.cons.injEq, true_and, and_true] at e2
   exact hc e2.2.1.symm
  simpa using this
def Mor (M : Hp) : Int → List Int → Prop
 | a, [] => ∀ F, M a ≠ some (3, F)
 | a, x :: l => a = x ∧ ∃ g c w n p r m F, M x = some (3, [g, c, w, n, p, r, m]) ∧ M c = some (1, F) ∧ Mor M m l
theorem lnk_kind {q : Qs} {a k : Int} {F : List Int} : ∃ G, lnk q a (k, F) = (k, G) ∧ G.length = F.length :=
 ⟨(lnk q a (k, F)).2, Prod.ext (lnk_len q a k F).1 rfl, (lnk_len q a k F).2⟩
theorem relink_inv {M : Hp} {q : Qs} {a k : Int} {F : List Int} (h : relink M q a = some (k, F)) : ∃ G, M a = some (k, G) ∧ lnk q a (k, G) = (k, F) := by
 unfold relink at h
 cases hM : M a with
 | none => rw [hM] at h; cases h
 | some v =>
  rw [hM] at h
  obtain ⟨k', G⟩ := v
  have h2 : lnk q a (k', G) = (k, F) := Option.some.inj h
  obtain ⟨G', h3, _⟩ := lnk_kind (q := q) (a := a) (k := k') (F := G)
  rw [h2] at h3
  have : k = k' := (Prod.mk.inj h3).1
  subst this
  exact ⟨G, rfl, h2⟩
theorem morRel {M : Hp} {q : Qs} : ∀ {l : List Int} {a : Int}, Mor M a l → Mor (relink M q) a l
 | [], a, h => fun F e => by
  obtain ⟨G, h1, _⟩ := relink_inv e
  exact h G h1
 | x :: l, a, ⟨h0, g, c, w, n, p, r, m, F, h1, h2, h3⟩ => by
  obtain ⟨G, h4, _⟩ := lnk_kind (q := q) (a := c) (k := 1) (F := F)
  exact ⟨h0, g, c, w, nxtQ q c x, p, r, m, G, by rw [relink_get h1, lnk_sudog], by rw [relink_get h2, h4], morRel h3⟩
def setM (M : Hp) (x m : Int) : Hp := fun a => if a = x then (M a).map (fun v => (v.1, v.2.set 6 m)) else M a
def parkM (M : Hp) : List Int → Hp
 | [] => M
 | x :: l => parkM (setM M x (hdQ l)) l
theorem setM_eq {M : Hp} {x g c w n p r m m' : Int} (h : M x = some (3, [g, c, w, n, p, r, m])) : setM M x m' = upd M x (3, [g, c, w, n, p, r, m']) := by
 funext a
 unfold setM upd
 by_cases e : a = x
 ·subst e; rw [if_pos rfl, if_pos rfl, h]; rfl
 ·rw [if_neg e, if_neg e]
theorem setM_ne {M : Hp} {x m a : Int} (h : a ≠ x) : setM M x m a = M a := if_neg h
theorem parkM_ne : ∀ {l : List Int} {M : Hp} {a : Int}, a ∉ l → parkM M l a = M a
 | [], _, _, _ => rfl
 | x :: l, M, a, h => by
  have hx : a ≠ x := fun e => h (by rw [e]; exact List.mem_cons_self)
  show parkM (setM M x (hdQ l)) l a = M a
  rw [parkM_ne (fun k => h (List.mem_cons_of_mem _ k)), setM_ne hx]
def IsSu (M : Hp) (x : Int) : Prop := ∃ g c w n p r m, M x = some (3, [g, c, w, n, p, r, m])
theorem setM_su {M : Hp} {x m a : Int} (h : IsSu M a) : IsSu (setM M x m) a := by
 obtain ⟨g, c, w, n, p, r, m', e⟩ := h
 by_cases q : a = x
 ·subst q; exact ⟨g, c, w, n, p, r, m, by rw [setM_eq e, upd_same]⟩
 ·exact ⟨g, c, w, n, p, r, m', by rw [setM_ne q]; exact e⟩
theorem sysSetM {M : Hp} {q : Qs} {x m : Int} (h : Sys M q) (hx : IsSu M x) : Sys (setM M x m) q := by
 obtain ⟨g, c, w, n, p, r, m', e⟩ := hx
 rw [setM_eq e]
 have hl := h.lnk e
 rw [lnk_sudog] at hl
 simp only [Prod.mk.injEq, List.cons.injEq, true_and, and_true] at hl
 refine h.updv ?_ (fun F k => by rw [e] at k; cases k) (fun c' d k => ?_) ⟨fun k => absurd (show (3 : Int) = 1 from k) (by decide), fun _ => rfl⟩
 ·rw [lnk_sudog, hl]
 ·obtain ⟨g', w', n', p', r', m2, e2⟩ := h.sg c' d x k
  rw [e] at e2
  simp only [Option.some.injEq, Prod.mk.injEq, List.cons.injEq, true_and, and_true] at e2
  obtain ⟨_, rfl, _⟩ := e2
  exact ⟨g, w, n, p, r, m, rfl⟩
theorem sysParkM {q : Qs} : ∀ {l : List Int} {M : Hp}, Sys M q → (∀ x ∈ l, IsSu M x) → Sys (parkM M l) q
 | [], _, h, _ => h
 | x :: l, M, h, hs => sysParkM (l := l) (sysSetM h (hs x List.mem_cons_self)) (fun y hy => setM_su (hs y (List.mem_cons_of_mem _ hy)))
theorem sysOther {M : Hp} {q : Qs} {a k : Int} {F G : List Int} (h : Sys M q) (hM : M a = some (k, G)) (hk : k ≠ 1 ∧ k ≠ 3) : Sys (upd M a (k, F)) q :=
 h.updv (lnk_other _ _ _ hk) (fun F' e => by rw [hM] at e; exact (Prod.mk.inj (Option.some.inj e)).1) (fun c d e => by
  obtain ⟨g, w, n, p, r, m, e2⟩ := h.sg c d a e
  rw [hM] at e2
  exact absurd (Prod.mk.inj (Option.some.inj e2)).1 hk.2) ⟨fun e => absurd e hk.1, fun e => absurd e hk.2⟩
theorem relink_other {M : Hp} {q : Qs} {a k : Int} {F : List Int} (h : M a = some (k, F)) (hk : k ≠ 1 ∧ k ≠ 3) : relink M q a = some (k, F) := by rw [relink_get h, lnk_other _ _ _ hk]
theorem relink_su {M : Hp} {q : Qs} {a g c w n p r m : Int} (h : M a = some (3, [g, c, w, n, p, r, m])) : ∃ n', relink M q a = some (3, [g, c, w, n', p, r, m]) := ⟨_, by rw [relink_get h, lnk_sudog]⟩
theorem relink_ch {M : Hp} {q : Qs} {a a0 a1 a2 a3 a4 a5 a6 a7 a8 : Int} (h : M a = some (1, [a0, a1, a2, a3, a4, a5, a6, a7, a8])) : relink M q a = some (1, [a0, a1, a2, a3, a4, hdQ (q a false), ltQ (q a false), hdQ (q a true), ltQ (q a true)]) := by rw [relink_get h, lnk_chan]
end Go.Proofs.YtjgbhpclmlcbbaaGreatDoor
namespace Go.Proofs.YtjgbhpclmlcbbaaGreatDoor
open Go Go.LX
set_option maxRecDepth 100000
set_option linter.unusedVariables false
set_option linter.unusedSimpArgs false
set_option maxHeartbeats 32000000
theorem hch9 {M : Hp} {q : Qs} (hY : Sys M q) : ∀ a F, M a = some (1, F) → ∃ y0 y1 y2 y3 y4 y5 y6 y7 y8, F = [y0, y1, y2, y3, y4, y5, y6, y7, y8] := fun a F e => list9 (hY.sc a F e)
theorem hsu7 {M : Hp} {q : Qs} (hY : Sys M q) : ∀ a F, M a = some (3, F) → ∃ y0 y1 y2 y3 y4 y5 y6, F = [y0, y1, y2, y3, y4, y5, y6] := fun a F e => list7 (hY.ss a F e)
theorem listRem_lx (R : List Rw) (ws C G : List Int) (N W ph sp cy : Int) (L D Q : List PV) (z : ByteArray) (ov : Bool) (h : HM R ws C G N W L D Q z) (M : Hp) (hM : Cont R ws M) (q : Qs) (hY : Sys M q) (o : Unit → Obj) (ho : IsPow o) (hph : ph = 0) (c s : Int) (d : Bool) (hc : ∃ F, M c = some (1, F)) : CallF (fun _ => Tryz.prog) 125 [.ptr 0 (.lit 0), i6 c, .p (.bool d), i6 s] [hpA 0 1 5 6 3 W ph sp cy, hpB 1 2 4 3 W, hpC 2 3 214 2 N, hpP 3 L, hpP 4 D, hpF 5 z ov, hpP 6 Q, (7, .fix 0 o)] 8 (fun r h n => ∃ (b : Bool) (ws' : List Int) (D' : List PV), r = .p (.bool b) ∧ h = [hpA 0 1 5 6 3 W ph sp cy, hpB 1 2 4 3 W, hpC 2 3 214 2 N, hpP 3 L, hpP 4 D', hpF 5 z ov, hpP 6 Q, (7, .fix 0 o)] ∧ n = 8 ∧ HM R ws' C G N W L D' Q z ∧ Cont R ws' (relink M (cutQ q c d s))) := by
 by_cases hs : s ∈ q c d
 ·obtain ⟨F, hF⟩ := hc
  obtain ⟨y0, y1, y2, y3, y4, y5, y6, y7, y8, rfl⟩ := hch9 hY c F hF
  cases d with
  | false => exact (listRemove0_lx R ws C G N W ph sp cy L D Q z ov h M hM q hY o ho hph (hch9 hY) (hsu7 hY) c s y0 y1 y2 y3 y4 y5 y6 y7 y8 hF hs).mono fun r h n ⟨ws', D', e1, e2, e3, h1, c1⟩ => ⟨true, ws', D', e1, e2, e3, h1, c1⟩
  | true => exact (listRemove1_lx R ws C G N W ph sp cy L D Q z ov h M hM q hY o ho hph (hch9 hY) (hsu7 hY) c s y0 y1 y2 y3 y4 y5 y6 y7 y8 hF hs).mono fun r h n ⟨ws', D', e1, e2, e3, h1, c1⟩ => ⟨true, ws', D', e1, e2, e3, h1, c1⟩
 ·rw [cutQ_no hs, hY.ln]
  exact (listRemoveNo_lx R ws C G N W ph sp cy L D Q z ov h M hM q hY o (hch9 hY) (hsu7 hY) c s d hs).mono fun r h' n ⟨e1, e2, e3⟩ => ⟨false, ws, D, e1, e2, e3, h, hM⟩
theorem leaveAll_lx (R : List Rw) (ws C G : List Int) (N W ph sp cy : Int) (L D Q : List PV) (z : ByteArray) (ov : Bool) (h : HM R ws C G N W L D Q z) (M : Hp) (hM : Cont R ws M) (q : Qs) (hY : Sys M q) (o : Unit → Obj) (ho : IsPow o) (hph : ph = 0) (a : Int) (l : List Int) (hl : Mor M a l) (hnd : l.Nodup) : CallF (fun _ => Tryz.prog) 74 [.ptr 0 (.lit 0), i6 a] [hpA 0 1 5 6 3 W ph sp cy, hpB 1 2 4 3 W, hpC 2 3 214 2 N, hpP 3 L, hpP 4 D, hpF 5 z ov, hpP 6 Q, (7, .fix 0 o)] 8 (fun r h n => ∃ (ws' : List Int) (D' : List PV), r = .tup [] ∧ h = [hpA 0 1 5 6 3 W ph sp cy, hpB 1 2 4 3 W, hpC 2 3 214 2 N, hpP 3 L, hpP 4 D', hpF 5 z ov, hpP 6 Q, (7, .fix 0 o)] ∧ n = 8 ∧ HM R ws' C G N W L D' Q z ∧ Cont R ws' (relink M (rmQ q l))) := by
 refine callF_of_body tok Tryz.func74 (by kernel_rfl) rfl rfl rfl ?_; conv => cbv
 refine LoopF.mk (fun kk s => ∃ (at_ : Int) (dn rest : List Int) (ws1 : List Int) (D1 : List PV), s = ⟨.ptr 0 (.lit 0) :: (undefs 3 ++ .mp 8 :: .p (.int .i64 (.sym at_)) :: undefs 38), [hpA 0 1 5 6 3 W ph sp cy, hpB 1 2 4 3 W, hpC 2 3 214 2 N, hpP 3 L, hpP 4 D1, hpF 5 z ov, hpP 6 Q, (7, .fix 0 o), (8, .set dn)], 9⟩ ∧ kk = rest.length ∧ l = dn ++ rest ∧ HM R ws1 C G N W L D1 Q z ∧ Cont R ws1 (relink M (rmQ q dn)) ∧ Mor M at_ rest) l.length _
  (Re.at [(0, 0), (1, 1), (2, 2), (3, 3), (4, 4), (5, 5), (6, 6), (7, 7), (8, 8)] []) ⟨a, [], l, ws, D, rfl, rfl, rfl, h, by rw [rmQ_nil, hY.ln]; exact hM, hl⟩ ?_
 rintro kk s ⟨at_, dn, rest, ws1, D1, rfl, hkk, hld, h1, c1, hmor⟩
 have hY1 := sysFilt hY dn
 have hmor1 := morRel (q := rmQ q dn) hmor
 conv => cbv
 rcases rest with _ | ⟨x, rest⟩
 ·refine cfr (sudogNoM_lx R ws1 C G N W ph sp cy L D1 Q z ov h1 _ c1 at_ hmor1) [(0, 0), (1, 1), (2, 2), (3, 3), (4, 4), (5, 5), (6, 6)] (fun r h' n' hrr => ?_)
  obtain ⟨⟨u0, u1, u2, u3, u4, u5, u6, e, e1, he, hz⟩, e2, e3⟩ := hrr
  subst e1 e2 e3
  have hdl : dn = l := by rw [hld, List.append_nil]
  conv => cbv
  refine Br.mk (fun gq => ?_) (fun gq => ?_)
  ·conv => cbv
   refine Br.yes (show ¬ (e = 0) by omega) ?_
   conv => cbv
   refine RetF.mk [] [hpA 0 1 5 6 3 W ph sp cy, hpB 1 2 4 3 W, hpC 2 3 214 2 N, hpP 3 L, hpP 4 D1, hpF 5 z ov, hpP 6 Q, (7, .fix 0 o)] 8 (Re.at [(0, 0), (1, 1), (2, 2), (3, 3), (4, 4), (5, 5), (6, 6), (7, 7)] []) rfl ⟨ws1, D1, rfl, rfl, rfl, h1, by rw [← hdl]; exact c1⟩
  ·conv => cbv
   refine Br.yes (show ¬ (e = 0) by omega) ?_
   conv => cbv
   refine RetF.mk [] [hpA 0 1 5 6 3 W ph sp cy, hpB 1 2 4 3 W, hpC 2 3 214 2 N, hpP 3 L, hpP 4 D1, hpF 5 z ov, hpP 6 Q, (7, .fix 0 o)] 8 (Re.at [(0, 0), (1, 1), (2, 2), (3, 3), (4, 4), (5, 5), (6, 6), (7, 7)] []) rfl ⟨ws1, D1, rfl, rfl, rfl, h1, by rw [← hdl]; exact c1⟩
 ·obtain ⟨rfl, g, c, w, n, p, r_, m_, F, hMs, hMc, _⟩ := hmor1
  have hmor2 : Mor M m_ rest := by
   obtain ⟨_, g', c', w', n', p', r', m', F', k1, _, k3⟩ := hmor
   rw [relink_get k1, lnk_sudog] at hMs
   simp only [Option.some.injEq, Prod.mk.injEq, List.cons.injEq, true_and, and_true] at hMs
   rw [← hMs.2.2.2.2.2.2]
   exact k3
  have hni : at_ ∉ dn := by
   rw [hld] at hnd
   intro k
   exact (List.nodup_append.1 hnd).2.2 at_ k at_ List.mem_cons_self rfl
  refine cfr (sudogM_lx R ws1 C G N W ph sp cy L D1 Q z ov h1 _ c1 at_ g c w n p r_ m_ hMs) [(0, 0), (1, 1), (2, 2), (3, 3), (4, 4), (5, 5), (6, 6)] (fun r h' n' hrr => ?_)
  obtain ⟨⟨e, e1, he⟩, e2, e3⟩ := hrr
  subst e1 e2 e3
  conv => cbv
  refine Br.no (show ¬ (at_ ∈ dn) from hni) ?_
  conv => cbv
  refine Br.no (show ¬ ¬ (e = 0) from fun q => q he) ?_
  conv => cbv
  refine Need.mk (show ¬ (at_ ∈ dn) from hni) ?_
  conv => cbv
  refine UpdI.mk fun dn2 hdn2 => ?_
  have hdn2 : dn2 = dn ++ [at_] := hdn2
  conv => cbv
  refine cfr (listRem_lx R ws1 C G N W ph sp cy L D1 Q z ov h1 _ c1 _ hY1 o ho hph c at_ true ⟨F, hMc⟩) [(0, 0), (1, 1), (2, 2), (3, 3), (4, 4), (5, 5), (6, 6), (7, 7)] (fun r h' n' hrr => ?_)
  obtain ⟨b1, ws2, D2, e1, e2, e3, h2, c2⟩ := hrr
  subst e1 e2 e3
  conv => cbv
  have hMc2 : ∃ F, relink (relink M (rmQ q dn)) (cutQ (rmQ q dn) c true at_) c = some (1, F) := by
   obtain ⟨G2, k4, _⟩ := lnk_kind (q := cutQ (rmQ q dn) c true at_) (a := c) (k := 1) (F := F)
   exact ⟨G2, by rw [relink_get hMc, k4]⟩
  refine cfr (listRem_lx R ws2 C G N W ph sp cy L D2 Q z ov h2 _ c2 _ (sysCut hY1 c true at_) o ho hph c at_ false hMc2) [(0, 0), (1, 1), (2, 2), (3, 3), (4, 4), (5, 5), (6, 6), (7, 7)] (fun r h' n' hrr => ?_)
  obtain ⟨b2, ws3, D3, e1, e2, e3, h3, c3⟩ := hrr
  subst e1 e2 e3
  rw [cutQ_both hY1 hMs, relink_relink, relink_relink, rmQ_rmQ, ← hdn2] at c3
  conv => cbv
  refine Again.mk rest.length _ (by rw [hkk]; exact Nat.lt_succ_self _) (Re.at [(0, 0), (1, 1), (2, 2), (3, 3), (4, 4), (5, 5), (6, 6), (7, 7), (8, 8)] []) ⟨m_, dn2, rest, ws3, D3, rfl, rfl, by rw [hld, hdn2]; simp, h3, c3, hmor2⟩
end Go.Proofs.YtjgbhpclmlcbbaaGreatDoor
namespace Go.Proofs.YtjgbhpclmlcbbaaGreatDoor
open Go Go.LX
set_option maxRecDepth 100000
set_option linter.unusedVariables false
set_option linter.unusedSimpArgs false
set_option maxHeartbeats 32000000
theorem atW_ptr (c : Int) : atW (2 * c + 1) = c := by
 unfold atW
 rw [if_pos (by omega)]
 omega
theorem see_zero_lx (R : List Rw) (ws C G : List Int) (N W ph sp cy : Int) (L D Q : List PV) (z : ByteArray) (ov : Bool) (h : HM R ws C G N W L D Q z) (M : Hp) (hM : Cont R ws M) (w : Int) (h0 : w = 0) : CallF (fun _ => Tryz.prog) 81 [.ptr 0 (.lit 0), i6 w] [hpA 0 1 5 6 3 W ph sp cy, hpB 1 2 4 3 W, hpC 2 3 214 2 N, hpP 3 L, hpP 4 D, hpF 5 z ov, hpP 6 Q] 7 (fun r h n => r = .iface 119 (.agg []) ∧ h = [hpA 0 1 5 6 3 W ph sp cy, hpB 1 2 4 3 W, hpC 2 3 214 2 N, hpP 3 L, hpP 4 D, hpF 5 z ov, hpP 6 Q] ∧ n = 7) := by
 refine callF_of_body tok Tryz.func81 (by kernel_rfl) rfl rfl rfl ?_; conv => cbv
 refine CallF.le (args0 := [i6 0]) (callF_frame (intV_lx 0 (by unfold b62; omega)) [] rfl trivial rfl rfl (fun r h' n' hrr => ?_)) (by simp [ales, ale, pvle, I.val])
 obtain ⟨⟨x0, e1, hx0⟩, e2, e3⟩ := hrr
 subst e1 e2 e3
 conv => cbv
 refine Br.yes (show w = x0 by omega) ?_
 conv => cbv
 refine RetF.mk [.iface 119 (.agg [])] [hpA 0 1 5 6 3 W ph sp cy, hpB 1 2 4 3 W, hpC 2 3 214 2 N, hpP 3 L, hpP 4 D, hpF 5 z ov, hpP 6 Q] 7 (Re.at [(0, 0), (1, 1), (2, 2), (3, 3), (4, 4), (5, 5), (6, 6)] []) rfl ⟨rfl, rfl, rfl⟩
theorem see_is_lx (R : List Rw) (ws C G : List Int) (N W ph sp cy : Int) (L D Q : List PV) (z : ByteArray) (ov : Bool) (h : HM R ws C G N W L D Q z) (M : Hp) (hM : Cont R ws M) (w a y0 y1 y2 y3 y4 y5 y6 y7 y8 : Int) (hw : (-9223372036854775808 ≤ w ∧ w ≤ 9223372036854775807)) (h0 : w ≠ 0) (ha : atW w = a) (hMa : M a = some (1, [y0, y1, y2, y3, y4, y5, y6, y7, y8])) : CallF (fun _ => Tryz.prog) 81 [.ptr 0 (.lit 0), i6 w] [hpA 0 1 5 6 3 W ph sp cy, hpB 1 2 4 3 W, hpC 2 3 214 2 N, hpP 3 L, hpP 4 D, hpF 5 z ov, hpP 6 Q] 7 (fun r h n => r = .iface 122 (.agg [i6 a, i6 y0, i6 y1, i6 y2, i6 y3, i6 y4, i6 y5, i6 y6, i6 y7, i6 y8]) ∧ h = [hpA 0 1 5 6 3 W ph sp cy, hpB 1 2 4 3 W, hpC 2 3 214 2 N, hpP 3 L, hpP 4 D, hpF 5 z ov, hpP 6 Q] ∧ n = 7) := by
 refine callF_of_body tok Tryz.func81 (by kernel_rfl) rfl rfl rfl ?_; conv => cbv
 refine CallF.le (args0 := [i6 0]) (callF_frame (intV_lx 0 (by unfold b62; omega)) [] rfl trivial rfl rfl (fun r h' n' hrr => ?_)) (by simp [ales, ale, pvle, I.val])
 obtain ⟨⟨x0, e1, hx0⟩, e2, e3⟩ := hrr
 subst e1 e2 e3
 conv => cbv
 refine Br.no (show ¬ (w = x0) by omega) ?_
 conv => cbv
 refine callF_frame (atV2_lx w hw) [] rfl trivial rfl rfl (fun r h' n' hrr => ?_)
 obtain ⟨⟨a1, e1, ha1⟩, e2, e3⟩ := hrr
 subst e1 e2 e3
 conv => cbv
 obtain rfl : a = a1 := ha.symm.trans ha1.symm
 refine cfr (chanM_lx R ws C G N W ph sp cy L D Q z ov h M hM a y0 y1 y2 y3 y4 y5 y6 y7 y8 hMa) [(0, 0), (1, 1), (2, 2), (3, 3), (4, 4), (5, 5), (6, 6)] (fun r h' n' hrr => ?_)
 obtain ⟨⟨e, e1, he⟩, e2, e3⟩ := hrr
 subst e1 e2 e3
 conv => cbv
 refine Br.no (show ¬ ¬ (e = 0) from fun q => q he) ?_
 conv => cbv
 refine drawn_sound tok (by kernel_rfl) [(1, [2])] [0, 2, 1, 3, 4, 5] (by kernel_rfl) ?_; conv => cbv
 refine callF_frame (atV2_lx w hw) [] rfl trivial rfl rfl (fun r h' n' hrr => ?_)
 obtain ⟨⟨a2, e1, ha2⟩, e2, e3⟩ := hrr
 subst e1 e2 e3
 conv => cbv
 obtain rfl : a = a2 := ha.symm.trans ha2.symm
 refine RetF.mk [.iface 122 (.agg [i6 a, i6 y0, i6 y1, i6 y2, i6 y3, i6 y4, i6 y5, i6 y6, i6 y7, i6 y8])] [hpA 0 1 5 6 3 W ph sp cy, hpB 1 2 4 3 W, hpC 2 3 214 2 N, hpP 3 L, hpP 4 D, hpF 5 z ov, hpP 6 Q] 7 (Re.at [(0, 0), (1, 1), (2, 2), (3, 3), (4, 4), (5, 5), (6, 6)] []) rfl ⟨rfl, rfl, rfl⟩
theorem closedF_lx (a y0 y1 y2 y3 y4 y5 y6 y7 y8 : Int) (hcl : y1 = 0) : CallF (fun _ => Tryz.prog) 82 [.agg [i6 a, i6 y0, i6 y1, i6 y2, i6 y3, i6 y4, i6 y5, i6 y6, i6 y7, i6 y8]] [] 0 (fun r h n => r = .p (.bool false) ∧ h = [] ∧ n = 0) := by
 refine callF_of_body tok Tryz.func82 (by kernel_rfl) rfl rfl rfl ?_; conv => cbv
 refine Br.no (fun k => k hcl) ?_
 conv => cbv
 refine RetF.mk [.p (.bool false)] [] 0 (Re.at [] []) rfl ⟨rfl, rfl, rfl⟩
end Go.Proofs.YtjgbhpclmlcbbaaGreatDoor
