/-
  The ground of the proof, part 8: the calculus and what is proved with it.
-/
import Derived.Test.YtkhfgngcoiablaaGreatDoorBg
import Derived.Test.YtkhfgngcoiablaaGreatDoorBd
namespace Go.LX
open Go
set_option linter.unusedVariables false
set_option maxHeartbeats 32000000
inductive ReadF (P : Unit → Program) (f : Nat) (args : List LV) (bs : List Nat) (h : LH) (n : Nat) (K : LV → Prop) : Prop
 | mk (u : LV) (hq : ∀ h' n',(∀ b ∈ bs,hget h' b = hget h b) → n ≤ n' → CallF P f args h' n' fun r h2 n2 => r = u ∧ h2 = h' ∧ n2 = n') (hk : K u)
section
variable {P : Unit → Program} {T : Unit → TT} {o : Oper} {s : LS}
def rowL (T : Unit → TT) (o : Oper) (s : LS) : Option LV :=
 match o.op with
 | .buildSlice t len parts => match lget (T ()) t with
  | some ti => match ti.kind with
   | .slice e => match lget (T ()) e with
    | some te => match Nat.ble (len * te.size) 10000,Nat.beq (llen (pvs te.zero)) te.size,Nat.ble 1 te.size with
     | true,true,true => match fillL (T ()) ti.kind (reps te.zero len) (evs s parts.toList) with
      | some cs => match allP cs with
       | some ps => some (.p (.vsl (.lit len) false ps))
       | none => none
      | none => none
     | _,_,_ => none
    | none => none
   | _ => none
  | none => none
 | _ => none
def readL (P : Unit → Program) (T : Unit → TT) (all : List Oper) (bs : List Nat) (o : Oper) (s : LS) (L : LS → Prop) : Prop :=
 match yes s all o.guard with
 | some c => match c with
  | true => match o.op with
   | .call c => match c.callee with
    | .value (.func f) => ReadF P f (eva s c.args.toList) bs s.h s.n fun u => L (s.put o.dst u)
    | _ => False
   | .buildSlice _ _ _ => match rowL T o s with
    | some u => L (s.put o.dst u)
    | none => False
   | _ => False
  | false => L (s.put o.dst .nul)
 | none => False
theorem rowL_agree {T : Unit → TT} {o : Oper} {s s' : LS} {ops : Array Oper} (h : ∀ t ∈ o.looksAt ops,tget s'.t t = tget s.t t) : rowL T o s' = rowL T o s := by
 unfold rowL
 split
 ·rename_i t len parts ho
  have hev : evs s' parts.toList = evs s parts.toList := evs_agree _ fun x hx => by
   have hx2 : x.2 ∈ o.op.operands := by
    rw [ho]
    simp only [Op.operands]
    simpa using ⟨x.1,(by simpa using hx)⟩
   cases hx3 : x.2 with
   | tmp t =>
    rw [hx3] at hx2
    refine h t ?_
    simp only [Oper.looksAt,List.mem_append,List.mem_filterMap]
    exact .inl ⟨.tmp t,by simpa using hx2,rfl⟩
   | const v => rfl
   | global g => rfl
   | func f => rfl
  rw [hev]
 ·rfl
theorem Ext.mute {c : Ctx} {w : World} {h : LH} (hr : HR c w h) (o : Obj) : Ext c w c (w.alloc o) := by
 refine ⟨rfl,rfl,rfl,by simp,rfl,Nat.le_refl _,fun b hb => .inl rfl,fun b r hb h => ?_,fun r hr _ => heap_alloc_old w o hr,fun b r hb h => ?_⟩
 ·rw [hr.fresh b hb] at h; cases h
 ·simp only [World.shape?,heap_alloc_old w o (hr.lt b r h)]
theorem row_sound {P : Program} {T : TT} {o : Oper} {s : LS} {u : LV} {c : Ctx} {a : Act} {w : World} {Q : Exit → Act → World → Prop} (hT : TOK P T) (hs : St c s a w) (h : rowL (fun _ => T) o s = some u) : o.wp P a w (Post (fun s1 => s1 = s.put o.dst u) c w) Q := by
 unfold rowL at h
 split at h
 ·rename_i t len parts ho
  split at h
  ·rename_i ti ht
   split at h
   ·rename_i e hk
    split at h
    ·rename_i te hte
     split at h
     ·rename_i hlen hzl h1
      split at h
      ·rename_i cs hf
       split at h
       ·rename_i ps hps
        cases h
        have hlen := Nat.le_of_ble_eq_true hlen
        have h1 := Nat.le_of_ble_eq_true h1
        obtain ⟨z,hz,hzc,hzr⟩ := zero_cells (hT e te hte)
        obtain ⟨hl,hq⟩ := evs_rel hs parts.toList
        obtain ⟨⟨i,z',d,hi,hsz,_,hz',_,hu,hkd,_⟩,_⟩ := hT t ti ht
        rw [hk] at hkd hf
        cases d <;> try exact hkd.elim
        rename_i e'
        have hkd : e = e' := hkd
        subst hkd
        have hse := tok_size (w := w) (hT e te hte)
        have hzs : z.cells.size = te.size := by
         have h2 := Nat.eq_of_beq_eq_true hzl
         rw [llen_eq,pvs_length] at h2
         have : z.cells.toList.length = te.zero.length := by rw [hzc,List.length_map]
         rw [Array.length_toList] at this; omega
        have hpl2 : ∀ i off sz,place T (.slice e) i = some (off,sz) → (fun i => some (i * te.size,te.size)) i = some (off,sz) := by
         intro i off sz hp
         simp only [place,hte] at hp
         exact hp
        have hrel0 := reps_rel c w (hzr c w) (by omega) len
        rw [hzs] at hrel0
        obtain ⟨arr',h3,h4,h5⟩ := fill_sound (c := c) (w := w) hpl2 _ _ _ _ hl hq hrel0 hf
        have hlens : arr'.size = len * te.size := by rw [h5]; simp
        have hmap : (parts.map fun (i,x) => (i,a.eval x)).toList = parts.toList.map fun (i,x) => (i,a.eval x) := by simp
        have hrun : (execOp a.eval o).run P w = .ok (.value (.slice (some ⟨w.heap.size,0,none⟩) len len)) (w.alloc (.cells arr' e)) := by
         unfold execOp; rw [ho]
         refine runv ?_
         have hbig : ¬ len * te.size > 2 ^ 24 := by omega
         by_cases h0 : len * te.size = 0
         ·have e0 : (Array.range (len * te.size)).map (fun j => z.cells[j % te.size]!) = (#[] : Array Value) := by rw [h0]; simp
          rw [e0] at h3
          have e1 : (Array.map (fun _ => (default : Value)) (Array.range 0)) = (#[] : Array Value) := by simp
          have hmap2 : (List.map (fun x : Nat × Operand => (x.fst,a.eval x.snd)) parts.toList) = parts.toList.map fun (i,x) => (i,a.eval x) := rfl
          simp [Instr.buildSlice,run_underlying hu,hse,h0,newRow]
          rw [e1,hmap2,h3]
          simp
         ·simp only at h3
          simp [Instr.buildSlice,run_underlying hu,hse,hbig,h0,hz,hzs,h3,newRow]
        have he := Ext.mute hs.hr (.cells arr' e)
        have hr' : HR c (w.alloc (.cells arr' e)) s.h := hs.hr.step he (.inl rfl) hs.hr.fresh (fun b => .inl rfl) (fun b B hb => .inl ⟨hb,rfl,fun r hm => heap_alloc_old w _ (hs.hr.lt b r hm)⟩)
        have hs1 : St c s a (w.alloc (.cells arr' e)) := ⟨hs.tl,fun i u hu => (hs.tr i u hu).ext hs.hr.fresh he,hs.df,hr',hs.nn⟩
        have hps := allP_eq _ hps
        subst hps
        have hcell : ∀ (j : Nat) (u : PV),ps[j]? = some u → ∃ x,arr'.toList[j]? = some x ∧ PR c.mut w u x := by
         intro j u hj
         obtain ⟨x,hx,hxr⟩ := h4.2 j (.p u) (by rw [pvs_get,hj]; rfl)
         cases hxr with
         | p _ _ hxr => exact ⟨x,hx,hxr⟩
        have hnew : LR c (w.alloc (.cells arr' e)) (.p (.vsl (.lit len) false ps)) (.slice (some ⟨w.heap.size,0,none⟩) len len) := by
         refine .p _ _ (.vsl _ _ _ _ len len (fun j => arr'.toList.getD j Go.undef) rfl rfl ?_ ?_ (Nat.le_refl _) ?_ ?_ ?_)
         ·rintro (hx | ⟨b,hb⟩)
          ·exact Nat.lt_irrefl _ (hs.hr.ltX _ hx)
          ·exact Nat.lt_irrefl _ (hs.hr.lt _ _ hb)
         ·simp
         ·unfold maxLen
          have : len ≤ len * te.size := Nat.le_mul_of_pos_right _ h1
          omega
         ·intro j u hj
          obtain ⟨x,hx,_⟩ := hcell j u hj
          have hx2 : arr'[j]? = some x := by simpa using hx
          have hg2 : (w.alloc (.cells arr' e)).heap[w.heap.size]? = some (.cells arr' e (0,0)) := by rw [heap_alloc_new]
          rw [add_lit]
          simp only [World.cell?,hg2]
          rw [List.getD_eq_getElem?_getD,hx]
          simpa using hx2
         ·intro j u hj
          obtain ⟨x,hx,hxr⟩ := hcell j u hj
          rw [List.getD_eq_getElem?_getD,hx]
          exact hxr.ext hs.hr.fresh he
        unfold Oper.wp
        rw [hrun,Oper.upon_value]
        exact ⟨c,_,rfl,hs1.put hnew _,he⟩
       ·cases h
      ·cases h
     ·cases h
    ·cases h
   ·cases h
  ·cases h
 ·cases h
def rdsR (ops : Array Oper) (bs : List Nat) (p : Nat) (s : LS) : List Nat := match isA (opAt ops p) with
 | true => rds (opAt ops p) s
 | false => bs
def AgreeR (ops : Array Oper) (bs : List Nat) (p : Nat) (s s' : LS) : Prop := (∀ b ∈ rdsR ops bs p s,hget s'.h b = hget s.h b) ∧ (∀ t ∈ (opAt ops p).looksAt ops,tget s'.t t = tget s.t t) ∧ s.n ≤ s'.n
theorem rdsR_put {ops : Array Oper} {bs : List Nat} {p : Nat} {d : Option Nat} {u : LV} (hd : ∀ t,d = some t → t ∉ (opAt ops p).looksAt ops) : rdsR ops bs p (s.put d u) = rdsR ops bs p s := by
 unfold rdsR
 cases isA (opAt ops p) with
 | true => exact rds_put hd
 | false => rfl
def keptR (ops : Array Oper) (bs : List Nat) : List Nat → LS → LS → Prop
 | [],s,s1 => Nat.ble s.n s1.n = true
 | p :: fl,s,s1 => keptL (rdsR ops bs p s) s s1 ∧ keptR ops bs fl s s1
theorem keptR_get {ops : Array Oper} {bs : List Nat} : ∀ {fl : List Nat} {s s1 : LS},keptR ops bs fl s s1 → s.n ≤ s1.n ∧ ∀ p ∈ fl,keptL (rdsR ops bs p s) s s1
 | [],_,_,h => ⟨Nat.le_of_ble_eq_true h,fun p hp => by cases hp⟩
 | x :: l,s,s1,h => ⟨(keptR_get h.2).1,fun p hp => by
  rcases List.mem_cons.1 hp with rfl | hp
  ·exact h.1
  ·exact (keptR_get h.2).2 p hp⟩
theorem yes_agree {ops : Array Oper} {s s' : LS} (h : ∀ t ∈ o.looksAt ops,tget s'.t t = tget s.t t) : yes s' ops.toList o.guard = yes s ops.toList o.guard := by
 cases hg : o.guard with
 | none => rfl
 | some p =>
  obtain ⟨j,want⟩ := p
  simp only [yes,onth_eq]
  have hj : ops.toList[j]? = ops[j]? := by simp
  rw [hj]
  cases e : ops[j]? with
  | none => rfl
  | some q =>
   dsimp only
   cases e2 : q.dst with
   | none => rfl
   | some d =>
    dsimp only
    rw [h d (by simp [Oper.looksAt,hg,e,e2])]
def headR (P : Unit → Program) (T : Unit → TT) (ops : Array Oper) (bs : List Nat) (i : Nat) (s : LS) (L : LS → Prop) : Prop :=
 match isA (opAt ops i) with
 | true => stepL P T ops.toList (opAt ops i) s L
 | false => readL P T ops.toList bs (opAt ops i) s L
theorem AgreeR.toS {ops : Array Oper} {bs : List Nat} {i : Nat} {s s' : LS} (hA : isA (opAt ops i) = true) (h : AgreeR ops bs i s s') : AgreeS ops (opAt ops i) s s' := by
 refine ⟨?_,h.2.1⟩
 have := h.1
 unfold rdsR at this
 rw [hA] at this
 exact this
theorem headR_x {ops : Array Oper} {bs : List Nat} {i : Nat} {L : LS → Prop} (h : headR P T ops bs i s L) : ∃ u,L (s.put (opAt ops i).dst u) ∧ (∀ s',AgreeR ops bs i s s' → ∀ L' : LS → Prop,L' (s'.put (opAt ops i).dst u) → headR P T ops bs i s' L') ∧ (∀ s',AgreeR ops bs i s s' → (∀ L' : LS → Prop,L' (s'.put (opAt ops i).dst u) → stepL P T ops.toList (opAt ops i) s' L') ∨ (yes s' ops.toList (opAt ops i).guard = some true ∧ rowL T (opAt ops i) s' = some u)) := by
 unfold headR at h
 split at h
 ·rename_i hA
  obtain ⟨u,h1,h2⟩ := step_x hA h
  refine ⟨u,h1,fun s' ha L' hL => ?_,fun s' ha => .inl (h2 s' (ha.toS hA))⟩
  unfold headR
  rw [hA]
  exact h2 s' (ha.toS hA) L' hL
 ·rename_i hA
  have hbs : ∀ s',AgreeR ops bs i s s' → ∀ b ∈ bs,hget s'.h b = hget s.h b := fun s' ha => by
   have := ha.1
   unfold rdsR at this
   rw [hA] at this
   exact this
  have hlk : ∀ s',AgreeR ops bs i s s' → ∀ t ∈ (opAt ops i).looksAt ops,tget s'.t t = tget s.t t := fun s' ha => ha.2.1
  have hn : ∀ s',AgreeR ops bs i s s' → s.n ≤ s'.n := fun s' ha => ha.2.2
  generalize hoo : opAt ops i = o at *
  unfold readL at h
  split at h
  ·rename_i cb hy
   have hy' : ∀ s',AgreeR ops bs i s s' → yes s' ops.toList o.guard = some cb := fun s' ha => (yes_agree (hlk s' ha)).trans hy
   split at h
   ·split at h
    ·rename_i c ho
     split at h
     ·rename_i f hc
      cases h with
      | mk u hq hk =>
       have hev : ∀ s',AgreeR ops bs i s s' → eva s' c.args.toList = eva s c.args.toList := fun s' ha => eva_agree _ fun x hx => by
        have hx : x ∈ c.args := by simpa using hx
        have hx2 : x ∈ o.op.operands := by rw [ho]; simp [Op.operands,Call.operands,hc,hx]
        cases x with
        | tmp t =>
         refine hlk s' ha t ?_
         simp only [Oper.looksAt,List.mem_append,List.mem_filterMap]
         exact .inl ⟨.tmp t,by simpa using hx2,rfl⟩
        | const v => rfl
        | global g => rfl
        | func f => rfl
       refine ⟨u,hk,fun s' ha L' hL => ?_,fun s' ha => .inl fun L' hL => ?_⟩
       ·unfold headR
        rw [hoo,hA]
        dsimp only
        unfold readL
        rw [hy' s' ha]
        dsimp only
        rw [ho]
        dsimp only
        rw [hc]
        dsimp only
        rw [hev s' ha]
        exact .mk u (fun h' n' hb hn' => hq h' n' (fun b hbm => (hb b hbm).trans (hbs s' ha b hbm)) (Nat.le_trans (hn s' ha) hn')) hL
       ·unfold stepL
        rw [hy' s' ha]
        dsimp only
        unfold lop
        rw [ho]
        dsimp only
        rw [hc]
        dsimp only [ev]
        rw [hev s' ha]
        refine (hq s'.h s'.n (hbs s' ha) (hn s' ha)).mono fun r h' n' ⟨e1,e2,e3⟩ => ?_
        subst e1 e2 e3
        exact hL
     ·exact h.elim
    ·rename_i t0 len0 parts0 ho
     split at h
     ·rename_i u hu
      refine ⟨u,h,fun s' ha L' hL => ?_,fun s' ha => .inr ⟨hy' s' ha,(rowL_agree (hlk s' ha)).trans hu⟩⟩
      unfold headR
      rw [hoo,hA]
      dsimp only
      unfold readL
      rw [hy' s' ha]
      dsimp only
      rw [ho]
      dsimp only
      rw [rowL_agree (hlk s' ha),hu]
      exact hL
     ·exact h.elim
    ·exact h.elim
   ·refine ⟨.nul,h,fun s' ha L' hL => ?_,fun s' ha => .inl fun L' hL => ?_⟩
    ·unfold headR
     rw [hoo,hA]
     dsimp only
     unfold readL
     rw [hy' s' ha]
     exact hL
    ·unfold stepL
     rw [hy' s' ha]
     exact hL
  ·exact h.elim
def lopsR (P : Unit → Program) (T : Unit → TT) (ops : Array Oper) (bs : List Nat) (qs : List Nat) (F : List (Nat × List Nat)) : List Nat → LS → (LS → Prop) → Prop
 | [],s,K => K s
 | i :: l,s,K => match cA ops qs i with
  | true => headR P T ops bs i s fun s1 => lopsR P T ops bs qs F l s1 K
  | false => stepL P T ops.toList (opAt ops i) s fun s1 => keptR ops bs (look F i) s s1 ∧ lopsR P T ops bs qs F l s1 K
def pairR (ops : Array Oper) (qs : List Nat) (F : List (Nat × List Nat)) (p q : Nat) : Bool :=
 p != q && (reach ops ops.size p q || (cA ops qs p && (opAt ops p).apart ops (opAt ops q) && (cA ops qs q || (look F q).contains p))) && (!(F.any fun e => e.2.contains p && e.2.contains q) || match (opAt ops q).dst with
  | some d => !cA ops qs p || !cA ops qs q || !((opAt ops p).looksAt ops).contains d
  | none => true)
def PairR (ops : Array Oper) (qs : List Nat) (F : List (Nat × List Nat)) (p q : Nat) : Prop := p ≠ q ∧ (reach ops ops.size p q = true ∨ (cA ops qs p = true ∧ (opAt ops p).apart ops (opAt ops q) = true ∧ (cA ops qs q = true ∨ p ∈ look F q))) ∧ (∀ i,p ∈ look F i → q ∈ look F i → cA ops qs p = true → cA ops qs q = true → ∀ d,(opAt ops q).dst = some d → d ∉ (opAt ops p).looksAt ops)
theorem pairR_spec {ops : Array Oper} {qs : List Nat} {F : List (Nat × List Nat)} {p q : Nat} (h : pairR ops qs F p q = true) : PairR ops qs F p q := by
 simp only [pairR,Bool.and_eq_true,Bool.or_eq_true,bne_iff_ne,ne_eq] at h
 obtain ⟨⟨h1,h2⟩,h3⟩ := h
 refine ⟨h1,h2.imp id (fun h => ⟨h.1.1,h.1.2,h.2.imp id (fun h => by simpa using h)⟩),fun i hpi hqi hp hq d hd => ?_⟩
 rw [look_any hpi hqi,hd,hp,hq] at h3
 simpa using h3
theorem frontR {ops : Array Oper} {bs : List Nat} {qs : List Nat} {F : List (Nat × List Nat)} {i : Nat} {l2 : List Nat} {K : LS → Prop} (hki : known ops i) :
  ∀ (l1 gh : List Nat) {s : LS},(∀ p ∈ l1,known ops p ∧ (∀ d,(opAt ops p).dst = some d → d ∉ (opAt ops p).looksAt ops)) → (∀ p ∈ l1,PairR ops qs F p i ∧ reach ops ops.size p i = false) → l1.Pairwise (PairR ops qs F) → (∀ p ∈ gh,p ∈ look F i ∧ cA ops qs p = true ∧ ∀ q ∈ l1,PairR ops qs F p q) →
   lopsR P T ops bs qs F (l1 ++ i :: l2) s K → (cA ops qs i = true → headR P T ops bs i s fun s1 => lopsR P T ops bs qs F (l1 ++ l2) s1 K) ∧ (cA ops qs i = false → stepL P T ops.toList (opAt ops i) s fun s1 => (s.n ≤ s1.n ∧ ∀ p ∈ gh,keptL (rdsR ops bs p s) s s1) ∧ lopsR P T ops bs qs F (l1 ++ l2) s1 K)
 | [],gh,s,_,_,_,hgh,h => by
  rw [List.nil_append,lopsR] at h
  split at h
  ·rename_i hA
   exact ⟨fun _ => h,fun e => (by rw [hA] at e; cases e)⟩
  ·rename_i hA
   exact ⟨fun e => (by rw [hA] at e; cases e),fun _ => stepL_m hki h fun s1 h1 => ⟨⟨(keptR_get h1.1).1,fun p hp => (keptR_get h1.1).2 p (hgh p hp).1⟩,h1.2⟩⟩
 | p :: l1,gh,s,hk,hi,hpw,hdn,h => by
  obtain ⟨hkp,hself⟩ := hk p List.mem_cons_self
  obtain ⟨⟨hpi1,hpi2,hpi3⟩,hnr⟩ := hi p List.mem_cons_self
  rw [List.pairwise_cons] at hpw
  obtain ⟨hA,hap,hfl⟩ : cA ops qs p = true ∧ (opAt ops p).apart ops (opAt ops i) = true ∧ (cA ops qs i = true ∨ p ∈ look F i) := by
   rcases hpi2 with e | e
   ·rw [hnr] at e; cases e
   ·exact e
  obtain ⟨a1,a2,a3⟩ := Oper.apart_spec hap
  rw [List.cons_append,lopsR] at h
  rw [hA] at h
  dsimp only at h
  obtain ⟨u,h1,hg,_⟩ := headR_x h
  have next : ∀ {s1 : LS},AgreeR ops bs p s s1 → lopsR P T ops bs qs F (l1 ++ l2) (s1.put (opAt ops p).dst u) K → lopsR P T ops bs qs F (p :: l1 ++ l2) s1 K := by
   intro s1 hag h2
   rw [List.cons_append,lopsR,hA]
   exact hg s1 hag _ h2
  have hkl : ∀ q ∈ l1,known ops q ∧ (∀ d,(opAt ops q).dst = some d → d ∉ (opAt ops q).looksAt ops) := fun q hq => hk q (List.mem_cons_of_mem _ hq)
  have hil : ∀ q ∈ l1,PairR ops qs F q i ∧ reach ops ops.size q i = false := fun q hq => hi q (List.mem_cons_of_mem _ hq)
  refine ⟨fun hAi => ?_,fun hnA => ?_⟩
  ·have ih := (frontR hki l1 [] hkl hil hpw.2 (fun q hq => (by cases hq)) h1).1 hAi
   obtain ⟨v,h4,h5,_⟩ := headR_x ih
   refine h5 s ⟨fun _ _ => by rw [put_h],fun t ht => (tget_put _ _ _ (fun e => a1 t e ht)).symm,by rw [put_n]; exact Nat.le_refl _⟩ _ ?_
   refine next ⟨fun _ _ => by rw [put_h],fun t ht => tget_put _ _ _ (fun e => a3 t e ht),by rw [put_n]; exact Nat.le_refl _⟩ ?_
   rw [← put_comm _ _ _ _ a2]
   exact h4
  ·have hX : isX (opAt ops i) = true := hki.resolve_right (fun e => by unfold cA at hnA; rw [e] at hnA; cases hnA)
   have hpf : p ∈ look F i := hfl.resolve_left (fun e => by rw [hnA] at e; cases e)
   have ih := (frontR hki l1 (p :: gh) hkl hil hpw.2 (fun q hq => by
    rcases List.mem_cons.1 hq with rfl | hq
    ·exact ⟨hpf,hA,hpw.1⟩
    ·exact ⟨(hdn q hq).1,(hdn q hq).2.1,fun r hr => (hdn q hq).2.2 r (List.mem_cons_of_mem _ hr)⟩) h1).2 hnA
   have h3 := step_slot hX a1 a2 ih
   refine stepL_m (.inl hX) h3 fun s1 ⟨h4,⟨hn5,h5⟩,h6⟩ => ?_
   simp only [put_n] at hn5
   have hkp2 := h5 p List.mem_cons_self
   rw [rdsR_put hself] at hkp2
   refine ⟨⟨hn5,fun q hq => ?_⟩,next ⟨fun b hb => ?_,(fun t ht => h4 t fun e => a3 t e ht),hn5⟩ h6⟩
   ·have e := h5 q (List.mem_cons_of_mem _ hq)
    rw [rdsR_put (((hdn q hq).2.2 p List.mem_cons_self).2.2 i (hdn q hq).1 hpf (hdn q hq).2.1 hA)] at e
    refine keptL_mk fun b hb => ?_
    have := keptL_get e b hb
    rwa [put_h,put_h] at this
   ·have := keptL_get hkp2 b hb
    rwa [put_h,put_h] at this
end
def orderR (ops : Array Oper) (qs : List Nat) (F : List (Nat × List Nat)) : List Nat → List Nat → Bool
 | _,[] => true
 | pre,q :: l => edgesOK ops pre q && selfOK ops q && l.all (fun r => pairR ops qs F q r) && orderR ops qs F (q :: pre) l
def drawnR (ops : Array Oper) (qs : List Nat) (F : List (Nat × List Nat)) (order : List Nat) : Bool := orderR ops qs F [] order && (List.range ops.size).all (fun j => order.contains j)
section
variable {P : Program} {T : TT} {K : LS → Prop}
theorem orderR_spec {ops : Array Oper} {qs : List Nat} {F : List (Nat × List Nat)} : ∀ {l pre : List Nat},orderR ops qs F pre l = true → l.Pairwise (PairR ops qs F) ∧ (∀ q ∈ l,known ops q ∧ (∀ d,(opAt ops q).dst = some d → d ∉ (opAt ops q).looksAt ops)) ∧
  ∀ l1 q l2,l = l1 ++ q :: l2 → ∃ o,ops[q]? = some o ∧ ∀ e ∈ o.after,Region.binds .any e = true → e.on ∈ pre ∨ e.on ∈ l1
 | [],pre,_ => ⟨.nil,fun q hq => (by cases hq),fun l1 q l2 h => (by cases l1 <;> cases h)⟩
 | r :: l,pre,h => by
  simp only [orderR,Bool.and_eq_true] at h
  obtain ⟨⟨⟨h1,h2⟩,h3⟩,h4⟩ := h
  obtain ⟨k1,k2,k3⟩ := orderR_spec h4
  refine ⟨List.pairwise_cons.2 ⟨fun q hq => pairR_spec (List.all_eq_true.1 h3 q hq),k1⟩,fun q hq => ?_,fun l1 q l2 e => ?_⟩
  ·rcases List.mem_cons.1 hq with rfl | hq
   ·exact selfOK_spec h2
   ·exact k2 q hq
  ·cases l1 with
   | nil =>
    cases e
    unfold edgesOK at h1
    split at h1
    ·rename_i o ho
     refine ⟨o,ho,fun e he hb => .inl ?_⟩
     have := Array.all_eq_true_iff_forall_mem.1 h1 e he
     simpa [hb] using this
    ·cases h1
   | cons x l1 =>
    cases e
    obtain ⟨o,ho,h5⟩ := k3 l1 q l2 rfl
    refine ⟨o,ho,fun e he hb => ?_⟩
    rcases h5 e he hb with h | h
    ·rcases List.mem_cons.1 h with h | h
     ·exact .inr (by rw [h]; exact List.mem_cons_self)
     ·exact .inl h
    ·exact .inr (List.mem_cons_of_mem _ h)
theorem anyR_sound (hT : TOK P T) {ops : Array Oper} {bs : List Nat} {qs : List Nat} {F : List (Nat × List Nat)} {order : List Nat} (hd : drawnR ops qs F order = true) {c0 : Ctx} {w0 : World} {Q : Exit → Act → World → Prop} (hQ : ∀ a' w',Post K c0 w0 a' w' → Q .normal a' w') :
  ∀ (fuel : Nat) (listed : Array Bool) {s : LS} {c : Ctx} {a : Act} {w : World},listed.size = ops.size → Closed ops listed → (unlO order listed).length = fuel → Ext c0 w0 c w → St c s a w →
  lopsR (fun _ => P) (fun _ => T) ops bs qs F (unlO order listed) s K → wpAny P .any ops Q fuel listed a w := by
 simp only [drawnR,Bool.and_eq_true,List.all_eq_true,List.mem_range] at hd
 obtain ⟨hpw,hkn,hed⟩ := orderR_spec hd.1
 have hall : ∀ j,j < ops.size → j ∈ order := fun j hj => by simpa using hd.2 j hj
 have mem_unl : ∀ {listed : Array Bool} {j : Nat},j ∈ unlO order listed ↔ j ∈ order ∧ listed.getD j true = false := by
  intro listed j
  simp [unlO,List.mem_filter]
 have at_ : ∀ {j o},ops[j]? = some o → opAt ops j = o := by
  intro j o ho
  simp [opAt,ho]
 have hlt_ : ∀ {listed : Array Bool} {j : Nat},listed.size = ops.size → listed.getD j true = false → j < ops.size := by
  intro listed j hsz h
  rcases Nat.lt_or_ge j ops.size with h1 | h1
  ·exact h1
  ·rw [Array.getD_eq_getD_getElem?,Array.getElem?_eq_none (by omega)] at h; cases h
 intro fuel
 induction fuel with
 | zero =>
  intro listed s c a w hsz hcl hlen he hs h
  have h0 : unlO order listed = [] := List.eq_nil_of_length_eq_zero hlen
  refine ⟨List.eq_nil_iff_forall_not_mem.2 fun j hj => ?_,?_⟩
  ·obtain ⟨h1,o,h2,_⟩ := mem_ready.1 hj
   have : j ∈ unlO order listed := mem_unl.2 ⟨hall j (Array.getElem?_eq_some_iff.1 h2).1,h1⟩
   rw [h0] at this; cases this
  ·rw [h0] at h
   exact hQ _ _ ⟨c,s,h,hs,he⟩
 | succ fuel ih =>
  intro listed s c a w hsz hcl hlen he hs h
  refine ⟨fun hr => ?_,fun i hi => ?_⟩
  ·exfalso
   cases hu : unlO order listed with
   | nil => rw [hu] at hlen; cases hlen
   | cons i0 rest =>
    obtain ⟨l1,l2,e1,e2,e3,e4⟩ := List.filter_eq_cons_iff.1 hu
    have hun : listed.getD i0 true = false := by simpa using e3
    obtain ⟨o,ho,h5⟩ := hed l1 i0 l2 e1
    have : i0 ∈ Region.ready .any ops listed := by
     refine mem_ready.2 ⟨hun,o,ho,fun e hee hb => ?_⟩
     rcases h5 e hee hb with h6 | h6
     ·cases h6
     ·have h7 := e2 _ h6
      have h8 : listed.getD e.on true = true := by simpa using h7
      rcases Nat.lt_or_ge e.on listed.size with h9 | h9
      ·rw [getD_tf h9 false true]; exact h8
      ·exfalso
       obtain ⟨m1,m2,hm⟩ := List.append_of_mem h6
       obtain ⟨o2,ho2,_⟩ := hed m1 e.on (m2 ++ i0 :: l2) (by rw [e1,hm]; simp)
       have := (Array.getElem?_eq_some_iff.1 ho2).1
       omega
    rw [hr] at this; cases this
  ·obtain ⟨hun,o,ho,haft⟩ := mem_ready.1 hi
   have hlt : i < ops.size := (Array.getElem?_eq_some_iff.1 ho).1
   have hiu : i ∈ unlO order listed := mem_unl.2 ⟨hall i hlt,hun⟩
   obtain ⟨l1,l2,hl⟩ := List.append_of_mem hiu
   have hpu : (unlO order listed).Pairwise (PairR ops qs F) := hpw.filter _
   have hku : ∀ q ∈ unlO order listed,known ops q ∧ (∀ d,(opAt ops q).dst = some d → d ∉ (opAt ops q).looksAt ops) := fun q hq => hkn q (mem_unl.1 hq).1
   rw [hl] at hpu hku h
   rw [List.pairwise_append] at hpu
   obtain ⟨hp1,hp2,hp3⟩ := hpu
   rw [List.pairwise_cons] at hp2
   have hrest : unlO order (listed.setIfInBounds i true) = l1 ++ l2 := by
    have e1 : unlO order (listed.setIfInBounds i true) = (unlO order listed).filter (· != i) := by
     unfold unlO
     rw [List.filter_filter]
     refine List.filter_congr fun j hj => ?_
     by_cases e : i = j
     ·subst e
      rw [Array.getD_eq_getD_getElem?,Array.getElem?_setIfInBounds_self_of_lt (by omega)]
      simp
     ·rw [getD_set_ne _ e]
      have : (j != i) = true := by simp; omega
      rw [this]; simp
    rw [e1,hl,List.filter_append,List.filter_cons_of_neg (by simp)]
    congr 1
    ·rw [List.filter_eq_self]
     intro p hp
     have := (hp3 p hp i List.mem_cons_self).1
     simpa using this
    ·rw [List.filter_eq_self]
     intro p hp
     have := (hp2.1 p hp).1
     have : p ≠ i := fun e => this e.symm
     simpa using this
   have hf := frontR (ops := ops) (bs := bs) (F := F) (i := i) (l2 := l2) (hku i (by simp)).1 l1 [] (fun p hp => hku p (by simp [hp])) (fun p hp => ⟨hp3 p hp i List.mem_cons_self,by
    cases e : reach ops ops.size p i with
    | false => rfl
    | true =>
     exfalso
     have h1 := reach_listed hcl _ i o ho e haft
     have hpm : p ∈ unlO order listed := by rw [hl]; simp [hp]
     have h2 := (mem_unl.1 hpm).2
     rw [getD_tf (by rw [hsz]; exact hlt_ hsz h2) true false,h1] at h2; cases h2⟩) hp1 (fun p hp => (by cases hp)) h
   rw [← hrest] at hf
   have hsz' : (listed.setIfInBounds i true).size = ops.size := by simp [hsz]
   have hcl' : Closed ops (listed.setIfInBounds i true) := by
    intro q oq hoq hq e hee hb
    by_cases hqi : i = q
    ·subst hqi
     rw [ho] at hoq; cases hoq
     exact getD_set_true (haft e hee hb)
    ·rw [getD_set_ne _ hqi] at hq
     exact getD_set_true (hcl q oq hoq hq e hee hb)
   have hlen' : (unlO order (listed.setIfInBounds i true)).length = fuel := by
    rw [hrest]
    rw [hl] at hlen
    simp at hlen ⊢; omega
   have hgo : ∀ (R : LS → Prop),stepL (fun _ => P) (fun _ => T) ops.toList o s R → (∀ s1,R s1 → lopsR (fun _ => P) (fun _ => T) ops bs qs F (unlO order (listed.setIfInBounds i true)) s1 K) → wpOp P ops Q i (fun a' w' => wpAny P .any ops Q fuel (listed.setIfInBounds i true) a' w') a w := by
    intro R hf hR
    unfold wpOp
    rw [ho]
    dsimp only
    unfold stepL at hf
    split at hf
    ·rename_i cb hy
     have hw := yes_sound hs hy
     cases cb with
     | true =>
      rw [if_pos hw]
      left
      refine Oper.wp_mono (fun a' w' hp => ?_) (lop_sound (Q := Q) hT hs hf)
      obtain ⟨c',s',hK,hs',he'⟩ := hp
      exact ih _ hsz' hcl' hlen' (he.trans he') hs' (hR _ hK)
     | false =>
      rw [if_neg (by rw [hw]; simp)]
      exact ih _ hsz' hcl' hlen' he (hs.put .nul _) (hR _ hf)
    ·exact hf.elim
   cases hcA : cA ops qs i with
   | true =>
    obtain ⟨u,h1,_,h3⟩ := headR_x (hf.1 hcA)
    rw [at_ ho] at h1 h3
    rcases h3 s ⟨fun _ _ => rfl,fun _ _ => rfl,Nat.le_refl _⟩ with h3 | h3
    ·refine hgo _ (h3 (fun s1 => s1 = s.put o.dst u) rfl) fun s1 e => ?_
     rw [e]; exact h1
    ·unfold wpOp
     rw [ho]
     dsimp only
     rw [if_pos (yes_sound hs h3.1)]
     left
     refine Oper.wp_mono (fun a' w' hp => ?_) (row_sound (Q := Q) hT hs h3.2)
     obtain ⟨c',s',hK,hs',he'⟩ := hp
     subst hK
     exact ih _ hsz' hcl' hlen' (he.trans he') hs' h1
   | false =>
    have h3 := hf.2 hcA
    rw [at_ ho] at h3
    exact hgo _ h3 fun s1 h => h.2
theorem read_sound (hT : TOK P T) (hm : P.follows .mixedOrders = true) (bs : List Nat) (qs : List Nat) (F : List (Nat × List Nat)) (order : List Nat) {ops : Unit → Array Oper} {s : LS} (hd : drawnR (ops ()) qs F order = true) (h : lopsR (fun _ => P) (fun _ => T) (ops ()) bs qs F order s K) : DrawF (fun _ => P) ops s K := by
 refine .mk fun c a w t Q hs hQ => ?_
 generalize ops () = ops at *
 simp only [Region.schedule,hm,Bool.true_or,if_true]
 have hget : ∀ i,(Array.replicate ops.size false).getD i false = false := by
  intro i
  rw [Array.getD_eq_getD_getElem?,Array.getElem?_replicate]
  split <;> rfl
 have hd' := hd
 simp only [drawnR,Bool.and_eq_true] at hd'
 obtain ⟨hpw,_,hed⟩ := orderR_spec hd'.1
 have hlt : ∀ j ∈ order,j < ops.size := fun j hj => by
  obtain ⟨l1,l2,e⟩ := List.append_of_mem hj
  obtain ⟨o,ho,_⟩ := hed l1 j l2 e
  exact (Array.getElem?_eq_some_iff.1 ho).1
 have hun : unlO order (Array.replicate ops.size false) = order := by
  unfold unlO
  rw [List.filter_eq_self]
  intro j hj
  have := hlt j hj
  rw [Array.getD_eq_getD_getElem?,Array.getElem?_replicate,if_pos this]; rfl
 have hnd : order.Nodup := hpw.imp fun h => h.1
 have hlen : order.length = ops.size := by
  have h1 : order.Perm (List.range ops.size) := by
   rw [List.perm_ext_iff_of_nodup hnd List.nodup_range]
   intro j
   rw [List.mem_range]
   exact ⟨hlt j,fun hj => by have := List.all_eq_true.1 hd'.2 j (List.mem_range.2 hj); simpa using this⟩
  simpa using h1.length_eq
 refine wpAny_sound ops.size t _ a w (anyR_sound (K := K) (bs := bs) hT hd (c0 := c) (w0 := w) (fun a' w' hp => hQ a' w' ?_) ops.size _ (by simp) ?_ (by rw [hun]; exact hlen) (Ext.refl hs.hr) hs ?_)
 ·obtain ⟨c',s',hK,hs',he⟩ := hp
  exact ⟨c',s',hK,hs',he⟩
 ·intro q o _ hq
  rw [hget] at hq; cases hq
 ·rw [hun]; exact h
end
theorem re_same {n : Nat} {t : List LV} {h1 h : LH} (he : ∀ b B,hget h b = some B → hget h1 b = some B) : Re n ⟨t,h1,n⟩ ⟨t,h,n⟩ := by
 refine .mk fun c w c2 a w' hN hx hs => ⟨c2,hx,⟨hs.tl,hs.tr,hs.df,⟨fun b B hb => hs.hr.live b B (he b B hb),hs.hr.fresh,hs.hr.inj,hs.hr.noX,hs.hr.ltX,hs.hr.lt⟩,hs.nn⟩⟩
theorem renH_some {ρ : List (Nat × Nat)} {n0 n : Nat} : ∀ {h0 : LH} {a b : Nat} {A : LB},hget h0 a = some A → rn ρ n0 n a = some b → ∃ B,hget (renH ρ n0 n h0) b = some B
 | [],_,_,_,h,_ => by cases h
 | (d,D) :: h0,a,b,A,h,hr => by
  rw [hget_cons] at h
  rw [renH]
  by_cases e : d = a
  ·subst e
   rw [hr]
   exact ⟨_,by rw [hget_cons,if_pos rfl]⟩
  ·rw [if_neg e] at h
   obtain ⟨B,hB⟩ := renH_some h hr
   cases hd : rn ρ n0 n d with
   | none => exact ⟨B,hB⟩
   | some d' =>
    dsimp only
    rw [hget_cons]
    by_cases e2 : d' = b
    ·rw [if_pos e2]; exact ⟨_,rfl⟩
    ·rw [if_neg e2]; exact ⟨B,hB⟩
theorem hdels_not : ∀ (ρ : List (Nat × Nat)) (h : LH) (b : Nat),nback ρ b = none → hget (hdels ρ h) b = hget h b
 | [],_,_,_ => rfl
 | (x,y) :: ρ,h,b,hn => by
  rw [nback_cons] at hn
  split at hn
  ·cases hn
  ·rename_i e
   rw [hdels,hget_del,if_neg (fun q => e q.symm)]
   exact hdels_not ρ h b hn
theorem nback_mem : ∀ {ρ : List (Nat × Nat)} {a b : Nat},nback ρ b = some a → (a,b) ∈ ρ
 | [],_,_,h => by cases h
 | (x,y) :: ρ,a,b,h => by
  rw [nback_cons] at h
  split at h
  ·rename_i e
   cases h
   subst e
   exact List.mem_cons_self
  ·exact List.mem_cons_of_mem _ (nback_mem h)
theorem frameH_same {ρ : List (Nat × Nat)} {n0 n : Nat} {h h0 : LH} (hF : fok n0 n ρ = true) (hm : hmapOk ρ n0 n h h0) (hall : ρ.all (fun p => (hget h0 p.1).isSome) = true) : ∀ b B,hget h b = some B → hget (frameH ρ n0 n h h0) b = some B := by
 intro b B hb
 have hF' := fok_ok hF
 unfold frameH
 rw [hget_happ]
 cases e : hget (renH ρ n0 n h0) b with
 | some B' =>
  dsimp only
  obtain ⟨a,A,k1,k2,k3⟩ := hget_renH hF' h0 b B' e
  obtain ⟨b',g1,g2,_⟩ := hmapOk_get hm a A k2
  have : rn ρ n0 n a = some b' := by unfold rn; rw [g1]
  obtain rfl : b' = b := Option.some.inj (this.symm.trans k1)
  rw [k3]
  exact g2.symm.trans hb
 | none =>
  dsimp only
  cases en : nback ρ b with
  | none => rw [hdels_not ρ h b en]; exact hb
  | some a =>
   have hab := nback_mem en
   have := List.all_eq_true.1 hall _ hab
   obtain ⟨A,hA⟩ := Option.isSome_iff_exists.1 this
   obtain ⟨b',g1,_,_⟩ := hmapOk_get hm a A hA
   have hr : rn ρ n0 n a = some b := by
    unfold rn
    rw [(hF'.iff a b).2 en]
   obtain ⟨B',hB'⟩ := renH_some hA hr
   rw [e] at hB'; cases hB'
theorem callF_read {P : Unit → Program} {f : Nat} {args0 args : List LV} {h0 h : LH} {n0 n : Nat} {u0 u : LV} (hc : CallF P f args0 h0 n0 fun r h1 n1 => r = u0 ∧ h1 = h0 ∧ n1 = n0) (ρ : List (Nat × Nat)) (hF : fok n0 n ρ = true) (hm : hmapOk ρ n0 n h h0) (ha : args = renVs ρ n0 n args0) (hok : okVs ρ args0 = true) (hu : u = renV ρ n0 n u0) (hall : ρ.all (fun p => (hget h0 p.1).isSome) = true) : CallF P f args h n fun r h2 n2 => r = u ∧ h2 = h ∧ n2 = n := by
 refine CallF.ret (callF_frame (K := fun r h1 n1 => r = u ∧ h1 = frameH ρ n0 n h h0 ∧ n1 = n) hc ρ hF hm ha hok (fun r h' n' ⟨e1,e2,e3⟩ => ?_)) (fun r h' n' ⟨e1,e2,e3⟩ => ?_)
 ·subst e1 e2 e3
  exact ⟨hu.symm,rfl,by omega⟩
 ·subst e1 e2 e3
  exact .mk [r] h n' (re_same (frameH_same hF hm hall)) rfl ⟨rfl,rfl,rfl⟩
end Go.LX
