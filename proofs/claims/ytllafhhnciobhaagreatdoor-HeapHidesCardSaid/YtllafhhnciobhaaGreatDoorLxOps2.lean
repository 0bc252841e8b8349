/-
  Each operation does in the model what the calculus says of it: those on blocks, and what is made.
-/
import Derived.Test.YtllafhhnciobhaaGreatDoorLxMem
import Derived.Laws.BytesString
import Derived.Laws.RangeAny
import Derived.Laws.OwnMore
namespace Go.LX
open Go

section
variable {P : Program} {T : TT} {o : Oper} {s : LS} {K : LS → Prop} {c : Ctx} {a : Act} {w w' : World} {Q : Exit → Act → World → Prop}

theorem runv {sm : Sem Value} {x : Value} (h : sm.run P w = .ok x w') : ((do pure (Next.value (← sm))) : Sem Next).run P w = .ok (.value x) w' := by
  rw [Sem.run_bind, h]; rfl
theorem runu {sm : Sem Unit} (h : sm.run P w = .ok () w') : ((do sm; pure Next.skip) : Sem Next).run P w = .ok .skip w' := by
  rw [Sem.run_bind, h]; rfl
theorem BR.of {cs : List LV} {xs : Array Value} {r : Nat} {ty : TypeId} (hg : w.heap[r]? = some (.cells xs ty (0, 0))) (hrel : Rel2 c w cs xs.toList) : BR c w (LB.of cs) (some r) := by
  unfold LB.of
  have hl : cs.length = xs.size := by simpa using hrel.1
  cases e : allP cs with
  | none =>
    exact ⟨xs, ty, hg, Nat.le_of_eq hl, hrel.getD.2⟩
  | some us =>
    have e2 := allP_eq cs e
    subst e2
    rw [pvs_length] at hl
    refine ⟨xs, ty, hg, Nat.le_of_eq hl, fun j u hu => ?_⟩
    have := hrel.getD.2 j (.p u) (by rw [pvs_get, hu]; rfl)
    cases this with | p _ _ h => exact h
theorem Rel2.ext {h : LH} {c' : Ctx} {cs : List LV} {xs : List Value} (hr : HR c w h) (he : Ext c w c' w') (hrel : Rel2 c w cs xs) : Rel2 c' w' cs xs :=
  ⟨hrel.1, fun j u hu => let ⟨x, h1, h2⟩ := hrel.2 j u hu; ⟨x, h1, h2.ext hr.fresh he⟩⟩
theorem HR.newB {h : LH} {cs : List LV} {xs : Array Value} (ty : TypeId) (hr : HR c w h) (hrel : Rel2 c w cs xs.toList) :
    HR (c.grow (some w.heap.size)) (w.alloc (.cells xs ty)) ((c.N, LB.of cs) :: h) :=
  hr.alloc _ _ (BR.of (heap_alloc_new w _) (hrel.ext hr (Ext.alloc hr _)))
theorem allP_pvs : ∀ l : List PV, allP (pvs l) = some l
  | [] => rfl
  | v :: l => by simp [pvs, allP, allP_pvs l]
theorem of_pvs (l : List PV) : LB.of (pvs l) = .pure false l := by unfold LB.of; rw [allP_pvs]

/-- An operation that makes a block. -/
theorem op_new {cs : List LV} {xs : Array Value} {ty : TypeId} {v : Value} {u : LV} (hs : St c s a w) (hrel : Rel2 c w cs xs.toList) (hr : (execOp a.eval o).run P w = .ok (.value v) (w.alloc (.cells xs ty)))
    (hu : LR (c.grow (some w.heap.size)) (w.alloc (.cells xs ty)) u v) (hK : K ((s.new (LB.of cs)).put o.dst u)) : o.wp P a w (Post K c w) Q :=
  op_world hs hr (Ext.alloc hs.hr _) (hs.hr.newB ty hrel) (show c.N + 1 = s.n + 1 by rw [hs.nn]) hu (by rw [hs.nn]; exact hK)

theorem lop_alloc (hT : TOK P T) {t : TypeId} {ti : TI} (ht : lget T t = some ti) (ho : o.op = .alloc t) (hs : St c s a w) (hK : K ((s.new (.pure false ti.zero)).put o.dst (.ptr s.n (.lit 0)))) : o.wp P a w (Post K c w) Q := by
  obtain ⟨z, hz, hrel⟩ := tok_zero (c := c) (w := w) (hT t ti ht)
  refine op_new hs (cs := pvs ti.zero) (xs := z.cells) (ty := t) (v := .pointer (some ⟨w.heap.size, 0, none⟩)) hrel ?_ ?_ (by rw [of_pvs]; exact hK)
  · unfold execOp; rw [ho]
    refine runv ?_
    unfold Instr.alloc
    rw [Sem.run_bind, hz]
    simp [newVar, newRow]
  · rw [← hs.nn]; exact .ptr _ _ _ 0 (grow_new c _) rfl
theorem lop_allocB (hT : TOK P T) {t : TypeId} {ti : TI} {l : List PV} (ht : lget T t = some ti) (hz : ti.zero = .nilp :: l) (ho : o.op = .alloc t) (hs : St c s a w) (hK : K ((s.new (.bld t (pvs l))).put o.dst (.ptr s.n (.lit 0)))) : o.wp P a w (Post K c w) Q := by
  obtain ⟨z, hz2, hrel⟩ := tok_zero (c := c) (w := w) (hT t ti ht)
  have hr : (execOp a.eval o).run P w = .ok (.value (.pointer (some ⟨w.heap.size, 0, none⟩))) (w.alloc (.cells z.cells t)) := by
    unfold execOp; rw [ho]
    refine runv ?_
    unfold Instr.alloc
    rw [Sem.run_bind, hz2]
    simp [newVar, newRow]
  rw [hz] at hrel
  have hrel := hrel.ext hs.hr (Ext.alloc hs.hr (.cells z.cells t))
  have hBR : BR (c.grow (some w.heap.size)) (w.alloc (.cells z.cells t)) (.bld t (pvs l)) (some w.heap.size) := by
    have hsz := hrel.1
    rw [pvs_length, List.length_cons, Array.length_toList] at hsz
    refine ⟨z.cells, heap_alloc_new w _, by rw [pvs_length]; exact hsz.symm, .inl ?_, fun j u hu => ?_⟩
    · obtain ⟨x, h1, h2⟩ := hrel.2 0 (.p .nilp) rfl
      rw [Array.getElem?_toList] at h1
      rw [Array.getD_eq_getD_getElem?, h1]
      cases h2 with | p _ _ hp => cases hp; rfl
    · obtain ⟨x, h1, h2⟩ := hrel.2 (j + 1) u hu
      rw [Array.getElem?_toList] at h1
      rw [Array.getD_eq_getD_getElem?, h1]
      exact h2
  refine op_world hs hr (Ext.alloc hs.hr _) (hs.hr.alloc _ _ hBR) (show c.N + 1 = s.n + 1 by rw [hs.nn]) (u := .ptr s.n (.lit 0)) ?_ (by rw [hs.nn]; exact hK)
  rw [← hs.nn]; exact .ptr _ _ _ 0 (grow_new c _) rfl
theorem lop_box {t : TypeId} {x : Operand} (ho : o.op = .box t x) (hs : St c s a w) (hok : allOk (cellsL (ev s x)) = true) (hK : K ((s.new (LB.of (cellsL (ev s x)))).put o.dst (.ptr s.n (.lit 0)))) : o.wp P a w (Post K c w) Q := by
  refine op_new hs (cs := cellsL (ev s x)) (xs := (a.eval x).cells) (ty := t) (v := .pointer (some ⟨w.heap.size, 0, none⟩)) (cells_rel (hs.ev x) hok) ?_ ?_ hK
  · unfold execOp; rw [ho]
    refine runv ?_
    simp [Instr.box, newVar, newRow]
  · rw [← hs.nn]; exact .ptr _ _ _ 0 (grow_new c _) rfl

/-! ### Structs, arrays, and rows written out -/
theorem zip_over (us : List Value) (off : Nat) : ∀ (cells : Array Value) (k : Nat), off + k + us.length ≤ cells.size →
    ((us.zipIdx k).foldl (fun cs (x : Value × Nat) => cs.setIfInBounds (off + x.2) x.1) cells).toList = over cells.toList (off + k) us := by
  induction us with
  | nil => intro cells k h; simp [over]
  | cons u us ih =>
    intro cells k h
    rw [List.zipIdx_cons, List.foldl_cons, ih _ (k + 1) (by simp at h ⊢; omega)]
    simp only [Array.toList_setIfInBounds]
    rw [show off + (k + 1) = off + k + 1 by omega, set_over _ _ _ _ (by simp at h ⊢; omega)]
theorem fill_sound {pl : Nat → Option (Nat × Nat)} {k : TK} (hp : ∀ i off sz, place T k i = some (off, sz) → pl i = some (off, sz)) : ∀ (ps : List (Nat × LV)) (qs : List (Nat × Value)) (cells : List LV) (arr : Array Value) {cs : List LV},
    ps.length = qs.length → (∀ (j : Nat) (p : Nat × LV), ps[j]? = some p → ∃ x, qs[j]? = some (p.1, x) ∧ LR c w p.2 x) → Rel2 c w cells arr.toList → fillL T k cells ps = some cs → ∃ arr', Instr.fill pl arr qs = some arr' ∧ Rel2 c w cs arr'.toList ∧ arr'.size = arr.size
  | [], qs, cells, arr, cs, hl, _, hrel, h => by
    cases qs with
    | nil => cases h; exact ⟨arr, rfl, hrel, rfl⟩
    | cons q qs => simp at hl
  | (i, v) :: ps, qs, cells, arr, cs, hl, hq, hrel, h => by
    cases qs with
    | nil => simp at hl
    | cons q qs =>
      obtain ⟨x, h1, h2⟩ := hq 0 (i, v) rfl
      simp at h1; subst h1
      rw [fillL] at h
      cases e : place T k i with
      | none => rw [e] at h; cases h
      | some os =>
        obtain ⟨off, sz⟩ := os
        rw [e] at h
        dsimp only at h
        split at h
        · rename_i e1 e2 e3
          cases e4 : putM cells off (cellsL v) with
          | none => rw [e4] at h; cases h
          | some cells' =>
            rw [e4] at h
            dsimp only at h
            have hsz : (cellsL v).length = sz := by rw [← llen_eq]; exact Nat.eq_of_beq_eq_true e1
            have hpos : 1 ≤ sz := Nat.le_of_ble_eq_true e3
            have hcv := cells_rel h2 e2
            have hoff : off ≤ cells.length := by
              cases hc : cellsL v with
              | nil => rw [hc] at hsz; simp at hsz; omega
              | cons u us =>
                rw [hc, putM] at e4
                cases e5 : lsetO cells off u with
                | none => rw [e5] at e4; cases e4
                | some m => have := (lsetO_eq cells off u e5).1; omega
            obtain ⟨h5, h6⟩ := putM_eq _ cells off e4 hoff
            have hcl : (cellsL v).length = x.cells.size := by simpa using hcv.1
            have hcells : cells.length = arr.size := by simpa using hrel.1
            have hz := zip_over x.cells.toList off arr 0 (by rw [Array.length_toList]; omega)
            have hz' : (x.cells.zipIdx.foldl (fun cs (y : Value × Nat) => cs.setIfInBounds (off + y.2) y.1) arr).toList = over arr.toList off x.cells.toList := by
              rw [← Array.foldl_toList, Array.toList_zipIdx]; exact hz
            refine (fun hh => ?_) (fill_sound hp ps qs cells' (x.cells.zipIdx.foldl (fun cs (y : Value × Nat) => cs.setIfInBounds (off + y.2) y.1) arr) (by simpa using hl) (fun j p hj => by obtain ⟨y, h7, h8⟩ := hq (j + 1) p (by simpa using hj); exact ⟨y, by simpa using h7, h8⟩) ?_ h)
            · obtain ⟨arr', h7, h8, h10⟩ := hh
              have h11 := congrArg List.length hz'
              rw [over_length _ _ _ (by simp; omega), Array.length_toList, Array.length_toList] at h11
              refine ⟨arr', ?_, h8, h10.trans h11⟩
              rw [Instr.fill, hp i off sz e]
              dsimp only
              have h9 : (decide (x.cells.size ≠ sz) || decide (off + x.cells.size > arr.size)) = false := by
                simp; omega
              simp only [h9]
              exact h7
            · rw [hz', h6]
              refine ⟨by rw [over_length _ _ _ h5, over_length _ _ _ (by simp; omega)]; exact hrel.1, fun j u hu => ?_⟩
              rw [over_get _ _ _ h5] at hu
              rw [over_get _ _ _ (by simp; omega)]
              have hxl : x.cells.toList.length = (cellsL v).length := hcv.1.symm
              rw [hxl]
              by_cases g1 : j < off
              · rw [if_pos g1] at hu ⊢; exact hrel.2 j u hu
              · rw [if_neg g1] at hu ⊢
                by_cases g2 : j < off + (cellsL v).length
                · rw [if_pos g2] at hu ⊢; exact hcv.2 _ u hu
                · rw [if_neg g2] at hu ⊢; exact hrel.2 j u hu
        · cases h
theorem evs_rel (hs : St c s a w) : ∀ (ps : List (Nat × Operand)), (evs s ps).length = (ps.map fun (i, x) => (i, a.eval x)).length ∧ ∀ (j : Nat) (p : Nat × LV), (evs s ps)[j]? = some p → ∃ x, (ps.map fun (i, x) => (i, a.eval x))[j]? = some (p.1, x) ∧ LR c w p.2 x
  | [] => ⟨rfl, fun j p h => by simp [evs] at h⟩
  | (i, x) :: ps => by
    obtain ⟨h1, h2⟩ := evs_rel hs ps
    refine ⟨by simp [evs] at h1 ⊢; exact h1, fun j p h => ?_⟩
    cases j with
    | zero => simp [evs] at h; subst h; exact ⟨_, rfl, hs.ev x⟩
    | succ j => simp [evs] at h; obtain ⟨y, h3, h4⟩ := h2 j p h; exact ⟨y, by simpa using h3, h4⟩
end
end Go.LX
/-
  Each operation does in the model what the calculus says of it: structs, rows, loads, stores, addresses.
-/
namespace Go.LX
open Go

section
variable {P : Program} {T : TT} {o : Oper} {s : LS} {K : LS → Prop} {c : Ctx} {a : Act} {w w' : World} {Q : Exit → Act → World → Prop}

theorem zero_cells {t : Nat} {ti : TI} (hT : TIok P t ti) : ∃ z, (∀ w, (zeroValue t).run P w = .ok z w) ∧ z.cells.toList = ti.zero.map PV.toV ∧ ∀ c w, Rel2 c w (pvs ti.zero) z.cells.toList := by
  obtain ⟨⟨i, z, d, hi, _, _, hz, hc, _⟩, hzs⟩ := hT
  exact ⟨z, fun w => by simp [zeroValue, typeInfo, hi, hz], hc, fun c w => by rw [hc]; exact zero_rel c w _ hzs⟩

theorem mapM_get {α β : Type} (f : α → Option β) : ∀ (l : List α) {m : List β}, l.mapM f = some m → ∀ (i : Nat) (x : α), l[i]? = some x → ∃ y, f x = some y ∧ m[i]? = some y
  | [], m, h, i, x, hx => by simp at hx
  | z :: l, m, h, i, x, hx => by
    simp only [List.mapM_cons, Option.bind_eq_bind, Option.pure_def] at h
    cases e1 : f z with
    | none => simp [e1] at h
    | some y =>
      cases e2 : l.mapM f with
      | none => simp [e1, e2] at h
      | some ys =>
        simp [e1, e2] at h
        subst h
        cases i with
        | zero => simp at hx; subst hx; exact ⟨y, e1, rfl⟩
        | succ i => simp at hx; obtain ⟨z', h1, h2⟩ := mapM_get f l e2 i x hx; exact ⟨z', h1, by simpa using h2⟩
theorem lop_build (hT : TOK P T) {t : TypeId} {parts : Array (Nat × Operand)} {ti : TI} {cs : List LV} (ht : lget T t = some ti) (hk : ti.kind.agg = true) (ho : o.op = .build t parts) (hs : St c s a w)
    (hf : fillL T ti.kind (pvs ti.zero) (evs s parts.toList) = some cs) (hK : K (s.put o.dst (.agg cs))) : o.wp P a w (Post K c w) Q := by
  obtain ⟨hl, hq⟩ := evs_rel hs parts.toList
  obtain ⟨⟨i, z, d, hi, hsz, _, hz, hzc, hu, hkd, _⟩, hzs⟩ := hT t ti ht
  have hzr : Rel2 c w (pvs ti.zero) z.cells.toList := by rw [hzc]; exact zero_rel c w _ hzs
  have hmap : (parts.map fun (i, x) => (i, a.eval x)).toList = parts.toList.map fun (i, x) => (i, a.eval x) := by simp
  have fin : ∀ {pl : Nat → Option (Nat × Nat)}, (∀ i off sz, place T ti.kind i = some (off, sz) → pl i = some (off, sz)) → (∀ arr', Instr.fill pl z.cells (parts.map fun (i, x) => (i, a.eval x)).toList = some arr' → P.built t (parts.map fun (i, x) => (i, a.eval x)).toList = some arr') →
      o.wp P a w (Post K c w) Q := by
    intro pl h1 h2
    obtain ⟨arr', h3, h4, _⟩ := fill_sound (c := c) (w := w) h1 _ _ _ z.cells hl hq hzr hf
    refine op_val hs (v := .agg arr') ?_ (.agg cs arr' h4.getD.1 h4.getD.2) hK
    unfold execOp; rw [ho]
    exact runv (run_build w t _ arr' (h2 arr' (by rw [hmap]; exact h3)))
  cases hkind : ti.kind with
  | struct fs =>
    rw [hkind] at hkd
    cases d <;> try exact hkd.elim
    rename_i fields
    obtain ⟨hfs, hpl⟩ := hkd
    obtain ⟨pls, hpl⟩ := Option.isSome_iff_exists.1 hpl
    refine fin (pl := fun i => pls.toArray[i]?) (fun i off sz hp => ?_) (fun arr' h => ?_)
    · rw [hkind] at hp
      simp only [place] at hp
      cases e : fs[i]? with
      | none => rw [e] at hp; cases hp
      | some p =>
        obtain ⟨off', ft⟩ := p
        rw [e] at hp
        dsimp only at hp
        cases e2 : lget T ft with
        | none => rw [e2] at hp; cases hp
        | some tf =>
          rw [e2] at hp
          cases hp
          rw [hfs, List.getElem?_map] at e
          cases e3 : fields.toList[i]? with
          | none => rw [e3] at e; cases e
          | some f =>
            rw [e3] at e
            cases e
            obtain ⟨y, h1, h2⟩ := mapM_get _ _ hpl i f e3
            obtain ⟨⟨i', _, _, hi', hsz', _⟩, _⟩ := hT _ tf e2
            rw [hi'] at h1
            cases h1
            rw [← hsz']
            simpa using h2
    · simp only [Program.built, hi, hu, hz, hpl]
      exact h
  | arr n e =>
    rw [hkind] at hkd
    cases d <;> try exact hkd.elim
    rename_i n' e'
    obtain ⟨rfl, rfl, hie⟩ := hkd
    obtain ⟨ie, hie⟩ := Option.isSome_iff_exists.1 hie
    refine fin (pl := fun i => some (i * ie.size, ie.size)) (fun i off sz hp => ?_) (fun arr' h => ?_)
    · rw [hkind] at hp
      simp only [place] at hp
      cases e2 : lget T e with
      | none => rw [e2] at hp; cases hp
      | some te =>
        rw [e2] at hp
        obtain ⟨⟨i', _, _, hi', hsz', _⟩, _⟩ := hT e te e2
        rw [hie] at hi'
        cases hi'
        rw [hsz']
        exact hp
    · simp only [Program.built, hi, hu, hz, hie]
      exact h
  | _ => rw [hkind] at hk; cases hk

theorem reps_rel (c : Ctx) (w : World) {z : List PV} {zs : Array Value} (h : Rel2 c w (pvs z) zs.toList) (hz : 0 < zs.size) (n : Nat) : Rel2 c w (reps z n) ((Array.range (n * zs.size)).map (zs[· % zs.size]!)).toList := by
  have hl : ∀ n, (reps z n).length = n * zs.size := by
    intro n
    induction n with
    | zero => simp [reps]
    | succ n ih => rw [reps, List.length_append, ih, h.1, Nat.succ_mul]; simp; omega
  have hg : ∀ n j, j < n * zs.size → (reps z n)[j]? = (pvs z)[j % zs.size]? := by
    intro n
    induction n with
    | zero => intro j hj; omega
    | succ n ih =>
      intro j hj
      have hzl : (pvs z).length = zs.size := by simpa using h.1
      rw [reps]
      by_cases h1 : j < zs.size
      · rw [List.getElem?_append_left (by omega), Nat.mod_eq_of_lt h1]
      · rw [List.getElem?_append_right (by omega), hzl, ih _ (by rw [Nat.succ_mul] at hj; omega)]
        congr 1
        rw [Nat.mod_eq_sub_mod (by omega : j ≥ zs.size)]
  refine ⟨by rw [hl]; simp, fun j u hu => ?_⟩
  have hj : j < n * zs.size := by rw [← hl n]; exact (List.getElem?_eq_some_iff.1 hu).1
  rw [hg n j hj] at hu
  obtain ⟨x, h1, h2⟩ := h.2 _ u hu
  refine ⟨x, ?_, h2⟩
  have hm : j % zs.size < zs.size := Nat.mod_lt _ hz
  simp only [Array.toList_map, Array.toList_range, List.getElem?_map, List.getElem?_range hj, Option.map_some]
  have h3 : zs[j % zs.size]? = some x := by simpa using h1
  rw [getElem!_def, h3]

theorem lop_buildSlice (hT : TOK P T) {t e len : Nat} {parts : Array (Nat × Operand)} {ti te : TI} {cs : List LV} (ht : lget T t = some ti) (hk : ti.kind = .slice e) (hte : lget T e = some te) (hlen : len * te.size ≤ 10000) (ho : o.op = .buildSlice t len parts) (hs : St c s a w)
    (hf : fillL T ti.kind (reps te.zero len) (evs s parts.toList) = some cs) (hzl : te.zero.length = te.size) (h1 : 1 ≤ te.size) (hK : K ((s.new (LB.of cs)).put o.dst (.sl s.n e te.size (.lit 0) (.lit len)))) : o.wp P a w (Post K c w) Q := by
  obtain ⟨z, hz, hzc, hzr⟩ := zero_cells (hT e te hte)
  obtain ⟨hl, hq⟩ := evs_rel hs parts.toList
  obtain ⟨⟨i, z', d, hi, hsz, _, hz', _, hu, hkd, _⟩, _⟩ := hT t ti ht
  rw [hk] at hkd hf
  cases d <;> try exact hkd.elim
  rename_i e'
  have hkd : e = e' := hkd
  subst hkd
  have hse := tok_size (w := w) (hT e te hte)
  have hzs : z.cells.size = te.size := by
    have : z.cells.toList.length = te.zero.length := by rw [hzc, List.length_map]
    rw [Array.length_toList] at this; omega
  have hpl2 : ∀ i off sz, place T (.slice e) i = some (off, sz) → (fun i => some (i * te.size, te.size)) i = some (off, sz) := by
    intro i off sz hp
    simp only [place, hte] at hp
    exact hp
  have hrel0 := reps_rel c w (hzr c w) (by omega) len
  rw [hzs] at hrel0
  obtain ⟨arr', h3, h4, h5⟩ := fill_sound (c := c) (w := w) hpl2 _ _ _ _ hl hq hrel0 hf
  have hlens : arr'.size = len * te.size := by rw [h5]; simp
  have hmap : (parts.map fun (i, x) => (i, a.eval x)).toList = parts.toList.map fun (i, x) => (i, a.eval x) := by simp
  have hrun : (execOp a.eval o).run P w = .ok (.value (.slice (some ⟨w.heap.size, 0, none⟩) len len)) (w.alloc (.cells arr' e)) := by
    unfold execOp; rw [ho]
    refine runv ?_
    have hbig : ¬ len * te.size > 2 ^ 24 := by omega
    by_cases h0 : len * te.size = 0
    · have e0 : (Array.range (len * te.size)).map (fun j => z.cells[j % te.size]!) = (#[] : Array Value) := by rw [h0]; simp
      rw [e0] at h3
      have e1 : (Array.map (fun _ => (default : Value)) (Array.range 0)) = (#[] : Array Value) := by simp
      have hmap2 : (List.map (fun x : Nat × Operand => (x.fst, a.eval x.snd)) parts.toList) = parts.toList.map fun (i, x) => (i, a.eval x) := rfl
      simp [Instr.buildSlice, run_underlying hu, hse, h0, newRow]
      rw [e1, hmap2, h3]
      simp
    · simp only at h3
      simp [Instr.buildSlice, run_underlying hu, hse, hbig, h0, hz, hzs, h3, newRow]
  refine op_new hs (u := .sl s.n e te.size (.lit 0) (.lit len)) h4 hrun ?_ hK
  rw [← hs.nn]
  refine .sl _ _ _ _ _ w.heap.size 0 len len (len * te.size) (grow_new c _) rfl rfl (Nat.le_refl _) ?_ ?_ (by omega)
  · unfold maxLen
    have : len ≤ len * te.size := Nat.le_mul_of_pos_right _ h1
    omega
  · rw [World.shape?, heap_alloc_new]
    simp only [hlens]

theorem lop_load (hT : TOK P T) {t : TypeId} {x : Operand} {ti : TI} (ht : lget T t = some ti) (ho : o.op = .load t x) (hs : St c s a w)
    (h : match ev s x with
      | .ptr b o' => match hget s.h b with
        | some B => loadB B o' ti fun v => K (s.put o.dst v)
        | none => False
      | .p (.vp sy l o') => getP sy l o' ti.size 0 fun vs => ofCells ti.kind vs fun v => K (s.put o.dst v)
      | _ => False) : o.wp P a w (Post K c w) Q := by
  have hx := hs.ev x
  have hrun : ∀ {ad v}, a.eval x = .pointer (some ad) → (loadVar t ad).run P w = .ok v w → (execOp a.eval o).run P w = .ok (.value v) w := by
    intro ad v h1 h2
    unfold execOp; rw [ho]
    refine runv ?_
    simp [Instr.loadAt, h1, Instr.sureAddr, h2]
  split at h
  · rename_i b o' hev
    rw [hev] at hx
    cases hB : hget s.h b with
    | none => rw [hB] at h; exact h.elim
    | some B =>
      rw [hB] at h
      obtain ⟨m, hm, hBR⟩ := hs.hr.live b B hB
      generalize hvx : a.eval x = vx at hx
      cases hx with
      | goneP _ _ _ hm' _ => rw [hm] at hm'; cases hm'
      | ptr _ _ r k hm' hk =>
        rw [hm] at hm'; cases hm'
        obtain ⟨u, v, h1, h2, h3⟩ := loadB_sound (hT t ti ht) hBR hk h
        exact op_val hs (hrun hvx h1) h2 h3
  · rename_i sy l o' hev
    rw [hev] at hx
    generalize hvx : a.eval x = vx at hx
    cases hx with
    | p _ _ hp =>
      cases hp with
      | vp _ _ _ ad k f hk hsp hM hlt hcell hrel =>
        obtain ⟨us, h1, h2, h3⟩ := getP_sound hk _ _ h
        have hr : Rel2 c w (pvs us) ((List.range ti.size).map fun i => f (k + i)) := by
          refine ⟨by rw [pvs_length, h1]; simp, fun j u hu => ?_⟩
          rw [pvs_get] at hu
          cases e : us[j]? with
          | none => rw [e] at hu; cases hu
          | some v =>
            rw [e] at hu; cases hu
            have hj : j < ti.size := by rw [← h1]; exact (List.getElem?_eq_some_iff.1 e).1
            have h4 := h2 j hj
            rw [e, Nat.add_zero] at h4
            exact ⟨f (k + j), by simp [hj], .p _ _ (hrel _ _ h4)⟩
        obtain ⟨u, v, h5, h6, h7⟩ := ofCells_sound (a := ad.add k) (hT t ti ht) hr (by rw [pvs_length, h1]) (fun j v hj => by
          simp only [List.getElem?_map] at hj
          by_cases hjl : j < ti.size
          · rw [List.getElem?_range hjl] at hj
            cases hj
            have h4 := h2 j hjl
            rw [List.getElem?_eq_getElem (show j < us.length by omega), Nat.add_zero] at h4
            rw [Addr.add_add]
            exact hcell _ _ h4
          · rw [List.getElem?_eq_none (by simp; omega)] at hj; cases hj) h3
        exact op_val hs (hrun hvx h5) h6 h7
  · exact h.elim

theorem lop_store (hT : TOK P T) {t : TypeId} {x y : Operand} {ti : TI} (ht : lget T t = some ti) (ho : o.op = .store t x y) (hs : St c s a w)
    (h : match ev s x with
      | .ptr b o' => match Nat.beq (llen (cellsL (ev s y))) ti.size, Nat.ble 1 ti.size with
        | true, true => match hget s.h b with
          | some B => storeB B o' (cellsL (ev s y)) fun B' => K ({ s with h := hset s.h b B' }.put o.dst .nul)
          | none => False
        | _, _ => False
      | _ => False) : o.wp P a w (Post K c w) Q := by
  have hx := hs.ev x
  split at h
  · rename_i b o' hev
    rw [hev] at hx
    split at h
    · rename_i e1 e2
      have e1 := Nat.eq_of_beq_eq_true e1
      have e2 := Nat.le_of_ble_eq_true e2
      rw [llen_eq] at e1
      cases hB : hget s.h b with
      | none => rw [hB] at h; exact h.elim
      | some B =>
        rw [hB] at h
        obtain ⟨m, hm, hBR⟩ := hs.hr.live b B hB
        generalize hvx : a.eval x = vx at hx
        cases hx with
        | goneP _ _ _ hm' _ => rw [hm] at hm'; cases hm'
        | ptr _ _ r k hm' hk =>
          rw [hm] at hm'; cases hm'
          have hok : allOk (cellsL (ev s y)) = true := by
            cases e : allOk (cellsL (ev s y)) with
            | true => rfl
            | false =>
              dsimp only at h
              unfold storeB at h
              rw [e] at h
              exact h.elim
          have hv := cells_rel (hs.ev y) hok
          obtain ⟨B', cur, ty, h1, hg, h3, _, h5, h6⟩ := storeB_sound hs.hr hB hm hBR hk hv (by omega) h
          refine op_skip hs (w' := w.setRow r (over cur.toList k (a.eval y).cells.toList).toArray) ?_ (Ext.turn hs.hr hm h5) (hs.hr.turn hB hm h5 h6) hs.nn h1
          unfold execOp; rw [ho]
          refine runu ?_
          simp only [Instr.storeAt, hvx, Instr.sureAddr]
          have hsz : (a.eval y).cells.size = ti.size := by rw [← e1, hv.1]; simp
          have hst := run_storeCells_at P r k ty (a.eval y).cells.toList 0 cur w hg (by simpa using h3) (hv.ones hok)
          simp only [Nat.add_zero] at hst
          simp [storeVar, tok_size (hT t ti ht), hsz, hst, over]
    · exact h.elim
  · exact h.elim
end
end Go.LX
/-
  Each operation does in the model what the calculus says of it: addresses, texts, conversions, interfaces, tuples.
-/
namespace Go.LX
open Go

section
variable {P : Program} {T : TT} {o : Oper} {s : LS} {K : LS → Prop} {c : Ctx} {a : Act} {w w' : World} {Q : Exit → Act → World → Prop}

theorem iadd_sound {x y : I} {L : I → Prop} (h : iadd x y L) : ∃ z, z.val = x.val + y.val ∧ L z := by
  unfold iadd at h
  split at h
  · exact ⟨_, rfl, h⟩
  · split at h
    · rename_i e
      have e := of_decide_eq_true e
      exact ⟨_, by simp [I.val, e], h⟩
    · obtain ⟨z, h1, h2⟩ := sum h; exact ⟨z, h1, h2⟩
  · split at h
    · rename_i e
      have e := of_decide_eq_true e
      exact ⟨_, by simp [I.val, e], h⟩
    · obtain ⟨z, h1, h2⟩ := sum h; exact ⟨z, h1, h2⟩
  · obtain ⟨z, h1, h2⟩ := sum h; exact ⟨z, h1, h2⟩
theorem imul_sound {x : I} {k : Nat} {L : I → Prop} (h : imul x k L) : ∃ z, z.val = x.val * k ∧ L z := by
  unfold imul at h
  split at h
  · rename_i e
    have e := Nat.eq_of_beq_eq_true e
    exact ⟨x, by simp [e], h⟩
  · split at h
    · exact ⟨_, rfl, h⟩
    · obtain ⟨z, h1, h2⟩ := sum h; exact ⟨z, h1, h2⟩

theorem live_ptr {b : Nat} {o' : I} {B : LB} {x : Value} (hs : St c s a w) (hx : LR c w (.ptr b o') x) (hB : hget s.h b = some B) : ∃ r k : Nat, c.m b = some (some r) ∧ o'.val = (k : Int) ∧ x = .pointer (some ⟨r, k, none⟩) := by
  obtain ⟨m, hm, _⟩ := hs.hr.live b B hB
  cases hx with
  | goneP _ _ _ hm' _ => rw [hm] at hm'; cases hm'
  | ptr _ _ r k hm' hk => exact ⟨r, k, hm', hk, rfl⟩

theorem lop_nilCheck {x : Operand} (ho : o.op = .nilCheck x) (hs : St c s a w)
    (h : match ev s x with
      | .ptr b o' => match hget s.h b with
        | some _ => K (s.put o.dst (.ptr b o'))
        | none => False
      | .p (.vp sy l o') => K (s.put o.dst (.p (.vp sy l o')))
      | _ => False) : o.wp P a w (Post K c w) Q := by
  have hx := hs.ev x
  split at h
  · rename_i b o' hev
    rw [hev] at hx
    cases hB : hget s.h b with
    | none => rw [hB] at h; exact h.elim
    | some B =>
      rw [hB] at h
      obtain ⟨r, k, hm, hk, hv⟩ := live_ptr hs hx hB
      exact op_val hs (v := .pointer (some ⟨r, k, none⟩)) (by simp [execOp, ho, hv]) (.ptr _ _ _ _ hm hk) h
  · rename_i sy l o' hev
    rw [hev] at hx
    generalize hvx : a.eval x = vx at hx
    cases hx with
    | p _ _ hp =>
      cases hp with
      | vp _ _ _ ad k f hk hsp hM hlt hcell hrel => exact op_val hs (v := .pointer (some (ad.add k))) (by simp [execOp, ho, hvx]) (.p _ _ (.vp _ _ _ ad k f hk hsp hM hlt hcell hrel)) h
  · exact h.elim

theorem place_off {t : Nat} {ti : TI} {fs : List (Nat × Nat)} {f off ft : Nat} (hT : TIok P t ti) (hk : ti.kind = .struct fs) (hf : fs[f]? = some (off, ft)) : ∃ fields fd, P.underlying t = some (.struct fields) ∧ fields[f]? = some fd ∧ fd.offset = off ∧ fd.type = ft := by
  obtain ⟨⟨i, z, d, hi, hsz, _, hz, hzc, hu, hkd, _⟩, hzs⟩ := hT
  rw [hk] at hkd
  cases d <;> try exact hkd.elim
  rename_i fields
  obtain ⟨hfs, _⟩ := hkd
  rw [hfs, List.getElem?_map] at hf
  cases e : fields.toList[f]? with
  | none => rw [e] at hf; cases hf
  | some fd => rw [e] at hf; cases hf; exact ⟨fields, fd, hu, by simpa using e, rfl, rfl⟩

theorem lop_fieldAddr (hT : TOK P T) {t : TypeId} {x : Operand} {f off ft : Nat} {ti tf : TI} {fs : List (Nat × Nat)} (ht : lget T t = some ti) (hk : ti.kind = .struct fs) (hf : fs[f]? = some (off, ft)) (htf : lget T ft = some tf) (h1 : 1 ≤ tf.size)
    (ho : o.op = .fieldAddr t x f) (hs : St c s a w)
    (h : match ev s x with
      | .ptr b o' => match hget s.h b with
        | some _ => iadd o' (.lit off) fun z => K (s.put o.dst (.ptr b z))
        | none => False
      | .p (.vp sy l o') => iadd o' (.lit off) fun z => K (s.put o.dst (.p (.vp sy l z)))
      | _ => False) : o.wp P a w (Post K c w) Q := by
  have hx := hs.ev x
  obtain ⟨fields, fd, hu, hfd, hoff, hft⟩ := place_off (hT t ti ht) hk hf
  have hsz : (sizeOf fd.type).run P w = .ok tf.size w := by rw [hft]; exact tok_size (hT ft tf htf)
  have hrun : ∀ {ad}, a.eval x = .pointer (some ad) → (execOp a.eval o).run P w = .ok (.value (.pointer (some (ad.add off)))) w := by
    intro ad h2
    unfold execOp; rw [ho]
    refine runv ?_
    have hz : ¬ tf.size = 0 := by omega
    simp [Instr.fieldAt, run_underlying hu, hfd, h2, Instr.sureAddr, fieldPlace, hsz, hz, hoff]
  split at h
  · rename_i b o' hev
    rw [hev] at hx
    cases hB : hget s.h b with
    | none => rw [hB] at h; exact h.elim
    | some B =>
      rw [hB] at h
      obtain ⟨z, hz, hK⟩ := iadd_sound h
      obtain ⟨r, k, hm, hk', hvx⟩ := live_ptr hs hx hB
      refine op_val hs (hrun hvx) ?_ hK
      rw [add_lit]
      exact .ptr _ _ _ _ hm (by rw [hz, hk']; simp [I.val])
  · rename_i sy l o' hev
    rw [hev] at hx
    obtain ⟨z, hz, hK⟩ := iadd_sound h
    generalize hvx : a.eval x = vx at hx
    cases hx with
    | p _ _ hp =>
      cases hp with
      | vp _ _ _ ad k g hk' hsp hM hlt hcell hrel =>
        refine op_val hs (hrun hvx) ?_ hK
        rw [Addr.add_add]
        exact .p _ _ (.vp _ _ _ ad (k + off) g (by rw [hz, hk']; simp [I.val]) hsp hM hlt hcell hrel)
  · exact h.elim

theorem getM_part {t : Nat} {ti : TI} (hT : TIok P t ti) {l vs : List LV} {x : Array Value} {off : Nat} {L : LV → Prop} (hrel : Rel2 c w l x.toList) (hg : getM l off ti.size = some vs) (h : ofCells ti.kind vs L) :
    ∃ u v, (part t x off).run P w = .ok v w ∧ LR c w u v ∧ L u := by
  obtain ⟨h1, h2⟩ := getM_sound _ _ hg
  have hr : Rel2 c w vs ((x.toList.drop off).take ti.size) := by
    have hb : off + ti.size ≤ x.size ∨ ti.size = 0 := by
      rcases Nat.eq_zero_or_pos ti.size with e | e
      · exact .inr e
      · left
        have h4 := h2 (ti.size - 1) (by omega)
        rw [List.getElem?_eq_getElem (show ti.size - 1 < vs.length by omega)] at h4
        have := (List.getElem?_eq_some_iff.1 h4).1
        have hl := hrel.1
        simp at hl
        omega
    refine ⟨?_, fun j u hu => ?_⟩
    · rw [h1, List.length_take, List.length_drop, Array.length_toList]
      rcases hb with hb | hb <;> omega
    · have hj : j < ti.size := by rw [← h1]; exact (List.getElem?_eq_some_iff.1 hu).1
      have hlj := h2 j hj
      rw [hu] at hlj
      obtain ⟨y, h5, h6⟩ := hrel.2 _ u hlj
      exact ⟨y, by rw [List.getElem?_take, if_pos hj, List.getElem?_drop]; exact h5, h6⟩
  unfold ofCells at h
  unfold part
  rw [Sem.run_bind, tok_agg hT]
  cases hk : ti.kind.agg with
  | true =>
    rw [hk] at h
    refine ⟨_, .agg (x.extract off (off + ti.size)), by simp [tok_size hT], .agg vs _ ?_ ?_, h⟩
    · have := hr.1
      simp only [List.length_take, List.length_drop, Array.length_toList] at this
      rw [this]; simp only [Array.size_extract]; omega
    · have e : (x.extract off (off + ti.size)).toList = (x.toList.drop off).take ti.size := by
        simp [Array.toList_extract, List.extract_eq_take_drop]
      exact (Rel2.getD (by rw [e]; exact hr)).2
  | false =>
    rw [hk] at h
    dsimp only at h
    split at h
    · obtain ⟨y, ys, he, h3, _⟩ := hr.head
      have h5 : x[off]? = some y := by
        have : ((x.toList.drop off).take ti.size)[0]? = some y := by rw [he]; rfl
        rw [List.getElem?_take] at this
        split at this
        · rw [List.getElem?_drop] at this; simpa using this
        · cases this
      exact ⟨_, y, by simp [h5], h3, h⟩
    · exact h.elim
theorem lop_field (hT : TOK P T) {t : TypeId} {x : Operand} {f off ft : Nat} {ti tf : TI} {fs : List (Nat × Nat)} {l vs : List LV} (ht : lget T t = some ti) (hk : ti.kind = .struct fs) (hf : fs[f]? = some (off, ft)) (htf : lget T ft = some tf)
    (ho : o.op = .field t x f) (hs : St c s a w) (hx0 : ev s x = .agg l) (hg : getM l off tf.size = some vs) (h : ofCells tf.kind vs fun v => K (s.put o.dst v)) : o.wp P a w (Post K c w) Q := by
  have hx := hs.ev x
  rw [hx0] at hx
  obtain ⟨fields, fd, hu, hfd, hoff, hft⟩ := place_off (hT t ti ht) hk hf
  generalize hvx : a.eval x = vx at hx
  cases hx with
  | agg _ xs hl hr =>
    obtain ⟨u, v, h1, h2, h3⟩ := getM_part (hT ft tf htf) (Rel2.ofD hl hr) hg h
    refine op_val hs ?_ h2 h3
    unfold execOp; rw [ho]
    refine runv ?_
    simp [Instr.field, run_underlying hu, hfd, hvx, asAgg, hft, hoff, h1]

theorem lop_indexAddr (hT : TOK P T) {t : TypeId} {x y : Operand} {e : Nat} {k : IntKind} {i : I} {ti te : TI} (ht : lget T t = some ti) (hk : ti.kind = .slice e) (hte : lget T e = some te) (hi : ev s y = .p (.int k i)) (ho : o.op = .indexAddr t x y) (hs : St c s a w)
    (h : match ev s x with
      | .p (.vsl n sy l) => Need (fun _ => 0 ≤ i.val ∧ i.val < n.val) fun _ => imul i te.size fun z => K (s.put o.dst (.p (.vp sy l z)))
      | .sl b _ _ o' n => match hget s.h b with
        | some _ => Need (fun _ => 0 ≤ i.val ∧ i.val < n.val) fun _ => imul i te.size fun z => iadd o' z fun y => K (s.put o.dst (.ptr b y))
        | none => False
      | _ => False) : o.wp P a w (Post K c w) Q := by
  have hx := hs.ev x
  have hy : a.eval y = .int k i.val := LR.inv_int (hi ▸ hs.ev y)
  obtain ⟨⟨_, _, d, _, _, _, _, _, hu, hkd, _⟩, _⟩ := hT t ti ht
  rw [hk] at hkd
  cases d <;> try exact hkd.elim
  rename_i e'
  have hkd : e = e' := hkd
  subst hkd
  have hse := tok_size (w := w) (hT e te hte)
  have hrun : ∀ {ad n cp}, a.eval x = .slice (some ad) n cp → 0 ≤ i.val → i.val < (n : Int) → (execOp a.eval o).run P w = .ok (.value (.pointer (some (ad.add (i.val.toNat * te.size))))) w := by
    intro ad n cp h2 h3 h4
    unfold execOp; rw [ho]
    refine runv ?_
    simp [Instr.indexAt, asIntOf, hy, run_underlying hu, h2, hse, h3, h4]
  split at h
  · rename_i n sy l hev
    rw [hev] at hx
    obtain ⟨⟨h1, h2⟩, h3⟩ := need h
    obtain ⟨z, hz, hK⟩ := imul_sound h3
    generalize hvx : a.eval x = vx at hx
    cases hx with
    | p _ _ hp =>
      cases hp with
      | vsl0 _ _ _ ad cp h0 _ => omega
      | vsl _ _ _ ad n' cp g hn hsp hM hlt hle hcp hcell hrel =>
        obtain ⟨j, hj⟩ : ∃ j : Nat, i.val = j := ⟨i.val.toNat, by omega⟩
        refine op_val hs (hrun hvx h1 (by omega)) ?_ hK
        refine .p _ _ (.vp _ _ _ ad (i.val.toNat * te.size) g ?_ hsp hM hlt hcell hrel)
        rw [hz, hj]; simp
  · rename_i b e1 sz o' n hev
    rw [hev] at hx
    cases hB : hget s.h b with
    | none => rw [hB] at h; exact h.elim
    | some B =>
      rw [hB] at h
      obtain ⟨⟨h1, h2⟩, h3⟩ := need h
      obtain ⟨z, hz, h4⟩ := imul_sound h3
      obtain ⟨z2, hz2, hK⟩ := iadd_sound h4
      obtain ⟨m, hm, _⟩ := hs.hr.live b B hB
      generalize hvx : a.eval x = vx at hx
      obtain ⟨j, hj⟩ : ∃ j : Nat, i.val = j := ⟨i.val.toNat, by omega⟩
      cases hx with
      | goneS _ _ _ _ _ _ _ _ hm' _ => rw [hm] at hm'; cases hm'
      | slv _ _ _ _ _ hm' ho' hn' => omega
      | sl _ _ _ _ _ r j' k' cp tot hm' ho' hn' hk' hc hs' ht' =>
        refine op_val hs (hrun hvx h1 (by omega)) ?_ hK
        rw [add_lit]
        exact .ptr _ _ _ _ hm' (by rw [hz2, ho', hz, hj]; simp)
  · exact h.elim
theorem lop_indexArr (hT : TOK P T) {t : TypeId} {x y : Operand} {e n b : Nat} {k : IntKind} {i o' : I} {ti te : TI} (ht : lget T t = some ti) (hk : ti.kind = .arr n e) (hte : lget T e = some te) (hi : ev s y = .p (.int k i)) (ho : o.op = .indexAddr t x y) (hs : St c s a w)
    (hx0 : ev s x = .ptr b o') (hB : ∃ B, hget s.h b = some B)
    (h : Need (fun _ => 0 ≤ i.val ∧ i.val < n) fun _ => imul i te.size fun z => iadd o' z fun y => K (s.put o.dst (.ptr b y))) : o.wp P a w (Post K c w) Q := by
  have hx := hs.ev x
  rw [hx0] at hx
  obtain ⟨B, hB⟩ := hB
  obtain ⟨r, j0, hm, hj0, hvx⟩ := live_ptr hs hx hB
  have hy : a.eval y = .int k i.val := LR.inv_int (hi ▸ hs.ev y)
  obtain ⟨⟨_, _, d, _, _, _, _, _, hu, hkd, _⟩, _⟩ := hT t ti ht
  rw [hk] at hkd
  cases d <;> try exact hkd.elim
  rename_i n' e'
  obtain ⟨rfl, rfl, _⟩ := hkd
  have hse := tok_size (w := w) (hT e te hte)
  obtain ⟨⟨h1, h2⟩, h3⟩ := need h
  obtain ⟨z, hz, h4⟩ := imul_sound h3
  obtain ⟨z2, hz2, hK⟩ := iadd_sound h4
  obtain ⟨j, hj⟩ : ∃ j : Nat, i.val = j := ⟨i.val.toNat, by omega⟩
  refine op_val hs (v := .pointer (some ⟨r, j0 + i.val.toNat * te.size, none⟩)) ?_ (.ptr _ _ _ _ hm (by rw [hz2, hj0, hz, hj]; simp)) hK
  unfold execOp; rw [ho]
  refine runv ?_
  simp [Instr.indexAt, asIntOf, hy, run_underlying hu, hvx, Instr.sureAddr, hse, h1, h2, add_lit]
end
end Go.LX
/-
  Each operation does in the model what the calculus says of it: texts, conversions, interfaces, tuples, what is ranged over.
-/
namespace Go.LX
open Go
set_option linter.unusedVariables false

section
variable {P : Program} {T : TT} {o : Oper} {s : LS} {K : LS → Prop} {c : Ctx} {a : Act} {w w' : World} {Q : Exit → Act → World → Prop}

theorem tok_under {t : Nat} {ti : TI} (hT : TIok P t ti) : ∃ d, P.underlying t = some d ∧ kindOk P ti.kind d := by
  obtain ⟨⟨_, _, d, _, _, _, _, _, hu, hkd, _⟩, _⟩ := hT
  exact ⟨d, hu, hkd⟩
theorem lop_not {t : TypeId} {x : Operand} {b : Bool} (ho : o.op = .unOp .not t x) (hs : St c s a w) (hx0 : ev s x = .p (.bool b)) (h : K (s.put o.dst (.p (.bool (!b))))) : o.wp P a w (Post K c w) Q := by
  have hv : a.eval x = .bool b := LR.inv_bool (hx0 ▸ hs.ev x)
  exact op_val hs (v := .bool (!b)) (by unfold execOp; rw [ho]; exact runv (by simp [Op.unary, hv])) (LR.of_bool _) h
theorem lop_neg {t : TypeId} {x : Operand} {k : IntKind} {e : I} (ho : o.op = .unOp .neg t x) (hs : St c s a w) (hx0 : ev s x = .p (.int k e)) (h : ar k .sub (.lit 0) e fun z => K (s.put o.dst (.p (.int k z)))) : o.wp P a w (Post K c w) Q := by
  have hv : a.eval x = .int k e.val := LR.inv_int (hx0 ▸ hs.ev x)
  have key : ∃ z : I, z.val = k.wrap (0 - e.val) ∧ K (s.put o.dst (.p (.int k z))) := by
    cases e with
    | lit n => exact ⟨_, rfl, h⟩
    | sym n => exact fit h
  obtain ⟨z, hz, hK⟩ := key
  exact op_val hs (v := .int k z.val) (by unfold execOp; rw [ho]; exact runv (by simp [Op.unary, hv, Op.intArith, hz])) (LR.of_int _ _) hK

theorem lop_index (hT : TOK P T) {t : TypeId} {x y : Operand} {ti : TI} {z : Unit → ByteArray} {k : IntKind} {i : I} (ht : lget T t = some ti) (hk : ti.kind = .str) (hx0 : ev s x = .p (.str z)) (hi : ev s y = .p (.int k i)) (ho : o.op = .index t x y) (hs : St c s a w)
    (h : Need (fun _ => 0 ≤ i.val ∧ i.val < (z ()).size) fun _ => Sum (fun _ => ((z ()).get! i.val.toNat).toNat) fun y => K (s.put o.dst (.p (.int .u8 y)))) : o.wp P a w (Post K c w) Q := by
  have hx : a.eval x = .string (z ()) := LR.inv_str (hx0 ▸ hs.ev x)
  generalize z () = z at *
  have hy : a.eval y = .int k i.val := LR.inv_int (hi ▸ hs.ev y)
  obtain ⟨d, hu, hkd⟩ := tok_under (hT t ti ht)
  rw [hk] at hkd
  cases d <;> try exact hkd.elim
  obtain ⟨⟨h1, h2⟩, h3⟩ := need h
  obtain ⟨u, hu2, hK⟩ := sum h3
  refine op_val hs (v := .int .u8 u.val) ?_ (LR.of_int _ _) hK
  unfold execOp; rw [ho]
  refine runv ?_
  have hlt : i.val.toNat < z.size := by omega
  have hg : z[i.val.toNat]? = some (z[i.val.toNat]'hlt) := by simp [hlt]
  have hg2 : z.get! i.val.toNat = z[i.val.toNat]'hlt := by
    show z.data[i.val.toNat]! = z.data[i.val.toNat]
    rw [getElem!_pos]
  simp [Instr.index, asIntOf, hx, hy, run_underlying hu, h1, hg, hu2, hg2]

theorem lop_sliceStr (hT : TOK P T) {t : TypeId} {x : Operand} {lo hi : Option Operand} {ti : TI} {z : Unit → ByteArray} (ht : lget T t = some ti) (hk : ti.kind = .str) (hx0 : ev s x = .p (.str z)) (ho : o.op = .slice t x lo hi none) (hs : St c s a w)
    (h : match (lo.map (ev s)).getD (.p (.int .i64 (.lit 0))) with
          | .p (.int _ lo) => match hi.map (ev s) with
            | none => Need (fun _ => 0 ≤ lo.val ∧ lo.val ≤ (z ()).size) fun _ => Str (fun _ => (z ()).extract lo.val.toNat (z ()).size) fun y => K (s.put o.dst (.p (.str y)))
            | some (.p (.int _ hi)) => Need (fun _ => 0 ≤ lo.val ∧ lo.val ≤ hi.val ∧ hi.val ≤ (z ()).size) fun _ => Str (fun _ => (z ()).extract lo.val.toNat hi.val.toNat) fun y => K (s.put o.dst (.p (.str y)))
            | _ => False
          | _ => False) : o.wp P a w (Post K c w) Q := by
  have hx : a.eval x = .string (z ()) := LR.inv_str (hx0 ▸ hs.ev x)
  generalize z () = z at *
  obtain ⟨d, hu, hkd⟩ := tok_under (hT t ti ht)
  rw [hk] at hkd
  cases d <;> try exact hkd.elim
  split at h
  · rename_i k l hlo
    have hlov : (lo = none ∧ l.val = 0) ∨ ∃ xo, lo = some xo ∧ a.eval xo = .int k l.val := by
      cases lo with
      | none => left; simp at hlo; obtain ⟨_, rfl⟩ := hlo; exact ⟨rfl, rfl⟩
      | some xo =>
        right
        simp at hlo
        exact ⟨xo, rfl, LR.inv_int (hlo ▸ hs.ev xo)⟩
    split at h
    · rename_i hhi
      have hhi : hi = none := by cases hi <;> simp_all
      subst hhi
      obtain ⟨⟨h1, h2⟩, h3⟩ := need h
      obtain ⟨yy, hyy, h3⟩ := str h3
      refine op_val hs (v := .string (yy ())) ?_ (LR.of_str yy) h3
      unfold execOp; rw [ho]
      refine runv ?_
      have h2' : l.val ≤ (z.size : Int) := h2
      rcases hlov with ⟨rfl, h0⟩ | ⟨xo, rfl, hxo⟩
      · simp [Instr.sliceAt, Instr.slice, run_underlying hu, hx, Instr.sliceBounds, h0, hyy]
      · simp [Instr.sliceAt, Instr.slice, run_underlying hu, hx, Instr.sliceBounds, Instr.sliceBound, asIntOf, hxo, h1, h2', hyy]
    · rename_i k' hv hhi
      obtain ⟨yo, rfl, hyo⟩ : ∃ yo, hi = some yo ∧ a.eval yo = .int k' hv.val := by
        cases hi with
        | none => simp at hhi
        | some yo => simp at hhi; exact ⟨yo, rfl, LR.inv_int (hhi ▸ hs.ev yo)⟩
      obtain ⟨⟨h1, h2, h2'⟩, h3⟩ := need h
      obtain ⟨yy, hyy, h3⟩ := str h3
      refine op_val hs (v := .string (yy ())) ?_ (LR.of_str yy) h3
      unfold execOp; rw [ho]
      refine runv ?_
      obtain ⟨j, hj⟩ : ∃ j : Nat, hv.val = j := ⟨hv.val.toNat, by omega⟩
      have g1 : (0 : Int) ≤ hv.val := by omega
      have g2 : hv.val ≤ (z.size : Int) := h2'
      have g3 : l.val ≤ ((hv.val.toNat : Nat) : Int) := by omega
      have g4 : (0 : Int) ≤ (hv.val.toNat : Nat) := by omega
      rcases hlov with ⟨rfl, h0⟩ | ⟨xo, rfl, hxo⟩
      · simp [Instr.sliceAt, Instr.slice, run_underlying hu, hx, Instr.sliceBounds, Instr.sliceBound, asIntOf, hyo, g1, g2, h0, hyy]
      · have g5 : l.val ≤ max hv.val 0 := by omega
        simp [Instr.sliceAt, Instr.slice, run_underlying hu, hx, Instr.sliceBounds, Instr.sliceBound, asIntOf, hyo, hxo, h1, g1, g2, g5, hyy]
    · exact h.elim
  · exact h.elim

theorem Addr.add_off {a : Addr} (hs : a.spot = none) (m n : Nat) : (a.add m).add n = a.add (m + n) := by
  unfold Addr.add
  obtain ⟨b, o, sp⟩ := a
  subst hs
  by_cases h1 : m = 0 <;> by_cases h2 : n = 0 <;> simp [h1, h2] <;> omega
theorem Addr.add_spot {a : Addr} (hs : a.spot = none) (m : Nat) : (a.add m).spot = none := by
  unfold Addr.add; split
  · exact hs
  · rfl
theorem vsl_part {M : Nat → Prop} {n : I} {sy : Bool} {l : List PV} {v : Value} (h : PR M w (.vsl n sy l) v) : ∃ (ad : Option Addr) (k cp : Nat), v = .slice ad k cp ∧ n.val = k ∧ k ≤ cp ∧ cp ≤ maxLen ∧
    ∀ (l' : List PV) (lo hi sz : Nat) (z : I), lo ≤ hi → hi ≤ k → z.val = (hi - lo : Nat) → (∀ (j : Nat) (u : PV), l'[j]? = some u → l[lo * sz + j]? = some u) → PR M w (.vsl z true l') (.slice (if cp = lo then ad else ad.map (·.add (lo * sz))) (hi - lo) (cp - lo)) := by
  cases h with
  | vsl0 _ _ _ a c h0 hc =>
    refine ⟨a, 0, c, rfl, h0, Nat.zero_le _, hc, fun l' lo hi sz z h1 h2 h3 h4 => ?_⟩
    have : hi - lo = 0 := by omega
    rw [this] at h3 ⊢
    exact .vsl0 _ _ _ _ _ h3 (by omega)
  | vsl _ _ _ a k c f h0 hs hM hlt hk hc hcell hrel =>
    refine ⟨some a, k, c, rfl, h0, hk, hc, fun l' lo hi sz z h1 h2 h3 h4 => ?_⟩
    by_cases he : c = lo
    · have : hi - lo = 0 := by omega
      rw [this] at h3 ⊢
      exact .vsl0 _ _ _ _ _ h3 (by omega)
    · rw [if_neg he]
      refine .vsl _ _ _ (a.add (lo * sz)) (hi - lo) (c - lo) (fun j => f (lo * sz + j)) h3 (Addr.add_spot hs _) (by rw [add_block]; exact hM) (by rw [add_block]; exact hlt) (by omega) (by omega) (fun j u hu => ?_) (fun j u hu => hrel _ u (h4 j u hu))
      rw [Addr.add_off hs]
      exact hcell _ u (h4 j u hu)
theorem BR.lenB_le {B : LB} {r e tot : Nat} (hB : BR c w B (some r)) (hs : w.shape? r = some (e, tot)) : lenB B ≤ tot := by
  cases B with
  | iter _ _ => exact Nat.zero_le _
  | fix _ _ => exact Nat.zero_le _
  | bld _ _ => exact Nat.zero_le _
  | pure sy l =>
    obtain ⟨cur, ty, h1, h2, _⟩ := hB
    rw [World.shape?, h1] at hs
    cases hs; exact h2
  | mix l =>
    obtain ⟨cur, ty, h1, h2, _⟩ := hB
    rw [World.shape?, h1] at hs
    cases hs; exact h2
theorem BR.lenB_none {B : LB} (hB : BR c w B none) : lenB B = 0 := by
  cases B with
  | iter _ _ => exact hB.elim
  | fix _ _ => rfl
  | bld _ _ => rfl
  | pure sy l => have : l = [] := hB; subst this; rfl
  | mix l => have : l = [] := hB; subst this; rfl
theorem lop_sliceSl (hT : TOK P T) {t e : TypeId} {x : Operand} {lo hi : Option Operand} {ti te : TI} (ht : lget T t = some ti) (hk : ti.kind = .slice e) (hte : lget T e = some te) (ho : o.op = .slice t x lo hi none) (hs : St c s a w)
    (h : sliceL s te (ev s x) lo.isSome ((lo.map (ev s)).getD (.p (.int .i64 (.lit 0)))) (hi.map (ev s)) fun v => K (s.put o.dst v)) : o.wp P a w (Post K c w) Q := by
  have hx := hs.ev x
  obtain ⟨d, hu, hkd⟩ := tok_under (hT t ti ht)
  rw [hk] at hkd
  cases d <;> try exact hkd.elim
  rename_i e'
  have hkd : e = e' := hkd
  subst hkd
  have hsz : (sizeOf e).run P w = .ok te.size w := tok_size (hT e te hte)
  unfold sliceL at h
  split at h
  case h_2 => exact h.elim
  rename_i k l hlo
  have hlov : (lo = none ∧ l.val = 0) ∨ ∃ xo, lo = some xo ∧ a.eval xo = .int k l.val := by
    cases lo with
    | none => left; simp at hlo; obtain ⟨_, rfl⟩ := hlo; exact ⟨rfl, rfl⟩
    | some xo =>
      right
      simp at hlo
      exact ⟨xo, rfl, LR.inv_int (hlo ▸ hs.ev xo)⟩
  clear hlo
  have run : ∀ (ad : Option Addr) (len cp hv : Nat), a.eval x = .slice ad len cp → l.val.toNat ≤ hv → 0 ≤ l.val → (hi = none ∧ hv = len ∨ ∃ yo k', hi = some yo ∧ a.eval yo = .int k' hv) → hv ≤ cp →
      (execOp a.eval o).run P w = .ok (.value (.slice (if cp = l.val.toNat then ad else ad.map (·.add (l.val.toNat * te.size))) (hv - l.val.toNat) (cp - l.val.toNat))) w := by
    intro ad len cp hv hvx h1 h2 h3 h4
    unfold execOp; rw [ho]
    refine runv ?_
    obtain ⟨lv, hlv⟩ : ∃ lv : Nat, l.val = lv := ⟨l.val.toNat, by omega⟩
    have e0 : l.val.toNat = lv := by omega
    rw [e0] at h1 ⊢
    rcases h3 with ⟨rfl, rfl⟩ | ⟨yo, k', rfl, hyo⟩
    · rcases hlov with ⟨rfl, h0⟩ | ⟨xo, rfl, hxo⟩
      · have : lv = 0 := by omega
        subst this
        simp [Instr.sliceAt, Instr.slice, run_underlying hu, hvx, Instr.sliceBounds, hsz]
      · rw [hlv] at hxo
        simp [Instr.sliceAt, Instr.slice, run_underlying hu, hvx, Instr.sliceBounds, Instr.sliceBound, asIntOf, hxo, h1, hsz]
    · rcases hlov with ⟨rfl, h0⟩ | ⟨xo, rfl, hxo⟩
      · have : lv = 0 := by omega
        subst this
        simp [Instr.sliceAt, Instr.slice, run_underlying hu, hvx, Instr.sliceBounds, Instr.sliceBound, asIntOf, hyo, h4, hsz]
      · rw [hlv] at hxo
        simp [Instr.sliceAt, Instr.slice, run_underlying hu, hvx, Instr.sliceBounds, Instr.sliceBound, asIntOf, hyo, hxo, h1, h4, hsz]
  split at h
  · rename_i n sy cl hxe
    rw [hxe] at hx
    obtain ⟨vx, hvx⟩ : ∃ v, a.eval x = v := ⟨_, rfl⟩
    rw [hvx] at hx
    obtain ⟨ad, len, cp, rfl, hn, hle, hcp, hpart⟩ := vsl_part (by cases hx with | p _ _ h => exact h)
    cases hi with
    | some yo =>
      simp only [Option.map_some] at h
      split at h
      · rename_i k' hv hhi
        have hyo : a.eval yo = .int k' hv.val := LR.inv_int (Option.some.inj hhi ▸ hs.ev yo)
        obtain ⟨⟨h1, h2, h3⟩, h4⟩ := need h
        have h5 := upd h4
        obtain ⟨z, hz, h6⟩ := sum h5
        have hr := run ad len cp hv.val.toNat hvx (by omega) h1 (.inr ⟨yo, k', rfl, by rw [hyo]; congr 1; omega⟩) (by omega)
        refine op_val hs hr (.p _ _ (hpart _ l.val.toNat hv.val.toNat te.size z (by omega) (by omega) (by rw [hz]; omega) fun j u hu => ?_)) h6
        rw [List.getElem?_take] at hu
        split at hu
        · rw [List.getElem?_drop] at hu; exact hu
        · cases hu
      · exact h.elim
      · rename_i hhi; cases hhi
    | none =>
      simp only [Option.map_none] at h
      obtain ⟨⟨h1, h3⟩, h4⟩ := need h
      have h5 := upd h4
      obtain ⟨z, hz, h6⟩ := sum h5
      have hr := run ad len cp len hvx (by omega) h1 (.inl ⟨rfl, rfl⟩) (by omega)
      refine op_val hs hr (.p _ _ (hpart _ l.val.toNat len te.size z (by omega) (by omega) (by rw [hz]; omega) fun j u hu => ?_)) h6
      rw [List.getElem?_drop] at hu; exact hu
  · rename_i b e2 sz o' n hxe
    split at h
    · rename_i B hB hfr
      have hlo : lo = none := by cases lo with | none => rfl | some _ => cases hfr
      subst hlo
      have hl0 : l.val = 0 := by
        rcases hlov with ⟨_, h0⟩ | ⟨_, h0, _⟩
        · exact h0
        · cases h0
      cases hi with
      | none => exact h.elim
      | some yo =>
      simp only [Option.map_some] at h
      split at h
      · rename_i k' hv hhi
        have hyo : a.eval yo = .int k' hv.val := LR.inv_int (Option.some.inj hhi ▸ hs.ev yo)
        obtain ⟨⟨h1, h2⟩, h4⟩ := need h
        rw [hxe] at hx
        obtain ⟨vx, hvx⟩ : ∃ v, a.eval x = v := ⟨_, rfl⟩
        rw [hvx] at hx
        obtain ⟨m, hm, hBR⟩ := hs.hr.live b B hB
        cases hx with
        | sl _ _ _ _ _ r j k2 cp tot hm2 ho2 hn hk2 hc hsh htot =>
          have hcap : hv.val ≤ cp := by
            rcases h2 with h2 | ⟨h2, h3⟩
            · omega
            · rw [hm] at hm2; cases hm2
              have hle := hBR.lenB_le hsh
              obtain ⟨q, hq⟩ : ∃ q : Nat, hv.val = q := ⟨hv.val.toNat, by omega⟩
              rw [hq, ho2] at h3
              have h3 : j + q * sz ≤ lenB B := by exact_mod_cast h3
              have : q * sz ≤ cp * sz := by omega
              have := Nat.le_of_mul_le_mul_right this h2
              omega
          have hr := run (some ⟨r, j, none⟩) k2 cp hv.val.toNat hvx (by omega) (by omega) (.inr ⟨yo, k', rfl, by rw [hyo]; congr 1; omega⟩) (by omega)
          refine op_val hs hr ?_ h4
          have e1 : l.val.toNat = 0 := by omega
          rw [e1]
          have e2 : (if cp = 0 then some (⟨r, j, none⟩ : Addr) else (some (⟨r, j, none⟩ : Addr)).map (·.add (0 * te.size))) = some ⟨r, j, none⟩ := by
            split
            · rfl
            · simp [Addr.add]
          rw [e2]
          exact .sl _ _ _ _ _ r j hv.val.toNat cp tot hm2 ho2 (by omega) (by omega) hc hsh htot
        | slv _ _ _ _ _ hm2 ho2 hn =>
          have hz0 : hv.val = 0 := by
            rcases h2 with h2 | ⟨h2, h3⟩
            · omega
            · rw [hm] at hm2; cases hm2
              rw [hBR.lenB_none, ho2] at h3
              obtain ⟨q, hq⟩ : ∃ q : Nat, hv.val = q := ⟨hv.val.toNat, by omega⟩
              rw [hq] at h3 ⊢
              have h3 : q * sz ≤ 0 := by simpa using (by exact_mod_cast h3 : 0 + q * sz ≤ 0)
              have : q ≤ q * sz := Nat.le_mul_of_pos_right q h2
              omega
          have hr := run none 0 0 hv.val.toNat hvx (by omega) (by omega) (.inr ⟨yo, k', rfl, by rw [hyo]; congr 1; omega⟩) (by omega)
          refine op_val hs hr ?_ h4
          have e0 : hv.val.toNat = 0 := by omega
          have e1 : l.val.toNat = 0 := by omega
          rw [e1, e0]
          exact .slv _ _ _ _ _ hm2 ho2 (by omega)
        | goneS _ _ _ _ _ _ _ _ hm2 _ => rw [hm] at hm2; cases hm2
      · exact h.elim
    · rename_i B hB hfr
      cases hsz2 : Nat.beq sz te.size with
      | false => rw [hsz2] at h; exact h.elim
      | true =>
        rw [hsz2] at h
        have hsz2 := Nat.eq_of_beq_eq_true hsz2
        subst hsz2
        rw [hxe] at hx
        obtain ⟨vx, hvx⟩ : ∃ v, a.eval x = v := ⟨_, rfl⟩
        rw [hvx] at hx
        obtain ⟨m, hm, hBR⟩ := hs.hr.live b B hB
        have fin : ∀ {hv : Int} {L : I → Prop}, 0 ≤ l.val → l.val < hv → hv ≤ n.val → (hi = none ∧ hv = n.val ∨ ∃ yo k', hi = some yo ∧ a.eval yo = .int k' hv) →
            (imul l te.size fun z => iadd o' z fun o2 => Sum (fun _ => hv - l.val) fun k => K (s.put o.dst (.sl b e2 te.size o2 k))) → o.wp P a w (Post K c w) Q := by
          intro hv L h1 h2 h3 hhi h4
          obtain ⟨z, hz, h5⟩ := imul_sound h4
          obtain ⟨y, hy, h6⟩ := iadd_sound h5
          obtain ⟨kk, hkk, h7⟩ := sum h6
          cases hx with
          | sl _ _ _ _ _ r j k2 cp tot hm2 ho2 hn hk2 hc hsh htot =>
            have hr := run (some ⟨r, j, none⟩) k2 cp hv.toNat hvx (by omega) h1 (by
              rcases hhi with ⟨g1, g2⟩ | ⟨yo, k', g1, g2⟩
              · exact .inl ⟨g1, by omega⟩
              · exact .inr ⟨yo, k', g1, by rw [g2]; congr 1; omega⟩) (by omega)
            refine op_val hs hr ?_ h7
            rw [if_neg (by omega)]
            obtain ⟨q, hq⟩ : ∃ q : Nat, l.val = q := ⟨l.val.toNat, by omega⟩
            obtain ⟨p, hp⟩ : ∃ p : Nat, hv = p := ⟨hv.toNat, by omega⟩
            have e0 : l.val.toNat = q := by omega
            have e1 : hv.toNat = p := by omega
            rw [e0, e1]
            simp only [Option.map_some, add_lit]
            refine .sl _ _ _ _ _ r (j + q * te.size) (p - q) (cp - q) tot hm2 ?_ (by omega) (by omega) (by omega) hsh ?_
            · rw [hy, ho2, hz, hq]; push_cast; rfl
            · have : (cp - q) * te.size = cp * te.size - q * te.size := Nat.mul_sub_right_distrib _ _ _
              have h8 : q * te.size ≤ cp * te.size := Nat.mul_le_mul_right _ (by omega)
              omega
          | slv _ _ _ _ _ hm2 ho2 hn => exfalso; omega
          | goneS _ _ _ _ _ _ _ _ hm2 _ => rw [hm] at hm2; cases hm2
        have fin0 : ∀ {hv : Int}, 0 ≤ l.val → l.val = hv → hv ≤ n.val → (hi = none ∧ hv = n.val ∨ ∃ yo k', hi = some yo ∧ a.eval yo = .int k' hv) → K (s.put o.dst (.p (.vsl (.lit 0) false []))) → o.wp P a w (Post K c w) Q := by
          intro hv h1 h2 h3 hhi h4
          cases hx with
          | sl _ _ _ _ _ r j k2 cp tot hm2 ho2 hn hk2 hc hsh htot =>
            have hr := run (some ⟨r, j, none⟩) k2 cp hv.toNat hvx (by omega) (by omega) (by
              rcases hhi with ⟨g1, g2⟩ | ⟨yo, k', g1, g2⟩
              · exact .inl ⟨g1, by omega⟩
              · exact .inr ⟨yo, k', g1, by rw [g2]; congr 1; omega⟩) (by omega)
            refine op_val hs hr ?_ h4
            have e0 : hv.toNat - l.val.toNat = 0 := by omega
            rw [e0]
            exact .p _ _ (.vsl0 _ _ _ _ _ rfl (by omega))
          | slv _ _ _ _ _ hm2 ho2 hn =>
            have hr := run none 0 0 hv.toNat hvx (by omega) (by omega) (by
              rcases hhi with ⟨g1, g2⟩ | ⟨yo, k', g1, g2⟩
              · exact .inl ⟨g1, by omega⟩
              · exact .inr ⟨yo, k', g1, by rw [g2]; congr 1; omega⟩) (by omega)
            refine op_val hs hr ?_ h4
            have e0 : hv.toNat - l.val.toNat = 0 := by omega
            rw [e0]
            exact .p _ _ (.vsl0 _ _ _ _ _ rfl (by omega))
          | goneS _ _ _ _ _ _ _ _ hm2 _ => rw [hm] at hm2; cases hm2
        cases hi with
        | some yo =>
          simp only [Option.map_some] at h
          split at h
          · rename_i k' hv hhi
            have hyo : a.eval yo = .int k' hv.val := LR.inv_int (Option.some.inj hhi ▸ hs.ev yo)
            cases h with
            | new hp h =>
              obtain ⟨h1, h2, h3⟩ := hp
              exact fin (L := fun _ => True) h1 h2 h3 (.inr ⟨yo, k', rfl, hyo⟩) h
            | within hp h =>
              obtain ⟨h1, h2, h3⟩ := hp
              exact fin0 h1 h2 h3 (.inr ⟨yo, k', rfl, hyo⟩) h
          · exact h.elim
          · rename_i hhi; cases hhi
        | none =>
          simp only [Option.map_none] at h
          cases h with
          | new hp h =>
            obtain ⟨h1, h2⟩ := hp
            exact fin (L := fun _ => True) h1 h2 (Int.le_refl _) (.inl ⟨rfl, rfl⟩) h
          | within hp h =>
            obtain ⟨h1, h2⟩ := hp
            exact fin0 h1 h2 (Int.le_refl _) (.inl ⟨rfl, rfl⟩) h
    · exact h.elim
  · exact h.elim
theorem bytesOf_len : ∀ {l : List PV} {s : List UInt8}, bytesOf l s → l.length = s.length
  | [], [], _ => rfl
  | .int .u8 e :: l, b :: s, h => by rw [bytesOf] at h; simp [bytesOf_len h.2]
  | [], _ :: _, h => by simp [bytesOf] at h
  | x :: l, [], h => by cases x <;> simp [bytesOf] at h
  | .int .i8 _ :: _, _ :: _, h => by simp [bytesOf] at h
  | .int .i16 _ :: _, _ :: _, h => by simp [bytesOf] at h
  | .int .i32 _ :: _, _ :: _, h => by simp [bytesOf] at h
  | .int .i64 _ :: _, _ :: _, h => by simp [bytesOf] at h
  | .int .u16 _ :: _, _ :: _, h => by simp [bytesOf] at h
  | .int .u32 _ :: _, _ :: _, h => by simp [bytesOf] at h
  | .int .u64 _ :: _, _ :: _, h => by simp [bytesOf] at h
  | .bool _ :: _, _ :: _, h => by simp [bytesOf] at h
  | .str _ :: _, _ :: _, h => by simp [bytesOf] at h
  | .nilp :: _, _ :: _, h => by simp [bytesOf] at h
  | .nils :: _, _ :: _, h => by simp [bytesOf] at h
  | .nilif :: _, _ :: _, h => by simp [bytesOf] at h
  | .nilfn :: _, _ :: _, h => by simp [bytesOf] at h
  | .fn _ :: _, _ :: _, h => by simp [bytesOf] at h
  | .vsl _ _ _ :: _, _ :: _, h => by simp [bytesOf] at h
  | .vp _ _ _ :: _, _ :: _, h => by simp [bytesOf] at h
  | .undef :: _, _ :: _, h => by simp [bytesOf] at h
theorem bytesOf_get : ∀ {l : List PV} {s : List UInt8}, bytesOf l s → ∀ (j : Nat) (b : UInt8), s[j]? = some b → ∃ e : I, l[j]? = some (.int .u8 e) ∧ e.val = (b.toNat : Int)
  | [], [], _, j, b, hj => by simp at hj
  | .int .u8 e :: l, b :: s, h, j, b', hj => by
    rw [bytesOf] at h
    cases j with
    | zero => simp at hj; subst hj; exact ⟨e, rfl, h.1⟩
    | succ j => simp at hj; obtain ⟨e', h1, h2⟩ := bytesOf_get h.2 j b' hj; exact ⟨e', by simpa using h1, h2⟩
  | l, [], h, j, b, hj => by simp at hj
  | [], _ :: _, h, _, _, _ => by simp [bytesOf] at h
  | .int .i8 _ :: _, _ :: _, h, _, _, _ => by simp [bytesOf] at h
  | .int .i16 _ :: _, _ :: _, h, _, _, _ => by simp [bytesOf] at h
  | .int .i32 _ :: _, _ :: _, h, _, _, _ => by simp [bytesOf] at h
  | .int .i64 _ :: _, _ :: _, h, _, _, _ => by simp [bytesOf] at h
  | .int .u16 _ :: _, _ :: _, h, _, _, _ => by simp [bytesOf] at h
  | .int .u32 _ :: _, _ :: _, h, _, _, _ => by simp [bytesOf] at h
  | .int .u64 _ :: _, _ :: _, h, _, _, _ => by simp [bytesOf] at h
  | .bool _ :: _, _ :: _, h, _, _, _ => by simp [bytesOf] at h
  | .str _ :: _, _ :: _, h, _, _, _ => by simp [bytesOf] at h
  | .nilp :: _, _ :: _, h, _, _, _ => by simp [bytesOf] at h
  | .nils :: _, _ :: _, h, _, _, _ => by simp [bytesOf] at h
  | .nilif :: _, _ :: _, h, _, _, _ => by simp [bytesOf] at h
  | .nilfn :: _, _ :: _, h, _, _, _ => by simp [bytesOf] at h
  | .fn _ :: _, _ :: _, h, _, _, _ => by simp [bytesOf] at h
  | .vsl _ _ _ :: _, _ :: _, h, _, _, _ => by simp [bytesOf] at h
  | .vp _ _ _ :: _, _ :: _, h, _, _, _ => by simp [bytesOf] at h
  | .undef :: _, _ :: _, h, _, _, _ => by simp [bytesOf] at h
theorem push_all : ∀ (s : List UInt8) (r : ByteArray), (s.map fun b => (b.toNat : Int)).foldl (fun r n => r.push (UInt8.ofNat n.toNat)) r = ByteArray.mk (r.data ++ s.toArray)
  | [], r => by simp
  | b :: s, r => by
    rw [List.map_cons, List.foldl_cons, push_all s]
    apply congrArg
    have : UInt8.ofNat b.toNat = b := by simp
    simp [ByteArray.push, this]
theorem bytes_run {a0 : Addr} {n cp : Nat} {s : List UInt8} (hl : s.length = n) (h : ∀ (j : Nat) (b : UInt8), s[j]? = some b → w.cell? (a0.add j) = some (.int .u8 (b.toNat : Int))) :
    (Conv.bytesToString (.slice (some a0) n cp)).run P w = .ok (.string (ByteArray.mk s.toArray)) w := by
  have hld : (loadCells a0 n).run P w = .ok ((s.map fun b => (b.toNat : Int)).map (Value.int .u8)).toArray w := by
    have := run_loadCells_list (P := P) w a0 ((s.map fun b => (b.toNat : Int)).map (Value.int .u8)) (fun j v hj => by
      simp only [List.getElem?_map] at hj
      cases e : s[j]? with
      | none => rw [e] at hj; cases hj
      | some b => rw [e] at hj; cases hj; exact h j b e)
    simpa [hl] using this
  rw [run_bytesToString w a0 n cp _ hld, push_all]
  simp [ByteArray.empty, ByteArray.emptyWithCapacity]
  rfl
theorem bytes_cells {n : Nat} {l : List PV} {s : List UInt8} (hb : bytesOf (l.take n) s) (hn : n ≤ l.length) : s.length = n ∧ ∀ (j : Nat) (b : UInt8), s[j]? = some b → ∃ e : I, l[j]? = some (.int .u8 e) ∧ e.val = (b.toNat : Int) := by
  refine ⟨by rw [← bytesOf_len hb, List.length_take]; omega, fun j b hj => ?_⟩
  obtain ⟨e, h1, h2⟩ := bytesOf_get hb j b hj
  rw [List.getElem?_take] at h1
  split at h1
  · exact ⟨e, h1, h2⟩
  · cases h1
theorem toStr_sound (hT : TOK P T) {ts : TI} {x : LV} {v : Value} {L : (Unit → ByteArray) → Prop} (hs : St c s a w) (hx : LR c w x v) (h : toStr T s ts x L) :
    ∃ e te, ∃ k : IntKind, ∃ y : Unit → ByteArray, ts.kind = .slice e ∧ lget T e = some te ∧ te.kind = .int .u8 ∧ (∃ ad n cp, v = .slice ad n cp ∧ (Conv.bytesToString (.slice ad n cp)).run P w = .ok (.string (y ())) w) ∧ L y := by
  unfold toStr at h
  split at h
  case h_2 => exact h.elim
  rename_i e he
  split at h
  case h_2 => exact h.elim
  rename_i te hte
  split at h
  case h_2 => exact h.elim
  rename_i k hk
  split at h
  case h_2 => exact h.elim
  rename_i hk8
  have hk8 := of_decide_eq_true hk8
  subst hk8
  suffices hh : ∃ y : Unit → ByteArray, (∃ ad n cp, v = .slice ad n cp ∧ (Conv.bytesToString (.slice ad n cp)).run P w = .ok (.string (y ())) w) ∧ L y by
    obtain ⟨y, h1, h2⟩ := hh
    exact ⟨e, te, .u8, y, he, hte, hk, h1, h2⟩
  split at h
  · cases hx with
    | p _ _ hp => cases hp; exact ⟨_, ⟨none, 0, 0, rfl, by (simp [Conv.bytesToString, ByteArray.empty, ByteArray.emptyWithCapacity]; rfl)⟩, h⟩
  · rename_i n sy l
    obtain ⟨hl, h⟩ := need h
    cases h with
    | mk st hb hk2 =>
      have hb : bytesOf (l.take n.val.toNat) st := hb
      have hK := hk2 _ rfl
      cases hx with
      | p _ _ hp =>
        cases hp with
        | vsl0 _ _ _ ad cp h0 _ =>
          obtain ⟨h1, h2⟩ := bytes_cells hb (by omega)
          have hst : st = [] := List.eq_nil_of_length_eq_zero (by omega)
          subst hst
          refine ⟨_, ⟨ad, 0, cp, rfl, ?_⟩, hK⟩
          cases ad with
          | none => (simp [Conv.bytesToString, ByteArray.empty, ByteArray.emptyWithCapacity]; rfl)
          | some ad => exact bytes_run (s := []) rfl (fun j b hj => by simp at hj)
        | vsl _ _ _ ad n' cp g hn hsp hM hlt hle hcp hcell hrel =>
          obtain ⟨h1, h2⟩ := bytes_cells hb (by omega)
          refine ⟨_, ⟨some ad, n', cp, rfl, bytes_run (by omega) fun j b hj => ?_⟩, hK⟩
          obtain ⟨e1, h3, h4⟩ := h2 j b hj
          rw [hcell j _ h3]
          have := hrel j _ h3
          generalize g j = gj at this
          cases this with | int _ _ m hm => rw [← hm, h4]
  · rename_i b e1 sz o' n
    cases hB : hget s.h b with
    | none => rw [hB] at h; exact h.elim
    | some B =>
      rw [hB] at h
      cases B with
      | mix l => exact h.elim
      | iter z p => exact h.elim
      | fix g o => exact h.elim
      | bld t l => exact h.elim
      | pure sy l =>
        cases o' with
        | sym j => exact h.elim
        | lit j =>
          dsimp only at h
          cases hj0 : decide (j = 0) with
          | false => rw [hj0] at h; exact h.elim
          | true =>
            rw [hj0] at h
            have hj0 := of_decide_eq_true hj0
            obtain ⟨hl, h⟩ := need h
            cases h with
            | mk st hb hk2 =>
              have hb : bytesOf (l.take n.val.toNat) st := hb
              have hK := hk2 _ rfl
              obtain ⟨m0, hm0, hBR⟩ := hs.hr.live b _ hB
              cases hx with
              | goneS _ _ _ _ _ _ _ _ hm' _ => rw [hm0] at hm'; cases hm'
              | slv _ _ _ _ _ hm' ho' hn' =>
                obtain ⟨h1, h2⟩ := bytes_cells hb (by omega)
                have hst : st = [] := List.eq_nil_of_length_eq_zero (by omega)
                subst hst
                exact ⟨_, ⟨none, 0, 0, rfl, by (simp [Conv.bytesToString, ByteArray.empty, ByteArray.emptyWithCapacity]; rfl)⟩, hK⟩
              | sl _ _ _ _ _ r j' k' cp tot hm' ho' hn' hk' hc hs' ht' =>
                rw [hm'] at hm0; cases hm0
                obtain ⟨cur, ty, hg, hle, hrel⟩ := hBR
                have hj' : j' = 0 := by rw [hj0] at ho'; simp only [I.val] at ho'; omega
                subst hj'
                obtain ⟨h1, h2⟩ := bytes_cells hb (by omega)
                refine ⟨_, ⟨_, k', cp, rfl, bytes_run (by omega) fun j b hj => ?_⟩, hK⟩
                obtain ⟨e1, h3, h4⟩ := h2 j b hj
                have hlt := (List.getElem?_eq_some_iff.1 h3).1
                rw [add_lit]
                simp only [World.cell?, hg, Nat.zero_add]
                have := hrel j _ h3
                rw [Array.getD_eq_getD_getElem?, Array.getElem?_eq_getElem (by omega : j < cur.size)] at this
                rw [Array.getElem?_eq_getElem (by omega : j < cur.size)]
                simp only [Option.getD_some] at this
                generalize cur[j] = gj at this
                cases this with | int _ _ m hm => rw [← hm, h4]; rfl
  · exact h.elim
theorem lop_convInt (hT : TOK P T) {src dst : TypeId} {x : Operand} {ts ti : TI} {k k' : IntKind} {e : I} (hts : lget T src = some ts) (ht : lget T dst = some ti) (ho : o.op = .convert src dst x) (hs : St c s a w) (hk : ti.kind = .int k)
    (h : match e with
        | .lit n => K (s.put o.dst (.p (.int k (.lit (k.wrap n)))))
        | .sym n => Fit k (fun _ => n) fun z => K (s.put o.dst (.p (.int k z)))) (hev : ev s x = .p (.int k' e)) : o.wp P a w (Post K c w) Q := by
  have hx := hs.ev x
  obtain ⟨d, hu, hkd⟩ := tok_under (hT dst ti ht)
  obtain ⟨d', hu', hkd'⟩ := tok_under (hT src ts hts)
  rw [hk] at hkd
  rw [hev] at hx
  have hv := hx.inv_int
  cases d <;> try exact hkd.elim
  have hkd : k = _ := hkd
  subst hkd
  have key : ∃ z : I, z.val = k.wrap e.val ∧ K (s.put o.dst (.p (.int k z))) := by
    cases e
    · exact ⟨_, rfl, h⟩
    · exact fit h
  obtain ⟨z, hz, hK⟩ := key
  refine op_val hs (v := .int k z.val) ?_ (LR.of_int _ _) hK
  unfold execOp; rw [ho]
  exact runv (by cases d' <;> simp [convert, run_underlying hu, run_underlying hu', hv, Conv.intToInt, hz])
theorem lop_convRune (hT : TOK P T) {src dst : TypeId} {x : Operand} {ts ti : TI} {k' : IntKind} {e : I} (hts : lget T src = some ts) (ht : lget T dst = some ti) (ho : o.op = .convert src dst x) (hs : St c s a w) (hk : ti.kind = .str) (hev : ev s x = .p (.int k' e))
    (h : Str (fun _ => Utf8.encode e.val) fun z => K (s.put o.dst (.p (.str z)))) : o.wp P a w (Post K c w) Q := by
  have hx := hs.ev x
  obtain ⟨d, hu, hkd⟩ := tok_under (hT dst ti ht)
  obtain ⟨d', hu', hkd'⟩ := tok_under (hT src ts hts)
  rw [hk] at hkd
  rw [hev] at hx
  have hv := hx.inv_int
  cases d <;> try exact hkd.elim
  obtain ⟨yy, hyy, hK⟩ := str h
  refine op_val hs (v := .string (yy ())) ?_ (LR.of_str yy) hK
  unfold execOp; rw [ho]
  exact runv (by cases d' <;> simp [convert, run_underlying hu, run_underlying hu', hv, Conv.intToString, hyy])
theorem lop_convStr (hT : TOK P T) {src dst : TypeId} {x : Operand} {ts ti : TI} {z : Unit → ByteArray} (hts : lget T src = some ts) (ht : lget T dst = some ti) (ho : o.op = .convert src dst x) (hs : St c s a w) (hk : ti.kind = .str) (hev : ev s x = .p (.str z))
    (h : K (s.put o.dst (.p (.str z)))) : o.wp P a w (Post K c w) Q := by
  have hx := hs.ev x
  obtain ⟨d, hu, hkd⟩ := tok_under (hT dst ti ht)
  obtain ⟨d', hu', hkd'⟩ := tok_under (hT src ts hts)
  rw [hk] at hkd
  rw [hev] at hx
  have hv := hx.inv_str
  cases d <;> try exact hkd.elim
  refine op_val hs (v := .string (z ())) ?_ (LR.of_str _) h
  unfold execOp; rw [ho]
  exact runv (by cases d' <;> simp [convert, run_underlying hu, run_underlying hu', hv])
theorem lop_convBytes (hT : TOK P T) {src dst : TypeId} {x : Operand} {ts ti : TI} (hts : lget T src = some ts) (ht : lget T dst = some ti) (ho : o.op = .convert src dst x) (hs : St c s a w) (hk : ti.kind = .str)
    (h : toStr T s ts (ev s x) fun z => K (s.put o.dst (.p (.str z)))) : o.wp P a w (Post K c w) Q := by
  have hx := hs.ev x
  obtain ⟨d, hu, hkd⟩ := tok_under (hT dst ti ht)
  obtain ⟨d', hu', hkd'⟩ := tok_under (hT src ts hts)
  rw [hk] at hkd
  cases d <;> try exact hkd.elim
  obtain ⟨e, te, k, y, hke, hte, hkt, hrun, hK⟩ := toStr_sound hT hs hx h
  rw [hke] at hkd'
  cases d' <;> try exact hkd'.elim
  have hkd' : e = _ := hkd'
  subst hkd'
  obtain ⟨dd, huu, hkk⟩ := tok_under (hT e te hte)
  rw [hkt] at hkk
  cases dd <;> try exact hkk.elim
  have hkk : IntKind.u8 = _ := hkk
  subst hkk
  refine op_val hs (v := .string (y ())) ?_ (LR.of_str y) hK
  unfold execOp; rw [ho]
  refine runv ?_
  obtain ⟨ad, n, cp, hv, hr⟩ := hrun
  rw [hv]
  simp only [run_convert_bytes_string w src dst e ad n cp hu' huu hu]
  exact hr

theorem lop_makeInterface (hT : TOK P T) {t : TypeId} {x : Operand} {ti : TI} (ht : lget T t = some ti) (hk : ti.kind ≠ .iface) (ho : o.op = .makeInterface t x) (hs : St c s a w) (h : K (s.put o.dst (.iface t (ev s x)))) : o.wp P a w (Post K c w) Q := by
  obtain ⟨d, hu, hkd⟩ := tok_under (hT t ti ht)
  refine op_val hs (v := .iface t (a.eval x)) ?_ (.iface _ _ _ (hs.ev x)) h
  unfold execOp; rw [ho]
  refine runv ?_
  cases hkk : ti.kind <;> rw [hkk] at hkd <;> cases d <;> first | exact hkd.elim | exact absurd hkk hk | simp [Instr.makeInterface, run_underlying hu]

theorem lop_extract {x : Operand} {i : Nat} {l : List LV} {v : LV} (ho : o.op = .extract x i) (hs : St c s a w) (hx0 : ev s x = .tup l) (hl : lnth l i = some v) (h : K (s.put o.dst v)) : o.wp P a w (Post K c w) Q := by
  have hx := hs.ev x
  rw [hx0] at hx
  generalize hvx : a.eval x = vx at hx
  cases hx with
  | tup _ xs hlen hr =>
    rw [lnth_eq] at hl
    obtain ⟨y, h1, h2⟩ := (Rel2.ofD hlen hr).2 i v hl
    refine op_val hs ?_ h2 h
    unfold execOp; rw [ho]
    have h1' : xs[i]? = some y := by simpa using h1
    exact runv (by simp [hvx, Instr.extract, h1'])

theorem ofZero {t : Nat} {ti : TI} (hT : TIok P t ti) {L : LV → Prop} (h : ofCells ti.kind (pvs ti.zero) L) : ∃ u v, (∀ w, (zeroValue t).run P w = .ok v w) ∧ LR c w u v ∧ L u := by
  obtain ⟨⟨i, z, d, hi, hsz, _, hz, hzc, hu, hkd, hag, hsc⟩, hzs⟩ := hT
  have hrun : ∀ w, (zeroValue t).run P w = .ok z w := fun w => by simp [zeroValue, typeInfo, hi, hz]
  have hrel : Rel2 c w (pvs ti.zero) z.cells.toList := by rw [hzc]; exact zero_rel c w _ hzs
  unfold ofCells at h
  cases hk : ti.kind.agg with
  | true =>
    rw [hk] at h
    refine ⟨_, z, hrun, ?_, h⟩
    rw [hag hk]
    exact .agg _ _ hrel.getD.1 hrel.getD.2
  | false =>
    rw [hk] at h
    dsimp only at h
    split at h
    · rename_i v e
      rw [e, hsc hk] at hrel
      obtain ⟨y, ys, he, h3, _⟩ := hrel.head
      cases he
      exact ⟨_, z, hrun, h3, h⟩
    · exact h.elim
theorem lop_typeAssert (hT : TOK P T) {xt t : TypeId} {x : Operand} {ti : TI} (ht : lget T t = some ti) (hk : ti.kind ≠ .iface) (ho : o.op = .typeAssert x xt t true) (hs : St c s a w)
    (h : match ev s x with
          | .iface u v => match Nat.beq u t with
            | true => K (s.put o.dst (.tup [v, .p (.bool true)]))
            | false => ofCells ti.kind (pvs ti.zero) fun z => K (s.put o.dst (.tup [z, .p (.bool false)]))
          | .p .nilif => ofCells ti.kind (pvs ti.zero) fun z => K (s.put o.dst (.tup [z, .p (.bool false)]))
          | _ => False) : o.wp P a w (Post K c w) Q := by
  have hx := hs.ev x
  obtain ⟨d, hu, hkd⟩ := tok_under (hT t ti ht)
  have hd : ∀ m, d ≠ .interface m := by
    intro m e
    subst e
    cases hkk : ti.kind <;> rw [hkk] at hkd <;> first | exact hkd.elim | exact absurd hkk hk
  have tup2 : ∀ {u v} (b : Bool), LR c w u v → LR c w (.tup [u, .p (.bool b)]) (.tuple #[v, .bool b]) := by
    intro u v b h
    exact .tup _ _ rfl (Rel2.getD (x := #[v, .bool b]) (Rel2.cons h (Rel2.cons (LR.of_bool b) Rel2.nil))).2
  split at h
  · rename_i u v hev
    rw [hev] at hx
    generalize hvx : a.eval x = vx at hx
    cases hx with
    | iface _ _ y hy =>
      cases e : Nat.beq u t with
      | true =>
        rw [e] at h
        have e := Nat.eq_of_beq_eq_true e
        refine op_val hs ?_ (tup2 true hy) h
        unfold execOp; rw [ho]
        refine runv ?_
        cases d <;> first | exact absurd rfl (hd _) | simp [Instr.typeAssert, run_underlying hu, hvx, e]
      | false =>
        rw [e] at h
        have e : ¬ u = t := fun h => by rw [h, Nat.beq_refl] at e; cases e
        obtain ⟨z, zv, h1, h2, h3⟩ := ofZero (c := c) (w := w) (hT t ti ht) h
        refine op_val hs ?_ (tup2 false h2) h3
        unfold execOp; rw [ho]
        refine runv ?_
        cases d <;> first | exact absurd rfl (hd _) | simp [Instr.typeAssert, run_underlying hu, hvx, e, h1]
  · rename_i hev
    rw [hev] at hx
    have hvx : a.eval x = .nilIface := by
      generalize a.eval x = vx at hx
      cases hx with | p _ _ hp => cases hp; rfl
    obtain ⟨z, zv, h1, h2, h3⟩ := ofZero (c := c) (w := w) (hT t ti ht) h
    refine op_val hs ?_ (tup2 false h2) h3
    unfold execOp; rw [ho]
    refine runv ?_
    cases d <;> first | exact absurd rfl (hd _) | simp [Instr.typeAssert, run_underlying hu, hvx, h1]
  · exact h.elim

theorem lop_range (hT : TOK P T) {t : TypeId} {x : Operand} {ti : TI} {z : Unit → ByteArray} (ht : lget T t = some ti) (hk : ti.kind = .str) (hx0 : ev s x = .p (.str z)) (ho : o.op = .range t x) (hs : St c s a w) (h : K ((s.new (.iter z (.lit 0))).put o.dst (.ptr s.n (.lit 0)))) : o.wp P a w (Post K c w) Q := by
  have hx : a.eval x = .string (z ()) := LR.inv_str (hx0 ▸ hs.ev x)
  obtain ⟨d, hu, hkd⟩ := tok_under (hT t ti ht)
  rw [hk] at hkd
  cases d <;> try exact hkd.elim
  have hr : (execOp a.eval o).run P w = .ok (.value (.pointer (some ⟨w.heap.size, 0, none⟩))) (w.alloc (.stringIter (z ()) 0)) := by
    unfold execOp; rw [ho]
    exact runv (by simp [Instr.range, run_underlying hu, hx])
  refine op_world hs hr (Ext.alloc hs.hr _) (hs.hr.alloc _ (.iter z (.lit 0)) ⟨0, rfl, heap_alloc_new w _⟩) (show c.N + 1 = s.n + 1 by rw [hs.nn]) (u := .ptr s.n (.lit 0)) ?_ (by rw [hs.nn]; exact h)
  rw [← hs.nn]; exact .ptr _ _ _ 0 (grow_new c _) rfl

theorem nextS {z : Unit → ByteArray} {pos : Unit → Int} {L : Option (I × I) → Prop} (h : NextS z pos L) : (((z ()).size : Int) ≤ pos () ∧ L none) ∨ (pos () < (z ()).size ∧ ∃ r p : I, r.val = ((Utf8.decode (z ()) (pos ()).toNat).1 : Int) ∧ p.val = pos () + ((Utf8.decode (z ()) (pos ()).toNat).2 : Int) ∧ L (some (r, p))) := by
  cases h with
  | over h k => exact .inl ⟨h, k⟩
  | more h k => exact .inr ⟨h, .sym _, .sym _, rfl, rfl, k _ _ rfl rfl⟩
  | lit h r p h1 h2 k => exact .inr ⟨h, .lit r, .lit p, h1.symm, h2.symm, k⟩
theorem Turn.set {w : World} {r : Nat} {B' : Obj} (hlt : r < w.heap.size) (h1 : w.shape? r = none) (h2 : ∀ c e f, B' ≠ .cells c e f) : Turn w { w with heap := w.heap.setIfInBounds r B' } r := by
  refine ⟨rfl, rfl, rfl, by simp, fun k hk => ?_, ?_⟩
  · simp only [Array.getElem?_setIfInBounds]
    rw [if_neg (fun h => hk h.symm)]
  · rw [h1]
    simp only [World.shape?, Array.getElem?_setIfInBounds, if_pos, hlt]
    cases B' <;> first | exact absurd rfl (h2 _ _ _) | rfl
theorem lop_next {x : Operand} {z : Unit → ByteArray} {pos : I} {b : Nat} {m : Int} (ho : o.op = .next x true) (hs : St c s a w) (hm0 : m = 0) (hx0 : ev s x = .ptr b (.lit m)) (hB : hget s.h b = some (.iter z pos))
    (h : NextS z (fun _ => pos.val) fun r => match r with
          | none => K (s.put o.dst (.tup [.p (.bool false)]))
          | some (c, p) => K (LS.put { s with h := hset s.h b (.iter z p) } o.dst (.tup [.p (.bool true), .p (.int .i64 pos), .p (.int .i32 c)]))) : o.wp P a w (Post K c w) Q := by
  have hx := hs.ev x
  rw [hx0] at hx
  obtain ⟨m', hm', hBR⟩ := hs.hr.live b _ hB
  obtain ⟨r, k, hm, hk, hvx⟩ := live_ptr hs hx hB
  rw [hm] at hm'; cases hm'
  obtain ⟨p, hp, hg⟩ := hBR
  have hlt : r < w.heap.size := hs.hr.lt b r hm
  have hsh : w.shape? r = none := by simp only [World.shape?, hg]
  have hgo : (getObj r).run P w = .ok (.stringIter (z ()) p) w := by simp [getObj, Sem.run, hg]
  have key : k = 0 := by rw [hm0] at hk; simp only [I.val] at hk; omega
  subst key
  rcases nextS h with ⟨h1, h2⟩ | ⟨h1, ch, np, h2, h3, h4⟩
  · have hnp : ¬ p < (z ()).size := by omega
    refine op_val hs (v := .tuple #[.bool false]) ?_ (.tup _ _ rfl (Rel2.getD (x := #[.bool false]) (Rel2.cons (LR.of_bool _) Rel2.nil)).2) h2
    unfold execOp; rw [ho]
    exact runv (by simp [Instr.next, hvx, hgo, hnp])
  · have hnp : p < (z ()).size := by omega
    rw [hp, Int.toNat_natCast] at h2 h3
    have ht := Turn.set (w := w) (B' := .stringIter (z ()) (p + (Utf8.decode (z ()) p).2)) hlt hsh (fun _ _ _ h => by cases h)
    refine op_world hs (v := .tuple #[.bool true, goInt p, .int .i32 (Utf8.decode (z ()) p).1]) ?_ (Ext.turn hs.hr hm ht) (hs.hr.turn hB hm ht (B' := .iter z np) ?_) hs.nn (.tup _ _ rfl (Rel2.getD (x := #[.bool true, goInt p, .int .i32 (Utf8.decode (z ()) p).1]) (Rel2.cons (LR.of_bool _) (Rel2.cons ?_ (Rel2.cons ?_ Rel2.nil)))).2) h4
    · unfold execOp; rw [ho]
      refine runv ?_
      simp [Instr.next, hvx, hgo, hnp, setObj, Sem.run, hg]
    · refine ⟨p + (Utf8.decode (z ()) p).2, by rw [h3]; simp, ?_⟩
      simp only [Array.getElem?_setIfInBounds, if_pos, hlt]
    · have := LR.of_int (c := c) (w := { w with heap := w.heap.setIfInBounds r (.stringIter (z ()) (p + (Utf8.decode (z ()) p).2)) }) .i64 pos
      rw [hp] at this; exact this
    · have := LR.of_int (c := c) (w := { w with heap := w.heap.setIfInBounds r (.stringIter (z ()) (p + (Utf8.decode (z ()) p).2)) }) .i32 ch
      rw [h2] at this; exact this

theorem eva_rel (hs : St c s a w) : ∀ l : List Operand, Rel2 c w (eva s l) (l.map a.eval)
  | [] => Rel2.nil
  | x :: l => Rel2.cons (hs.ev x) (eva_rel hs l)
theorem lop_makeFunc {f : Nat} {first cap : Array Operand} (ho : o.op = .makeFunc (.func f) first cap) (hf : first.toList = []) (hs : St c s a w) (h : K (s.put o.dst (.fn f (eva s cap.toList)))) : o.wp P a w (Post K c w) Q := by
  have hf : first = #[] := by cases first; simp_all
  subst hf
  have hrel := eva_rel hs cap.toList
  refine op_val hs (v := .func (.func f) #[] (cap.map a.eval)) ?_ (.fn _ _ _ ?_ ?_) h
  · unfold execOp; rw [ho]
    exact runv (by simp [Instr.makeFunc])
  · simpa using hrel.1
  · exact (Rel2.getD (x := cap.map a.eval) (by simpa using hrel)).2

/-! ### Calls -/
theorem Rel2.append {l m : List LV} {xs ys : List Value} (h : Rel2 c w l xs) (k : Rel2 c w m ys) : Rel2 c w (l ++ m) (xs ++ ys) := by
  refine ⟨by simp [h.1, k.1], fun j u hu => ?_⟩
  by_cases hj : j < l.length
  · rw [List.getElem?_append_left hj] at hu
    rw [List.getElem?_append_left (by rw [← h.1]; exact hj)]
    exact h.2 j u hu
  · rw [List.getElem?_append_right (by omega)] at hu
    rw [List.getElem?_append_right (by rw [← h.1]; omega), ← h.1]
    exact k.2 _ u hu
theorem call_sound {g : Nat} {args : List LV} {xs : Array Value} (hs : St c s a w) (hr : (execOp a.eval o).run P w = (callFunc g xs).run P w) (hrel : Rel2 c w args xs.toList)
    (h : CallF (fun _ => P) g args s.h s.n fun r h n => K (LS.put { s with h := h, n := n } o.dst r)) : o.wp P a w (Post K c w) Q := by
  cases h with
  | mk hc hsem =>
    obtain ⟨fn, cd, h1, h2, h3⟩ := hc
    have hrun : (callFunc g xs).run P w = .ok (.enter g xs) w := by
      have h2' : ¬ fn.name = "runtime.NumGoroutine" := by simpa using h2
      simp [callFunc, Sem.run, program, h1, h2', h3]
    unfold Oper.wp
    rw [hr, hrun, Oper.upon_enter]
    refine (hsem c w xs hs.hr hs.nn hrel.getD.1 hrel.getD.2).mono fun e w' hh => ?_
    obtain ⟨c', r, v, h', n', rfl, hK, hh', hn', hv, he⟩ := hh
    exact ⟨c', _, hK, (hs.ext he hh' hn').put hv _, he⟩
theorem lop_call {cl : Call} {f : Operand} (ho : o.op = .call cl) (hcl : cl.callee = .value f) (hs : St c s a w)
    (h : match ev s f with
      | .p (.fn g) => CallF (fun _ => P) g (eva s cl.args.toList) s.h s.n fun r h n => K (LS.put { s with h := h, n := n } o.dst r)
      | .fn g cap => CallF (fun _ => P) g (eva s cl.args.toList ++ cap) s.h s.n fun r h n => K (LS.put { s with h := h, n := n } o.dst r)
      | _ => False) : o.wp P a w (Post K c w) Q := by
  have hf := hs.ev f
  have hrel := eva_rel hs cl.args.toList
  split at h
  · rename_i g hev
    rw [hev] at hf
    have hv : a.eval f = .func (.func g) #[] #[] := by
      generalize a.eval f = v at hf
      cases hf with | p _ _ hp => cases hp; rfl
    refine call_sound hs (xs := cl.args.map a.eval) ?_ (by simpa using hrel) h
    unfold execOp; rw [ho]
    simp [resolve, hcl, hv, Deferred.ofValue, invoke]
  · rename_i g cap hev
    rw [hev] at hf
    generalize hvf : a.eval f = v at hf
    cases hf with
    | fn _ _ xs hl hr =>
      refine call_sound hs (xs := cl.args.map a.eval ++ xs) ?_ (by simpa using hrel.append (Rel2.ofD hl hr)) h
      unfold execOp; rw [ho]
      simp [resolve, hcl, hvf, Deferred.ofValue, invoke]
  · exact h.elim
end
end Go.LX
/-
  Each operation does in the model what the calculus says of it: len, min, max, append; and all of them in one sentence.
-/
namespace Go.LX
open Go

section
variable {P : Program} {T : TT} {o : Oper} {s : LS} {K : LS → Prop} {c : Ctx} {a : Act} {w w' : World} {Q : Exit → Act → World → Prop}

theorem built_run {cl : Call} {b : Builtin} (ho : o.op = .call cl) (hcl : cl.callee = .builtin b) {v : Value} {w' : World} (h : ∀ cs, (builtin b cl.argTypes o.type cs (cl.args.map a.eval)).run P w = .ok (.value v) w') :
    (execOp a.eval o).run P w = .ok (.value v) w' := by
  unfold execOp; rw [ho]
  simp [resolve, hcl, invoke]
  exact h _
theorem args1 {cl : Call} {x : LV} (hs : St c s a w) (h : eva s cl.args.toList = [x]) : ∃ v, cl.args.map a.eval = #[v] ∧ LR c w x v := by
  have hrel := eva_rel hs cl.args.toList
  rw [h] at hrel
  obtain ⟨v, ys, h1, h2, h3⟩ := hrel.head
  have : ys = [] := by cases ys with | nil => rfl | cons y ys => have := h3.1; simp at this
  subst this
  exact ⟨v, by apply Array.ext'; simpa using h1, h2⟩
theorem args2 {cl : Call} {x y : LV} (hs : St c s a w) (h : eva s cl.args.toList = [x, y]) : ∃ v u, cl.args.map a.eval = #[v, u] ∧ LR c w x v ∧ LR c w y u := by
  have hrel := eva_rel hs cl.args.toList
  rw [h] at hrel
  obtain ⟨v, ys, h1, h2, h3⟩ := hrel.head
  obtain ⟨u, zs, h4, h5, h6⟩ := h3.head
  have : zs = [] := by cases zs with | nil => rfl | cons y ys => have := h6.1; simp at this
  subst this h4
  exact ⟨v, u, by apply Array.ext'; simpa using h1, h2, h5⟩

theorem lop_len (hT : TOK P T) {cl : Call} {x : LV} {t : Nat} {ti : TI} (ho : o.op = .call cl) (hcl : cl.callee = .builtin .len) (hargs : eva s cl.args.toList = [x]) (hty : cl.argTypes.toList[0]? = some t) (ht : lget T t = some ti) (hs : St c s a w)
    (h : match ti.kind, x with
        | .slice _, .p (.vsl n _ _) => K (s.put o.dst (.p (.int .i64 n)))
        | .slice _, .p .nils => K (s.put o.dst (.p (.int .i64 (.lit 0))))
        | .str, .p (.str z) => Sum (fun _ => (z ()).size) fun y => K (s.put o.dst (.p (.int .i64 y)))
        | .slice _, .sl b _ _ _ n => match hget s.h b with
          | some _ => K (s.put o.dst (.p (.int .i64 n)))
          | none => False
        | _, _ => False) : o.wp P a w (Post K c w) Q := by
  obtain ⟨v, hv, hx⟩ := args1 hs hargs
  obtain ⟨d, hu, hkd⟩ := tok_under (hT t ti ht)
  have hty' : cl.argTypes[0]? = some t := by simpa using hty
  have hrun : ∀ {n : Int}, (Builtin.len_ cl.argTypes o.type #[v]).run P w = .ok (goInt n) w → (execOp a.eval o).run P w = .ok (.value (.int .i64 n)) w := by
    intro n h
    refine built_run ho hcl fun cs => ?_
    rw [hv]
    simp [builtin, h, goInt]
  split at h
  · rename_i e n sy l hk
    rw [hk] at hkd
    cases d <;> try exact hkd.elim
    cases hx with
    | p _ _ hp =>
      cases hp with
      | vsl0 _ _ _ ad cp h0 _ => exact op_val hs (hrun (n := n.val) (by simp [Builtin.len_, hty', run_underlying hu, h0])) (LR.of_int _ _) h
      | vsl _ _ _ ad n' cp g hn hsp hM hlt hle hcp hcell hrel => exact op_val hs (hrun (n := n.val) (by simp [Builtin.len_, hty', run_underlying hu, hn])) (LR.of_int _ _) h
  · rename_i e hk
    rw [hk] at hkd
    cases d <;> try exact hkd.elim
    cases hx with
    | p _ _ hp =>
      cases hp with
      | nils => exact op_val hs (hrun (n := 0) (by simp [Builtin.len_, hty', run_underlying hu])) (LR.of_int .i64 (.lit 0)) h
  · rename_i z hk
    rw [hk] at hkd
    cases d <;> try exact hkd.elim
    cases hx.inv_str
    obtain ⟨y, hy, hK⟩ := sum h
    exact op_val hs (hrun (n := y.val) (by simp [Builtin.len_, hty', run_underlying hu, hy])) (LR.of_int _ _) hK
  · rename_i e b e' sz o' n hk
    rw [hk] at hkd
    cases d <;> try exact hkd.elim
    cases hB : hget s.h b with
    | none => rw [hB] at h; exact h.elim
    | some B =>
      rw [hB] at h
      obtain ⟨m, hm, _⟩ := hs.hr.live b B hB
      cases hx with
      | goneS _ _ _ _ _ _ _ _ hm' _ => rw [hm] at hm'; cases hm'
      | slv _ _ _ _ _ hm' ho' hn' => exact op_val hs (hrun (n := n.val) (by simp [Builtin.len_, hty', run_underlying hu, hn'])) (LR.of_int _ _) h
      | sl _ _ _ _ _ r j' k' cp tot hm' ho' hn' hk' hc hs' ht' => exact op_val hs (hrun (n := n.val) (by simp [Builtin.len_, hty', run_underlying hu, hn'])) (LR.of_int _ _) h
  · exact h.elim

theorem lop_min {cl : Call} {k k' : IntKind} {x y : I} (ho : o.op = .call cl) (hcl : cl.callee = .builtin .min) (hargs : eva s cl.args.toList = [.p (.int k x), .p (.int k' y)]) (hs : St c s a w)
    (h : Br (fun _ => y.val < x.val) fun c => match c with
        | true => K (s.put o.dst (.p (.int k y)))
        | false => K (s.put o.dst (.p (.int k x)))) : o.wp P a w (Post K c w) Q := by
  obtain ⟨v, u, hv, hx, hy⟩ := args2 hs hargs
  cases hx.inv_int; cases hy.inv_int
  obtain ⟨b, hb, hK⟩ := br h
  have hrun : (execOp a.eval o).run P w = .ok (.value (.int k (if y.val < x.val then y.val else x.val))) w := by
    refine built_run ho hcl fun cs => ?_
    rw [hv]
    simp [builtin, Builtin.min_, Builtin.min2]
  cases b with
  | true => rw [if_pos (hb.1 rfl)] at hrun; exact op_val hs hrun (LR.of_int _ _) hK
  | false => rw [if_neg (fun h => by have := hb.2 h; cases this)] at hrun; exact op_val hs hrun (LR.of_int _ _) hK
theorem lop_max {cl : Call} {k k' : IntKind} {x y : I} (ho : o.op = .call cl) (hcl : cl.callee = .builtin .max) (hargs : eva s cl.args.toList = [.p (.int k x), .p (.int k' y)]) (hs : St c s a w)
    (h : Br (fun _ => x.val < y.val) fun c => match c with
        | true => K (s.put o.dst (.p (.int k y)))
        | false => K (s.put o.dst (.p (.int k x)))) : o.wp P a w (Post K c w) Q := by
  obtain ⟨v, u, hv, hx, hy⟩ := args2 hs hargs
  cases hx.inv_int; cases hy.inv_int
  obtain ⟨b, hb, hK⟩ := br h
  have hrun : (execOp a.eval o).run P w = .ok (.value (.int k (if x.val < y.val then y.val else x.val))) w := by
    refine built_run ho hcl fun cs => ?_
    rw [hv]
    simp [builtin, Builtin.max_, Builtin.max2]
  cases b with
  | true => rw [if_pos (hb.1 rfl)] at hrun; exact op_val hs hrun (LR.of_int _ _) hK
  | false => rw [if_neg (fun h => by have := hb.2 h; cases this)] at hrun; exact op_val hs hrun (LR.of_int _ _) hK
end
end Go.LX
