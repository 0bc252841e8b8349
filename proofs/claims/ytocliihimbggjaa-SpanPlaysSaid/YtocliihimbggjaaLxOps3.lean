/-
  Each operation does in the model what the calculus says of it: structs, rows, loads, stores, addresses.
-/
import Derived.Test.YtocliihimbggjaaLxOps2
namespace Go.LX
open Go

section
variable {P : Program} {T : TT} {o : Oper} {s : LS} {K : LS → Prop} {c : Ctx} {a : Act} {w w' : World} {Q : Exit → Act → World → Prop}

theorem zero_cells {t : Nat} {ti : TI} (hT : TIok P t ti) : ∃ z, (∀ w, (zeroValue t).run P w = .ok z w) ∧ z.cells.toList = ti.zero.map PV.toV ∧ ∀ c w, Rel2 c w (pvs ti.zero) z.cells.toList := by
  obtain ⟨⟨i, z, d, hi, _, _, hz, hc, _⟩, hzs⟩ := hT
  exact ⟨z, fun w => by simp [zeroValue, typeInfo, hi, hz], hc, fun c w => by rw [hc]; exact zero_rel c w _ hzs⟩

theorem mapM_get {α β : Type} (f : α → Option β) : ∀ (l : List α) {m : List β}, l.mapM f = some m → ∀ (i : Nat) (x : α), l[i]? = some x → ∃ y, f x = some y ∧ m[i]? = some y
  | [], m, h, i, x, hx => by simp at hx
  | z :: l, m, h, i, x, hx => by
    simp only [List.mapM_cons, Option.bind_eq_bind, Option.pure_def] at h
    cases e1 : f z with
    | none => simp [e1] at h
    | some y =>
      cases e2 : l.mapM f with
      | none => simp [e1, e2] at h
      | some ys =>
        simp [e1, e2] at h
        subst h
        cases i with
        | zero => simp at hx; subst hx; exact ⟨y, e1, rfl⟩
        | succ i => simp at hx; obtain ⟨z', h1, h2⟩ := mapM_get f l e2 i x hx; exact ⟨z', h1, by simpa using h2⟩
theorem lop_build (hT : TOK P T) {t : TypeId} {parts : Array (Nat × Operand)} {ti : TI} {cs : List LV} (ht : lget T t = some ti) (hk : ti.kind.agg = true) (ho : o.op = .build t parts) (hs : St c s a w)
    (hf : fillL T ti.kind (pvs ti.zero) (evs s parts.toList) = some cs) (hK : K (s.put o.dst (.agg cs))) : o.wp P a w (Post K c w) Q := by
  obtain ⟨hl, hq⟩ := evs_rel hs parts.toList
  obtain ⟨⟨i, z, d, hi, hsz, _, hz, hzc, hu, hkd, _⟩, hzs⟩ := hT t ti ht
  have hzr : Rel2 c w (pvs ti.zero) z.cells.toList := by rw [hzc]; exact zero_rel c w _ hzs
  have hmap : (parts.map fun (i, x) => (i, a.eval x)).toList = parts.toList.map fun (i, x) => (i, a.eval x) := by simp
  have fin : ∀ {pl : Nat → Option (Nat × Nat)}, (∀ i off sz, place T ti.kind i = some (off, sz) → pl i = some (off, sz)) → (∀ arr', Instr.fill pl z.cells (parts.map fun (i, x) => (i, a.eval x)).toList = some arr' → P.built t (parts.map fun (i, x) => (i, a.eval x)).toList = some arr') →
      o.wp P a w (Post K c w) Q := by
    intro pl h1 h2
    obtain ⟨arr', h3, h4, _⟩ := fill_sound (c := c) (w := w) h1 _ _ _ z.cells hl hq hzr hf
    refine op_val hs (v := .agg arr') ?_ (.agg cs arr' h4.getD.1 h4.getD.2) hK
    unfold execOp; rw [ho]
    exact runv (run_build w t _ arr' (h2 arr' (by rw [hmap]; exact h3)))
  cases hkind : ti.kind with
  | struct fs =>
    rw [hkind] at hkd
    cases d <;> try exact hkd.elim
    rename_i fields
    obtain ⟨hfs, hpl⟩ := hkd
    obtain ⟨pls, hpl⟩ := Option.isSome_iff_exists.1 hpl
    refine fin (pl := fun i => pls.toArray[i]?) (fun i off sz hp => ?_) (fun arr' h => ?_)
    · rw [hkind] at hp
      simp only [place] at hp
      cases e : fs[i]? with
      | none => rw [e] at hp; cases hp
      | some p =>
        obtain ⟨off', ft⟩ := p
        rw [e] at hp
        dsimp only at hp
        cases e2 : lget T ft with
        | none => rw [e2] at hp; cases hp
        | some tf =>
          rw [e2] at hp
          cases hp
          rw [hfs, List.getElem?_map] at e
          cases e3 : fields.toList[i]? with
          | none => rw [e3] at e; cases e
          | some f =>
            rw [e3] at e
            cases e
            obtain ⟨y, h1, h2⟩ := mapM_get _ _ hpl i f e3
            obtain ⟨⟨i', _, _, hi', hsz', _⟩, _⟩ := hT _ tf e2
            rw [hi'] at h1
            cases h1
            rw [← hsz']
            simpa using h2
    · simp only [Program.built, hi, hu, hz, hpl]
      exact h
  | arr n e =>
    rw [hkind] at hkd
    cases d <;> try exact hkd.elim
    rename_i n' e'
    obtain ⟨rfl, rfl, hie⟩ := hkd
    obtain ⟨ie, hie⟩ := Option.isSome_iff_exists.1 hie
    refine fin (pl := fun i => some (i * ie.size, ie.size)) (fun i off sz hp => ?_) (fun arr' h => ?_)
    · rw [hkind] at hp
      simp only [place] at hp
      cases e2 : lget T e with
      | none => rw [e2] at hp; cases hp
      | some te =>
        rw [e2] at hp
        obtain ⟨⟨i', _, _, hi', hsz', _⟩, _⟩ := hT e te e2
        rw [hie] at hi'
        cases hi'
        rw [hsz']
        exact hp
    · simp only [Program.built, hi, hu, hz, hie]
      exact h
  | _ => rw [hkind] at hk; cases hk

theorem reps_rel (c : Ctx) (w : World) {z : List PV} {zs : Array Value} (h : Rel2 c w (pvs z) zs.toList) (hz : 0 < zs.size) (n : Nat) : Rel2 c w (reps z n) ((Array.range (n * zs.size)).map (zs[· % zs.size]!)).toList := by
  have hl : ∀ n, (reps z n).length = n * zs.size := by
    intro n
    induction n with
    | zero => simp [reps]
    | succ n ih => rw [reps, List.length_append, ih, h.1, Nat.succ_mul]; simp; omega
  have hg : ∀ n j, j < n * zs.size → (reps z n)[j]? = (pvs z)[j % zs.size]? := by
    intro n
    induction n with
    | zero => intro j hj; omega
    | succ n ih =>
      intro j hj
      have hzl : (pvs z).length = zs.size := by simpa using h.1
      rw [reps]
      by_cases h1 : j < zs.size
      · rw [List.getElem?_append_left (by omega), Nat.mod_eq_of_lt h1]
      · rw [List.getElem?_append_right (by omega), hzl, ih _ (by rw [Nat.succ_mul] at hj; omega)]
        congr 1
        rw [Nat.mod_eq_sub_mod (by omega : j ≥ zs.size)]
  refine ⟨by rw [hl]; simp, fun j u hu => ?_⟩
  have hj : j < n * zs.size := by rw [← hl n]; exact (List.getElem?_eq_some_iff.1 hu).1
  rw [hg n j hj] at hu
  obtain ⟨x, h1, h2⟩ := h.2 _ u hu
  refine ⟨x, ?_, h2⟩
  have hm : j % zs.size < zs.size := Nat.mod_lt _ hz
  simp only [Array.toList_map, Array.toList_range, List.getElem?_map, List.getElem?_range hj, Option.map_some]
  have h3 : zs[j % zs.size]? = some x := by simpa using h1
  rw [getElem!_def, h3]

theorem lop_buildSlice (hT : TOK P T) {t e len : Nat} {parts : Array (Nat × Operand)} {ti te : TI} {cs : List LV} (ht : lget T t = some ti) (hk : ti.kind = .slice e) (hte : lget T e = some te) (hlen : len * te.size ≤ 10000) (ho : o.op = .buildSlice t len parts) (hs : St c s a w)
    (hf : fillL T ti.kind (reps te.zero len) (evs s parts.toList) = some cs) (hzl : te.zero.length = te.size) (h1 : 1 ≤ te.size) (hK : K ((s.new (LB.of cs)).put o.dst (.sl s.n e te.size (.lit 0) (.lit len)))) : o.wp P a w (Post K c w) Q := by
  obtain ⟨z, hz, hzc, hzr⟩ := zero_cells (hT e te hte)
  obtain ⟨hl, hq⟩ := evs_rel hs parts.toList
  obtain ⟨⟨i, z', d, hi, hsz, _, hz', _, hu, hkd, _⟩, _⟩ := hT t ti ht
  rw [hk] at hkd hf
  cases d <;> try exact hkd.elim
  rename_i e'
  have hkd : e = e' := hkd
  subst hkd
  have hse := tok_size (w := w) (hT e te hte)
  have hzs : z.cells.size = te.size := by
    have : z.cells.toList.length = te.zero.length := by rw [hzc, List.length_map]
    rw [Array.length_toList] at this; omega
  have hpl2 : ∀ i off sz, place T (.slice e) i = some (off, sz) → (fun i => some (i * te.size, te.size)) i = some (off, sz) := by
    intro i off sz hp
    simp only [place, hte] at hp
    exact hp
  have hrel0 := reps_rel c w (hzr c w) (by omega) len
  rw [hzs] at hrel0
  obtain ⟨arr', h3, h4, h5⟩ := fill_sound (c := c) (w := w) hpl2 _ _ _ _ hl hq hrel0 hf
  have hlens : arr'.size = len * te.size := by rw [h5]; simp
  have hmap : (parts.map fun (i, x) => (i, a.eval x)).toList = parts.toList.map fun (i, x) => (i, a.eval x) := by simp
  have hrun : (execOp a.eval o).run P w = .ok (.value (.slice (some ⟨w.heap.size, 0, none⟩) len len)) (w.alloc (.cells arr' e)) := by
    unfold execOp; rw [ho]
    refine runv ?_
    have hbig : ¬ len * te.size > 2 ^ 24 := by omega
    by_cases h0 : len * te.size = 0
    · have e0 : (Array.range (len * te.size)).map (fun j => z.cells[j % te.size]!) = (#[] : Array Value) := by rw [h0]; simp
      rw [e0] at h3
      have e1 : (Array.map (fun _ => (default : Value)) (Array.range 0)) = (#[] : Array Value) := by simp
      have hmap2 : (List.map (fun x : Nat × Operand => (x.fst, a.eval x.snd)) parts.toList) = parts.toList.map fun (i, x) => (i, a.eval x) := rfl
      simp [Instr.buildSlice, run_underlying hu, hse, h0, newRow]
      rw [e1, hmap2, h3]
      simp
    · simp only at h3
      simp [Instr.buildSlice, run_underlying hu, hse, hbig, h0, hz, hzs, h3, newRow]
  refine op_new hs (u := .sl s.n e te.size (.lit 0) (.lit len)) h4 hrun ?_ hK
  rw [← hs.nn]
  refine .sl _ _ _ _ _ w.heap.size 0 len len (len * te.size) (grow_new c _) rfl rfl (Nat.le_refl _) ?_ ?_ (by omega)
  · unfold maxLen
    have : len ≤ len * te.size := Nat.le_mul_of_pos_right _ h1
    omega
  · rw [World.shape?, heap_alloc_new]
    simp only [hlens]

theorem lop_load (hT : TOK P T) {t : TypeId} {x : Operand} {ti : TI} (ht : lget T t = some ti) (ho : o.op = .load t x) (hs : St c s a w)
    (h : match ev s x with
      | .ptr b o' => match hget s.h b with
        | some B => loadB B o' ti fun v => K (s.put o.dst v)
        | none => False
      | .p (.vp sy l o') => getP sy l o' ti.size 0 fun vs => ofCells ti.kind vs fun v => K (s.put o.dst v)
      | _ => False) : o.wp P a w (Post K c w) Q := by
  have hx := hs.ev x
  have hrun : ∀ {ad v}, a.eval x = .pointer (some ad) → (loadVar t ad).run P w = .ok v w → (execOp a.eval o).run P w = .ok (.value v) w := by
    intro ad v h1 h2
    unfold execOp; rw [ho]
    refine runv ?_
    simp [Instr.loadAt, h1, Instr.sureAddr, h2]
  split at h
  · rename_i b o' hev
    rw [hev] at hx
    cases hB : hget s.h b with
    | none => rw [hB] at h; exact h.elim
    | some B =>
      rw [hB] at h
      obtain ⟨m, hm, hBR⟩ := hs.hr.live b B hB
      generalize hvx : a.eval x = vx at hx
      cases hx with
      | goneP _ _ _ hm' _ => rw [hm] at hm'; cases hm'
      | ptr _ _ r k hm' hk =>
        rw [hm] at hm'; cases hm'
        obtain ⟨u, v, h1, h2, h3⟩ := loadB_sound (hT t ti ht) hBR hk h
        exact op_val hs (hrun hvx h1) h2 h3
  · rename_i sy l o' hev
    rw [hev] at hx
    generalize hvx : a.eval x = vx at hx
    cases hx with
    | p _ _ hp =>
      cases hp with
      | vp _ _ _ ad k f hk hsp hM hlt hcell hrel =>
        obtain ⟨us, h1, h2, h3⟩ := getP_sound hk _ _ h
        have hr : Rel2 c w (pvs us) ((List.range ti.size).map fun i => f (k + i)) := by
          refine ⟨by rw [pvs_length, h1]; simp, fun j u hu => ?_⟩
          rw [pvs_get] at hu
          cases e : us[j]? with
          | none => rw [e] at hu; cases hu
          | some v =>
            rw [e] at hu; cases hu
            have hj : j < ti.size := by rw [← h1]; exact (List.getElem?_eq_some_iff.1 e).1
            have h4 := h2 j hj
            rw [e, Nat.add_zero] at h4
            exact ⟨f (k + j), by simp [hj], .p _ _ (hrel _ _ h4)⟩
        obtain ⟨u, v, h5, h6, h7⟩ := ofCells_sound (a := ad.add k) (hT t ti ht) hr (by rw [pvs_length, h1]) (fun j v hj => by
          simp only [List.getElem?_map] at hj
          by_cases hjl : j < ti.size
          · rw [List.getElem?_range hjl] at hj
            cases hj
            have h4 := h2 j hjl
            rw [List.getElem?_eq_getElem (show j < us.length by omega), Nat.add_zero] at h4
            rw [Addr.add_add]
            exact hcell _ _ h4
          · rw [List.getElem?_eq_none (by simp; omega)] at hj; cases hj) h3
        exact op_val hs (hrun hvx h5) h6 h7
  · exact h.elim

theorem lop_store (hT : TOK P T) {t : TypeId} {x y : Operand} {ti : TI} (ht : lget T t = some ti) (ho : o.op = .store t x y) (hs : St c s a w)
    (h : match ev s x with
      | .ptr b o' => match Nat.beq (llen (cellsL (ev s y))) ti.size, Nat.ble 1 ti.size with
        | true, true => match hget s.h b with
          | some B => storeB B o' (cellsL (ev s y)) fun B' => K ({ s with h := hset s.h b B' }.put o.dst .nul)
          | none => False
        | _, _ => False
      | _ => False) : o.wp P a w (Post K c w) Q := by
  have hx := hs.ev x
  split at h
  · rename_i b o' hev
    rw [hev] at hx
    split at h
    · rename_i e1 e2
      have e1 := Nat.eq_of_beq_eq_true e1
      have e2 := Nat.le_of_ble_eq_true e2
      rw [llen_eq] at e1
      cases hB : hget s.h b with
      | none => rw [hB] at h; exact h.elim
      | some B =>
        rw [hB] at h
        obtain ⟨m, hm, hBR⟩ := hs.hr.live b B hB
        generalize hvx : a.eval x = vx at hx
        cases hx with
        | goneP _ _ _ hm' _ => rw [hm] at hm'; cases hm'
        | ptr _ _ r k hm' hk =>
          rw [hm] at hm'; cases hm'
          have hok : allOk (cellsL (ev s y)) = true := by
            cases e : allOk (cellsL (ev s y)) with
            | true => rfl
            | false =>
              dsimp only at h
              unfold storeB at h
              rw [e] at h
              exact h.elim
          have hv := cells_rel (hs.ev y) hok
          obtain ⟨B', cur, ty, h1, hg, h3, _, h5, h6⟩ := storeB_sound hs.hr hB hm hBR hk hv (by omega) h
          refine op_skip hs (w' := w.setRow r (over cur.toList k (a.eval y).cells.toList).toArray) ?_ (Ext.turn hs.hr hm h5) (hs.hr.turn hB hm h5 h6) hs.nn h1
          unfold execOp; rw [ho]
          refine runu ?_
          simp only [Instr.storeAt, hvx, Instr.sureAddr]
          have hsz : (a.eval y).cells.size = ti.size := by rw [← e1, hv.1]; simp
          have hst := run_storeCells_at P r k ty (a.eval y).cells.toList 0 cur w hg (by simpa using h3) (hv.ones hok)
          simp only [Nat.add_zero] at hst
          simp [storeVar, tok_size (hT t ti ht), hsz, hst, over]
    · exact h.elim
  · exact h.elim
end
end Go.LX
