/-
  Each operation does in the model what the calculus says of it: those on blocks, and what is made.
-/
import Derived.Test.YtocliihimbggjaaLxMem
namespace Go.LX
open Go

section
variable {P : Program} {T : TT} {o : Oper} {s : LS} {K : LS → Prop} {c : Ctx} {a : Act} {w w' : World} {Q : Exit → Act → World → Prop}

theorem runv {sm : Sem Value} {x : Value} (h : sm.run P w = .ok x w') : ((do pure (Next.value (← sm))) : Sem Next).run P w = .ok (.value x) w' := by
  rw [Sem.run_bind, h]; rfl
theorem runu {sm : Sem Unit} (h : sm.run P w = .ok () w') : ((do sm; pure Next.skip) : Sem Next).run P w = .ok .skip w' := by
  rw [Sem.run_bind, h]; rfl
theorem BR.of {cs : List LV} {xs : Array Value} {r : Nat} {ty : TypeId} (hg : w.heap[r]? = some (.cells xs ty (0, 0))) (hrel : Rel2 c w cs xs.toList) : BR c w (LB.of cs) (some r) := by
  unfold LB.of
  have hl : cs.length = xs.size := by simpa using hrel.1
  cases e : allP cs with
  | none =>
    exact ⟨xs, ty, hg, Nat.le_of_eq hl, hrel.getD.2⟩
  | some us =>
    have e2 := allP_eq cs e
    subst e2
    rw [pvs_length] at hl
    refine ⟨xs, ty, hg, Nat.le_of_eq hl, fun j u hu => ?_⟩
    have := hrel.getD.2 j (.p u) (by rw [pvs_get, hu]; rfl)
    cases this with | p _ _ h => exact h
theorem Rel2.ext {h : LH} {c' : Ctx} {cs : List LV} {xs : List Value} (hr : HR c w h) (he : Ext c w c' w') (hrel : Rel2 c w cs xs) : Rel2 c' w' cs xs :=
  ⟨hrel.1, fun j u hu => let ⟨x, h1, h2⟩ := hrel.2 j u hu; ⟨x, h1, h2.ext hr.fresh he⟩⟩
theorem HR.newB {h : LH} {cs : List LV} {xs : Array Value} (ty : TypeId) (hr : HR c w h) (hrel : Rel2 c w cs xs.toList) :
    HR (c.grow (some w.heap.size)) (w.alloc (.cells xs ty)) ((c.N, LB.of cs) :: h) :=
  hr.alloc _ _ (BR.of (heap_alloc_new w _) (hrel.ext hr (Ext.alloc hr _)))
theorem allP_pvs : ∀ l : List PV, allP (pvs l) = some l
  | [] => rfl
  | v :: l => by simp [pvs, allP, allP_pvs l]
theorem of_pvs (l : List PV) : LB.of (pvs l) = .pure false l := by unfold LB.of; rw [allP_pvs]

/-- An operation that makes a block. -/
theorem op_new {cs : List LV} {xs : Array Value} {ty : TypeId} {v : Value} {u : LV} (hs : St c s a w) (hrel : Rel2 c w cs xs.toList) (hr : (execOp a.eval o).run P w = .ok (.value v) (w.alloc (.cells xs ty)))
    (hu : LR (c.grow (some w.heap.size)) (w.alloc (.cells xs ty)) u v) (hK : K ((s.new (LB.of cs)).put o.dst u)) : o.wp P a w (Post K c w) Q :=
  op_world hs hr (Ext.alloc hs.hr _) (hs.hr.newB ty hrel) (show c.N + 1 = s.n + 1 by rw [hs.nn]) hu (by rw [hs.nn]; exact hK)

theorem lop_alloc (hT : TOK P T) {t : TypeId} {ti : TI} (ht : lget T t = some ti) (ho : o.op = .alloc t) (hs : St c s a w) (hK : K ((s.new (.pure false ti.zero)).put o.dst (.ptr s.n (.lit 0)))) : o.wp P a w (Post K c w) Q := by
  obtain ⟨z, hz, hrel⟩ := tok_zero (c := c) (w := w) (hT t ti ht)
  refine op_new hs (cs := pvs ti.zero) (xs := z.cells) (ty := t) (v := .pointer (some ⟨w.heap.size, 0, none⟩)) hrel ?_ ?_ (by rw [of_pvs]; exact hK)
  · unfold execOp; rw [ho]
    refine runv ?_
    unfold Instr.alloc
    rw [Sem.run_bind, hz]
    simp [newVar, newRow]
  · rw [← hs.nn]; exact .ptr _ _ _ 0 (grow_new c _) rfl
theorem lop_allocB (hT : TOK P T) {t : TypeId} {ti : TI} {l : List PV} (ht : lget T t = some ti) (hz : ti.zero = .nilp :: l) (ho : o.op = .alloc t) (hs : St c s a w) (hK : K ((s.new (.bld t (pvs l))).put o.dst (.ptr s.n (.lit 0)))) : o.wp P a w (Post K c w) Q := by
  obtain ⟨z, hz2, hrel⟩ := tok_zero (c := c) (w := w) (hT t ti ht)
  have hr : (execOp a.eval o).run P w = .ok (.value (.pointer (some ⟨w.heap.size, 0, none⟩))) (w.alloc (.cells z.cells t)) := by
    unfold execOp; rw [ho]
    refine runv ?_
    unfold Instr.alloc
    rw [Sem.run_bind, hz2]
    simp [newVar, newRow]
  rw [hz] at hrel
  have hrel := hrel.ext hs.hr (Ext.alloc hs.hr (.cells z.cells t))
  have hBR : BR (c.grow (some w.heap.size)) (w.alloc (.cells z.cells t)) (.bld t (pvs l)) (some w.heap.size) := by
    have hsz := hrel.1
    rw [pvs_length, List.length_cons, Array.length_toList] at hsz
    refine ⟨z.cells, heap_alloc_new w _, by rw [pvs_length]; exact hsz.symm, .inl ?_, fun j u hu => ?_⟩
    · obtain ⟨x, h1, h2⟩ := hrel.2 0 (.p .nilp) rfl
      rw [Array.getElem?_toList] at h1
      rw [Array.getD_eq_getD_getElem?, h1]
      cases h2 with | p _ _ hp => cases hp; rfl
    · obtain ⟨x, h1, h2⟩ := hrel.2 (j + 1) u hu
      rw [Array.getElem?_toList] at h1
      rw [Array.getD_eq_getD_getElem?, h1]
      exact h2
  refine op_world hs hr (Ext.alloc hs.hr _) (hs.hr.alloc _ _ hBR) (show c.N + 1 = s.n + 1 by rw [hs.nn]) (u := .ptr s.n (.lit 0)) ?_ (by rw [hs.nn]; exact hK)
  rw [← hs.nn]; exact .ptr _ _ _ 0 (grow_new c _) rfl
theorem lop_box {t : TypeId} {x : Operand} (ho : o.op = .box t x) (hs : St c s a w) (hok : allOk (cellsL (ev s x)) = true) (hK : K ((s.new (LB.of (cellsL (ev s x)))).put o.dst (.ptr s.n (.lit 0)))) : o.wp P a w (Post K c w) Q := by
  refine op_new hs (cs := cellsL (ev s x)) (xs := (a.eval x).cells) (ty := t) (v := .pointer (some ⟨w.heap.size, 0, none⟩)) (cells_rel (hs.ev x) hok) ?_ ?_ hK
  · unfold execOp; rw [ho]
    refine runv ?_
    simp [Instr.box, newVar, newRow]
  · rw [← hs.nn]; exact .ptr _ _ _ 0 (grow_new c _) rfl

/-! ### Structs, arrays, and rows written out -/
theorem zip_over (us : List Value) (off : Nat) : ∀ (cells : Array Value) (k : Nat), off + k + us.length ≤ cells.size →
    ((us.zipIdx k).foldl (fun cs (x : Value × Nat) => cs.setIfInBounds (off + x.2) x.1) cells).toList = over cells.toList (off + k) us := by
  induction us with
  | nil => intro cells k h; simp [over]
  | cons u us ih =>
    intro cells k h
    rw [List.zipIdx_cons, List.foldl_cons, ih _ (k + 1) (by simp at h ⊢; omega)]
    simp only [Array.toList_setIfInBounds]
    rw [show off + (k + 1) = off + k + 1 by omega, set_over _ _ _ _ (by simp at h ⊢; omega)]
theorem fill_sound {pl : Nat → Option (Nat × Nat)} {k : TK} (hp : ∀ i off sz, place T k i = some (off, sz) → pl i = some (off, sz)) : ∀ (ps : List (Nat × LV)) (qs : List (Nat × Value)) (cells : List LV) (arr : Array Value) {cs : List LV},
    ps.length = qs.length → (∀ (j : Nat) (p : Nat × LV), ps[j]? = some p → ∃ x, qs[j]? = some (p.1, x) ∧ LR c w p.2 x) → Rel2 c w cells arr.toList → fillL T k cells ps = some cs → ∃ arr', Instr.fill pl arr qs = some arr' ∧ Rel2 c w cs arr'.toList ∧ arr'.size = arr.size
  | [], qs, cells, arr, cs, hl, _, hrel, h => by
    cases qs with
    | nil => cases h; exact ⟨arr, rfl, hrel, rfl⟩
    | cons q qs => simp at hl
  | (i, v) :: ps, qs, cells, arr, cs, hl, hq, hrel, h => by
    cases qs with
    | nil => simp at hl
    | cons q qs =>
      obtain ⟨x, h1, h2⟩ := hq 0 (i, v) rfl
      simp at h1; subst h1
      rw [fillL] at h
      cases e : place T k i with
      | none => rw [e] at h; cases h
      | some os =>
        obtain ⟨off, sz⟩ := os
        rw [e] at h
        dsimp only at h
        split at h
        · rename_i e1 e2 e3
          cases e4 : putM cells off (cellsL v) with
          | none => rw [e4] at h; cases h
          | some cells' =>
            rw [e4] at h
            dsimp only at h
            have hsz : (cellsL v).length = sz := by rw [← llen_eq]; exact Nat.eq_of_beq_eq_true e1
            have hpos : 1 ≤ sz := Nat.le_of_ble_eq_true e3
            have hcv := cells_rel h2 e2
            have hoff : off ≤ cells.length := by
              cases hc : cellsL v with
              | nil => rw [hc] at hsz; simp at hsz; omega
              | cons u us =>
                rw [hc, putM] at e4
                cases e5 : lsetO cells off u with
                | none => rw [e5] at e4; cases e4
                | some m => have := (lsetO_eq cells off u e5).1; omega
            obtain ⟨h5, h6⟩ := putM_eq _ cells off e4 hoff
            have hcl : (cellsL v).length = x.cells.size := by simpa using hcv.1
            have hcells : cells.length = arr.size := by simpa using hrel.1
            have hz := zip_over x.cells.toList off arr 0 (by rw [Array.length_toList]; omega)
            have hz' : (x.cells.zipIdx.foldl (fun cs (y : Value × Nat) => cs.setIfInBounds (off + y.2) y.1) arr).toList = over arr.toList off x.cells.toList := by
              rw [← Array.foldl_toList, Array.toList_zipIdx]; exact hz
            refine (fun hh => ?_) (fill_sound hp ps qs cells' (x.cells.zipIdx.foldl (fun cs (y : Value × Nat) => cs.setIfInBounds (off + y.2) y.1) arr) (by simpa using hl) (fun j p hj => by obtain ⟨y, h7, h8⟩ := hq (j + 1) p (by simpa using hj); exact ⟨y, by simpa using h7, h8⟩) ?_ h)
            · obtain ⟨arr', h7, h8, h10⟩ := hh
              have h11 := congrArg List.length hz'
              rw [over_length _ _ _ (by simp; omega), Array.length_toList, Array.length_toList] at h11
              refine ⟨arr', ?_, h8, h10.trans h11⟩
              rw [Instr.fill, hp i off sz e]
              dsimp only
              have h9 : (decide (x.cells.size ≠ sz) || decide (off + x.cells.size > arr.size)) = false := by
                simp; omega
              simp only [h9]
              exact h7
            · rw [hz', h6]
              refine ⟨by rw [over_length _ _ _ h5, over_length _ _ _ (by simp; omega)]; exact hrel.1, fun j u hu => ?_⟩
              rw [over_get _ _ _ h5] at hu
              rw [over_get _ _ _ (by simp; omega)]
              have hxl : x.cells.toList.length = (cellsL v).length := hcv.1.symm
              rw [hxl]
              by_cases g1 : j < off
              · rw [if_pos g1] at hu ⊢; exact hrel.2 j u hu
              · rw [if_neg g1] at hu ⊢
                by_cases g2 : j < off + (cellsL v).length
                · rw [if_pos g2] at hu ⊢; exact hcv.2 _ u hu
                · rw [if_neg g2] at hu ⊢; exact hrel.2 j u hu
        · cases h
theorem evs_rel (hs : St c s a w) : ∀ (ps : List (Nat × Operand)), (evs s ps).length = (ps.map fun (i, x) => (i, a.eval x)).length ∧ ∀ (j : Nat) (p : Nat × LV), (evs s ps)[j]? = some p → ∃ x, (ps.map fun (i, x) => (i, a.eval x))[j]? = some (p.1, x) ∧ LR c w p.2 x
  | [] => ⟨rfl, fun j p h => by simp [evs] at h⟩
  | (i, x) :: ps => by
    obtain ⟨h1, h2⟩ := evs_rel hs ps
    refine ⟨by simp [evs] at h1 ⊢; exact h1, fun j p h => ?_⟩
    cases j with
    | zero => simp [evs] at h; subst h; exact ⟨_, rfl, hs.ev x⟩
    | succ j => simp [evs] at h; obtain ⟨y, h3, h4⟩ := h2 j p h; exact ⟨y, by simpa using h3, h4⟩
end
end Go.LX
