/-
  Reading and writing of blocks that are known by name.
-/
import Derived.Test.YtllafhhnciobhaaGreatDoorLxOps
import Derived.Laws.Cells
import Derived.Laws.CopyRow
import Derived.Laws.Tables
import Derived.DataElems
namespace Go.LX
open Go
set_option linter.unusedVariables false

section
variable {P : Program} {T : TT} {c : Ctx} {w : World}

def Rel2 (c : Ctx) (w : World) (l : List LV) (xs : List Value) : Prop := l.length = xs.length ∧ ∀ (j : Nat) (u : LV), l[j]? = some u → ∃ x, xs[j]? = some x ∧ LR c w u x
theorem Rel2.nil : Rel2 c w [] [] := ⟨rfl, fun j u h => by simp at h⟩
theorem Rel2.cons {u : LV} {x : Value} {l : List LV} {xs : List Value} (h : LR c w u x) (k : Rel2 c w l xs) : Rel2 c w (u :: l) (x :: xs) := by
  refine ⟨by simp [k.1], fun j v hj => ?_⟩
  cases j with
  | zero => simp at hj; subst hj; exact ⟨x, rfl, h⟩
  | succ j => simp at hj; obtain ⟨y, h1, h2⟩ := k.2 j v hj; exact ⟨y, by simpa using h1, h2⟩
theorem Rel2.head {u : LV} {l : List LV} {xs : List Value} (h : Rel2 c w (u :: l) xs) : ∃ x ys, xs = x :: ys ∧ LR c w u x ∧ Rel2 c w l ys := by
  cases xs with
  | nil => simp [Rel2] at h
  | cons x ys =>
    obtain ⟨y, h1, h2⟩ := h.2 0 u rfl
    simp at h1; subst h1
    exact ⟨x, ys, rfl, h2, by simpa using h.1, fun j v hj => by obtain ⟨z, h3, h4⟩ := h.2 (j + 1) v (by simpa using hj); exact ⟨z, by simpa using h3, h4⟩⟩
theorem Rel2.getD {l : List LV} {x : Array Value} (h : Rel2 c w l x.toList) : l.length = x.size ∧ ∀ (j : Nat) (u : LV), l[j]? = some u → LR c w u (x.getD j undef) := by
  refine ⟨by simpa using h.1, fun j u hu => ?_⟩
  obtain ⟨y, h1, h2⟩ := h.2 j u hu
  rw [Array.getD_eq_getD_getElem?]
  have : x[j]? = some y := by simpa using h1
  rw [this]; exact h2
theorem Rel2.ofD {l : List LV} {x : Array Value} (h1 : l.length = x.size) (h2 : ∀ (j : Nat) (u : LV), l[j]? = some u → LR c w u (x.getD j undef)) : Rel2 c w l x.toList := by
  refine ⟨by simpa using h1, fun j u hu => ?_⟩
  have hj := (List.getElem?_eq_some_iff.1 hu).1
  have := h2 j u hu
  rw [Array.getD_eq_getD_getElem?] at this
  have hx : x[j]? = some (x[j]'(by omega)) := Array.getElem?_eq_getElem (by omega)
  rw [hx] at this
  exact ⟨_, by simp, this⟩

/-! ### Types -/
theorem tok_agg {t : Nat} {ti : TI} (h : TIok P t ti) : (isAgg t).run P w = .ok ti.kind.agg w := by
  obtain ⟨⟨i, z, d, _, _, _, _, _, hu, hk, _⟩, _⟩ := h
  unfold isAgg
  rw [Sem.run_bind, run_underlying hu]
  cases hk' : ti.kind <;> rw [hk'] at hk <;> cases d <;> first | exact hk.elim | rfl
theorem tok_size {t : Nat} {ti : TI} (h : TIok P t ti) : (sizeOf t).run P w = .ok ti.size w := by
  obtain ⟨⟨i, z, d, hi, h1, _⟩, _⟩ := h
  simp [sizeOf, typeInfo, hi, h1]
theorem zero_rel (c : Ctx) (w : World) : ∀ (l : List PV), l.all zok = true → Rel2 c w (pvs l) (l.map PV.toV)
  | [], _ => Rel2.nil
  | v :: l, h => by
    simp only [List.all_cons, Bool.and_eq_true] at h
    refine Rel2.cons (.p _ _ ?_) (zero_rel c w l h.2)
    cases v <;> first | exact .int _ _ _ rfl | exact .bool _ | exact .str _ | exact .nilp | exact .nils | exact .nilif | exact .nilfn | (exact absurd h.1 (by simp [zok]))
theorem tok_zero {t : Nat} {ti : TI} (h : TIok P t ti) : ∃ z, (zeroValue t).run P w = .ok z w ∧ Rel2 c w (pvs ti.zero) z.cells.toList := by
  obtain ⟨⟨i, z, d, hi, _, _, hz, hc, _⟩, hzs⟩ := h
  refine ⟨z, by simp [zeroValue, typeInfo, hi, hz], ?_⟩
  rw [hc]; exact zero_rel c w _ hzs

/-! ### Reading -/
theorem ofCells_sound {t : Nat} {ti : TI} (hT : TIok P t ti) {vs : List LV} {cs : List Value} {a : Addr} {L : LV → Prop} (hr : Rel2 c w vs cs) (hl : vs.length = ti.size) (hc : ∀ j v, cs[j]? = some v → w.cell? (a.add j) = some v) (h : ofCells ti.kind vs L) :
    ∃ u x, (loadVar t a).run P w = .ok x w ∧ LR c w u x ∧ L u := by
  unfold ofCells at h
  unfold loadVar
  rw [Sem.run_bind, tok_agg hT]
  cases hk : ti.kind.agg with
  | true =>
    rw [hk] at h
    refine ⟨_, .agg cs.toArray, ?_, .agg vs cs.toArray (by simp [hr.1]) (Rel2.getD (by simpa using hr)).2, h⟩
    have hlen : ti.size = cs.length := by rw [← hl]; exact hr.1
    simp [tok_size hT, hlen, run_loadCells_list w a cs hc]
  | false =>
    rw [hk] at h
    dsimp only at h
    split at h
    · obtain ⟨x, ys, rfl, h1, _⟩ := hr.head
      refine ⟨_, x, ?_, h1, h⟩
      have h0 : w.cell? a = some x := by simpa [Addr.add] using hc 0 x rfl
      simp [h0]
    · exact h.elim

theorem pnth_eq : ∀ (l : List PV) (i : Nat), pnth l i = l[i]?
  | [], i => by cases i <;> rfl
  | x :: l, 0 => rfl
  | x :: l, i + 1 => by rw [pnth, pnth_eq l i]; rfl
theorem lnth_eq : ∀ (l : List LV) (i : Nat), lnth l i = l[i]?
  | [], i => by cases i <;> rfl
  | x :: l, 0 => rfl
  | x :: l, i + 1 => by rw [lnth, lnth_eq l i]; rfl
theorem cell {l : Unit → List PV} {i : Unit → Int} {L : PV → Prop} (h : Cell l i L) : ∃ v, (l ())[(i ()).toNat]? = some v ∧ L v := by
  cases h with | mk v h k => exact ⟨v, h, k⟩
theorem cellAt_sound {sy : Bool} {l : List PV} {o : I} {j n : Nat} {L : PV → Prop} (ho : o.val = n) (h : cellAt sy l o j L) : ∃ v, l[n + j]? = some v ∧ L v := by
  unfold cellAt at h
  cases sy with
  | false =>
    cases o with
    | lit m =>
      dsimp only at h
      rw [pnth_eq] at h
      simp only [I.val] at ho
      subst ho
      rw [Int.toNat_natCast] at h
      cases e : l[n + j]? with
      | none => rw [e] at h; exact h.elim
      | some v => rw [e] at h; exact ⟨v, rfl, h⟩
    | sym m =>
      obtain ⟨v, h1, h2⟩ := cell h
      simp only [I.val] at ho
      refine ⟨v, ?_, h2⟩
      rw [← h1]; congr 1; omega
  | true =>
    obtain ⟨v, h1, h2⟩ := cell h
    refine ⟨v, ?_, h2⟩
    rw [← h1, ho]; congr 1
theorem getP_sound {sy : Bool} {l : List PV} {o : I} {n : Nat} (ho : o.val = n) : ∀ (k j : Nat) {L : List LV → Prop}, getP sy l o k j L → ∃ us : List PV, us.length = k ∧ (∀ i, i < k → l[n + j + i]? = us[i]?) ∧ L (pvs us)
  | 0, j, L, h => ⟨[], rfl, fun i hi => by omega, h⟩
  | k + 1, j, L, h => by
    obtain ⟨v, h1, h2⟩ := cellAt_sound ho h
    obtain ⟨us, h3, h4, h5⟩ := getP_sound ho k (j + 1) h2
    refine ⟨v :: us, by simp [h3], fun i hi => ?_, h5⟩
    cases i with
    | zero => simpa using h1
    | succ i => rw [List.getElem?_cons_succ, ← h4 i (by omega)]; congr 1; omega
theorem getM_sound {l : List LV} : ∀ (k o : Nat) {vs : List LV}, getM l o k = some vs → vs.length = k ∧ ∀ i, i < k → l[o + i]? = vs[i]?
  | 0, o, vs, h => by cases h; exact ⟨rfl, fun i hi => by omega⟩
  | k + 1, o, vs, h => by
    rw [getM, lnth_eq] at h
    cases e : l[o]? with
    | none => rw [e] at h; cases h
    | some v =>
      rw [e] at h
      dsimp only at h
      cases e2 : getM l (o + 1) k with
      | none => rw [e2] at h; cases h
      | some us =>
        rw [e2] at h; cases h
        obtain ⟨h1, h2⟩ := getM_sound k (o + 1) e2
        refine ⟨by simp [h1], fun i hi => ?_⟩
        cases i with
        | zero => simpa using e
        | succ i => rw [List.getElem?_cons_succ, ← h2 i (by omega)]; congr 1; omega
theorem pvs_length : ∀ l : List PV, (pvs l).length = l.length
  | [] => rfl
  | _ :: l => by simp [pvs, pvs_length l]
theorem pvs_get : ∀ (l : List PV) (i : Nat), (pvs l)[i]? = l[i]?.map .p
  | [], i => by cases i <;> rfl
  | x :: l, 0 => rfl
  | x :: l, i + 1 => by simp [pvs, pvs_get l i]

/-- The cells of a row from a place on, as values of the model. -/
theorem cells_at {r n : Nat} {cur : Array Value} {ty : TypeId} (hg : w.heap[r]? = some (.cells cur ty (0, 0))) (k : Nat) (hk : n + k ≤ cur.size) :
    ∀ j v, ((cur.toList.drop n).take k)[j]? = some v → w.cell? ((⟨r, n, none⟩ : Addr).add j) = some v := by
  intro j v hj
  rw [add_lit]
  simp only [World.cell?, hg]
  rw [List.getElem?_take] at hj
  split at hj
  · rw [List.getElem?_drop] at hj
    simpa using hj
  · cases hj

theorem loadB_sound0 {t : Nat} {ti : TI} (hT : TIok P t ti) {B : LB} {o : I} {r n : Nat} {L : LV → Prop} (hB : BR c w B (some r)) (hnb : ∀ t l, B ≠ .bld t l) (ho : o.val = n) (h : loadB B o ti L) :
    ∃ u x, (loadVar t ⟨r, n, none⟩).run P w = .ok x w ∧ LR c w u x ∧ L u := by
  cases B with
  | pure sy l =>
    obtain ⟨cur, ty, hg, hle, hrel⟩ := hB
    obtain ⟨us, h1, h2, h3⟩ := getP_sound ho _ _ h
    have hb : n + ti.size ≤ cur.size ∨ ti.size = 0 := by
      rcases Nat.eq_zero_or_pos ti.size with e | e
      · exact .inr e
      · left
        have h4 := h2 (ti.size - 1) (by omega)
        rw [List.getElem?_eq_getElem (by omega : ti.size - 1 < us.length)] at h4
        have := (List.getElem?_eq_some_iff.1 h4).1
        omega
    have hr : Rel2 c w (pvs us) ((cur.toList.drop n).take ti.size) := by
      refine ⟨?_, fun j u hu => ?_⟩
      · rw [pvs_length, h1, List.length_take, List.length_drop, Array.length_toList]
        rcases hb with hb | hb <;> omega
      · rw [pvs_get] at hu
        cases e : us[j]? with
        | none => rw [e] at hu; cases hu
        | some v =>
          rw [e] at hu; cases hu
          have hj : j < ti.size := by rw [← h1]; exact (List.getElem?_eq_some_iff.1 e).1
          have hlj := h2 j hj
          rw [e, Nat.add_zero] at hlj
          have hlt := (List.getElem?_eq_some_iff.1 hlj).1
          have hc : cur[n + j]? = some (cur[n + j]'(by omega)) := Array.getElem?_eq_getElem (by omega)
          refine ⟨cur[n + j]'(by omega), ?_, .p _ _ ?_⟩
          · rw [List.getElem?_take, if_pos hj, List.getElem?_drop]; simp
          · have := hrel (n + j) v hlj
            rwa [Array.getD_eq_getD_getElem?, hc] at this
    refine ofCells_sound hT hr (by rw [pvs_length, h1]) ?_ h3
    intro j v hj
    rcases hb with hb | hb
    · exact cells_at hg _ hb j v hj
    · rw [hb] at hj; simp at hj
  | mix l =>
    obtain ⟨cur, ty, hg, hle, hrel⟩ := hB
    unfold loadB at h
    cases o with
    | sym m => exact h.elim
    | lit m =>
      simp only [I.val] at ho
      subst ho
      dsimp only at h
      rw [Int.toNat_natCast] at h
      cases e : getM l n ti.size with
      | none => rw [e] at h; exact h.elim
      | some vs =>
        rw [e] at h
        obtain ⟨h1, h2⟩ := getM_sound _ _ e
        have hb : n + ti.size ≤ cur.size ∨ ti.size = 0 := by
          rcases Nat.eq_zero_or_pos ti.size with e | e
          · exact .inr e
          · left
            have h4 := h2 (ti.size - 1) (by omega)
            rw [List.getElem?_eq_getElem (by omega : ti.size - 1 < vs.length)] at h4
            have := (List.getElem?_eq_some_iff.1 h4).1
            omega
        have hr : Rel2 c w vs ((cur.toList.drop n).take ti.size) := by
          refine ⟨?_, fun j u hu => ?_⟩
          · rw [h1, List.length_take, List.length_drop, Array.length_toList]
            rcases hb with hb | hb <;> omega
          · have hj : j < ti.size := by rw [← h1]; exact (List.getElem?_eq_some_iff.1 hu).1
            have hlj := h2 j hj
            rw [hu] at hlj
            have hlt := (List.getElem?_eq_some_iff.1 hlj).1
            have hc : cur[n + j]? = some (cur[n + j]'(by omega)) := Array.getElem?_eq_getElem (by omega)
            refine ⟨cur[n + j]'(by omega), ?_, ?_⟩
            · rw [List.getElem?_take, if_pos hj, List.getElem?_drop]; simp
            · have := hrel (n + j) u hlj
              rwa [Array.getD_eq_getD_getElem?, hc] at this
        refine ofCells_sound hT hr h1 ?_ h
        intro j v hj
        rcases hb with hb | hb
        · exact cells_at hg _ hb j v hj
        · rw [hb] at hj; simp at hj
  | iter s pos => exact h.elim
  | fix g o => exact h.elim
  | bld t l => exact absurd rfl (hnb t l)
theorem getM_cons {x : LV} {l : List LV} : ∀ {k n : Nat}, getM (x :: l) (n + 1) k = getM l n k
  | 0, n => by rw [getM, getM]
  | k + 1, n => by rw [getM, getM, lnth, getM_cons (k := k)]
theorem BR.bmix {t r : Nat} {l : List LV} (h : BR c w (.bld t l) (some r)) : BR c w (.mix (.undef :: l)) (some r) := by
  obtain ⟨cur, h1, h2, _, h3⟩ := h
  refine ⟨cur, t, h1, by rw [List.length_cons]; omega, fun j u hu => ?_⟩
  cases j with
  | zero => simp at hu; subst hu; exact .undef _
  | succ j => rw [List.getElem?_cons_succ] at hu; exact h3 j u hu
theorem loadB_sound {t : Nat} {ti : TI} (hT : TIok P t ti) {B : LB} {o : I} {r n : Nat} {L : LV → Prop} (hB : BR c w B (some r)) (ho : o.val = n) (h : loadB B o ti L) :
    ∃ u x, (loadVar t ⟨r, n, none⟩).run P w = .ok x w ∧ LR c w u x ∧ L u := by
  cases B with
  | bld b l =>
    refine loadB_sound0 hT hB.bmix (fun _ _ e => by cases e) ho ?_
    simp only [loadB] at h
    split at h
    · rename_i m
      show (match getM (.undef :: l) (m + 1) ti.size with | some vs => ofCells ti.kind vs L | none => False)
      rw [getM_cons]; exact h
    · exact h.elim
  | pure sy l => exact loadB_sound0 hT hB (fun _ _ e => by cases e) ho h
  | mix l => exact loadB_sound0 hT hB (fun _ _ e => by cases e) ho h
  | iter s pos => exact loadB_sound0 hT hB (fun _ _ e => by cases e) ho h
  | fix g o => exact loadB_sound0 hT hB (fun _ _ e => by cases e) ho h

/-! ### Writing -/
theorem okc_one {u : LV} {x : Value} (h : LR c w u x) (hu : okc u = true) : x.oneCell' = true := by
  cases h with
  | p v x hp => cases hp <;> first | rfl | assumption
  | ptr => rfl
  | goneP => rfl
  | sl => rfl
  | slv => rfl
  | goneS => rfl
  | agg => exact absurd hu (by simp [okc])
  | tup => exact absurd hu (by simp [okc])
  | iface => rfl
  | fn => rfl
  | nul => exact absurd hu (by simp [okc])
  | undef => exact absurd hu (by simp [okc])
theorem allOk_mem : ∀ {l : List LV}, allOk l = true → ∀ u ∈ l, okc u = true
  | [], _, u, hu => by cases hu
  | v :: l, h, u, hu => by
    rw [allOk] at h
    cases e : okc v with
    | false => rw [e] at h; cases h
    | true =>
      rw [e] at h
      rcases List.mem_cons.1 hu with rfl | hu
      · exact e
      · exact allOk_mem h u hu
theorem Rel2.ones {l : List LV} {xs : List Value} (h : Rel2 c w l xs) (hk : allOk l = true) : ∀ x ∈ xs, x.oneCell' = true := by
  intro x hx
  obtain ⟨j, hj⟩ := List.getElem?_of_mem hx
  have hjl : j < l.length := by rw [h.1]; exact (List.getElem?_eq_some_iff.1 hj).1
  obtain ⟨y, h1, h2⟩ := h.2 j _ (List.getElem?_eq_getElem hjl)
  rw [hj] at h1; cases h1
  exact okc_one h2 (allOk_mem hk _ (List.getElem_mem hjl))
theorem cells_rel {u : LV} {x : Value} (h : LR c w u x) (hk : allOk (cellsL u) = true) : Rel2 c w (cellsL u) x.cells.toList := by
  cases h with
  | agg l x hl hr => exact Rel2.ofD hl hr
  | p v x hp =>
    have h1 := okc_one (.p v x hp) (allOk_mem hk _ (List.mem_singleton.2 rfl))
    have : x.cells = #[x] := by cases x <;> first | rfl | cases h1
    rw [this]; exact Rel2.cons (.p v x hp) Rel2.nil
  | tup l x hl hr => exact absurd hk (by simp [cellsL, allOk, okc])
  | nul => exact absurd hk (by simp [cellsL, allOk, okc])
  | undef => exact absurd hk (by simp [cellsL, allOk, okc])
  | ptr b o r k hm ho => exact Rel2.cons (.ptr b o r k hm ho) Rel2.nil
  | goneP b o a hm hb => exact Rel2.cons (.goneP b o a hm hb) Rel2.nil
  | sl b e sz o n r j k cp tot hm ho hn hk' hc hs ht => exact Rel2.cons (.sl b e sz o n r j k cp tot hm ho hn hk' hc hs ht) Rel2.nil
  | slv b e sz o n hm ho hn => exact Rel2.cons (.slv b e sz o n hm ho hn) Rel2.nil
  | goneS b e sz o n a k cp hm hb => exact Rel2.cons (.goneS b e sz o n a k cp hm hb) Rel2.nil
  | iface t v x h => exact Rel2.cons (.iface t v x h) Rel2.nil
  | fn f l x hl h => exact Rel2.cons (.fn f l x hl h) Rel2.nil
theorem llen_eq : ∀ l : List LV, llen l = l.length
  | [] => rfl
  | _ :: l => by simp [llen, llen_eq l]

def over {α : Type} (l : List α) (n : Nat) (us : List α) : List α := l.take n ++ us ++ l.drop (n + us.length)
theorem over_get {α : Type} (l us : List α) (n : Nat) (h : n + us.length ≤ l.length) (j : Nat) : (over l n us)[j]? = if j < n then l[j]? else if j < n + us.length then us[j - n]? else l[j]? := by
  unfold over
  by_cases h1 : j < n
  · rw [if_pos h1, List.append_assoc, List.getElem?_append_left (by rw [List.length_take]; omega), List.getElem?_take, if_pos h1]
  · rw [if_neg h1]
    have hl : (l.take n).length = n := by rw [List.length_take]; omega
    by_cases h2 : j < n + us.length
    · rw [if_pos h2, List.getElem?_append_left (by rw [List.length_append, hl]; omega), List.getElem?_append_right (by omega), hl]
    · rw [if_neg h2, List.getElem?_append_right (by rw [List.length_append, hl]; omega), List.length_append, hl, List.getElem?_drop]
      congr 1; omega
theorem over_length {α : Type} (l us : List α) (n : Nat) (h : n + us.length ≤ l.length) : (over l n us).length = l.length := by
  unfold over; simp only [List.length_append, List.length_take, List.length_drop]; omega
theorem set_over {α : Type} (l us : List α) (u : α) (n : Nat) (h : n + (us.length + 1) ≤ l.length) : over (l.set n u) (n + 1) us = over l n (u :: us) := by
  apply List.ext_getElem?
  intro j
  rw [over_get _ _ _ (by simp; omega), over_get _ _ _ (by simpa using h), List.getElem?_set]
  simp only [List.length_cons]
  by_cases h1 : j < n
  · rw [if_pos (by omega), if_neg (by omega), if_pos h1]
  · by_cases h2 : j = n
    · subst h2; rw [if_pos (by omega), if_pos rfl, if_pos (by omega), if_neg h1, if_pos (by omega)]; simp
    · rw [if_neg (by omega : ¬ j < n + 1), if_neg h1]
      by_cases h3 : j < n + 1 + us.length
      · rw [if_pos h3, if_pos (by omega)]
        have : j - n = (j - (n + 1)) + 1 := by omega
        rw [this, List.getElem?_cons_succ]
      · rw [if_neg h3, if_neg (by omega), if_neg (by omega)]
theorem updL_eq : ∀ (us : List PV) (l : List PV) (n : Nat), n + us.length ≤ l.length → updL l n us = over l n us
  | [], l, n, h => by simp [updL, over]
  | u :: us, l, n, h => by
    rw [updL, updL_eq us (l.set n u) (n + 1) (by simp at h ⊢; omega), set_over l us u n (by simpa using h)]
theorem psetO_eq : ∀ (l : List PV) (n : Nat) (v : PV) {l' : List PV}, psetO l n v = some l' → n < l.length ∧ l' = l.set n v
  | [], n, v, l', h => by cases n <;> cases h
  | x :: l, 0, v, l', h => by cases h; exact ⟨by simp, rfl⟩
  | x :: l, n + 1, v, l', h => by
    rw [psetO] at h
    cases e : psetO l n v with
    | none => rw [e] at h; cases h
    | some m =>
      rw [e] at h; cases h
      obtain ⟨h1, h2⟩ := psetO_eq l n v e
      exact ⟨by simp; omega, by rw [h2]; rfl⟩
theorem lsetO_eq : ∀ (l : List LV) (n : Nat) (v : LV) {l' : List LV}, lsetO l n v = some l' → n < l.length ∧ l' = l.set n v
  | [], n, v, l', h => by cases n <;> cases h
  | x :: l, 0, v, l', h => by cases h; exact ⟨by simp, rfl⟩
  | x :: l, n + 1, v, l', h => by
    rw [lsetO] at h
    cases e : lsetO l n v with
    | none => rw [e] at h; cases h
    | some m =>
      rw [e] at h; cases h
      obtain ⟨h1, h2⟩ := lsetO_eq l n v e
      exact ⟨by simp; omega, by rw [h2]; rfl⟩
theorem putP_eq : ∀ (us l : List PV) (n : Nat) {l' : List PV}, putP l n us = some l' → n ≤ l.length → n + us.length ≤ l.length ∧ l' = over l n us
  | [], l, n, l', h, hn => by cases h; exact ⟨by simpa using hn, by simp [over]⟩
  | u :: us, l, n, l', h, hn => by
    rw [putP] at h
    cases e : psetO l n u with
    | none => rw [e] at h; cases h
    | some m =>
      rw [e] at h
      obtain ⟨h1, h2⟩ := psetO_eq l n u e
      subst h2
      obtain ⟨h3, h4⟩ := putP_eq us _ (n + 1) h (by simp; omega)
      simp at h3
      exact ⟨by simp; omega, by rw [h4, set_over l us u n (by omega)]⟩
theorem putM_eq : ∀ (us l : List LV) (n : Nat) {l' : List LV}, putM l n us = some l' → n ≤ l.length → n + us.length ≤ l.length ∧ l' = over l n us
  | [], l, n, l', h, hn => by cases h; exact ⟨by simpa using hn, by simp [over]⟩
  | u :: us, l, n, l', h, hn => by
    rw [putM] at h
    cases e : lsetO l n u with
    | none => rw [e] at h; cases h
    | some m =>
      rw [e] at h
      obtain ⟨h1, h2⟩ := lsetO_eq l n u e
      subst h2
      obtain ⟨h3, h4⟩ := putM_eq us _ (n + 1) h (by simp; omega)
      simp at h3
      exact ⟨by simp; omega, by rw [h4, set_over l us u n (by omega)]⟩
theorem allP_eq : ∀ (l : List LV) {us : List PV}, allP l = some us → l = pvs us
  | [], us, h => by cases h; rfl
  | v :: l, us, h => by
    cases v <;> try (cases h; done)
    rw [allP] at h
    cases e : allP l with
    | none => rw [e] at h; cases h
    | some m => rw [e] at h; cases h; rw [pvs, allP_eq l e]

theorem turn_row {r : Nat} {cur cs : Array Value} {ty : TypeId} (hg : w.heap[r]? = some (.cells cur ty (0, 0))) (hs : cs.size = cur.size) : Turn w (w.setRow r cs) r := by
  refine ⟨rfl, rfl, rfl, by simp, fun k hk => setRow_other w r k cs hk, ?_⟩
  simp only [World.shape?, setRow_heap w r cur cs ty (0, 0) hg, hg, hs]

/-- A store into a block: what it holds then, and what the world is. -/
theorem storeB_sound {h : LH} {B : LB} {b r n : Nat} {o : I} {vs : List LV} {xs : List Value} {L : LB → Prop} (hr : HR c w h) (hb : hget h b = some B) (hm : c.m b = some (some r)) (hB : BR c w B (some r)) (ho : o.val = n) (hv : Rel2 c w vs xs) (hz : 0 < vs.length)
    (hk : storeB B o vs L) : ∃ B' cur ty, L B' ∧ w.heap[r]? = some (.cells cur ty (0, 0)) ∧ n + xs.length ≤ cur.size ∧ allOk vs = true ∧ Turn w (w.setRow r (over cur.toList n xs).toArray) r ∧ BR c (w.setRow r (over cur.toList n xs).toArray) B' (some r) := by
  unfold storeB at hk
  cases hok : allOk vs with
  | false => rw [hok] at hk; exact hk.elim
  | true =>
    rw [hok] at hk
    dsimp only at hk
    have pureCase : ∀ sy l us sy', B = .pure sy l → vs = pvs us → n + us.length ≤ l.length → L (.pure sy' (over l n us)) → ∃ B' cur ty, L B' ∧ w.heap[r]? = some (.cells cur ty (0, 0)) ∧ n + xs.length ≤ cur.size ∧ true = true ∧ Turn w (w.setRow r (over cur.toList n xs).toArray) r ∧ BR c (w.setRow r (over cur.toList n xs).toArray) B' (some r) := by
      intro sy l us sy' e1 e2 hn hL
      subst e1 e2
      obtain ⟨cur, ty, hg, hle, hrel⟩ := hB
      have hxl : xs.length = us.length := by rw [← hv.1, pvs_length]
      have hnx : n + xs.length ≤ cur.size := by omega
      have ht := turn_row (w := w) (cs := (over cur.toList n xs).toArray) hg (by rw [List.size_toArray, over_length _ _ _ (by simpa using hnx), Array.length_toList])
      have he := Ext.turn hr hm ht
      refine ⟨_, cur, ty, hL, hg, hnx, rfl, ht, _, ty, setRow_heap w r cur _ ty (0, 0) hg, ?_, fun j u hu => ?_⟩
      · rw [over_length _ _ _ hn, List.size_toArray, over_length _ _ _ (by simpa using hnx), Array.length_toList]; exact hle
      · refine PR.ext hr.fresh he ?_
        rw [over_get _ _ _ hn] at hu
        rw [Array.getD_eq_getD_getElem?, List.getElem?_toArray, over_get _ _ _ (by simpa using hnx), hxl]
        by_cases h1 : j < n
        · rw [if_pos h1] at hu ⊢
          have := hrel j u hu
          rwa [Array.getD_eq_getD_getElem?, ← Array.getElem?_toList] at this
        · rw [if_neg h1] at hu ⊢
          by_cases h2 : j < n + us.length
          · rw [if_pos h2] at hu ⊢
            obtain ⟨x, h3, h4⟩ := hv.2 (j - n) (.p u) (by rw [pvs_get, hu]; rfl)
            rw [h3]
            cases h4 with | p _ _ h => exact h
          · rw [if_neg h2] at hu ⊢
            have := hrel j u hu
            rwa [Array.getD_eq_getD_getElem?, ← Array.getElem?_toList] at this
    have mixCase : ∀ l l0, (B = .mix l ∨ ∃ sy, B = .pure sy l0 ∧ l = pvs l0) → n + vs.length ≤ l.length → L (.mix (over l n vs)) → ∃ B' cur ty, L B' ∧ w.heap[r]? = some (.cells cur ty (0, 0)) ∧ n + xs.length ≤ cur.size ∧ true = true ∧ Turn w (w.setRow r (over cur.toList n xs).toArray) r ∧ BR c (w.setRow r (over cur.toList n xs).toArray) B' (some r) := by
      intro l l0 e1 hn hL
      have hB' : ∃ cur ty, w.heap[r]? = some (.cells cur ty (0, 0)) ∧ l.length ≤ cur.size ∧ ∀ (j : Nat) (u : LV), l[j]? = some u → LR c w u (cur.getD j undef) := by
        rcases e1 with rfl | ⟨sy, rfl, rfl⟩
        · exact hB
        · obtain ⟨cur, ty, h1, h2, h3⟩ := hB
          refine ⟨cur, ty, h1, by rw [pvs_length]; exact h2, fun j u hu => ?_⟩
          rw [pvs_get] at hu
          cases e : l0[j]? with
          | none => rw [e] at hu; cases hu
          | some v => rw [e] at hu; cases hu; exact .p _ _ (h3 j v e)
      obtain ⟨cur, ty, hg, hle, hrel⟩ := hB'
      have hxl : xs.length = vs.length := hv.1.symm
      have hnx : n + xs.length ≤ cur.size := by omega
      have ht := turn_row (w := w) (cs := (over cur.toList n xs).toArray) hg (by rw [List.size_toArray, over_length _ _ _ (by simpa using hnx), Array.length_toList])
      have he := Ext.turn hr hm ht
      refine ⟨_, cur, ty, hL, hg, hnx, rfl, ht, _, ty, setRow_heap w r cur _ ty (0, 0) hg, ?_, fun j u hu => ?_⟩
      · rw [over_length _ _ _ hn, List.size_toArray, over_length _ _ _ (by simpa using hnx), Array.length_toList]; exact hle
      · refine LR.ext hr.fresh he ?_
        rw [over_get _ _ _ hn] at hu
        rw [Array.getD_eq_getD_getElem?, List.getElem?_toArray, over_get _ _ _ (by simpa using hnx), hxl]
        by_cases h1 : j < n
        · rw [if_pos h1] at hu ⊢
          have := hrel j u hu
          rwa [Array.getD_eq_getD_getElem?, ← Array.getElem?_toList] at this
        · rw [if_neg h1] at hu ⊢
          by_cases h2 : j < n + vs.length
          · rw [if_pos h2] at hu ⊢
            obtain ⟨x, h3, h4⟩ := hv.2 (j - n) u hu
            rw [h3]; exact h4
          · rw [if_neg h2] at hu ⊢
            have := hrel j u hu
            rwa [Array.getD_eq_getD_getElem?, ← Array.getElem?_toList] at this
    have small : ∀ {l : List PV} {us : List PV} {l'}, putP l n us = some l' → 0 < us.length → n ≤ l.length := by
      intro l us l' h0 hp
      cases us with
      | nil => simp at hp
      | cons u us =>
        rw [putP] at h0
        cases e : psetO l n u with
        | none => rw [e] at h0; cases h0
        | some m => have := (psetO_eq l n u e).1; omega
    have smallM : ∀ {l : List LV} {us : List LV} {l'}, putM l n us = some l' → 0 < us.length → n ≤ l.length := by
      intro l us l' h0 hp
      cases us with
      | nil => simp at hp
      | cons u us =>
        rw [putM] at h0
        cases e : lsetO l n u with
        | none => rw [e] at h0; cases h0
        | some m => have := (lsetO_eq l n u e).1; omega
    cases B with
    | pure sy l =>
      dsimp only at hk
      cases hp : allP vs with
      | some us =>
        rw [hp] at hk
        have e2 := allP_eq vs hp
        have hlen : us.length = vs.length := by rw [e2, pvs_length]
        cases sy with
        | false =>
          cases o with
          | lit m =>
            simp only [I.val] at ho
            subst ho
            dsimp only at hk
            rw [Int.toNat_natCast] at hk
            cases e : putP l n us with
            | none => rw [e] at hk; exact hk.elim
            | some l' =>
              rw [e] at hk
              obtain ⟨h1, h2⟩ := putP_eq us l n e (small e (by omega))
              subst h2
              exact pureCase _ l us _ rfl e2 h1 hk
          | sym m =>
            obtain ⟨h1, h2⟩ := need hk
            simp only [I.val] at ho
            subst ho
            have h2 := upd h2
            rw [Int.toNat_natCast, updL_eq us l n (by omega)] at h2
            exact pureCase _ l us _ rfl e2 (by omega) h2
        | true =>
          obtain ⟨h1, h2⟩ := need hk
          rw [ho] at h1
          have h2 := upd h2
          rw [ho, Int.toNat_natCast, updL_eq us l n (by omega)] at h2
          exact pureCase _ l us _ rfl e2 (by omega) h2
      | none =>
        rw [hp] at hk
        cases sy with
        | true => exact hk.elim
        | false =>
          cases o with
          | sym m => exact hk.elim
          | lit m =>
            simp only [I.val] at ho
            subst ho
            dsimp only at hk
            rw [Int.toNat_natCast] at hk
            cases e : putM (pvs l) n vs with
            | none => rw [e] at hk; exact hk.elim
            | some l' =>
              rw [e] at hk
              obtain ⟨h1, h2⟩ := putM_eq vs (pvs l) n e (smallM e hz)
              subst h2
              exact mixCase _ l (.inr ⟨_, rfl, rfl⟩) h1 hk
    | mix l =>
      cases o with
      | sym m => exact hk.elim
      | lit m =>
        simp only [I.val] at ho
        subst ho
        dsimp only at hk
        rw [Int.toNat_natCast] at hk
        cases e : putM l n vs with
        | none => rw [e] at hk; exact hk.elim
        | some l' =>
          rw [e] at hk
          obtain ⟨h1, h2⟩ := putM_eq vs l n e (smallM e hz)
          subst h2
          exact mixCase l [] (.inl rfl) h1 hk
    | iter s pos => exact hk.elim
    | fix g o => exact hk.elim
    | bld t l =>
      obtain ⟨cur, hg, hle, h0, hrel⟩ := hB
      dsimp only at hk
      split at hk
      · rename_i m
        cases e : putM l m vs with
        | none => rw [e] at hk; exact hk.elim
        | some l' =>
          rw [e] at hk
          have ho : m + 1 = n := by simpa [I.val] using Int.ofNat.inj ho
          subst ho
          obtain ⟨h1, h2⟩ := putM_eq vs l m e (by
            cases vs with
            | nil => simp at hz
            | cons u us =>
              rw [putM] at e
              cases e2 : lsetO l m u with
              | none => rw [e2] at e; cases e
              | some m2 => have := (lsetO_eq l m u e2).1; omega)
          subst h2
          have hxl : xs.length = vs.length := hv.1.symm
          have hnx : m + 1 + xs.length ≤ cur.size := by omega
          have ht := turn_row (w := w) (cs := (over cur.toList (m + 1) xs).toArray) hg (by rw [List.size_toArray, over_length _ _ _ (by simpa using hnx), Array.length_toList])
          have he := Ext.turn hr hm ht
          refine ⟨_, cur, t, hk, hg, hnx, rfl, ht, _, setRow_heap w r cur _ t (0, 0) hg, ?_, ?_, fun j u hu => ?_⟩
          · rw [over_length _ _ _ h1, List.size_toArray, over_length _ _ _ (by simpa using hnx), Array.length_toList]; exact hle
          · rw [Array.getD_eq_getD_getElem?, List.getElem?_toArray, over_get _ _ _ (by simpa using hnx), if_pos (Nat.succ_pos m), Array.getElem?_toList, ← Array.getD_eq_getD_getElem?]
            exact h0
          · refine LR.ext hr.fresh he ?_
            rw [over_get _ _ _ h1] at hu
            rw [Array.getD_eq_getD_getElem?, List.getElem?_toArray, over_get _ _ _ (by simpa using hnx), hxl]
            by_cases h1 : j < m
            · rw [if_pos h1] at hu
              rw [if_pos (by omega)]
              have := hrel j u hu
              rwa [Array.getD_eq_getD_getElem?, ← Array.getElem?_toList] at this
            · rw [if_neg h1] at hu
              rw [if_neg (by omega)]
              by_cases h2 : j < m + vs.length
              · rw [if_pos h2] at hu
                rw [if_pos (by omega)]
                obtain ⟨x, h3, h4⟩ := hv.2 (j - m) u hu
                have : j + 1 - (m + 1) = j - m := by omega
                rw [this, h3]; exact h4
              · rw [if_neg h2] at hu
                rw [if_neg (by omega)]
                have := hrel j u hu
                rwa [Array.getD_eq_getD_getElem?, ← Array.getElem?_toList] at this
      · split at hk
        · have ho : 0 = n := by simpa [I.val] using Int.ofNat.inj ho
          subst ho
          obtain ⟨x, xs', rfl, hx, hv'⟩ := hv.head
          have hxs : xs' = [] := List.eq_nil_of_length_eq_zero hv'.1.symm
          subst hxs
          have hxn : x = .pointer none := by cases hx with | p _ _ hp => cases hp; rfl
          subst hxn
          have hnx : 0 + [Value.pointer none].length ≤ cur.size := by simp; omega
          have ht := turn_row (w := w) (cs := (over cur.toList 0 [Value.pointer none]).toArray) hg (by rw [List.size_toArray, over_length _ _ _ (by simpa using hnx), Array.length_toList])
          have he := Ext.turn hr hm ht
          refine ⟨_, cur, t, hk, hg, hnx, rfl, ht, _, setRow_heap w r cur _ t (0, 0) hg, ?_, .inl ?_, fun j u hu => ?_⟩
          · rw [List.size_toArray, over_length _ _ _ (by simpa using hnx), Array.length_toList]; exact hle
          · rw [Array.getD_eq_getD_getElem?, List.getElem?_toArray, over_get _ _ _ (by simpa using hnx)]; rfl
          · refine LR.ext hr.fresh he ?_
            rw [Array.getD_eq_getD_getElem?, List.getElem?_toArray, over_get _ _ _ (by simpa using hnx), if_neg (by omega), if_neg (by simp)]
            have := hrel j u hu
            rwa [Array.getD_eq_getD_getElem?, ← Array.getElem?_toList] at this
        · exact hk.elim
      · exact hk.elim
end
end Go.LX
