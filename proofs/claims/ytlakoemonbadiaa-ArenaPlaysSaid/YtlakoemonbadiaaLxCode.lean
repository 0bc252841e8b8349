/-
  Code does in the model what the calculus says of it; and so do calls.
-/
import Derived.Test.YtlakoemonbadiaaLxLop
import Derived.Orders
import Derived.Deep.LoopGhost
namespace Go.LX
open Go

section
variable {P : Program} {T : TT} {c : Ctx} {a : Act} {w w' : World}

theorem onth_eq : ∀ (l : List Oper) (i : Nat), onth l i = l[i]?
  | [], i => by cases i <;> rfl
  | x :: l, 0 => rfl
  | x :: l, i + 1 => by rw [onth, onth_eq l i]; rfl
theorem wanted_bool {ops : Array Oper} {o : Oper} {j : Nat} {want b : Bool} {t : Array Value} (hg : o.guard = some (j, want)) (h : ((ops[j]?).bind (·.dst)).bind (t[·]?) = some (.bool b)) :
    Region.wanted o (yielded ops t) = (b == want) := by
  unfold Region.wanted yielded
  rw [hg]
  simp [h]
theorem wanted_no {ops : Array Oper} {o : Oper} {j : Nat} {want : Bool} {t : Array Value} (hg : o.guard = some (j, want)) (h : ∀ b, ((ops[j]?).bind (·.dst)).bind (t[·]?) ≠ some (.bool b)) :
    Region.wanted o (yielded ops t) = false := by
  unfold Region.wanted yielded
  rw [hg]
  dsimp only
  split
  · rename_i b hb; exact absurd hb (h b)
  · rfl
theorem yes_sound {s : LS} {ops : Array Oper} {o : Oper} {b : Bool} (hs : St c s a w) (h : yes s ops.toList o.guard = some b) : Region.wanted o (yielded ops a.tmps) = b := by
  cases hg : o.guard with
  | none => rw [hg] at h; simp [yes] at h; subst h; simp [Region.wanted, hg]
  | some p =>
    obtain ⟨j, want⟩ := p
    rw [hg] at h
    simp only [yes, onth_eq] at h
    have hj : ops.toList[j]? = ops[j]? := by simp
    rw [hj] at h
    cases e : ops[j]? with
    | none => rw [e] at h; simp at h; subst h; exact wanted_no hg (by intro b; rw [e]; simp)
    | some q =>
      rw [e] at h
      dsimp only at h
      cases e2 : q.dst with
      | none => rw [e2] at h; simp at h; subst h; exact wanted_no hg (by intro b; rw [e]; simp [e2])
      | some d =>
        rw [e2] at h
        dsimp only at h
        have hv := hs.slot d
        have hin : ∀ {u}, tget s.t d = u → u ≠ .undef → ((ops[j]?).bind (·.dst)).bind (a.tmps[·]?) = some (a.tmps.getD d undef) := by
          intro u hu hne
          rw [tget_eq, List.getD_eq_getElem?_getD] at hu
          have : d < s.t.length := by
            rcases Nat.lt_or_ge d s.t.length with h1 | h1
            · exact h1
            · rw [List.getElem?_eq_none h1] at hu; exact absurd hu.symm hne
          rw [hs.tl] at this
          rw [e, Array.getD_eq_getD_getElem?]
          simp [e2, this]
        split at h
        · rename_i cb hcb
          have h1 := hin hcb (by intro h; cases h)
          rw [hcb] at hv
          rw [hv.inv_bool] at h1
          rw [wanted_bool hg h1]
          cases want <;> cases cb <;> simp at h <;> subst h <;> rfl
        · rename_i hcb
          have h1 := hin hcb (by intro h; cases h)
          rw [hcb] at hv
          have hu : a.tmps.getD d undef = undef := by
            generalize a.tmps.getD d undef = v at hv
            cases hv; rfl
          rw [hu] at h1
          simp at h; subst h
          exact wanted_no hg (by intro b; rw [h1]; intro h; cases h)
        · cases h

theorem lops_sound (hT : TOK P T) {ops : Array Oper} {K : LS → Prop} {c0 : Ctx} {w0 : World} {Q : Exit → Act → World → Prop} (hQ : ∀ a' w', Post K c0 w0 a' w' → Q .normal a' w') : ∀ (m k : Nat) {s : LS} {c : Ctx} {a : Act} {w : World}, k + m = ops.size → Ext c0 w0 c w → St c s a w → lops (fun _ => P) (fun _ => T) ops.toList (ops.toList.drop k) s K →
    wpOps P ops Q (List.range' k m) a w
  | 0, k, s, c, a, w, hk, he, hs, h => by
    have : ops.toList.drop k = [] := List.drop_eq_nil_of_le (by simp; omega)
    rw [this] at h
    exact hQ _ _ ⟨c, s, h, hs, he⟩
  | m + 1, k, s, c, a, w, hk, he, hs, h => by
    have hlt : k < ops.toList.length := by simp; omega
    rw [List.drop_eq_getElem_cons hlt] at h
    rw [List.range'_succ, wpOps]
    have ho : ops[k]? = some ops.toList[k] := by simp at hlt; simp [hlt]
    rw [ho]
    dsimp only
    rw [lops] at h
    split at h
    · rename_i cb hy
      have hw := yes_sound hs hy
      cases cb with
      | true =>
        rw [if_pos hw]
        left
        have h1 := lop_sound (Q := Q) hT hs h
        refine Oper.wp_mono (fun a' w' hp => ?_) h1
        obtain ⟨c', s', hK, hs', he'⟩ := hp
        exact lops_sound hT hQ m (k + 1) (by omega) (he.trans he') hs' hK
      | false =>
        rw [if_neg (by rw [hw]; simp)]
        exact lops_sound hT hQ m (k + 1) (by omega) he (hs.put .nul _) h
    · exact h.elim

def PostE (K : Exit → LS → Prop) (c : Ctx) (w : World) (e : Exit) (a' : Act) (w' : World) : Prop := ∃ c' s', K e s' ∧ St c' s' a' w' ∧ Ext c w c' w'

theorem lcode_sound (hT : TOK P T) {c0 : Ctx} {w0 : World} (n0 : Nat) (hn0 : c0.N = n0) : ∀ (cd : Code) {s : LS} {K : Exit → LS → Prop} {c : Ctx} {a : Act} {w : World}, Ext c0 w0 c w → St c s a w → lcode (fun _ => P) (fun _ => T) n0 cd s K → cd.wp P (PostE K c0 w0) a w
  | .skip, s, K, c, a, w, he, hs, h => wp_skip ⟨c, s, h, hs, he⟩
  | .label _, s, K, c, a, w, he, hs, h => wp_label ⟨c, s, h, hs, he⟩
  | .exit _, s, K, c, a, w, he, hs, h => wp_exit ⟨c, s, h, hs, he⟩
  | .ret, s, K, c, a, w, he, hs, h => wp_ret ⟨c, s, h, hs, he⟩
  | .region _ ops d, s, K, c, a, w, he, hs, h => by
    cases d with
    | false =>
      refine wp_region ?_
      rw [List.range_eq_range']
      refine lops_sound hT (c0 := c0) (w0 := w0) (K := fun s' => K .normal s') (fun a' w' hp => ?_) ops.size 0 (by omega) he hs (by rw [List.drop_zero]; exact h)
      obtain ⟨c', s', hK, hs', he'⟩ := hp
      exact ⟨c', s', hK, hs', he'⟩
    | true =>
      refine wp_region_draw fun t => ?_
      obtain ⟨e1, r1⟩ := hs.hr.same (w' := { w with drawn := w.drawn + 1 }) rfl rfl rfl rfl
      have hs1 : St c s a { w with drawn := w.drawn + 1 } := ⟨hs.tl, fun i u hu => (hs.tr i u hu).ext hs.hr.fresh e1, hs.df, r1, hs.nn⟩
      cases h with
      | mk h =>
        refine h c a _ t _ hs1 (fun a' w' hp => ?_)
        obtain ⟨c', s', hK, hs', he'⟩ := hp
        exact ⟨c', s', hK, hs', he.trans (e1.trans he')⟩
  | .seq x y, s, K, c, a, w, he, hs, h => by
    refine wp_seq (wp_mono (lcode_sound hT n0 hn0 x he hs h) fun e a' w' hp => ?_)
    obtain ⟨c', s', hK, hs', he'⟩ := hp
    cases e with
    | normal => exact lcode_sound hT n0 hn0 y he' hs' hK
    | exit j => exact ⟨c', s', hK, hs', he'⟩
    | ret => exact ⟨c', s', hK, hs', he'⟩
    | goto l => exact hK.elim
    | panic ch => exact hK.elim
    | outgrown => exact hK.elim
  | .cond co x y, s, K, c, a, w, he, hs, h => by
    rw [lcode] at h
    split at h
    · rename_i b hb
      have hv : a.eval co = .bool b := LR.inv_bool (hb ▸ hs.ev co)
      cases b with
      | true => exact wp_cond_true hv (lcode_sound hT n0 hn0 x he hs h)
      | false => exact wp_cond_false hv (lcode_sound hT n0 hn0 y he hs h)
    · exact h.elim
  | .block id x, s, K, c, a, w, he, hs, h => by
    refine wp_block (wp_mono (lcode_sound hT n0 hn0 x he hs h) fun e a' w' hp => ?_)
    obtain ⟨c', s', hK, hs', he'⟩ := hp
    cases e with
    | normal => exact ⟨c', s', hK, hs', he'⟩
    | exit j =>
      show if j = id then _ else _
      dsimp only at hK
      by_cases hj : j = id
      · rw [if_pos hj]
        subst hj
        rw [Nat.beq_refl] at hK
        exact ⟨c', s', hK, hs', he'⟩
      · rw [if_neg hj]
        rw [nbeq hj] at hK
        exact ⟨c', s', hK, hs', he'⟩
    | ret => exact ⟨c', s', hK, hs', he'⟩
    | goto l => exact hK.elim
    | panic ch => exact hK.elim
    | outgrown => exact hK.elim
  | .loop x, s, K, c, a, w, he, hs, h => by
    cases h with
    | mk V k0 s0 h0 hv hr =>
      obtain ⟨h0⟩ := h0
      obtain ⟨c', he', hs'⟩ := h0 c0 w0 c a w hn0 he hs
      refine wp_loop_ghost (fun n a w => ∃ s c, V n s ∧ Ext c0 w0 c w ∧ St c s a w) k0 ⟨s0, c', hv, he', hs'⟩ fun n a w hI => ?_
      obtain ⟨s1, c1, hv1, he1, hs1⟩ := hI
      refine wp_mono (lcode_sound hT n0 hn0 x he1 hs1 (hr n s1 hv1)) fun e a' w' hp => ?_
      obtain ⟨c2, s2, hK, hs2, he2⟩ := hp
      cases e with
      | normal =>
        obtain ⟨k3, s3, hm3, hre, hv3⟩ := hK
        obtain ⟨hre⟩ := hre
        obtain ⟨c3, he3, hs3⟩ := hre c0 w0 c2 a' w' hn0 he2 hs2
        exact ⟨k3, hm3, s3, c3, hv3, he3, hs3⟩
      | exit j => exact ⟨c2, s2, hK, hs2, he2⟩
      | ret => exact ⟨c2, s2, hK, hs2, he2⟩
      | goto l => exact ⟨c2, s2, hK, hs2, he2⟩
      | panic ch => exact ⟨c2, s2, hK, hs2, he2⟩
      | outgrown => exact ⟨c2, s2, hK, hs2, he2⟩
  | .rangeFunc _ _ _ _, s, K, c, a, w, he, hs, h => h.elim
  | .scope _, s, K, c, a, w, he, hs, h => h.elim
  | .goto _, s, K, c, a, w, he, hs, h => h.elim
  | .refuse _, s, K, c, a, w, he, hs, h => h.elim

theorem undefs_length : ∀ n, (undefs n).length = n
  | 0 => rfl
  | n + 1 => by simp [undefs, undefs_length n]
theorem undefs_get : ∀ (n i : Nat) (u : LV), (undefs n)[i]? = some u → u = .undef
  | 0, i, u, h => by simp [undefs] at h
  | n + 1, 0, u, h => by simp [undefs] at h; exact h.symm
  | n + 1, i + 1, u, h => by simp [undefs] at h; exact undefs_get n i u h

def resF (t : Array Value) : ResultVar → Sem Value
  | .tmp x => pure (t.getD x undef)
  | .cell x ty => do loadVar ty (← asAddr (t.getD x undef))
theorem results_eq (fn : Func) (t : Array Value) : results fn t = (do let vs ← fn.results.mapM (resF t); pure (if h : vs.size = 1 then vs[0] else .tuple vs)) := by
  unfold results
  congr 2
theorem lres_sound (hT : TOK P T) {s : LS} (hs : St c s a w) : ∀ (l : List ResultVar) {L : List LV → Prop}, lres (fun _ => T) s l L → ∃ us vs, (l.mapM (resF a.tmps)).run P w = .ok vs w ∧ Rel2 c w us vs ∧ L us
  | [], L, h => ⟨[], [], by simp, Rel2.nil, h⟩
  | .tmp t :: l, L, h => by
    obtain ⟨us, vs, h1, h2, h3⟩ := lres_sound hT hs l h
    exact ⟨_, a.tmps.getD t undef :: vs, by simp [List.mapM_cons, resF, h1], Rel2.cons (hs.slot t) h2, h3⟩
  | .cell x t :: l, L, h => by
    have hx := hs.slot x
    rw [lres] at h
    split at h
    · rename_i b o' hev
      rw [hev] at hx
      split at h
      · rename_i B ti hB ht
        obtain ⟨r, k, hm, hk, hv⟩ := live_ptr hs hx hB
        obtain ⟨m, hm', hBR⟩ := hs.hr.live b B hB
        rw [hm] at hm'; cases hm'
        obtain ⟨u, y, h1, h2, h3⟩ := loadB_sound (hT t ti ht) hBR hk h
        obtain ⟨us, vs, h4, h5, h6⟩ := lres_sound hT hs l h3
        exact ⟨_, y :: vs, by simp [List.mapM_cons, resF, hv, asAddr, h1, h4], Rel2.cons h2 h5, h6⟩
      · exact h.elim
    · exact h.elim

theorem callF_of_body (hT : TOK P T) {f : Nat} {fn : Func} {cd : Code} {args : List LV} {h : LH} {n : Nat} {K : LV → LH → Nat → Prop} (hf : P.funcs[f]? = some fn) (hname : (fn.name == "runtime.NumGoroutine") = false) (hb : fn.body = some cd)
    {rs : List ResultVar} {nt : Nat} (hrs : fn.results.toList = rs) (hnt : fn.ntmps = nt) (hbody : lbody (fun _ => P) (fun _ => T) cd rs nt args h n K) : CallF (fun _ => P) f args h n K := by
  refine .mk ⟨fn, cd, hf, hname, hb⟩ fun c w xs hr hN hl hrel => ?_
  refine calls_of_wp hf hb ?_
  subst hrs hnt
  unfold lbody at hbody
  have hs : St c ⟨args ++ undefs (fn.ntmps - llen args), h, n⟩ { tmps := xs ++ Array.replicate (fn.ntmps - xs.size) undef, defers := [] } w := by
    refine ⟨by simp [undefs_length, llen_eq, hl], fun i u hu => ?_, rfl, hr, hN⟩
    dsimp only at hu ⊢
    by_cases hi : i < args.length
    · rw [List.getElem?_append_left hi] at hu
      have := hrel i u hu
      rw [Array.getD_eq_getD_getElem?] at this ⊢
      rw [Array.getElem?_append_left (by omega)]
      exact this
    · rw [List.getElem?_append_right (by omega)] at hu
      rw [undefs_get _ _ _ hu]; exact .undef _
  refine wp_mono (lcode_sound hT n hN cd (Ext.refl hr) hs hbody) fun e a' w' hp => ?_
  obtain ⟨c', s', hK, hs', he'⟩ := hp
  have fin : lres (fun _ => T) s' fn.results.toList (fun rs => RetF n rs s'.h s'.n K) → a'.defers = [] ∧ ∃ v, (results fn a'.tmps).run P w' = .ok v w' ∧
      (fun (e : Ending) w' => ∃ (c' : Ctx) (r : LV) (v : Value) (h' : LH) (n' : Nat), e = .returned v ∧ K r h' n' ∧ HR c' w' h' ∧ c'.N = n' ∧ LR c' w' r v ∧ Ext c w c' w') (.returned v) w' := by
    intro hres
    refine ⟨hs'.df, ?_⟩
    obtain ⟨us, vs, h1, h2, h3⟩ := lres_sound hT hs' _ hres
    obtain ⟨rs', h', n', ⟨hre⟩, hlr, hk⟩ := h3
    have hs2 : St c' ⟨us, s'.h, s'.n⟩ { tmps := vs.toArray, defers := [] } w' := ⟨by simpa using h2.1, fun i u hu => (Rel2.getD (x := vs.toArray) (by simpa using h2)).2 i u hu, rfl, hs'.hr, hs'.nn⟩
    obtain ⟨c2, he2, hs3⟩ := hre c w c' _ w' hN he' hs2
    refine ⟨if h : vs.toArray.size = 1 then vs.toArray[0] else .tuple vs.toArray, ?_, c2, one rs', _, h', n', rfl, hk, hs3.hr, hs3.nn, ?_, he2⟩
    · rw [results_eq, Sem.run_bind, Array.mapM_eq_mapM_toList, Sem.run_map, h1]
      rfl
    · have hr3 : Rel2 c2 w' rs' vs := by
        have := Rel2.ofD hs3.tl hs3.tr
        simpa using this
      cases rs' with
      | nil =>
        have : vs = [] := List.eq_nil_of_length_eq_zero hr3.1.symm
        subst this
        exact .tup [] #[] rfl (fun j u hu => by simp at hu)
      | cons u rs =>
        obtain ⟨y, ys, rfl, h5, h6⟩ := hr3.head
        cases rs with
        | nil =>
          have : ys = [] := List.eq_nil_of_length_eq_zero h6.1.symm
          subst this
          simpa [one] using h5
        | cons u2 rs =>
          have hne : ¬ (y :: ys).toArray.size = 1 := by
            have := h6.1
            simp at this ⊢
            intro h; rw [h] at this; simp at this
          rw [dif_neg hne]
          exact .tup _ _ (by simpa using hr3.1) (Rel2.getD (x := (y :: ys).toArray) (by simpa using hr3)).2
  cases e with
  | normal => exact fin hK
  | ret => exact fin hK
  | exit j => exact hK.elim
  | goto l => exact hK.elim
  | panic ch => exact hK.elim
  | outgrown => exact hK.elim
end
end Go.LX
