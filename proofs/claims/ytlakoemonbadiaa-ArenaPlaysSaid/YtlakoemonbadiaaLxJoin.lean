/-
  Branches that join: behind a block of the code, what holds of every branch is enough; what follows is walked once.
-/
import Derived.Test.YtlakoemonbadiaaLxFast
namespace Go.LX
open Go

def lmem (n : Nat) : List Nat → Bool
  | [] => false
  | m :: l => match Nat.beq n m with
    | true => true
    | false => lmem n l
inductive Joined (J : LS → Prop) (n0 : Nat) (s' : LS) : Prop
  | mk (s'' : LS) (hr : Re n0 s' s'') (hj : J s'')
def JoinK (J : LS → Prop) (n0 : Nat) (K : Exit → LS → Prop) : Exit → LS → Prop
  | .normal, s' => Joined J n0 s'
  | .exit j, s' => K (.exit j) s'
  | .ret, s' => K .ret s'
  | .goto j, s' => K (.goto j) s'
  | .panic c, s' => K (.panic c) s'
  | .outgrown, s' => K .outgrown s'
inductive JoinF (n0 : Nat) (B : Unit → (Exit → LS → Prop) → Prop) (K : Exit → LS → Prop) : Prop
  | mk (J : LS → Prop) (hx : B () (JoinK J n0 K)) (hy : ∀ s, J s → K .normal s)
def headReg : Code → Nat
  | .region r _ _ => r
  | _ => 1000000
def seqK (N : LS → Prop) (K : Exit → LS → Prop) : Exit → LS → Prop
  | .normal, s' => N s'
  | .exit j, s' => K (.exit j) s'
  | .ret, s' => K .ret s'
  | .goto _, _ => False
  | .panic _, _ => False
  | .outgrown, _ => False
def blockK (id : Nat) (K : Exit → LS → Prop) (e : Exit) (s' : LS) : Prop := match e with
  | .exit j => match Nat.beq j id with
    | true => K .normal s'
    | false => K (.exit j) s'
  | .normal => K .normal s'
  | .ret => K .ret s'
  | .goto _ => False
  | .panic _ => False
  | .outgrown => False
def lcodeB (P : Unit → Program) (T : Unit → TT) (n0 : Nat) (bs : List Nat) : Code → LS → (Exit → LS → Prop) → Prop
  | .skip, s, K => K .normal s
  | .label _, s, K => K .normal s
  | .region _ ops d, s, K => match d with
    | false => lops P T ops.toList ops.toList s fun s' => K .normal s'
    | true => DrawF P (fun _ => ops) s fun s' => K .normal s'
  | .seq a b, s, K => match lmem (headReg a) bs with
    | true => JoinF n0 (fun _ K => lcodeB P T n0 bs a s (seqK (fun s' => lcodeB P T n0 bs b s' K) K)) K
    | false => lcodeB P T n0 bs a s (seqK (fun s' => lcodeB P T n0 bs b s' K) K)
  | .cond c a b, s, K => match ev s c with
    | .p (.bool c) => match c with
      | true => lcodeB P T n0 bs a s K
      | false => lcodeB P T n0 bs b s K
    | _ => False
  | .block id c, s, K => lcodeB P T n0 bs c s (blockK id K)
  | .loop c, s, K => LoopF n0 (fun _ s K => lcodeB P T n0 bs c s K) s K
  | .exit id, s, K => K (.exit id) s
  | .ret, s, K => K .ret s
  | _, _, _ => False
def lbodyB (P : Unit → Program) (T : Unit → TT) (bs : List Nat) (cd : Code) (rs : List ResultVar) (nt : Nat) (args : List LV) (h : LH) (n : Nat) (K : LV → LH → Nat → Prop) : Prop :=
  lcodeB P T n bs cd ⟨args ++ undefs (nt - llen args), h, n⟩ fun e s' => match e with
    | .normal => lres T s' rs fun vs => RetF n vs s'.h s'.n K
    | .ret => lres T s' rs fun vs => RetF n vs s'.h s'.n K
    | .exit _ => False
    | .goto _ => False
    | .panic _ => False
    | .outgrown => False

section
variable {P : Program} {T : TT} {c : Ctx} {a : Act} {w w' : World}

theorem lcodeB_sound (hT : TOK P T) {c0 : Ctx} {w0 : World} (n0 : Nat) (hn0 : c0.N = n0) (bs : List Nat) : ∀ (cd : Code) {s : LS} {K : Exit → LS → Prop} {c : Ctx} {a : Act} {w : World}, Ext c0 w0 c w → St c s a w → lcodeB (fun _ => P) (fun _ => T) n0 bs cd s K → cd.wp P (PostE K c0 w0) a w
  | .skip, s, K, c, a, w, he, hs, h => wp_skip ⟨c, s, h, hs, he⟩
  | .label _, s, K, c, a, w, he, hs, h => wp_label ⟨c, s, h, hs, he⟩
  | .exit _, s, K, c, a, w, he, hs, h => wp_exit ⟨c, s, h, hs, he⟩
  | .ret, s, K, c, a, w, he, hs, h => wp_ret ⟨c, s, h, hs, he⟩
  | .region _ ops d, s, K, c, a, w, he, hs, h => by
    cases d with
    | false =>
      refine wp_region ?_
      rw [List.range_eq_range']
      refine lops_sound hT (c0 := c0) (w0 := w0) (K := fun s' => K .normal s') (fun a' w' hp => ?_) ops.size 0 (by omega) he hs (by rw [List.drop_zero]; exact h)
      obtain ⟨c', s', hK, hs', he'⟩ := hp
      exact ⟨c', s', hK, hs', he'⟩
    | true =>
      refine wp_region_draw fun t => ?_
      obtain ⟨e1, r1⟩ := hs.hr.same (w' := { w with drawn := w.drawn + 1 }) rfl rfl rfl rfl
      have hs1 : St c s a { w with drawn := w.drawn + 1 } := ⟨hs.tl, fun i u hu => (hs.tr i u hu).ext hs.hr.fresh e1, hs.df, r1, hs.nn⟩
      cases h with
      | mk h =>
        refine h c a _ t _ hs1 (fun a' w' hp => ?_)
        obtain ⟨c', s', hK, hs', he'⟩ := hp
        exact ⟨c', s', hK, hs', he.trans (e1.trans he')⟩
  | .seq x y, s, K, c, a, w, he, hs, h => by
    rw [lcodeB] at h
    have key : ∀ (K : Exit → LS → Prop), lcodeB (fun _ => P) (fun _ => T) n0 bs x s (seqK (fun s' => lcodeB (fun _ => P) (fun _ => T) n0 bs y s' K) K) → (Code.seq x y).wp P (PostE K c0 w0) a w := by
      intro K h
      refine wp_seq (wp_mono (lcodeB_sound hT n0 hn0 bs x he hs h) fun e a' w' hp => ?_)
      obtain ⟨c', s', hK, hs', he'⟩ := hp
      cases e with
      | normal => exact lcodeB_sound hT n0 hn0 bs y he' hs' hK
      | exit j => exact ⟨c', s', hK, hs', he'⟩
      | ret => exact ⟨c', s', hK, hs', he'⟩
      | goto l => exact hK.elim
      | panic ch => exact hK.elim
      | outgrown => exact hK.elim
    split at h
    · cases h with
      | mk J hx hy =>
        refine wp_mono (key _ hx) fun e a' w' hp => ?_
        obtain ⟨c2, s2, hK, hs2, he2⟩ := hp
        cases e with
        | normal =>
          obtain ⟨s3, hre, hj⟩ := hK
          obtain ⟨hre⟩ := hre
          obtain ⟨c3, he3, hs3⟩ := hre c0 w0 c2 a' w' hn0 he2 hs2
          exact ⟨c3, s3, hy s3 hj, hs3, he3⟩
        | exit j => exact ⟨c2, s2, hK, hs2, he2⟩
        | ret => exact ⟨c2, s2, hK, hs2, he2⟩
        | goto l => exact ⟨c2, s2, hK, hs2, he2⟩
        | panic ch => exact ⟨c2, s2, hK, hs2, he2⟩
        | outgrown => exact ⟨c2, s2, hK, hs2, he2⟩
    · exact key _ h
  | .cond co x y, s, K, c, a, w, he, hs, h => by
    rw [lcodeB] at h
    split at h
    · rename_i b hb
      have hv : a.eval co = .bool b := LR.inv_bool (hb ▸ hs.ev co)
      cases b with
      | true => exact wp_cond_true hv (lcodeB_sound hT n0 hn0 bs x he hs h)
      | false => exact wp_cond_false hv (lcodeB_sound hT n0 hn0 bs y he hs h)
    · exact h.elim
  | .block id x, s, K, c, a, w, he, hs, h => by
    refine wp_block (wp_mono (lcodeB_sound hT n0 hn0 bs x he hs h) fun e a' w' hp => ?_)
    obtain ⟨c', s', hK, hs', he'⟩ := hp
    cases e with
    | normal => exact ⟨c', s', hK, hs', he'⟩
    | exit j =>
      show if j = id then _ else _
      unfold blockK at hK
      dsimp only at hK
      by_cases hj : j = id
      · rw [if_pos hj]
        subst hj
        rw [Nat.beq_refl] at hK
        exact ⟨c', s', hK, hs', he'⟩
      · rw [if_neg hj]
        rw [nbeq hj] at hK
        exact ⟨c', s', hK, hs', he'⟩
    | ret => exact ⟨c', s', hK, hs', he'⟩
    | goto l => exact hK.elim
    | panic ch => exact hK.elim
    | outgrown => exact hK.elim
  | .loop x, s, K, c, a, w, he, hs, h => by
    cases h with
    | mk V k0 s0 h0 hv hr =>
      obtain ⟨h0⟩ := h0
      obtain ⟨c', he', hs'⟩ := h0 c0 w0 c a w hn0 he hs
      refine wp_loop_ghost (fun n a w => ∃ s c, V n s ∧ Ext c0 w0 c w ∧ St c s a w) k0 ⟨s0, c', hv, he', hs'⟩ fun n a w hI => ?_
      obtain ⟨s1, c1, hv1, he1, hs1⟩ := hI
      refine wp_mono (lcodeB_sound hT n0 hn0 bs x he1 hs1 (hr n s1 hv1)) fun e a' w' hp => ?_
      obtain ⟨c2, s2, hK, hs2, he2⟩ := hp
      cases e with
      | normal =>
        obtain ⟨k3, s3, hm3, hre, hv3⟩ := hK
        obtain ⟨hre⟩ := hre
        obtain ⟨c3, he3, hs3⟩ := hre c0 w0 c2 a' w' hn0 he2 hs2
        exact ⟨k3, hm3, s3, c3, hv3, he3, hs3⟩
      | exit j => exact ⟨c2, s2, hK, hs2, he2⟩
      | ret => exact ⟨c2, s2, hK, hs2, he2⟩
      | goto l => exact ⟨c2, s2, hK, hs2, he2⟩
      | panic ch => exact ⟨c2, s2, hK, hs2, he2⟩
      | outgrown => exact ⟨c2, s2, hK, hs2, he2⟩
  | .rangeFunc _ _ _ _, s, K, c, a, w, he, hs, h => h.elim
  | .scope _, s, K, c, a, w, he, hs, h => h.elim
  | .goto _, s, K, c, a, w, he, hs, h => h.elim
  | .refuse _, s, K, c, a, w, he, hs, h => h.elim

theorem callF_of_bodyB (hT : TOK P T) {f : Nat} {fn : Func} {cd : Code} {args : List LV} {h : LH} {n : Nat} {K : LV → LH → Nat → Prop} (hf : P.funcs[f]? = some fn) (hname : (fn.name == "runtime.NumGoroutine") = false) (hb : fn.body = some cd)
    {rs : List ResultVar} {nt : Nat} (hrs : fn.results.toList = rs) (hnt : fn.ntmps = nt) (bs : List Nat) (hbody : lbodyB (fun _ => P) (fun _ => T) bs cd rs nt args h n K) : CallF (fun _ => P) f args h n K := by
  refine .mk ⟨fn, cd, hf, hname, hb⟩ fun c w xs hr hN hl hrel => ?_
  refine calls_of_wp hf hb ?_
  subst hrs hnt
  unfold lbodyB at hbody
  have hs : St c ⟨args ++ undefs (fn.ntmps - llen args), h, n⟩ { tmps := xs ++ Array.replicate (fn.ntmps - xs.size) undef, defers := [] } w := by
    refine ⟨by simp [undefs_length, llen_eq, hl], fun i u hu => ?_, rfl, hr, hN⟩
    dsimp only at hu ⊢
    by_cases hi : i < args.length
    · rw [List.getElem?_append_left hi] at hu
      have := hrel i u hu
      rw [Array.getD_eq_getD_getElem?] at this ⊢
      rw [Array.getElem?_append_left (by omega)]
      exact this
    · rw [List.getElem?_append_right (by omega)] at hu
      rw [undefs_get _ _ _ hu]; exact .undef _
  refine wp_mono (lcodeB_sound hT n hN bs cd (Ext.refl hr) hs hbody) fun e a' w' hp => ?_
  obtain ⟨c', s', hK, hs', he'⟩ := hp
  have fin : lres (fun _ => T) s' fn.results.toList (fun rs => RetF n rs s'.h s'.n K) → a'.defers = [] ∧ ∃ v, (results fn a'.tmps).run P w' = .ok v w' ∧
      (fun (e : Ending) w' => ∃ (c' : Ctx) (r : LV) (v : Value) (h' : LH) (n' : Nat), e = .returned v ∧ K r h' n' ∧ HR c' w' h' ∧ c'.N = n' ∧ LR c' w' r v ∧ Ext c w c' w') (.returned v) w' := by
    intro hres
    refine ⟨hs'.df, ?_⟩
    obtain ⟨us, vs, h1, h2, h3⟩ := lres_sound hT hs' _ hres
    obtain ⟨rs', h', n', ⟨hre⟩, hlr, hk⟩ := h3
    have hs2 : St c' ⟨us, s'.h, s'.n⟩ { tmps := vs.toArray, defers := [] } w' := ⟨by simpa using h2.1, fun i u hu => (Rel2.getD (x := vs.toArray) (by simpa using h2)).2 i u hu, rfl, hs'.hr, hs'.nn⟩
    obtain ⟨c2, he2, hs3⟩ := hre c w c' _ w' hN he' hs2
    refine ⟨if h : vs.toArray.size = 1 then vs.toArray[0] else .tuple vs.toArray, ?_, c2, one rs', _, h', n', rfl, hk, hs3.hr, hs3.nn, ?_, he2⟩
    · rw [results_eq, Sem.run_bind, Array.mapM_eq_mapM_toList, Sem.run_map, h1]
      rfl
    · have hr3 : Rel2 c2 w' rs' vs := by
        have := Rel2.ofD hs3.tl hs3.tr
        simpa using this
      cases rs' with
      | nil =>
        have : vs = [] := List.eq_nil_of_length_eq_zero hr3.1.symm
        subst this
        exact .tup [] #[] rfl (fun j u hu => by simp at hu)
      | cons u rs =>
        obtain ⟨y, ys, rfl, h5, h6⟩ := hr3.head
        cases rs with
        | nil =>
          have : ys = [] := List.eq_nil_of_length_eq_zero h6.1.symm
          subst this
          simpa [one] using h5
        | cons u2 rs =>
          have hne : ¬ (y :: ys).toArray.size = 1 := by
            have := h6.1
            simp at this ⊢
            intro h; rw [h] at this; simp at this
          rw [dif_neg hne]
          exact .tup _ _ (by simpa using hr3.1) (Rel2.getD (x := (y :: ys).toArray) (by simpa using hr3)).2
  cases e with
  | normal => exact fin hK
  | ret => exact fin hK
  | exit j => exact hK.elim
  | goto l => exact hK.elim
  | panic ch => exact hK.elim
  | outgrown => exact hK.elim
end
end Go.LX
