/-
  The ground of the proof, part 4: the calculus and what is proved with it.
-/
import Derived.Test.YtfjdifeofnpcnaaDoorBc
import Derived.WalkKit
import Derived.Laws.RangeAny
import Derived.Lib.ItoaNum
import Derived.Test.YtfjdifeofnpcnaaDoorRows
/-
  Branches that join: behind a block of the code, what holds of every branch is enough; what follows is walked once.
-/
namespace Go.LX
open Go

def lmem (n : Nat) : List Nat → Bool
  | [] => false
  | m :: l => match Nat.beq n m with
    | true => true
    | false => lmem n l
inductive Joined (J : LS → Prop) (n0 : Nat) (s' : LS) : Prop
  | mk (s'' : LS) (hr : Re n0 s' s'') (hj : J s'')
def JoinK (J : LS → Prop) (n0 : Nat) (K : Exit → LS → Prop) : Exit → LS → Prop
  | .normal, s' => Joined J n0 s'
  | .exit j, s' => K (.exit j) s'
  | .ret, s' => K .ret s'
  | .goto j, s' => K (.goto j) s'
  | .panic c, s' => K (.panic c) s'
  | .outgrown, s' => K .outgrown s'
inductive JoinF (n0 : Nat) (B : Unit → (Exit → LS → Prop) → Prop) (K : Exit → LS → Prop) : Prop
  | mk (J : LS → Prop) (hx : B () (JoinK J n0 K)) (hy : ∀ s, J s → K .normal s)
def headReg : Code → Nat
  | .region r _ _ => r
  | _ => 1000000
def seqK (N : LS → Prop) (K : Exit → LS → Prop) : Exit → LS → Prop
  | .normal, s' => N s'
  | .exit j, s' => K (.exit j) s'
  | .ret, s' => K .ret s'
  | .goto _, _ => False
  | .panic _, _ => False
  | .outgrown, _ => False
def blockK (id : Nat) (K : Exit → LS → Prop) (e : Exit) (s' : LS) : Prop := match e with
  | .exit j => match Nat.beq j id with
    | true => K .normal s'
    | false => K (.exit j) s'
  | .normal => K .normal s'
  | .ret => K .ret s'
  | .goto _ => False
  | .panic _ => False
  | .outgrown => False
def lcodeB (P : Unit → Program) (T : Unit → TT) (n0 : Nat) (bs : List Nat) : Code → LS → (Exit → LS → Prop) → Prop
  | .skip, s, K => K .normal s
  | .label _, s, K => K .normal s
  | .region _ ops d, s, K => match d with
    | false => lops P T ops.toList ops.toList s fun s' => K .normal s'
    | true => DrawF P (fun _ => ops) s fun s' => K .normal s'
  | .seq a b, s, K => match lmem (headReg a) bs with
    | true => JoinF n0 (fun _ K => lcodeB P T n0 bs a s (seqK (fun s' => lcodeB P T n0 bs b s' K) K)) K
    | false => lcodeB P T n0 bs a s (seqK (fun s' => lcodeB P T n0 bs b s' K) K)
  | .cond c a b, s, K => match ev s c with
    | .p (.bool c) => match c with
      | true => lcodeB P T n0 bs a s K
      | false => lcodeB P T n0 bs b s K
    | _ => False
  | .block id c, s, K => lcodeB P T n0 bs c s (blockK id K)
  | .loop c, s, K => LoopF n0 (fun _ s K => lcodeB P T n0 bs c s K) s K
  | .exit id, s, K => K (.exit id) s
  | .ret, s, K => K .ret s
  | _, _, _ => False
def lbodyB (P : Unit → Program) (T : Unit → TT) (bs : List Nat) (cd : Code) (rs : List ResultVar) (nt : Nat) (args : List LV) (h : LH) (n : Nat) (K : LV → LH → Nat → Prop) : Prop :=
  lcodeB P T n bs cd ⟨args ++ undefs (nt - llen args), h, n⟩ fun e s' => match e with
    | .normal => lres T s' rs fun vs => RetF n vs s'.h s'.n K
    | .ret => lres T s' rs fun vs => RetF n vs s'.h s'.n K
    | .exit _ => False
    | .goto _ => False
    | .panic _ => False
    | .outgrown => False

section
variable {P : Program} {T : TT} {c : Ctx} {a : Act} {w w' : World}

theorem lcodeB_sound (hT : TOK P T) {c0 : Ctx} {w0 : World} (n0 : Nat) (hn0 : c0.N = n0) (bs : List Nat) : ∀ (cd : Code) {s : LS} {K : Exit → LS → Prop} {c : Ctx} {a : Act} {w : World}, Ext c0 w0 c w → St c s a w → lcodeB (fun _ => P) (fun _ => T) n0 bs cd s K → cd.wp P (PostE K c0 w0) a w
  | .skip, s, K, c, a, w, he, hs, h => wp_skip ⟨c, s, h, hs, he⟩
  | .label _, s, K, c, a, w, he, hs, h => wp_label ⟨c, s, h, hs, he⟩
  | .exit _, s, K, c, a, w, he, hs, h => wp_exit ⟨c, s, h, hs, he⟩
  | .ret, s, K, c, a, w, he, hs, h => wp_ret ⟨c, s, h, hs, he⟩
  | .region _ ops d, s, K, c, a, w, he, hs, h => by
    cases d with
    | false =>
      refine wp_region ?_
      rw [List.range_eq_range']
      refine lops_sound hT (c0 := c0) (w0 := w0) (K := fun s' => K .normal s') (fun a' w' hp => ?_) ops.size 0 (by omega) he hs (by rw [List.drop_zero]; exact h)
      obtain ⟨c', s', hK, hs', he'⟩ := hp
      exact ⟨c', s', hK, hs', he'⟩
    | true =>
      refine wp_region_draw fun t => ?_
      obtain ⟨e1, r1⟩ := hs.hr.same (w' := { w with drawn := w.drawn + 1 }) rfl rfl rfl rfl
      have hs1 : St c s a { w with drawn := w.drawn + 1 } := ⟨hs.tl, fun i u hu => (hs.tr i u hu).ext hs.hr.fresh e1, hs.df, r1, hs.nn⟩
      cases h with
      | mk h =>
        refine h c a _ t _ hs1 (fun a' w' hp => ?_)
        obtain ⟨c', s', hK, hs', he'⟩ := hp
        exact ⟨c', s', hK, hs', he.trans (e1.trans he')⟩
  | .seq x y, s, K, c, a, w, he, hs, h => by
    rw [lcodeB] at h
    have key : ∀ (K : Exit → LS → Prop), lcodeB (fun _ => P) (fun _ => T) n0 bs x s (seqK (fun s' => lcodeB (fun _ => P) (fun _ => T) n0 bs y s' K) K) → (Code.seq x y).wp P (PostE K c0 w0) a w := by
      intro K h
      refine wp_seq (wp_mono (lcodeB_sound hT n0 hn0 bs x he hs h) fun e a' w' hp => ?_)
      obtain ⟨c', s', hK, hs', he'⟩ := hp
      cases e with
      | normal => exact lcodeB_sound hT n0 hn0 bs y he' hs' hK
      | exit j => exact ⟨c', s', hK, hs', he'⟩
      | ret => exact ⟨c', s', hK, hs', he'⟩
      | goto l => exact hK.elim
      | panic ch => exact hK.elim
      | outgrown => exact hK.elim
    split at h
    · cases h with
      | mk J hx hy =>
        refine wp_mono (key _ hx) fun e a' w' hp => ?_
        obtain ⟨c2, s2, hK, hs2, he2⟩ := hp
        cases e with
        | normal =>
          obtain ⟨s3, hre, hj⟩ := hK
          obtain ⟨hre⟩ := hre
          obtain ⟨c3, he3, hs3⟩ := hre c0 w0 c2 a' w' hn0 he2 hs2
          exact ⟨c3, s3, hy s3 hj, hs3, he3⟩
        | exit j => exact ⟨c2, s2, hK, hs2, he2⟩
        | ret => exact ⟨c2, s2, hK, hs2, he2⟩
        | goto l => exact ⟨c2, s2, hK, hs2, he2⟩
        | panic ch => exact ⟨c2, s2, hK, hs2, he2⟩
        | outgrown => exact ⟨c2, s2, hK, hs2, he2⟩
    · exact key _ h
  | .cond co x y, s, K, c, a, w, he, hs, h => by
    rw [lcodeB] at h
    split at h
    · rename_i b hb
      have hv : a.eval co = .bool b := LR.inv_bool (hb ▸ hs.ev co)
      cases b with
      | true => exact wp_cond_true hv (lcodeB_sound hT n0 hn0 bs x he hs h)
      | false => exact wp_cond_false hv (lcodeB_sound hT n0 hn0 bs y he hs h)
    · exact h.elim
  | .block id x, s, K, c, a, w, he, hs, h => by
    refine wp_block (wp_mono (lcodeB_sound hT n0 hn0 bs x he hs h) fun e a' w' hp => ?_)
    obtain ⟨c', s', hK, hs', he'⟩ := hp
    cases e with
    | normal => exact ⟨c', s', hK, hs', he'⟩
    | exit j =>
      show if j = id then _ else _
      unfold blockK at hK
      dsimp only at hK
      by_cases hj : j = id
      · rw [if_pos hj]
        subst hj
        rw [Nat.beq_refl] at hK
        exact ⟨c', s', hK, hs', he'⟩
      · rw [if_neg hj]
        rw [nbeq hj] at hK
        exact ⟨c', s', hK, hs', he'⟩
    | ret => exact ⟨c', s', hK, hs', he'⟩
    | goto l => exact hK.elim
    | panic ch => exact hK.elim
    | outgrown => exact hK.elim
  | .loop x, s, K, c, a, w, he, hs, h => by
    cases h with
    | mk V k0 s0 h0 hv hr =>
      obtain ⟨h0⟩ := h0
      obtain ⟨c', he', hs'⟩ := h0 c0 w0 c a w hn0 he hs
      refine wp_loop_ghost (fun n a w => ∃ s c, V n s ∧ Ext c0 w0 c w ∧ St c s a w) k0 ⟨s0, c', hv, he', hs'⟩ fun n a w hI => ?_
      obtain ⟨s1, c1, hv1, he1, hs1⟩ := hI
      refine wp_mono (lcodeB_sound hT n0 hn0 bs x he1 hs1 (hr n s1 hv1)) fun e a' w' hp => ?_
      obtain ⟨c2, s2, hK, hs2, he2⟩ := hp
      cases e with
      | normal =>
        obtain ⟨k3, s3, hm3, hre, hv3⟩ := hK
        obtain ⟨hre⟩ := hre
        obtain ⟨c3, he3, hs3⟩ := hre c0 w0 c2 a' w' hn0 he2 hs2
        exact ⟨k3, hm3, s3, c3, hv3, he3, hs3⟩
      | exit j => exact ⟨c2, s2, hK, hs2, he2⟩
      | ret => exact ⟨c2, s2, hK, hs2, he2⟩
      | goto l => exact ⟨c2, s2, hK, hs2, he2⟩
      | panic ch => exact ⟨c2, s2, hK, hs2, he2⟩
      | outgrown => exact ⟨c2, s2, hK, hs2, he2⟩
    | rounds m h =>
      refine wp_loop_rounds m ?_
      induction m generalizing s c a w with
      | zero => exact h.elim
      | succ m ih =>
        refine wp_mono (lcodeB_sound hT n0 hn0 bs x he hs h) fun e a' w' hp => ?_
        obtain ⟨c', s', hK, hs', he'⟩ := hp
        cases e with
        | normal => exact ih s' c' a' w' he' hs' hK
        | exit j => exact ⟨c', s', hK, hs', he'⟩
        | ret => exact ⟨c', s', hK, hs', he'⟩
        | goto l => exact ⟨c', s', hK, hs', he'⟩
        | panic ch => exact ⟨c', s', hK, hs', he'⟩
        | outgrown => exact ⟨c', s', hK, hs', he'⟩
  | .rangeFunc _ _ _ _, s, K, c, a, w, he, hs, h => h.elim
  | .scope _, s, K, c, a, w, he, hs, h => h.elim
  | .goto _, s, K, c, a, w, he, hs, h => h.elim
  | .refuse _, s, K, c, a, w, he, hs, h => h.elim

theorem callF_of_bodyB (hT : TOK P T) {f : Nat} {fn : Func} {cd : Code} {args : List LV} {h : LH} {n : Nat} {K : LV → LH → Nat → Prop} (hf : P.funcs[f]? = some fn) (hname : (fn.name == "runtime.NumGoroutine") = false) (hb : fn.body = some cd)
    {rs : List ResultVar} {nt : Nat} (hrs : fn.results.toList = rs) (hnt : fn.ntmps = nt) (bs : List Nat) (hbody : lbodyB (fun _ => P) (fun _ => T) bs cd rs nt args h n K) : CallF (fun _ => P) f args h n K := by
  refine .mk ⟨fn, cd, hf, hname, hb⟩ fun c w xs hr hN hl hrel => ?_
  refine calls_of_wp hf hb ?_
  subst hrs hnt
  unfold lbodyB at hbody
  have hs : St c ⟨args ++ undefs (fn.ntmps - llen args), h, n⟩ { tmps := xs ++ Array.replicate (fn.ntmps - xs.size) undef, defers := [] } w := by
    refine ⟨by simp [undefs_length, llen_eq, hl], fun i u hu => ?_, rfl, hr, hN⟩
    dsimp only at hu ⊢
    by_cases hi : i < args.length
    · rw [List.getElem?_append_left hi] at hu
      have := hrel i u hu
      rw [Array.getD_eq_getD_getElem?] at this ⊢
      rw [Array.getElem?_append_left (by omega)]
      exact this
    · rw [List.getElem?_append_right (by omega)] at hu
      rw [undefs_get _ _ _ hu]; exact .undef _
  refine wp_mono (lcodeB_sound hT n hN bs cd (Ext.refl hr) hs hbody) fun e a' w' hp => ?_
  obtain ⟨c', s', hK, hs', he'⟩ := hp
  have fin : lres (fun _ => T) s' fn.results.toList (fun rs => RetF n rs s'.h s'.n K) → a'.defers = [] ∧ ∃ v, (results fn a'.tmps).run P w' = .ok v w' ∧
      (fun (e : Ending) w' => ∃ (c' : Ctx) (r : LV) (v : Value) (h' : LH) (n' : Nat), e = .returned v ∧ K r h' n' ∧ HR c' w' h' ∧ c'.N = n' ∧ LR c' w' r v ∧ Ext c w c' w') (.returned v) w' := by
    intro hres
    refine ⟨hs'.df, ?_⟩
    obtain ⟨us, vs, h1, h2, h3⟩ := lres_sound hT hs' _ hres
    obtain ⟨rs', h', n', ⟨hre⟩, hlr, hk⟩ := h3
    have hs2 : St c' ⟨us, s'.h, s'.n⟩ { tmps := vs.toArray, defers := [] } w' := ⟨by simpa using h2.1, fun i u hu => (Rel2.getD (x := vs.toArray) (by simpa using h2)).2 i u hu, rfl, hs'.hr, hs'.nn⟩
    obtain ⟨c2, he2, hs3⟩ := hre c w c' _ w' hN he' hs2
    refine ⟨if h : vs.toArray.size = 1 then vs.toArray[0] else .tuple vs.toArray, ?_, c2, one rs', _, h', n', rfl, hk, hs3.hr, hs3.nn, ?_, he2⟩
    · rw [results_eq, Sem.run_bind, Array.mapM_eq_mapM_toList, Sem.run_map, h1]
      rfl
    · have hr3 : Rel2 c2 w' rs' vs := by
        have := Rel2.ofD hs3.tl hs3.tr
        simpa using this
      cases rs' with
      | nil =>
        have : vs = [] := List.eq_nil_of_length_eq_zero hr3.1.symm
        subst this
        exact .tup [] #[] rfl (fun j u hu => by simp at hu)
      | cons u rs =>
        obtain ⟨y, ys, rfl, h5, h6⟩ := hr3.head
        cases rs with
        | nil =>
          have : ys = [] := List.eq_nil_of_length_eq_zero h6.1.symm
          subst this
          simpa [one] using h5
        | cons u2 rs =>
          have hne : ¬ (y :: ys).toArray.size = 1 := by
            have := h6.1
            simp at this ⊢
            intro h; rw [h] at this; simp at this
          rw [dif_neg hne]
          exact .tup _ _ (by simpa using hr3.1) (Rel2.getD (x := (y :: ys).toArray) (by simpa using hr3)).2
  cases e with
  | normal => exact fin hK
  | ret => exact fin hK
  | exit j => exact hK.elim
  | goto l => exact hK.elim
  | panic ch => exact hK.elim
  | outgrown => exact hK.elim
end
theorem Br.yes {p : Unit → Prop} {K : Bool → Prop} (h : p ()) (hk : K true) : Br p K := .mk (fun _ => hk) (fun n => absurd h n)
theorem Br.no {p : Unit → Prop} {K : Bool → Prop} (h : ¬ p ()) (hk : K false) : Br p K := .mk (fun y => absurd y h) (fun _ => hk)
end Go.LX
/-
  Blocks that are as they were laid for ever: what is lent beside them; laws that begin with them.
-/
namespace Go.LX
open Go
set_option linter.unusedVariables false

def isFix : LB → Bool
  | .fix _ _ => true
  | _ => false
def flatN (n0 : Nat) : LH → Prop
  | [] => True
  | (b, B) :: l => (match Nat.blt b n0 with
    | true => True
    | false => flatB B) ∧ flatN n0 l
/-- What the names of a call stand for: laid blocks, each the caller's. -/
def fixOn (h : LH) : LH → List (Nat × Nat) → Prop
  | _, [] => True
  | h0, (a, b) :: ρ => (match hget h0 a, hget h b with
    | some (.fix g o), some (.fix g' o') => g = g' ∧ o = o'
    | _, _ => False) ∧ fixOn h h0 ρ
def allFix (ρ : List (Nat × Nat)) : LH → Bool
  | [] => true
  | (a, B) :: l => isFix B && (nget ρ a).isSome && allFix ρ l
section
variable {c c0 : Ctx} {w w' : World} {n n0 : Nat} {h h0 : LH} {ρ : List (Nat × Nat)}
theorem fixOn_get : ∀ {ρ : List (Nat × Nat)}, fixOn h h0 ρ → ∀ a b, nget ρ a = some b → ∃ g o, hget h0 a = some (.fix g o) ∧ hget h b = some (.fix g o)
  | [], _, a, b, e => by simp [nget] at e
  | (x, y) :: ρ, hf, a, b, e => by
    rw [nget_cons] at e
    by_cases e1 : x = a
    · rw [if_pos e1] at e; cases e
      subst e1
      have h1 := hf.1
      split at h1
      · rename_i g o g' o' e2 e3
        obtain ⟨rfl, rfl⟩ := h1
        exact ⟨g, o, e2, e3⟩
      · exact h1.elim
    · rw [if_neg e1] at e; exact fixOn_get hf.2 a b e
theorem allFix_get : ∀ {l : LH}, allFix ρ l = true → ∀ a A, hget l a = some A → (∃ b, nget ρ a = some b) ∧ isFix A = true
  | [], _, a, A, e => by cases e
  | (x, B) :: l, hf, a, A, e => by
    simp only [allFix, Bool.and_eq_true] at hf
    rw [hget_cons] at e
    by_cases e1 : x = a
    · rw [if_pos e1] at e; cases e
      subst e1
      exact ⟨Option.isSome_iff_exists.1 hf.1.2, hf.1.1⟩
    · rw [if_neg e1] at e; exact allFix_get hf.2 a A e
theorem flatN_get : ∀ {l : LH}, flatN n0 l → ∀ b B, n0 ≤ b → hget l b = some B → flatB B
  | [], _, b, B, _, hb => by cases hb
  | (a, A) :: l, h, b, B, hn, hb => by
    rw [hget_cons] at hb
    by_cases e : a = b
    · rw [if_pos e] at hb; cases hb
      subst e
      have h1 := h.1
      have : Nat.blt a n0 = false := by
        cases e3 : Nat.blt a n0 with
        | false => rfl
        | true => have : a < n0 := by simpa using e3
                  omega
      rw [this] at h1; exact h1
    · rw [if_neg e] at hb; exact flatN_get h.2 b B hn hb
def Ctx.lendF (c : Ctx) (L : List Nat) (ρ : List (Nat × Nat)) (n0 : Nat) : Ctx := { m := fun a => match nget ρ a with | some b => c.m b | none => none, X := fun r => c.mut r ∧ ∀ b ∈ L, c.m b ≠ some (some r), N := n0 }

theorem rn_nil {a b : Nat} (h : rn [] n0 n a = some b) : n0 ≤ a := by
  unfold rn at h
  simp only [nget] at h
  rcases Nat.lt_or_ge a n0 with h1 | h1
  · have : Nat.blt a n0 = true := by simpa using h1
    rw [this] at h; cases h
  · exact h1
/-- THE LOAN, beside laid blocks. -/
theorem callF_lendF {P : Unit → Program} {f : Nat} {args0 args : List LV} {K0 K : LV → LH → Nat → Prop} (hc : CallF P f args0 h0 n0 K0) (ρ : List (Nat × Nat)) (hF : fok n0 n ρ = true) (hfx : fixOn h h0 ρ) (hal : allFix ρ h0 = true) (hle : lends h args args0) (hfl : ∀ r h' n', K0 r h' n' → flatV r ∧ flatN n0 h')
    (hK : ∀ r h' n', K0 r h' n' → K (renV [] n0 n r) (frameH [] n0 n h h') (n + (n' - n0))) : CallF P f args h n K := by
  have hF := fok_ok hF
  have hF0 : FOK n0 n [] := fok_ok rfl
  cases hc with
  | mk h1 h2 =>
    refine .mk h1 fun c w xs hr hN hl hrel => ?_
    obtain ⟨g1, g2⟩ := lends_get hle
    have dom : ∀ a b, nget ρ a = some b → c.m b = some none ∧ ∃ g o, hget h0 a = some (.fix g o) ∧ w.heap[g]? = some (o ()) ∧ ¬ c.mut g := by
      intro a b hab
      obtain ⟨g, o, e1, e2⟩ := fixOn_get hfx a b hab
      obtain ⟨m, e3, e4⟩ := hr.live b _ e2
      cases m with
      | some r => exact e4.elim
      | none => exact ⟨e3, g, o, e1, e4.1, e4.2⟩
    have inm : ∀ {a b}, nget ρ a = some b → (c.lendF (lent h args) ρ n0).m a = some none := by
      intro a b hab
      show (match nget ρ a with | some b => c.m b | none => none) = _
      rw [hab]; exact (dom a b hab).1
    have inm0 : ∀ {a}, nget ρ a = none → (c.lendF (lent h args) ρ n0).m a = none := by
      intro a ha
      show (match nget ρ a with | some b => c.m b | none => none) = _
      rw [ha]
    have inown : ∀ r, ¬ (c.lendF (lent h args) ρ n0).own r := by
      rintro r ⟨a, ha⟩
      cases e : nget ρ a with
      | some b => rw [inm e] at ha; cases ha
      | none => rw [inm0 e] at ha; cases ha
    have inmut : ∀ r, (c.lendF (lent h args) ρ n0).mut r → (c.lend (lent h args)).mut r := by
      rintro r (hx | ho)
      · exact .inl hx
      · exact (inown r ho).elim
    have hri : HR (c.lendF (lent h args) ρ n0) w h0 := by
      refine ⟨fun a A ha => ?_, fun a ha => ?_, fun a a' r e1 e2 => (inown r ⟨a, e1⟩).elim, fun a r e1 => (inown r ⟨a, e1⟩).elim, fun r hx => ?_, fun a r e1 => (inown r ⟨a, e1⟩).elim⟩
      · obtain ⟨⟨b, hb⟩, _⟩ := allFix_get hal a A ha
        obtain ⟨_, g, o, e1, e2, e3⟩ := dom a b hb
        rw [ha] at e1; cases e1
        exact ⟨none, inm hb, e2, fun hm => e3 (lend_mut _ _ (inmut g hm))⟩
      · have ha : n0 ≤ a := ha
        cases e : nget ρ a with
        | none => exact inm0 e
        | some b => have := hF.lo a b e; omega
      · rcases hx.1 with hx | ⟨b, hb⟩
        · exact hr.ltX r hx
        · exact hr.lt b r hb
    refine (h2 (c.lendF (lent h args) ρ n0) w xs hri rfl (g1.symm.trans hl) fun i u hu => ?_).mono fun e w' hh => ?_
    · obtain ⟨v, k1, k2, k3⟩ := g2 i u hu
      have hv := (hrel i v k1).lendL hr _ k2 k3
      have hp : ∃ p, u = .p p := by
        unfold lendV at k2
        split at k2
        · exact ⟨_, rfl⟩
        · exact ⟨_, rfl⟩
        · exact k2.elim
      obtain ⟨p, rfl⟩ := hp
      cases hv with
      | p _ _ hp => exact .p _ _ (hp.anti inmut)
    obtain ⟨c0, r, v, h0', n0', rfl, hKr, hr0, hn0', hv, he⟩ := hh
    obtain ⟨f1, f2⟩ := hfl _ _ _ hKr
    have hn0 : n0 ≤ c0.N := he.N
    have old : ∀ r, r < w.heap.size → w'.heap[r]? = w.heap[r]? := fun r hlt => he.same r hlt (inown r)
    have newr : ∀ a r, c0.m a = some (some r) → w.heap.size ≤ r := fun a r h => by
      rcases Nat.lt_or_ge a n0 with h3 | h3
      · rcases he.old a h3 with e | e
        · exact (inown r ⟨a, e ▸ h⟩).elim
        · rw [e] at h; cases h
      · rcases he.new a r h3 h with g | g
        · exact g
        · exact (inown r g).elim
    have hext : Ext c w (c.outer c0 [] n0 n) w' := by
      refine ⟨he.os, he.tape, he.output, he.size, rfl, by show c.N ≤ n + (c0.N - n0); omega, fun b hb => .inl (outer_old hF0 rfl (by omega)), fun b r hb hbm => ?_, fun r hlt _ => old r hlt, fun b r hb hbm => ?_⟩
      · rcases outer_cases (c := c) (c0 := c0) hF0 b with ⟨a, k1, k2⟩ | ⟨k1, k2, k3⟩
        · rw [k2] at hbm; exact .inl (newr a r hbm)
        · omega
      · rw [outer_old hF0 rfl (by omega)] at hbm
        simp only [World.shape?, old r (hr.lt b r hbm)]
    refine ⟨c.outer c0 [] n0 n, _, v, _, _, rfl, hK r h0' n0' hKr, ⟨fun b B hb => ?_, fun b hb => ?_, fun b b' r e1 e2 => ?_, fun b r e1 hx => ?_, fun r hx => ?_, fun b r e1 => ?_⟩, by show n + (c0.N - n0) = _; rw [hn0'], hv.outofL hF0 f1, hext⟩
    · rw [frameH, hget_happ] at hb
      cases e : hget (renH [] n0 n h0') b with
      | some B' =>
        rw [e] at hb; cases hb
        obtain ⟨a, A, k1, k2, rfl⟩ := hget_renH hF0 h0' b _ e
        obtain ⟨m, k3, k4⟩ := hr0.live a A k2
        exact ⟨m, (outer_rn hF0 k1).trans k3, k4.outofL hF0 (flatN_get f2 a A (rn_nil k1) k2)⟩
      | none =>
        rw [e] at hb
        obtain ⟨m, k3, k4⟩ := hr.live b B hb
        exact ⟨m, (outer_old hF0 rfl (by have := live_lt hr.fresh k3; omega)).trans k3, k4.ext hr.fresh hext fun r hmr => old r (hr.lt b r (by rw [k3, hmr]))⟩
    · have hb : n + (c0.N - n0) ≤ b := hb
      rcases outer_cases (c := c) (c0 := c0) hF0 b with ⟨a, k1, k2⟩ | ⟨k1, k2, k3⟩
      · rw [k2]
        refine hr0.fresh a ?_
        rcases Nat.lt_or_ge a c0.N with g | g
        · have := rn_lt hF0 k1 g; omega
        · exact g
      · omega
    · rcases outer_cases (c := c) (c0 := c0) hF0 b with ⟨a, k1, k2⟩ | ⟨k1, k2, k3⟩ <;> rcases outer_cases (c := c) (c0 := c0) hF0 b' with ⟨a', g1, g2⟩ | ⟨g1, g2, g3⟩
      · rw [k2] at e1; rw [g2] at e2
        have := hr0.inj a a' r e1 e2
        subst this
        rw [k1] at g1; cases g1; rfl
      · rw [k2] at e1; rw [g3] at e2
        have := newr a r e1; have := hr.lt b' r e2; omega
      · rw [k3] at e1; rw [g2] at e2
        have := newr a' r e2; have := hr.lt b r e1; omega
      · rw [k3] at e1; rw [g3] at e2
        exact hr.inj b b' r e1 e2
    · have hx : c.X r := hx
      rcases outer_cases (c := c) (c0 := c0) hF0 b with ⟨a, k1, k2⟩ | ⟨k1, k2, k3⟩
      · rw [k2] at e1
        have := newr a r e1; have := hr.ltX r hx; omega
      · rw [k3] at e1
        exact hr.noX b r e1 hx
    · exact Nat.lt_of_lt_of_le (hr.ltX r hx) he.size
    · rcases outer_cases (c := c) (c0 := c0) hF0 b with ⟨a, k1, k2⟩ | ⟨k1, k2, k3⟩
      · rw [k2] at e1; exact hr0.lt a r e1
      · rw [k3] at e1; exact Nat.lt_of_lt_of_le (hr.lt b r e1) he.size

/-! ### Laws whose world has laid blocks; contracts of the other kind -/
def fixL : Nat → List (Nat × (Unit → Obj)) → LH
  | _, [] => []
  | n, (g, o) :: l => (n, .fix g o) :: fixL (n + 1) l
theorem fixL_get : ∀ (l : List (Nat × (Unit → Obj))) (n b : Nat) (B : LB), hget (fixL n l) b = some B → n ≤ b ∧ b < n + l.length ∧ ∃ g o, (g, o) ∈ l ∧ B = .fix g o
  | [], n, b, B, h => by cases h
  | (g, o) :: l, n, b, B, h => by
    rw [fixL, hget_cons] at h
    by_cases e : n = b
    · rw [if_pos e] at h; cases h
      exact ⟨by omega, by simp; omega, g, o, List.mem_cons_self, rfl⟩
    · rw [if_neg e] at h
      obtain ⟨h1, h2, g', o', h3, h4⟩ := fixL_get l (n + 1) b B h
      exact ⟨by omega, by simp; omega, g', o', List.mem_cons_of_mem _ h3, h4⟩
def Ctx.laid (k : Nat) : Ctx := ⟨fun b => if b < k then some none else none, fun _ => False, k⟩
theorem laid_mut (k r : Nat) : ¬ (Ctx.laid k).mut r := by
  rintro (h | ⟨b, hb⟩)
  · exact h
  · have hb : (if b < k then some none else none) = some (some r) := hb
    split at hb <;> cases hb
theorem law_laid {P : Program} {f : Nat} {args : List LV} {b : Bool} (l : List (Nat × (Unit → Obj))) (h : CallF (fun _ => P) f args (fixL 0 l) l.length fun r _ _ => r = .p (.bool b)) {w : World} {xs : Array Value} (hl : ∀ g o, (g, o) ∈ l → w.heap[g]? = some (o ())) (hx : Rel2 (Ctx.laid l.length) w args xs.toList) :
    Calls P f xs w fun e w' => e = .returned (.bool b) ∧ Go.RowKit.Below w.heap.size w w' := by
  cases h with
  | mk h1 h2 =>
    have hno : ∀ b r, (Ctx.laid l.length).m b ≠ some (some r) := fun b r h => laid_mut l.length r (.inr ⟨b, h⟩)
    refine (h2 (Ctx.laid l.length) w xs ⟨fun b B hb => ?_, fun b hb => ?_, fun b b' r e => (hno b r e).elim, fun b r e => (hno b r e).elim, fun r hx => hx.elim, fun b r e => (hno b r e).elim⟩ rfl hx.getD.1 hx.getD.2).mono fun e w' ⟨c', r, v, h', n', g1, g2, g3, g4, g5, g6⟩ => ?_
    · obtain ⟨_, k1, g, o, k2, rfl⟩ := fixL_get l 0 b B hb
      exact ⟨none, if_pos (by omega), hl g o k2, laid_mut _ g⟩
    · exact if_neg (by have hb : l.length ≤ b := hb; omega)
    · subst g2
      rw [g5.inv_bool] at g1
      refine ⟨g1, ⟨g6.os, g6.tape, g6.output, g6.size, fun k hk => g6.same k hk ?_⟩⟩
      exact fun h => laid_mut l.length k (.inr h)
/-- A contract that is told of the model's values, and turns nothing that is there: of plain arguments, beside laid blocks. -/
theorem callF_calls {P : Program} {f : Nat} {args : List LV} {K : LV → Prop} (hc : callable P f) (H : ∀ (c : Ctx) (w : World) (xs : Array Value), HR c w h → c.N = n → args.length = xs.size → (∀ (i : Nat) (u : LV), args[i]? = some u → LR c w u (xs.getD i Go.undef)) →
    Calls P f xs w fun e w' => ∃ v r, e = .returned v ∧ K r ∧ Go.RowKit.Below w.heap.size w w' ∧ ∀ c', LR c' w' r v) : CallF (fun _ => P) f args h n fun r h' n' => K r ∧ h' = h ∧ n' = n := by
  refine .mk hc fun c w xs hr hN hl hrel => (H c w xs hr hN hl hrel).mono fun e w' ⟨v, r, h1, h2, h3, h4⟩ => ?_
  have he : Ext c w c w' := ⟨h3.os, h3.tape, h3.output, h3.size, rfl, Nat.le_refl _, fun _ _ => .inl rfl, fun b r hb e => (by rw [hr.fresh b hb] at e; cases e), fun r hlt _ => h3.block r hlt, fun b r _ e => by simp only [World.shape?, h3.block r (hr.lt b r e)]⟩
  exact ⟨c, r, v, h, n, h1, ⟨h2, rfl, rfl⟩, hr.step he (.inl rfl) hr.fresh (fun _ => .inl rfl) (fun d C hd => .inl ⟨hd, rfl, fun k hk => h3.block k (hr.lt d k hk)⟩), hN, h4 c, he⟩
end
end Go.LX
/-
  A drawn region in which two operations that turn or make blocks may be done in either order: it is enough to show it with each order told.
-/
namespace Go.LX
open Go
set_option linter.unusedVariables false

def addE (ops : Array Oper) (p q : Nat) : Array Oper := ops.modify q fun o => { o with after := o.after.push ⟨p, .data⟩ }

section
variable {P : Program} {Q : Exit → Act → World → Prop} {ops : Array Oper} {K K1 K2 : Act → World → Prop} {a : Act} {w : World} {p q i : Nat}

theorem addE_get (ops : Array Oper) (p q i : Nat) : (addE ops p q)[i]? = (ops[i]?).map fun o => if q = i then { o with after := o.after.push ⟨p, .data⟩ } else o := by
  unfold addE
  rw [Array.getElem?_modify]
  by_cases h : q = i
  · simp [h]
  · simp [h]
theorem addE_size : (addE ops p q).size = ops.size := by unfold addE; exact Array.size_modify
theorem addE_yielded (t : Array Value) : yielded (addE ops p q) t = yielded ops t := by
  funext j
  unfold yielded
  have : ((addE ops p q)[j]?).bind (·.dst) = (ops[j]?).bind (·.dst) := by
    rw [addE_get]
    cases ops[j]? with
    | none => rfl
    | some o => simp only [Option.map_some, Option.bind_some]; split <;> rfl
  rw [this]
theorem wpOp_addE (h : wpOp P (addE ops p q) Q i K a w) : wpOp P ops Q i K a w := by
  unfold wpOp at h ⊢
  rw [addE_get, addE_yielded] at h
  cases ho : ops[i]? with
  | none => rw [ho] at h; exact h
  | some o =>
    rw [ho] at h
    simp only [Option.map_some] at h ⊢
    by_cases e : q = i
    · rw [if_pos e] at h
      exact h
    · rw [if_neg e] at h; exact h

/-- It enters no call. -/
def NoE (P : Program) (s : Sem Next) : Prop := ∀ w, (∀ f args w', s.run P w ≠ .ok (.enter f args) w') ∧ ∀ r args w', s.run P w ≠ .ok (.row r args) w'
theorem NoE.v (s : Sem Value) : NoE P (do pure (Next.value (← s))) := fun w => by
  rw [Sem.run_bind]
  cases s.run P w <;> exact ⟨fun _ _ _ h => (by cases h), fun _ _ _ h => (by cases h)⟩
theorem NoE.u (s : Sem Unit) : NoE P (do s; pure Next.skip) := fun w => by
  rw [Sem.run_bind]
  cases s.run P w <;> exact ⟨fun _ _ _ h => (by cases h), fun _ _ _ h => (by cases h)⟩
theorem NoE.pu (x : Value) : NoE P (pure (Next.value x)) := fun w => ⟨fun _ _ _ h => (by cases h), fun _ _ _ h => (by cases h)⟩
theorem NoE.bind {α : Type} {s : Sem α} {f : α → Sem Next} (h : ∀ x, NoE P (f x)) : NoE P (s >>= f) := fun w => by
  rw [Sem.run_bind]
  cases s.run P w with
  | ok v w' => exact h v w'
  | halt x w' => exact ⟨fun _ _ _ h => (by cases h), fun _ _ _ h => (by cases h)⟩
theorem NoE.halt (x : Halt) : NoE P (Sem.halt x) := fun w => ⟨fun _ _ _ h => (by cases h), fun _ _ _ h => (by cases h)⟩
theorem NoE.deref : NoE P (runtimePanic .nilDeref : Sem Next) := by
  unfold runtimePanic
  exact NoE.bind fun p => NoE.halt _
theorem nilCheck_ne (x : Operand) (dst : Option Nat) (ty : TypeId) (pos : String) (after : Array Edge) (guard : Option (Nat × Bool)) (ρ : Operand → Value) : NoE P (execOp ρ ⟨dst, .nilCheck x, ty, pos, after, guard⟩) := by
  unfold execOp
  dsimp only
  repeat' (first | exact NoE.deref | exact NoE.pu _ | exact NoE.halt _ | split | (refine NoE.bind fun _ => ?_))
def simpleOp (o : Oper) : Bool :=
  match o.op with
  | .move _ => true
  | .assign _ => true
  | .alloc _ => true
  | .box _ _ => true
  | .build _ _ => true
  | .buildSlice _ _ _ => true
  | .load _ _ => true
  | .nilCheck _ => true
  | .store _ _ _ => true
  | .binOp _ _ _ _ _ => true
  | .unOp _ _ _ => true
  | .convert _ _ _ => true
  | .makeInterface _ _ => true
  | .slice _ _ _ _ _ => true
  | .fieldAddr _ _ _ => true
  | .field _ _ _ => true
  | .indexAddr _ _ _ => true
  | .index _ _ _ => true
  | .extract _ _ => true
  | .call c => match c.callee with
    | .builtin b => match b with
      | .append => true
      | _ => false
    | _ => false
  | _ => false
theorem append_ne {c : Call} (hc : c.callee = .builtin .append) (dst : Option Nat) (ty : TypeId) (pos : String) (after : Array Edge) (guard : Option (Nat × Bool)) (ρ : Operand → Value) : NoE P (execOp ρ ⟨dst, .call c, ty, pos, after, guard⟩) := by
  intro w
  have key : ∃ cs, (execOp ρ ⟨dst, .call c, ty, pos, after, guard⟩).run P w = (builtin .append c.argTypes ty cs (c.args.map ρ)).run P w := by
    unfold execOp
    simp [resolve, hc, invoke]
    exact ⟨_, rfl⟩
  obtain ⟨cs, key⟩ := key
  rw [key]
  exact NoE.v _ w
theorem simple_ne {o : Oper} (h : simpleOp o = true) (ρ : Operand → Value) : NoE P (execOp ρ o) := by
  obtain ⟨dst, op, ty, pos, after, guard⟩ := o
  cases op
  case call c =>
    simp only [simpleOp] at h
    split at h
    · rename_i b hc
      split at h
      · exact append_ne hc _ _ _ _ _ _
      · cases h
    · cases h
  case nilCheck x => exact nilCheck_ne x _ _ _ _ _ _
  all_goals simp only [simpleOp, Bool.false_eq_true] at h
  all_goals (unfold execOp; first | exact NoE.pu _ | exact NoE.v _ | exact NoE.u _)
theorem wp_and {o : Oper} (hne : NoE P (execOp a.eval o)) (h1 : o.wp P a w K1 Q) (h2 : o.wp P a w K2 Q) : o.wp P a w (fun a w => K1 a w ∧ K2 a w) Q := by
  unfold Oper.wp at *
  have hn := hne w
  generalize (execOp a.eval o).run P w = r at *
  cases r with
  | ok n w' =>
    cases n <;> simp only [Oper.upon] at h1 h2 ⊢ <;> first | exact ⟨h1, h2⟩ | exact absurd rfl (hn.1 _ _ _) | exact absurd rfl (hn.2 _ _ _) | exact h1
  | halt x w' => cases x <;> simp only [Oper.upon] at h1 ⊢ <;> exact h1
theorem wpOp_and (hne : ∀ o, ops[i]? = some o → simpleOp o = true) (h1 : wpOp P ops Q i K1 a w) (h2 : wpOp P ops Q i K2 a w) : wpOp P ops Q i (fun a w => K1 a w ∧ K2 a w) a w := by
  unfold wpOp at *
  cases ho : ops[i]? with
  | none => rw [ho] at h1 h2; exact ⟨h1, h2⟩
  | some o =>
    rw [ho] at h1 h2
    dsimp only at h1 h2 ⊢
    split
    · rename_i hw
      rw [if_pos hw] at h1 h2
      rcases h1 with h1 | h1
      · rcases h2 with h2 | h2
        · exact .inl (wp_and (simple_ne (hne o ho) _) h1 h2)
        · exact .inr h2
      · exact .inr h1
    · rename_i hw
      rw [if_neg hw] at h1 h2
      exact ⟨h1, h2⟩

theorem ready_sub {listed : Array Bool} (h : i ∈ Region.ready .any (addE ops p q) listed) : i ∈ Region.ready .any ops listed := by
  obtain ⟨h1, o, ho, h2⟩ := mem_ready.1 h
  rw [addE_get] at ho
  cases e : ops[i]? with
  | none => rw [e] at ho; cases ho
  | some o' =>
    rw [e] at ho
    simp only [Option.map_some, Option.some.injEq] at ho
    refine mem_ready.2 ⟨h1, o', e, fun ed hed hb => h2 ed ?_ hb⟩
    rw [← ho]
    split
    · exact Array.mem_push.2 (.inl hed)
    · exact hed
theorem ready_sup {listed : Array Bool} (h : i ∈ Region.ready .any ops listed) (hp : i = q → listed.getD p false = true) : i ∈ Region.ready .any (addE ops p q) listed := by
  obtain ⟨h1, o, ho, h2⟩ := mem_ready.1 h
  refine mem_ready.2 ⟨h1, _, by rw [addE_get, ho]; rfl, fun ed hed hb => ?_⟩
  split at hed
  · rename_i hq
    rcases Array.mem_push.1 hed with hed | hed
    · exact h2 ed hed hb
    · rw [hed]; exact hp hq.symm
  · exact h2 ed hed hb
theorem getD_keep {listed : Array Bool} (h : listed.getD p false = true) : (listed.setIfInBounds i true).getD p false = true := by
  rw [Array.getD_eq_getD_getElem?, Array.getElem?_setIfInBounds]
  rw [Array.getD_eq_getD_getElem?] at h
  split
  · rename_i e
    split
    · rfl
    · rename_i hlt
      subst e
      rw [Array.getElem?_eq_none (by omega)] at h; cases h
  · exact h
/-- Once p is done, the edge from it says nothing. -/
theorem any_done : ∀ (fuel : Nat) (listed : Array Bool) (a : Act) (w : World), listed.getD p false = true → wpAny P .any (addE ops p q) Q fuel listed a w → wpAny P .any ops Q fuel listed a w := by
  intro fuel
  induction fuel with
  | zero =>
    intro listed a w hp h
    refine ⟨List.eq_nil_iff_forall_not_mem.2 fun j hj => ?_, h.2⟩
    have := ready_sup (p := p) (q := q) hj (fun _ => hp)
    rw [h.1] at this; cases this
  | succ fuel ih =>
    intro listed a w hp h
    refine ⟨fun hr => h.1 (List.eq_nil_iff_forall_not_mem.2 fun j hj => ?_), fun i hi => ?_⟩
    · have := ready_sub hj
      rw [hr] at this; cases this
    · exact wpOp_mono (fun a w h => ih _ a w (getD_keep hp) h) (wpOp_addE (h.2 i (ready_sup hi fun _ => hp)))
def splitOK (ops : Array Oper) (p q : Nat) : Bool :=
  p != q && Nat.blt p ops.size && Nat.blt q ops.size && (List.range ops.size).all fun i => i == p || i == q || simpleOp (opAt ops i) || reach ops ops.size p i || reach ops ops.size q i
theorem any_split (hs : splitOK ops p q = true) : ∀ (fuel : Nat) (listed : Array Bool) (a : Act) (w : World), listed.size = ops.size → Closed ops listed → listed.getD p true = false → listed.getD q true = false →
    wpAny P .any (addE ops p q) Q fuel listed a w → wpAny P .any (addE ops q p) Q fuel listed a w → wpAny P .any ops Q fuel listed a w := by
  simp only [splitOK, Bool.and_eq_true, bne_iff_ne, ne_eq, List.all_eq_true, List.mem_range, Bool.or_eq_true, beq_iff_eq] at hs
  obtain ⟨⟨⟨hpq, hp⟩, hq⟩, hall⟩ := hs
  have hp : p < ops.size := Nat.le_of_ble_eq_true hp
  have hq : q < ops.size := Nat.le_of_ble_eq_true hq
  intro fuel
  induction fuel with
  | zero =>
    intro listed a w hsz hcl hlp hlq h1 h2
    refine ⟨List.eq_nil_iff_forall_not_mem.2 fun j hj => ?_, h1.2⟩
    by_cases e : j = q
    · have := ready_sup (p := q) (q := p) hj (fun e2 => absurd (e2.symm.trans e) hpq)
      rw [h2.1] at this; cases this
    · have := ready_sup (p := p) (q := q) hj (fun e2 => absurd e2 e)
      rw [h1.1] at this; cases this
  | succ fuel ih =>
    intro listed a w hsz hcl hlp hlq h1 h2
    refine ⟨fun hr => h1.1 (List.eq_nil_iff_forall_not_mem.2 fun j hj => ?_), fun i hi => ?_⟩
    · have := ready_sub hj
      rw [hr] at this; cases this
    · obtain ⟨hun, o, ho, haft⟩ := mem_ready.1 hi
      have hlt : i < ops.size := (Array.getElem?_eq_some_iff.1 ho).1
      have hset : ∀ {k : Nat}, k < ops.size → (listed.setIfInBounds k true).getD k false = true := by
        intro k hk
        rw [Array.getD_eq_getD_getElem?, Array.getElem?_setIfInBounds_self_of_lt (by omega)]; rfl
      by_cases e1 : i = p
      · subst e1
        exact wpOp_mono (fun a w h => any_done _ _ a w (hset hp) h) (wpOp_addE (h1.2 i (ready_sup hi fun e => absurd e hpq)))
      · by_cases e2 : i = q
        · subst e2
          exact wpOp_mono (fun a w h => any_done _ _ a w (hset hq) h) (wpOp_addE (h2.2 i (ready_sup hi fun e => absurd e e1)))
        · have hsim : simpleOp o = true := by
            have hat : opAt ops i = o := by simp [opAt, ho]
            rcases hall i hlt with (((h | h) | h) | h) | h
            · exact absurd h e1
            · exact absurd h e2
            · rw [hat] at h; exact h
            · have := reach_listed hcl _ i o ho h haft
              rw [getD_tf (by rw [hsz]; exact hp) true false, this] at hlp; cases hlp
            · have := reach_listed hcl _ i o ho h haft
              rw [getD_tf (by rw [hsz]; exact hq) true false, this] at hlq; cases hlq
          have hcl' : Closed ops (listed.setIfInBounds i true) := by
            intro j oj hoj hj e hee hb
            by_cases hji : i = j
            · subst hji
              rw [ho] at hoj; cases hoj
              exact getD_set_true (haft e hee hb)
            · rw [getD_set_ne _ hji] at hj
              exact getD_set_true (hcl j oj hoj hj e hee hb)
          refine wpOp_mono (fun a w h => ?_) (wpOp_and (fun o' ho' => by rw [ho] at ho'; cases ho'; exact hsim) (wpOp_addE (h1.2 i (ready_sup hi fun e => absurd e e2))) (wpOp_addE (h2.2 i (ready_sup hi fun e => absurd e e1))))
          exact ih _ a w (by simp [hsz]) hcl' (by rw [getD_set_ne _ e1]; exact hlp) (by rw [getD_set_ne _ e2]; exact hlq) h.1 h.2
end
end Go.LX
namespace Go.LX
open Go
section
variable {P : Program} {T : TT} {K : LS → Prop}
/-- A region, whatever order its operations are done in. -/
def DrawAny (P : Program) (ops : Array Oper) (s : LS) (K : LS → Prop) : Prop :=
  ∀ c a w Q, St c s a w → (∀ a' w', Post K c w a' w' → Q Exit.normal a' w') → wpAny P .any ops Q ops.size (Array.replicate ops.size false) a w
theorem rep_get (n i : Nat) : (Array.replicate n false).getD i false = false := by
  rw [Array.getD_eq_getD_getElem?, Array.getElem?_replicate]
  split <;> rfl
theorem rep_get' {n i : Nat} (h : i < n) : (Array.replicate n false).getD i true = false := by
  rw [Array.getD_eq_getD_getElem?, Array.getElem?_replicate, if_pos h]; rfl
theorem drawF_of_any (hm : P.follows .mixedOrders = true) {ops : Unit → Array Oper} {s : LS} (h : DrawAny P (ops ()) s K) : DrawF (fun _ => P) ops s K := by
  refine .mk fun c a w t Q hs hQ => ?_
  simp only [Region.schedule, hm, Bool.true_or, if_true]
  exact wpAny_sound (ops ()).size t _ a w (h c a w Q hs fun a' w' hp => hQ a' w' (let ⟨c', s', hK, hs', he⟩ := hp; ⟨c', s', hK, hs', he⟩))
theorem any_of_drawn (hT : TOK P T) (F : List (Nat × List Nat)) (order : List Nat) {ops : Array Oper} {s : LS} (hd : drawnOK ops F order = true) (h : lopsG (fun _ => P) (fun _ => T) ops F order s K) : DrawAny P ops s K := by
  intro c a w Q hs hQ
  have hd' := hd
  simp only [drawnOK, Bool.and_eq_true] at hd'
  obtain ⟨hpw, _, hed⟩ := orderOK_spec hd'.1
  have hlt : ∀ j ∈ order, j < ops.size := fun j hj => by
    obtain ⟨l1, l2, e⟩ := List.append_of_mem hj
    obtain ⟨o, ho, _⟩ := hed l1 j l2 e
    exact (Array.getElem?_eq_some_iff.1 ho).1
  have hun : unlO order (Array.replicate ops.size false) = order := by
    unfold unlO
    rw [List.filter_eq_self]
    intro j hj
    rw [rep_get' (hlt j hj)]; rfl
  have hnd : order.Nodup := hpw.imp fun h => h.1
  have hlen : order.length = ops.size := by
    have h1 : order.Perm (List.range ops.size) := by
      rw [List.perm_ext_iff_of_nodup hnd List.nodup_range]
      intro j
      rw [List.mem_range]
      exact ⟨hlt j, fun hj => by have := List.all_eq_true.1 hd'.2 j (List.mem_range.2 hj); simpa using this⟩
    simpa using h1.length_eq
  refine anyO_sound (K := K) hT hd (c0 := c) (w0 := w) (fun a' w' hp => hQ a' w' hp) ops.size _ (by simp) ?_ (by rw [hun]; exact hlen) (Ext.refl hs.hr) hs ?_
  · intro q o _ hq
    rw [rep_get] at hq; cases hq
  · rw [hun]; exact h
theorem drawAny_split (p q : Nat) {ops : Array Oper} {s : LS} (hs : splitOK ops p q = true) (h1 : DrawAny P (addE ops p q) s K) (h2 : DrawAny P (addE ops q p) s K) : DrawAny P ops s K := by
  intro c a w Q hst hQ
  have hb : p < ops.size ∧ q < ops.size := by
    simp only [splitOK, Bool.and_eq_true] at hs
    exact ⟨Nat.le_of_ble_eq_true hs.1.1.2, Nat.le_of_ble_eq_true hs.1.2⟩
  have e1 := h1 c a w Q hst hQ
  have e2 := h2 c a w Q hst hQ
  rw [addE_size] at e1 e2
  refine any_split hs ops.size _ a w (by simp) (fun k o _ hk => ?_) (rep_get' hb.1) (rep_get' hb.2) e1 e2
  rw [rep_get] at hk; cases hk
/-- A region in which p and q may be done in either order: each order told. -/
theorem split_sound (hT : TOK P T) (hm : P.follows .mixedOrders = true) (p q : Nat) (F1 : List (Nat × List Nat)) (o1 : List Nat) (F2 : List (Nat × List Nat)) (o2 : List Nat) {ops : Unit → Array Oper} {s : LS} (hs : splitOK (ops ()) p q = true)
    (hd1 : drawnOK (addE (ops ()) p q) F1 o1 = true) (hd2 : drawnOK (addE (ops ()) q p) F2 o2 = true)
    (h1 : lopsG (fun _ => P) (fun _ => T) (addE (ops ()) p q) F1 o1 s K) (h2 : lopsG (fun _ => P) (fun _ => T) (addE (ops ()) q p) F2 o2 s K) : DrawF (fun _ => P) ops s K :=
  drawF_of_any hm (drawAny_split p q hs (any_of_drawn hT F1 o1 hd1 h1) (any_of_drawn hT F2 o2 hd2 h2))
end
end Go.LX
/-
  Drawn regions with calls that turn nothing and answer one value: these may be done at any time, as operations that only look.
-/
namespace Go.LX
open Go
set_option linter.unusedVariables false

/-- A call that turns nothing, with one answer, wherever it is done. -/
inductive QuietF (P : Unit → Program) (f : Nat) (args : List LV) (K : LV → Prop) : Prop
  | mk (u : LV) (hq : ∀ h n, CallF P f args h n fun r h' n' => r = u ∧ h' = h ∧ n' = n) (hk : K u)
section
variable {P : Unit → Program} {T : Unit → TT} {o : Oper} {s : LS}
def quietL (P : Unit → Program) (o : Oper) (s : LS) (L : LS → Prop) : Prop :=
  match o.guard, o.op with
  | none, .call c => match c.callee with
    | .value (.func f) => QuietF P f (eva s c.args.toList) fun u => L (s.put o.dst u)
    | _ => False
  | _, _ => False
def cA (ops : Array Oper) (qs : List Nat) (p : Nat) : Bool := isA (opAt ops p) || qs.contains p
/-- One that only looks. -/
def headQ (P : Unit → Program) (T : Unit → TT) (ops : Array Oper) (i : Nat) (s : LS) (L : LS → Prop) : Prop :=
  match isA (opAt ops i) with
  | true => stepL P T ops.toList (opAt ops i) s L
  | false => quietL P (opAt ops i) s L
theorem head_x {ops : Array Oper} {i : Nat} {L : LS → Prop} (h : headQ P T ops i s L) : ∃ u, L (s.put (opAt ops i).dst u) ∧ (∀ s', AgreeS ops (opAt ops i) s s' → ∀ L' : LS → Prop, L' (s'.put (opAt ops i).dst u) → headQ P T ops i s' L') ∧ GivesS P T ops (opAt ops i) s u := by
  unfold headQ at h
  split at h
  · rename_i hA
    obtain ⟨u, h1, h2⟩ := step_x hA h
    refine ⟨u, h1, fun s' ha L' hL => ?_, h2⟩
    unfold headQ
    rw [hA]
    exact h2 s' ha L' hL
  · rename_i hA
    generalize hoo : opAt ops i = o at *
    unfold quietL at h
    split at h
    · rename_i c hg ho
      split at h
      · rename_i f hc
        cases h with
        | mk u hq hk =>
          have hev : ∀ s', AgreeS ops o s s' → eva s' c.args.toList = eva s c.args.toList := fun s' ha => eva_agree _ fun x hx => (agree_of ha).2 x (by
            have hx : x ∈ c.args := by simpa using hx
            rw [ho]
            simp [Op.operands, Call.operands, hc, hx])
          refine ⟨u, hk, fun s' ha L' hL => ?_, fun s' ha L' hL => ?_⟩
          · unfold headQ
            rw [hoo, hA]
            dsimp only
            unfold quietL
            rw [hg, ho]
            dsimp only
            rw [hc]
            dsimp only
            rw [hev s' ha]
            exact .mk u hq hL
          · unfold stepL
            rw [hg]
            dsimp only [yes]
            unfold lop
            rw [ho]
            dsimp only
            rw [hc]
            dsimp only [ev]
            rw [hev s' ha]
            refine (hq s'.h s'.n).mono fun r h' n' ⟨e1, e2, e3⟩ => ?_
            subst e1 e2 e3
            exact hL
      · exact h.elim
    · exact h.elim
/-- A region in one order. -/
def lopsQ (P : Unit → Program) (T : Unit → TT) (ops : Array Oper) (qs : List Nat) (F : List (Nat × List Nat)) : List Nat → LS → (LS → Prop) → Prop
  | [], s, K => K s
  | i :: l, s, K => match cA ops qs i with
    | true => headQ P T ops i s fun s1 => lopsQ P T ops qs F l s1 K
    | false => stepL P T ops.toList (opAt ops i) s fun s1 => keptB ops (look F i) s s1 ∧ lopsQ P T ops qs F l s1 K
/-- May they stand in this order, whatever order they are done in? -/
def pairQ (ops : Array Oper) (qs : List Nat) (F : List (Nat × List Nat)) (p q : Nat) : Bool :=
  p != q && (reach ops ops.size p q || (cA ops qs p && (opAt ops p).apart ops (opAt ops q) && (cA ops qs q || (look F q).contains p))) && (!(F.any fun e => e.2.contains p && e.2.contains q) || match (opAt ops q).dst with
    | some d => !cA ops qs p || !cA ops qs q || !((opAt ops p).looksAt ops).contains d
    | none => true)
def PairQ (ops : Array Oper) (qs : List Nat) (F : List (Nat × List Nat)) (p q : Nat) : Prop := p ≠ q ∧ (reach ops ops.size p q = true ∨ (cA ops qs p = true ∧ (opAt ops p).apart ops (opAt ops q) = true ∧ (cA ops qs q = true ∨ p ∈ look F q))) ∧ (∀ i, p ∈ look F i → q ∈ look F i → cA ops qs p = true → cA ops qs q = true → ∀ d, (opAt ops q).dst = some d → d ∉ (opAt ops p).looksAt ops)
theorem pairQ_spec {ops : Array Oper} {qs : List Nat} {F : List (Nat × List Nat)} {p q : Nat} (h : pairQ ops qs F p q = true) : PairQ ops qs F p q := by
  simp only [pairQ, Bool.and_eq_true, Bool.or_eq_true, bne_iff_ne, ne_eq] at h
  obtain ⟨⟨h1, h2⟩, h3⟩ := h
  refine ⟨h1, h2.imp id (fun h => ⟨h.1.1, h.1.2, h.2.imp id (fun h => by simpa using h)⟩), fun i hpi hqi hp hq d hd => ?_⟩
  rw [look_any hpi hqi, hd, hp, hq] at h3
  simpa using h3
theorem frontQ {ops : Array Oper} {qs : List Nat} {F : List (Nat × List Nat)} {i : Nat} {l2 : List Nat} {K : LS → Prop} (hki : known ops i) :
    ∀ (l1 gh : List Nat) {s : LS}, (∀ p ∈ l1, known ops p ∧ (∀ d, (opAt ops p).dst = some d → d ∉ (opAt ops p).looksAt ops)) → (∀ p ∈ l1, PairQ ops qs F p i ∧ reach ops ops.size p i = false) → l1.Pairwise (PairQ ops qs F) → (∀ p ∈ gh, p ∈ look F i ∧ cA ops qs p = true ∧ ∀ q ∈ l1, PairQ ops qs F p q) →
      lopsQ P T ops qs F (l1 ++ i :: l2) s K → (cA ops qs i = true → headQ P T ops i s fun s1 => lopsQ P T ops qs F (l1 ++ l2) s1 K) ∧ (cA ops qs i = false → stepL P T ops.toList (opAt ops i) s fun s1 => (∀ p ∈ gh, keptL (rds (opAt ops p) s) s s1) ∧ lopsQ P T ops qs F (l1 ++ l2) s1 K)
  | [], gh, s, _, _, _, hgh, h => by
    rw [List.nil_append, lopsQ] at h
    split at h
    · rename_i hA
      exact ⟨fun _ => h, fun e => (by rw [hA] at e; cases e)⟩
    · rename_i hA
      exact ⟨fun e => (by rw [hA] at e; cases e), fun _ => stepL_m hki h fun s1 h1 => ⟨fun p hp => keptB_get h1.1 p (hgh p hp).1, h1.2⟩⟩
  | p :: l1, gh, s, hk, hi, hpw, hdn, h => by
    obtain ⟨hkp, hself⟩ := hk p List.mem_cons_self
    obtain ⟨⟨hpi1, hpi2, hpi3⟩, hnr⟩ := hi p List.mem_cons_self
    rw [List.pairwise_cons] at hpw
    obtain ⟨hA, hap, hfl⟩ : cA ops qs p = true ∧ (opAt ops p).apart ops (opAt ops i) = true ∧ (cA ops qs i = true ∨ p ∈ look F i) := by
      rcases hpi2 with e | e
      · rw [hnr] at e; cases e
      · exact e
    obtain ⟨a1, a2, a3⟩ := Oper.apart_spec hap
    rw [List.cons_append, lopsQ] at h
    rw [hA] at h
    dsimp only at h
    obtain ⟨u, h1, hg, _⟩ := head_x h
    have next : ∀ {s1 : LS}, AgreeS ops (opAt ops p) s s1 → lopsQ P T ops qs F (l1 ++ l2) (s1.put (opAt ops p).dst u) K → lopsQ P T ops qs F (p :: l1 ++ l2) s1 K := by
      intro s1 hag h2
      rw [List.cons_append, lopsQ, hA]
      exact hg s1 hag _ h2
    have hkl : ∀ q ∈ l1, known ops q ∧ (∀ d, (opAt ops q).dst = some d → d ∉ (opAt ops q).looksAt ops) := fun q hq => hk q (List.mem_cons_of_mem _ hq)
    have hil : ∀ q ∈ l1, PairQ ops qs F q i ∧ reach ops ops.size q i = false := fun q hq => hi q (List.mem_cons_of_mem _ hq)
    refine ⟨fun hAi => ?_, fun hnA => ?_⟩
    · have ih := (frontQ hki l1 [] hkl hil hpw.2 (fun q hq => (by cases hq)) h1).1 hAi
      obtain ⟨v, h4, h5, _⟩ := head_x ih
      refine h5 s ⟨fun _ _ => by rw [put_h], fun t ht => (tget_put _ _ _ (fun e => a1 t e ht)).symm⟩ _ ?_
      refine next ⟨fun _ _ => by rw [put_h], fun t ht => tget_put _ _ _ (fun e => a3 t e ht)⟩ ?_
      rw [← put_comm _ _ _ _ a2]
      exact h4
    · have hX : isX (opAt ops i) = true := hki.resolve_right (fun e => by unfold cA at hnA; rw [e] at hnA; cases hnA)
      have hpf : p ∈ look F i := hfl.resolve_left (fun e => by rw [hnA] at e; cases e)
      have ih := (frontQ hki l1 (p :: gh) hkl hil hpw.2 (fun q hq => by
        rcases List.mem_cons.1 hq with rfl | hq
        · exact ⟨hpf, hA, hpw.1⟩
        · exact ⟨(hdn q hq).1, (hdn q hq).2.1, fun r hr => (hdn q hq).2.2 r (List.mem_cons_of_mem _ hr)⟩) h1).2 hnA
      have h3 := step_slot hX a1 a2 ih
      refine stepL_m (.inl hX) h3 fun s1 ⟨h4, h5, h6⟩ => ?_
      have hkp2 := h5 p List.mem_cons_self
      rw [rds_put hself] at hkp2
      refine ⟨fun q hq => ?_, next ⟨fun b hb => ?_, fun t ht => h4 t fun e => a3 t e ht⟩ h6⟩
      · have e := h5 q (List.mem_cons_of_mem _ hq)
        rw [rds_put (((hdn q hq).2.2 p List.mem_cons_self).2.2 i (hdn q hq).1 hpf (hdn q hq).2.1 hA)] at e
        refine keptL_mk fun b hb => ?_
        have := keptL_get e b hb
        rwa [put_h, put_h] at this
      · have := keptL_get hkp2 b hb
        rwa [put_h, put_h] at this
end

def orderQ (ops : Array Oper) (qs : List Nat) (F : List (Nat × List Nat)) : List Nat → List Nat → Bool
  | _, [] => true
  | pre, q :: l => edgesOK ops pre q && selfOK ops q && l.all (fun r => pairQ ops qs F q r) && orderQ ops qs F (q :: pre) l
def drawnQ (ops : Array Oper) (qs : List Nat) (F : List (Nat × List Nat)) (order : List Nat) : Bool := orderQ ops qs F [] order && (List.range ops.size).all (fun j => order.contains j)
section
variable {P : Program} {T : TT} {K : LS → Prop}
theorem orderQ_spec {ops : Array Oper} {qs : List Nat} {F : List (Nat × List Nat)} : ∀ {l pre : List Nat}, orderQ ops qs F pre l = true → l.Pairwise (PairQ ops qs F) ∧ (∀ q ∈ l, known ops q ∧ (∀ d, (opAt ops q).dst = some d → d ∉ (opAt ops q).looksAt ops)) ∧
    ∀ l1 q l2, l = l1 ++ q :: l2 → ∃ o, ops[q]? = some o ∧ ∀ e ∈ o.after, Region.binds .any e = true → e.on ∈ pre ∨ e.on ∈ l1
  | [], pre, _ => ⟨.nil, fun q hq => (by cases hq), fun l1 q l2 h => (by cases l1 <;> cases h)⟩
  | r :: l, pre, h => by
    simp only [orderQ, Bool.and_eq_true] at h
    obtain ⟨⟨⟨h1, h2⟩, h3⟩, h4⟩ := h
    obtain ⟨k1, k2, k3⟩ := orderQ_spec h4
    refine ⟨List.pairwise_cons.2 ⟨fun q hq => pairQ_spec (List.all_eq_true.1 h3 q hq), k1⟩, fun q hq => ?_, fun l1 q l2 e => ?_⟩
    · rcases List.mem_cons.1 hq with rfl | hq
      · exact selfOK_spec h2
      · exact k2 q hq
    · cases l1 with
      | nil =>
        cases e
        unfold edgesOK at h1
        split at h1
        · rename_i o ho
          refine ⟨o, ho, fun e he hb => .inl ?_⟩
          have := Array.all_eq_true_iff_forall_mem.1 h1 e he
          simpa [hb] using this
        · cases h1
      | cons x l1 =>
        cases e
        obtain ⟨o, ho, h5⟩ := k3 l1 q l2 rfl
        refine ⟨o, ho, fun e he hb => ?_⟩
        rcases h5 e he hb with h | h
        · rcases List.mem_cons.1 h with h | h
          · exact .inr (by rw [h]; exact List.mem_cons_self)
          · exact .inl h
        · exact .inr (List.mem_cons_of_mem _ h)

theorem anyQ_sound (hT : TOK P T) {ops : Array Oper} {qs : List Nat} {F : List (Nat × List Nat)} {order : List Nat} (hd : drawnQ ops qs F order = true) {c0 : Ctx} {w0 : World} {Q : Exit → Act → World → Prop} (hQ : ∀ a' w', Post K c0 w0 a' w' → Q .normal a' w') :
    ∀ (fuel : Nat) (listed : Array Bool) {s : LS} {c : Ctx} {a : Act} {w : World}, listed.size = ops.size → Closed ops listed → (unlO order listed).length = fuel → Ext c0 w0 c w → St c s a w →
    lopsQ (fun _ => P) (fun _ => T) ops qs F (unlO order listed) s K → wpAny P .any ops Q fuel listed a w := by
  simp only [drawnQ, Bool.and_eq_true, List.all_eq_true, List.mem_range] at hd
  obtain ⟨hpw, hkn, hed⟩ := orderQ_spec hd.1
  have hall : ∀ j, j < ops.size → j ∈ order := fun j hj => by simpa using hd.2 j hj
  have mem_unl : ∀ {listed : Array Bool} {j : Nat}, j ∈ unlO order listed ↔ j ∈ order ∧ listed.getD j true = false := by
    intro listed j
    simp [unlO, List.mem_filter]
  have at_ : ∀ {j o}, ops[j]? = some o → opAt ops j = o := by
    intro j o ho
    simp [opAt, ho]
  have hlt_ : ∀ {listed : Array Bool} {j : Nat}, listed.size = ops.size → listed.getD j true = false → j < ops.size := by
    intro listed j hsz h
    rcases Nat.lt_or_ge j ops.size with h1 | h1
    · exact h1
    · rw [Array.getD_eq_getD_getElem?, Array.getElem?_eq_none (by omega)] at h; cases h
  intro fuel
  induction fuel with
  | zero =>
    intro listed s c a w hsz hcl hlen he hs h
    have h0 : unlO order listed = [] := List.eq_nil_of_length_eq_zero hlen
    refine ⟨List.eq_nil_iff_forall_not_mem.2 fun j hj => ?_, ?_⟩
    · obtain ⟨h1, o, h2, _⟩ := mem_ready.1 hj
      have : j ∈ unlO order listed := mem_unl.2 ⟨hall j (Array.getElem?_eq_some_iff.1 h2).1, h1⟩
      rw [h0] at this; cases this
    · rw [h0] at h
      exact hQ _ _ ⟨c, s, h, hs, he⟩
  | succ fuel ih =>
    intro listed s c a w hsz hcl hlen he hs h
    refine ⟨fun hr => ?_, fun i hi => ?_⟩
    · exfalso
      cases hu : unlO order listed with
      | nil => rw [hu] at hlen; cases hlen
      | cons i0 rest =>
        obtain ⟨l1, l2, e1, e2, e3, e4⟩ := List.filter_eq_cons_iff.1 hu
        have hun : listed.getD i0 true = false := by simpa using e3
        obtain ⟨o, ho, h5⟩ := hed l1 i0 l2 e1
        have : i0 ∈ Region.ready .any ops listed := by
          refine mem_ready.2 ⟨hun, o, ho, fun e hee hb => ?_⟩
          rcases h5 e hee hb with h6 | h6
          · cases h6
          · have h7 := e2 _ h6
            have h8 : listed.getD e.on true = true := by simpa using h7
            -- an operation of the order is one of the region
            rcases Nat.lt_or_ge e.on listed.size with h9 | h9
            · rw [getD_tf h9 false true]; exact h8
            · exfalso
              obtain ⟨m1, m2, hm⟩ := List.append_of_mem h6
              obtain ⟨o2, ho2, _⟩ := hed m1 e.on (m2 ++ i0 :: l2) (by rw [e1, hm]; simp)
              have := (Array.getElem?_eq_some_iff.1 ho2).1
              omega
        rw [hr] at this; cases this
    · obtain ⟨hun, o, ho, haft⟩ := mem_ready.1 hi
      have hlt : i < ops.size := (Array.getElem?_eq_some_iff.1 ho).1
      have hiu : i ∈ unlO order listed := mem_unl.2 ⟨hall i hlt, hun⟩
      obtain ⟨l1, l2, hl⟩ := List.append_of_mem hiu
      have hpu : (unlO order listed).Pairwise (PairQ ops qs F) := hpw.filter _
      have hku : ∀ q ∈ unlO order listed, known ops q ∧ (∀ d, (opAt ops q).dst = some d → d ∉ (opAt ops q).looksAt ops) := fun q hq => hkn q (mem_unl.1 hq).1
      rw [hl] at hpu hku h
      rw [List.pairwise_append] at hpu
      obtain ⟨hp1, hp2, hp3⟩ := hpu
      rw [List.pairwise_cons] at hp2
      have hrest : unlO order (listed.setIfInBounds i true) = l1 ++ l2 := by
        have e1 : unlO order (listed.setIfInBounds i true) = (unlO order listed).filter (· != i) := by
          unfold unlO
          rw [List.filter_filter]
          refine List.filter_congr fun j hj => ?_
          by_cases e : i = j
          · subst e
            rw [Array.getD_eq_getD_getElem?, Array.getElem?_setIfInBounds_self_of_lt (by omega)]
            simp
          · rw [getD_set_ne _ e]
            have : (j != i) = true := by simp; omega
            rw [this]; simp
        rw [e1, hl, List.filter_append, List.filter_cons_of_neg (by simp)]
        congr 1
        · rw [List.filter_eq_self]
          intro p hp
          have := (hp3 p hp i List.mem_cons_self).1
          simpa using this
        · rw [List.filter_eq_self]
          intro p hp
          have := (hp2.1 p hp).1
          have : p ≠ i := fun e => this e.symm
          simpa using this
      have hf := frontQ (ops := ops) (F := F) (i := i) (l2 := l2) (hku i (by simp)).1 l1 [] (fun p hp => hku p (by simp [hp])) (fun p hp => ⟨hp3 p hp i List.mem_cons_self, by
        cases e : reach ops ops.size p i with
        | false => rfl
        | true =>
          exfalso
          have h1 := reach_listed hcl _ i o ho e haft
          have hpm : p ∈ unlO order listed := by rw [hl]; simp [hp]
          have h2 := (mem_unl.1 hpm).2
          rw [getD_tf (by rw [hsz]; exact hlt_ hsz h2) true false, h1] at h2; cases h2⟩) hp1 (fun p hp => (by cases hp)) h
      rw [← hrest] at hf
      have hsz' : (listed.setIfInBounds i true).size = ops.size := by simp [hsz]
      have hcl' : Closed ops (listed.setIfInBounds i true) := by
        intro q oq hoq hq e hee hb
        by_cases hqi : i = q
        · subst hqi
          rw [ho] at hoq; cases hoq
          exact getD_set_true (haft e hee hb)
        · rw [getD_set_ne _ hqi] at hq
          exact getD_set_true (hcl q oq hoq hq e hee hb)
      have hlen' : (unlO order (listed.setIfInBounds i true)).length = fuel := by
        rw [hrest]
        rw [hl] at hlen
        simp at hlen ⊢; omega
      have hgo : ∀ (R : LS → Prop), stepL (fun _ => P) (fun _ => T) ops.toList o s R → (∀ s1, R s1 → lopsQ (fun _ => P) (fun _ => T) ops qs F (unlO order (listed.setIfInBounds i true)) s1 K) → wpOp P ops Q i (fun a' w' => wpAny P .any ops Q fuel (listed.setIfInBounds i true) a' w') a w := by
        intro R hf hR
        unfold wpOp
        rw [ho]
        dsimp only
        unfold stepL at hf
        split at hf
        · rename_i cb hy
          have hw := yes_sound hs hy
          cases cb with
          | true =>
            rw [if_pos hw]
            left
            refine Oper.wp_mono (fun a' w' hp => ?_) (lop_sound (Q := Q) hT hs hf)
            obtain ⟨c', s', hK, hs', he'⟩ := hp
            exact ih _ hsz' hcl' hlen' (he.trans he') hs' (hR _ hK)
          | false =>
            rw [if_neg (by rw [hw]; simp)]
            exact ih _ hsz' hcl' hlen' he (hs.put .nul _) (hR _ hf)
        · exact hf.elim
      cases hcA : cA ops qs i with
      | true =>
        obtain ⟨u, h1, _, h3⟩ := head_x (hf.1 hcA)
        rw [at_ ho] at h1 h3
        refine hgo _ (h3 s ⟨fun _ _ => rfl, fun _ _ => rfl⟩ (fun s1 => s1 = s.put o.dst u) rfl) fun s1 e => ?_
        rw [e]; exact h1
      | false =>
        have h3 := hf.2 hcA
        rw [at_ ho] at h3
        exact hgo _ h3 fun s1 h => h.2

/-- A drawn region: in the order that is told. -/
theorem quiet_sound (hT : TOK P T) (hm : P.follows .mixedOrders = true) (qs : List Nat) (F : List (Nat × List Nat)) (order : List Nat) {ops : Unit → Array Oper} {s : LS} (hd : drawnQ (ops ()) qs F order = true) (h : lopsQ (fun _ => P) (fun _ => T) (ops ()) qs F order s K) : DrawF (fun _ => P) ops s K := by
  refine .mk fun c a w t Q hs hQ => ?_
  generalize ops () = ops at *
  simp only [Region.schedule, hm, Bool.true_or, if_true]
  have hget : ∀ i, (Array.replicate ops.size false).getD i false = false := by
    intro i
    rw [Array.getD_eq_getD_getElem?, Array.getElem?_replicate]
    split <;> rfl
  have hd' := hd
  simp only [drawnQ, Bool.and_eq_true] at hd'
  obtain ⟨hpw, _, hed⟩ := orderQ_spec hd'.1
  have hlt : ∀ j ∈ order, j < ops.size := fun j hj => by
    obtain ⟨l1, l2, e⟩ := List.append_of_mem hj
    obtain ⟨o, ho, _⟩ := hed l1 j l2 e
    exact (Array.getElem?_eq_some_iff.1 ho).1
  have hun : unlO order (Array.replicate ops.size false) = order := by
    unfold unlO
    rw [List.filter_eq_self]
    intro j hj
    have := hlt j hj
    rw [Array.getD_eq_getD_getElem?, Array.getElem?_replicate, if_pos this]; rfl
  have hnd : order.Nodup := hpw.imp fun h => h.1
  have hlen : order.length = ops.size := by
    have h1 : order.Perm (List.range ops.size) := by
      rw [List.perm_ext_iff_of_nodup hnd List.nodup_range]
      intro j
      rw [List.mem_range]
      exact ⟨hlt j, fun hj => by have := List.all_eq_true.1 hd'.2 j (List.mem_range.2 hj); simpa using this⟩
    simpa using h1.length_eq
  refine wpAny_sound ops.size t _ a w (anyQ_sound (K := K) hT hd (c0 := c) (w0 := w) (fun a' w' hp => hQ a' w' ?_) ops.size _ (by simp) ?_ (by rw [hun]; exact hlen) (Ext.refl hs.hr) hs ?_)
  · obtain ⟨c', s', hK, hs', he⟩ := hp
    exact ⟨c', s', hK, hs', he⟩
  · intro q o _ hq
    rw [hget] at hq; cases hq
  · rw [hun]; exact h

/-! ### An order, found by program -/
def autoOQ (ops : Array Oper) (qs : List Nat) : Nat → List Nat → List Nat → List Nat
  | 0, _, _ => []
  | n + 1, pre, rest => match firstOf (fun q => cA ops qs q && edgesOK ops pre q) rest with
    | some q => q :: autoOQ ops qs n (q :: pre) (rest.filter (· != q))
    | none => match firstOf (fun q => edgesOK ops pre q) rest with
      | some q => q :: autoOQ ops qs n (q :: pre) (rest.filter (· != q))
      | none => []
def autoFQ (ops : Array Oper) (qs : List Nat) : List Nat → List Nat → List (Nat × List Nat)
  | _, [] => []
  | pre, q :: l => if cA ops qs q then autoFQ ops qs (q :: pre) l else (q, pre.filter fun p => cA ops qs p && !reach ops ops.size p q) :: autoFQ ops qs (q :: pre) l
end
end Go.LX
/-
  Drawn regions with calls that only look, at blocks that are told: these may be done at any time, as operations that only look.
-/
namespace Go.LX
open Go
set_option linter.unusedVariables false

/-- A call that turns nothing, with one answer, wherever these blocks stand as they do. -/
inductive ReadF (P : Unit → Program) (f : Nat) (args : List LV) (bs : List Nat) (h : LH) (n : Nat) (K : LV → Prop) : Prop
  | mk (u : LV) (hq : ∀ h' n', (∀ b ∈ bs, hget h' b = hget h b) → n ≤ n' → CallF P f args h' n' fun r h2 n2 => r = u ∧ h2 = h' ∧ n2 = n') (hk : K u)
section
variable {P : Unit → Program} {T : Unit → TT} {o : Oper} {s : LS}
/-- A row that is made of what is known, and never turned: what it is then. -/
def rowL (T : Unit → TT) (o : Oper) (s : LS) : Option LV :=
  match o.op with
  | .buildSlice t len parts => match lget (T ()) t with
    | some ti => match ti.kind with
      | .slice e => match lget (T ()) e with
        | some te => match Nat.ble (len * te.size) 10000, Nat.beq (llen (pvs te.zero)) te.size, Nat.ble 1 te.size with
          | true, true, true => match fillL (T ()) ti.kind (reps te.zero len) (evs s parts.toList) with
            | some cs => match allP cs with
              | some ps => some (.p (.vsl (.lit len) false ps))
              | none => none
            | none => none
          | _, _, _ => none
        | none => none
      | _ => none
    | none => none
  | _ => none
def readL (P : Unit → Program) (T : Unit → TT) (all : List Oper) (bs : List Nat) (o : Oper) (s : LS) (L : LS → Prop) : Prop :=
  match yes s all o.guard with
  | some c => match c with
    | true => match o.op with
      | .call c => match c.callee with
        | .value (.func f) => ReadF P f (eva s c.args.toList) bs s.h s.n fun u => L (s.put o.dst u)
        | _ => False
      | .buildSlice _ _ _ => match rowL T o s with
        | some u => L (s.put o.dst u)
        | none => False
      | _ => False
    | false => L (s.put o.dst .nul)
  | none => False
theorem rowL_agree {T : Unit → TT} {o : Oper} {s s' : LS} {ops : Array Oper} (h : ∀ t ∈ o.looksAt ops, tget s'.t t = tget s.t t) : rowL T o s' = rowL T o s := by
  unfold rowL
  split
  · rename_i t len parts ho
    have hev : evs s' parts.toList = evs s parts.toList := evs_agree _ fun x hx => by
      have hx2 : x.2 ∈ o.op.operands := by
        rw [ho]
        simp only [Op.operands]
        simpa using ⟨x.1, (by simpa using hx)⟩
      cases hx3 : x.2 with
      | tmp t =>
        rw [hx3] at hx2
        refine h t ?_
        simp only [Oper.looksAt, List.mem_append, List.mem_filterMap]
        exact .inl ⟨.tmp t, by simpa using hx2, rfl⟩
      | const v => rfl
      | global g => rfl
      | func f => rfl
    rw [hev]
  · rfl
theorem Ext.mute {c : Ctx} {w : World} {h : LH} (hr : HR c w h) (o : Obj) : Ext c w c (w.alloc o) := by
  refine ⟨rfl, rfl, rfl, by simp, rfl, Nat.le_refl _, fun b hb => .inl rfl, fun b r hb h => ?_, fun r hr _ => heap_alloc_old w o hr, fun b r hb h => ?_⟩
  · rw [hr.fresh b hb] at h; cases h
  · simp only [World.shape?, heap_alloc_old w o (hr.lt b r h)]
theorem row_sound {P : Program} {T : TT} {o : Oper} {s : LS} {u : LV} {c : Ctx} {a : Act} {w : World} {Q : Exit → Act → World → Prop} (hT : TOK P T) (hs : St c s a w) (h : rowL (fun _ => T) o s = some u) : o.wp P a w (Post (fun s1 => s1 = s.put o.dst u) c w) Q := by
  unfold rowL at h
  split at h
  · rename_i t len parts ho
    split at h
    · rename_i ti ht
      split at h
      · rename_i e hk
        split at h
        · rename_i te hte
          split at h
          · rename_i hlen hzl h1
            split at h
            · rename_i cs hf
              split at h
              · rename_i ps hps
                cases h
                have hlen := Nat.le_of_ble_eq_true hlen
                have h1 := Nat.le_of_ble_eq_true h1
                obtain ⟨z, hz, hzc, hzr⟩ := zero_cells (hT e te hte)
                obtain ⟨hl, hq⟩ := evs_rel hs parts.toList
                obtain ⟨⟨i, z', d, hi, hsz, _, hz', _, hu, hkd, _⟩, _⟩ := hT t ti ht
                rw [hk] at hkd hf
                cases d <;> try exact hkd.elim
                rename_i e'
                have hkd : e = e' := hkd
                subst hkd
                have hse := tok_size (w := w) (hT e te hte)
                have hzs : z.cells.size = te.size := by
                  have h2 := Nat.eq_of_beq_eq_true hzl
                  rw [llen_eq, pvs_length] at h2
                  have : z.cells.toList.length = te.zero.length := by rw [hzc, List.length_map]
                  rw [Array.length_toList] at this; omega
                have hpl2 : ∀ i off sz, place T (.slice e) i = some (off, sz) → (fun i => some (i * te.size, te.size)) i = some (off, sz) := by
                  intro i off sz hp
                  simp only [place, hte] at hp
                  exact hp
                have hrel0 := reps_rel c w (hzr c w) (by omega) len
                rw [hzs] at hrel0
                obtain ⟨arr', h3, h4, h5⟩ := fill_sound (c := c) (w := w) hpl2 _ _ _ _ hl hq hrel0 hf
                have hlens : arr'.size = len * te.size := by rw [h5]; simp
                have hmap : (parts.map fun (i, x) => (i, a.eval x)).toList = parts.toList.map fun (i, x) => (i, a.eval x) := by simp
                have hrun : (execOp a.eval o).run P w = .ok (.value (.slice (some ⟨w.heap.size, 0, none⟩) len len)) (w.alloc (.cells arr' e)) := by
                  unfold execOp; rw [ho]
                  refine runv ?_
                  have hbig : ¬ len * te.size > 2 ^ 24 := by omega
                  by_cases h0 : len * te.size = 0
                  · have e0 : (Array.range (len * te.size)).map (fun j => z.cells[j % te.size]!) = (#[] : Array Value) := by rw [h0]; simp
                    rw [e0] at h3
                    have e1 : (Array.map (fun _ => (default : Value)) (Array.range 0)) = (#[] : Array Value) := by simp
                    have hmap2 : (List.map (fun x : Nat × Operand => (x.fst, a.eval x.snd)) parts.toList) = parts.toList.map fun (i, x) => (i, a.eval x) := rfl
                    simp [Instr.buildSlice, run_underlying hu, hse, h0, newRow]
                    rw [e1, hmap2, h3]
                    simp
                  · simp only at h3
                    simp [Instr.buildSlice, run_underlying hu, hse, hbig, h0, hz, hzs, h3, newRow]
                have he := Ext.mute hs.hr (.cells arr' e)
                have hr' : HR c (w.alloc (.cells arr' e)) s.h := hs.hr.step he (.inl rfl) hs.hr.fresh (fun b => .inl rfl) (fun b B hb => .inl ⟨hb, rfl, fun r hm => heap_alloc_old w _ (hs.hr.lt b r hm)⟩)
                have hs1 : St c s a (w.alloc (.cells arr' e)) := ⟨hs.tl, fun i u hu => (hs.tr i u hu).ext hs.hr.fresh he, hs.df, hr', hs.nn⟩
                have hps := allP_eq _ hps
                subst hps
                have hcell : ∀ (j : Nat) (u : PV), ps[j]? = some u → ∃ x, arr'.toList[j]? = some x ∧ PR c.mut w u x := by
                  intro j u hj
                  obtain ⟨x, hx, hxr⟩ := h4.2 j (.p u) (by rw [pvs_get, hj]; rfl)
                  cases hxr with
                  | p _ _ hxr => exact ⟨x, hx, hxr⟩
                have hnew : LR c (w.alloc (.cells arr' e)) (.p (.vsl (.lit len) false ps)) (.slice (some ⟨w.heap.size, 0, none⟩) len len) := by
                  refine .p _ _ (.vsl _ _ _ _ len len (fun j => arr'.toList.getD j Go.undef) rfl rfl ?_ ?_ (Nat.le_refl _) ?_ ?_ ?_)
                  · rintro (hx | ⟨b, hb⟩)
                    · exact Nat.lt_irrefl _ (hs.hr.ltX _ hx)
                    · exact Nat.lt_irrefl _ (hs.hr.lt _ _ hb)
                  · simp
                  · unfold maxLen
                    have : len ≤ len * te.size := Nat.le_mul_of_pos_right _ h1
                    omega
                  · intro j u hj
                    obtain ⟨x, hx, _⟩ := hcell j u hj
                    have hx2 : arr'[j]? = some x := by simpa using hx
                    have hg2 : (w.alloc (.cells arr' e)).heap[w.heap.size]? = some (.cells arr' e (0, 0)) := by rw [heap_alloc_new]
                    rw [add_lit]
                    simp only [World.cell?, hg2]
                    rw [List.getD_eq_getElem?_getD, hx]
                    simpa using hx2
                  · intro j u hj
                    obtain ⟨x, hx, hxr⟩ := hcell j u hj
                    rw [List.getD_eq_getElem?_getD, hx]
                    exact hxr.ext hs.hr.fresh he
                unfold Oper.wp
                rw [hrun, Oper.upon_value]
                exact ⟨c, _, rfl, hs1.put hnew _, he⟩
              · cases h
            · cases h
          · cases h
        · cases h
      · cases h
    · cases h
  · cases h
/-- What one that only looks may look at. -/
def rdsR (ops : Array Oper) (bs : List Nat) (p : Nat) (s : LS) : List Nat := match isA (opAt ops p) with
  | true => rds (opAt ops p) s
  | false => bs
def AgreeR (ops : Array Oper) (bs : List Nat) (p : Nat) (s s' : LS) : Prop := (∀ b ∈ rdsR ops bs p s, hget s'.h b = hget s.h b) ∧ (∀ t ∈ (opAt ops p).looksAt ops, tget s'.t t = tget s.t t) ∧ s.n ≤ s'.n
theorem rdsR_put {ops : Array Oper} {bs : List Nat} {p : Nat} {d : Option Nat} {u : LV} (hd : ∀ t, d = some t → t ∉ (opAt ops p).looksAt ops) : rdsR ops bs p (s.put d u) = rdsR ops bs p s := by
  unfold rdsR
  cases isA (opAt ops p) with
  | true => exact rds_put hd
  | false => rfl
def keptR (ops : Array Oper) (bs : List Nat) : List Nat → LS → LS → Prop
  | [], s, s1 => Nat.ble s.n s1.n = true
  | p :: fl, s, s1 => keptL (rdsR ops bs p s) s s1 ∧ keptR ops bs fl s s1
theorem keptR_get {ops : Array Oper} {bs : List Nat} : ∀ {fl : List Nat} {s s1 : LS}, keptR ops bs fl s s1 → s.n ≤ s1.n ∧ ∀ p ∈ fl, keptL (rdsR ops bs p s) s s1
  | [], _, _, h => ⟨Nat.le_of_ble_eq_true h, fun p hp => by cases hp⟩
  | x :: l, s, s1, h => ⟨(keptR_get h.2).1, fun p hp => by
    rcases List.mem_cons.1 hp with rfl | hp
    · exact h.1
    · exact (keptR_get h.2).2 p hp⟩
theorem yes_agree {ops : Array Oper} {s s' : LS} (h : ∀ t ∈ o.looksAt ops, tget s'.t t = tget s.t t) : yes s' ops.toList o.guard = yes s ops.toList o.guard := by
  cases hg : o.guard with
  | none => rfl
  | some p =>
    obtain ⟨j, want⟩ := p
    simp only [yes, onth_eq]
    have hj : ops.toList[j]? = ops[j]? := by simp
    rw [hj]
    cases e : ops[j]? with
    | none => rfl
    | some q =>
      dsimp only
      cases e2 : q.dst with
      | none => rfl
      | some d =>
        dsimp only
        rw [h d (by simp [Oper.looksAt, hg, e, e2])]
/-- One that only looks. -/
def headR (P : Unit → Program) (T : Unit → TT) (ops : Array Oper) (bs : List Nat) (i : Nat) (s : LS) (L : LS → Prop) : Prop :=
  match isA (opAt ops i) with
  | true => stepL P T ops.toList (opAt ops i) s L
  | false => readL P T ops.toList bs (opAt ops i) s L
theorem AgreeR.toS {ops : Array Oper} {bs : List Nat} {i : Nat} {s s' : LS} (hA : isA (opAt ops i) = true) (h : AgreeR ops bs i s s') : AgreeS ops (opAt ops i) s s' := by
  refine ⟨?_, h.2.1⟩
  have := h.1
  unfold rdsR at this
  rw [hA] at this
  exact this
theorem headR_x {ops : Array Oper} {bs : List Nat} {i : Nat} {L : LS → Prop} (h : headR P T ops bs i s L) : ∃ u, L (s.put (opAt ops i).dst u) ∧ (∀ s', AgreeR ops bs i s s' → ∀ L' : LS → Prop, L' (s'.put (opAt ops i).dst u) → headR P T ops bs i s' L') ∧ (∀ s', AgreeR ops bs i s s' → (∀ L' : LS → Prop, L' (s'.put (opAt ops i).dst u) → stepL P T ops.toList (opAt ops i) s' L') ∨ (yes s' ops.toList (opAt ops i).guard = some true ∧ rowL T (opAt ops i) s' = some u)) := by
  unfold headR at h
  split at h
  · rename_i hA
    obtain ⟨u, h1, h2⟩ := step_x hA h
    refine ⟨u, h1, fun s' ha L' hL => ?_, fun s' ha => .inl (h2 s' (ha.toS hA))⟩
    unfold headR
    rw [hA]
    exact h2 s' (ha.toS hA) L' hL
  · rename_i hA
    have hbs : ∀ s', AgreeR ops bs i s s' → ∀ b ∈ bs, hget s'.h b = hget s.h b := fun s' ha => by
      have := ha.1
      unfold rdsR at this
      rw [hA] at this
      exact this
    have hlk : ∀ s', AgreeR ops bs i s s' → ∀ t ∈ (opAt ops i).looksAt ops, tget s'.t t = tget s.t t := fun s' ha => ha.2.1
    have hn : ∀ s', AgreeR ops bs i s s' → s.n ≤ s'.n := fun s' ha => ha.2.2
    generalize hoo : opAt ops i = o at *
    unfold readL at h
    split at h
    · rename_i cb hy
      have hy' : ∀ s', AgreeR ops bs i s s' → yes s' ops.toList o.guard = some cb := fun s' ha => (yes_agree (hlk s' ha)).trans hy
      split at h
      · split at h
        · rename_i c ho
          split at h
          · rename_i f hc
            cases h with
            | mk u hq hk =>
              have hev : ∀ s', AgreeR ops bs i s s' → eva s' c.args.toList = eva s c.args.toList := fun s' ha => eva_agree _ fun x hx => by
                have hx : x ∈ c.args := by simpa using hx
                have hx2 : x ∈ o.op.operands := by rw [ho]; simp [Op.operands, Call.operands, hc, hx]
                cases x with
                | tmp t =>
                  refine hlk s' ha t ?_
                  simp only [Oper.looksAt, List.mem_append, List.mem_filterMap]
                  exact .inl ⟨.tmp t, by simpa using hx2, rfl⟩
                | const v => rfl
                | global g => rfl
                | func f => rfl
              refine ⟨u, hk, fun s' ha L' hL => ?_, fun s' ha => .inl fun L' hL => ?_⟩
              · unfold headR
                rw [hoo, hA]
                dsimp only
                unfold readL
                rw [hy' s' ha]
                dsimp only
                rw [ho]
                dsimp only
                rw [hc]
                dsimp only
                rw [hev s' ha]
                exact .mk u (fun h' n' hb hn' => hq h' n' (fun b hbm => (hb b hbm).trans (hbs s' ha b hbm)) (Nat.le_trans (hn s' ha) hn')) hL
              · unfold stepL
                rw [hy' s' ha]
                dsimp only
                unfold lop
                rw [ho]
                dsimp only
                rw [hc]
                dsimp only [ev]
                rw [hev s' ha]
                refine (hq s'.h s'.n (hbs s' ha) (hn s' ha)).mono fun r h' n' ⟨e1, e2, e3⟩ => ?_
                subst e1 e2 e3
                exact hL
          · exact h.elim
        · rename_i t0 len0 parts0 ho
          split at h
          · rename_i u hu
            refine ⟨u, h, fun s' ha L' hL => ?_, fun s' ha => .inr ⟨hy' s' ha, (rowL_agree (hlk s' ha)).trans hu⟩⟩
            unfold headR
            rw [hoo, hA]
            dsimp only
            unfold readL
            rw [hy' s' ha]
            dsimp only
            rw [ho]
            dsimp only
            rw [rowL_agree (hlk s' ha), hu]
            exact hL
          · exact h.elim
        · exact h.elim
      · refine ⟨.nul, h, fun s' ha L' hL => ?_, fun s' ha => .inl fun L' hL => ?_⟩
        · unfold headR
          rw [hoo, hA]
          dsimp only
          unfold readL
          rw [hy' s' ha]
          exact hL
        · unfold stepL
          rw [hy' s' ha]
          exact hL
    · exact h.elim
/-- A region in one order. -/
def lopsR (P : Unit → Program) (T : Unit → TT) (ops : Array Oper) (bs : List Nat) (qs : List Nat) (F : List (Nat × List Nat)) : List Nat → LS → (LS → Prop) → Prop
  | [], s, K => K s
  | i :: l, s, K => match cA ops qs i with
    | true => headR P T ops bs i s fun s1 => lopsR P T ops bs qs F l s1 K
    | false => stepL P T ops.toList (opAt ops i) s fun s1 => keptR ops bs (look F i) s s1 ∧ lopsR P T ops bs qs F l s1 K
/-- May they stand in this order, whatever order they are done in? -/
def pairR (ops : Array Oper) (qs : List Nat) (F : List (Nat × List Nat)) (p q : Nat) : Bool :=
  p != q && (reach ops ops.size p q || (cA ops qs p && (opAt ops p).apart ops (opAt ops q) && (cA ops qs q || (look F q).contains p))) && (!(F.any fun e => e.2.contains p && e.2.contains q) || match (opAt ops q).dst with
    | some d => !cA ops qs p || !cA ops qs q || !((opAt ops p).looksAt ops).contains d
    | none => true)
def PairR (ops : Array Oper) (qs : List Nat) (F : List (Nat × List Nat)) (p q : Nat) : Prop := p ≠ q ∧ (reach ops ops.size p q = true ∨ (cA ops qs p = true ∧ (opAt ops p).apart ops (opAt ops q) = true ∧ (cA ops qs q = true ∨ p ∈ look F q))) ∧ (∀ i, p ∈ look F i → q ∈ look F i → cA ops qs p = true → cA ops qs q = true → ∀ d, (opAt ops q).dst = some d → d ∉ (opAt ops p).looksAt ops)
theorem pairR_spec {ops : Array Oper} {qs : List Nat} {F : List (Nat × List Nat)} {p q : Nat} (h : pairR ops qs F p q = true) : PairR ops qs F p q := by
  simp only [pairR, Bool.and_eq_true, Bool.or_eq_true, bne_iff_ne, ne_eq] at h
  obtain ⟨⟨h1, h2⟩, h3⟩ := h
  refine ⟨h1, h2.imp id (fun h => ⟨h.1.1, h.1.2, h.2.imp id (fun h => by simpa using h)⟩), fun i hpi hqi hp hq d hd => ?_⟩
  rw [look_any hpi hqi, hd, hp, hq] at h3
  simpa using h3
theorem frontR {ops : Array Oper} {bs : List Nat} {qs : List Nat} {F : List (Nat × List Nat)} {i : Nat} {l2 : List Nat} {K : LS → Prop} (hki : known ops i) :
    ∀ (l1 gh : List Nat) {s : LS}, (∀ p ∈ l1, known ops p ∧ (∀ d, (opAt ops p).dst = some d → d ∉ (opAt ops p).looksAt ops)) → (∀ p ∈ l1, PairR ops qs F p i ∧ reach ops ops.size p i = false) → l1.Pairwise (PairR ops qs F) → (∀ p ∈ gh, p ∈ look F i ∧ cA ops qs p = true ∧ ∀ q ∈ l1, PairR ops qs F p q) →
      lopsR P T ops bs qs F (l1 ++ i :: l2) s K → (cA ops qs i = true → headR P T ops bs i s fun s1 => lopsR P T ops bs qs F (l1 ++ l2) s1 K) ∧ (cA ops qs i = false → stepL P T ops.toList (opAt ops i) s fun s1 => (s.n ≤ s1.n ∧ ∀ p ∈ gh, keptL (rdsR ops bs p s) s s1) ∧ lopsR P T ops bs qs F (l1 ++ l2) s1 K)
  | [], gh, s, _, _, _, hgh, h => by
    rw [List.nil_append, lopsR] at h
    split at h
    · rename_i hA
      exact ⟨fun _ => h, fun e => (by rw [hA] at e; cases e)⟩
    · rename_i hA
      exact ⟨fun e => (by rw [hA] at e; cases e), fun _ => stepL_m hki h fun s1 h1 => ⟨⟨(keptR_get h1.1).1, fun p hp => (keptR_get h1.1).2 p (hgh p hp).1⟩, h1.2⟩⟩
  | p :: l1, gh, s, hk, hi, hpw, hdn, h => by
    obtain ⟨hkp, hself⟩ := hk p List.mem_cons_self
    obtain ⟨⟨hpi1, hpi2, hpi3⟩, hnr⟩ := hi p List.mem_cons_self
    rw [List.pairwise_cons] at hpw
    obtain ⟨hA, hap, hfl⟩ : cA ops qs p = true ∧ (opAt ops p).apart ops (opAt ops i) = true ∧ (cA ops qs i = true ∨ p ∈ look F i) := by
      rcases hpi2 with e | e
      · rw [hnr] at e; cases e
      · exact e
    obtain ⟨a1, a2, a3⟩ := Oper.apart_spec hap
    rw [List.cons_append, lopsR] at h
    rw [hA] at h
    dsimp only at h
    obtain ⟨u, h1, hg, _⟩ := headR_x h
    have next : ∀ {s1 : LS}, AgreeR ops bs p s s1 → lopsR P T ops bs qs F (l1 ++ l2) (s1.put (opAt ops p).dst u) K → lopsR P T ops bs qs F (p :: l1 ++ l2) s1 K := by
      intro s1 hag h2
      rw [List.cons_append, lopsR, hA]
      exact hg s1 hag _ h2
    have hkl : ∀ q ∈ l1, known ops q ∧ (∀ d, (opAt ops q).dst = some d → d ∉ (opAt ops q).looksAt ops) := fun q hq => hk q (List.mem_cons_of_mem _ hq)
    have hil : ∀ q ∈ l1, PairR ops qs F q i ∧ reach ops ops.size q i = false := fun q hq => hi q (List.mem_cons_of_mem _ hq)
    refine ⟨fun hAi => ?_, fun hnA => ?_⟩
    · have ih := (frontR hki l1 [] hkl hil hpw.2 (fun q hq => (by cases hq)) h1).1 hAi
      obtain ⟨v, h4, h5, _⟩ := headR_x ih
      refine h5 s ⟨fun _ _ => by rw [put_h], fun t ht => (tget_put _ _ _ (fun e => a1 t e ht)).symm, by rw [put_n]; exact Nat.le_refl _⟩ _ ?_
      refine next ⟨fun _ _ => by rw [put_h], fun t ht => tget_put _ _ _ (fun e => a3 t e ht), by rw [put_n]; exact Nat.le_refl _⟩ ?_
      rw [← put_comm _ _ _ _ a2]
      exact h4
    · have hX : isX (opAt ops i) = true := hki.resolve_right (fun e => by unfold cA at hnA; rw [e] at hnA; cases hnA)
      have hpf : p ∈ look F i := hfl.resolve_left (fun e => by rw [hnA] at e; cases e)
      have ih := (frontR hki l1 (p :: gh) hkl hil hpw.2 (fun q hq => by
        rcases List.mem_cons.1 hq with rfl | hq
        · exact ⟨hpf, hA, hpw.1⟩
        · exact ⟨(hdn q hq).1, (hdn q hq).2.1, fun r hr => (hdn q hq).2.2 r (List.mem_cons_of_mem _ hr)⟩) h1).2 hnA
      have h3 := step_slot hX a1 a2 ih
      refine stepL_m (.inl hX) h3 fun s1 ⟨h4, ⟨hn5, h5⟩, h6⟩ => ?_
      simp only [put_n] at hn5
      have hkp2 := h5 p List.mem_cons_self
      rw [rdsR_put hself] at hkp2
      refine ⟨⟨hn5, fun q hq => ?_⟩, next ⟨fun b hb => ?_, (fun t ht => h4 t fun e => a3 t e ht), hn5⟩ h6⟩
      · have e := h5 q (List.mem_cons_of_mem _ hq)
        rw [rdsR_put (((hdn q hq).2.2 p List.mem_cons_self).2.2 i (hdn q hq).1 hpf (hdn q hq).2.1 hA)] at e
        refine keptL_mk fun b hb => ?_
        have := keptL_get e b hb
        rwa [put_h, put_h] at this
      · have := keptL_get hkp2 b hb
        rwa [put_h, put_h] at this
end

def orderR (ops : Array Oper) (qs : List Nat) (F : List (Nat × List Nat)) : List Nat → List Nat → Bool
  | _, [] => true
  | pre, q :: l => edgesOK ops pre q && selfOK ops q && l.all (fun r => pairR ops qs F q r) && orderR ops qs F (q :: pre) l
def drawnR (ops : Array Oper) (qs : List Nat) (F : List (Nat × List Nat)) (order : List Nat) : Bool := orderR ops qs F [] order && (List.range ops.size).all (fun j => order.contains j)
section
variable {P : Program} {T : TT} {K : LS → Prop}
theorem orderR_spec {ops : Array Oper} {qs : List Nat} {F : List (Nat × List Nat)} : ∀ {l pre : List Nat}, orderR ops qs F pre l = true → l.Pairwise (PairR ops qs F) ∧ (∀ q ∈ l, known ops q ∧ (∀ d, (opAt ops q).dst = some d → d ∉ (opAt ops q).looksAt ops)) ∧
    ∀ l1 q l2, l = l1 ++ q :: l2 → ∃ o, ops[q]? = some o ∧ ∀ e ∈ o.after, Region.binds .any e = true → e.on ∈ pre ∨ e.on ∈ l1
  | [], pre, _ => ⟨.nil, fun q hq => (by cases hq), fun l1 q l2 h => (by cases l1 <;> cases h)⟩
  | r :: l, pre, h => by
    simp only [orderR, Bool.and_eq_true] at h
    obtain ⟨⟨⟨h1, h2⟩, h3⟩, h4⟩ := h
    obtain ⟨k1, k2, k3⟩ := orderR_spec h4
    refine ⟨List.pairwise_cons.2 ⟨fun q hq => pairR_spec (List.all_eq_true.1 h3 q hq), k1⟩, fun q hq => ?_, fun l1 q l2 e => ?_⟩
    · rcases List.mem_cons.1 hq with rfl | hq
      · exact selfOK_spec h2
      · exact k2 q hq
    · cases l1 with
      | nil =>
        cases e
        unfold edgesOK at h1
        split at h1
        · rename_i o ho
          refine ⟨o, ho, fun e he hb => .inl ?_⟩
          have := Array.all_eq_true_iff_forall_mem.1 h1 e he
          simpa [hb] using this
        · cases h1
      | cons x l1 =>
        cases e
        obtain ⟨o, ho, h5⟩ := k3 l1 q l2 rfl
        refine ⟨o, ho, fun e he hb => ?_⟩
        rcases h5 e he hb with h | h
        · rcases List.mem_cons.1 h with h | h
          · exact .inr (by rw [h]; exact List.mem_cons_self)
          · exact .inl h
        · exact .inr (List.mem_cons_of_mem _ h)

theorem anyR_sound (hT : TOK P T) {ops : Array Oper} {bs : List Nat} {qs : List Nat} {F : List (Nat × List Nat)} {order : List Nat} (hd : drawnR ops qs F order = true) {c0 : Ctx} {w0 : World} {Q : Exit → Act → World → Prop} (hQ : ∀ a' w', Post K c0 w0 a' w' → Q .normal a' w') :
    ∀ (fuel : Nat) (listed : Array Bool) {s : LS} {c : Ctx} {a : Act} {w : World}, listed.size = ops.size → Closed ops listed → (unlO order listed).length = fuel → Ext c0 w0 c w → St c s a w →
    lopsR (fun _ => P) (fun _ => T) ops bs qs F (unlO order listed) s K → wpAny P .any ops Q fuel listed a w := by
  simp only [drawnR, Bool.and_eq_true, List.all_eq_true, List.mem_range] at hd
  obtain ⟨hpw, hkn, hed⟩ := orderR_spec hd.1
  have hall : ∀ j, j < ops.size → j ∈ order := fun j hj => by simpa using hd.2 j hj
  have mem_unl : ∀ {listed : Array Bool} {j : Nat}, j ∈ unlO order listed ↔ j ∈ order ∧ listed.getD j true = false := by
    intro listed j
    simp [unlO, List.mem_filter]
  have at_ : ∀ {j o}, ops[j]? = some o → opAt ops j = o := by
    intro j o ho
    simp [opAt, ho]
  have hlt_ : ∀ {listed : Array Bool} {j : Nat}, listed.size = ops.size → listed.getD j true = false → j < ops.size := by
    intro listed j hsz h
    rcases Nat.lt_or_ge j ops.size with h1 | h1
    · exact h1
    · rw [Array.getD_eq_getD_getElem?, Array.getElem?_eq_none (by omega)] at h; cases h
  intro fuel
  induction fuel with
  | zero =>
    intro listed s c a w hsz hcl hlen he hs h
    have h0 : unlO order listed = [] := List.eq_nil_of_length_eq_zero hlen
    refine ⟨List.eq_nil_iff_forall_not_mem.2 fun j hj => ?_, ?_⟩
    · obtain ⟨h1, o, h2, _⟩ := mem_ready.1 hj
      have : j ∈ unlO order listed := mem_unl.2 ⟨hall j (Array.getElem?_eq_some_iff.1 h2).1, h1⟩
      rw [h0] at this; cases this
    · rw [h0] at h
      exact hQ _ _ ⟨c, s, h, hs, he⟩
  | succ fuel ih =>
    intro listed s c a w hsz hcl hlen he hs h
    refine ⟨fun hr => ?_, fun i hi => ?_⟩
    · exfalso
      cases hu : unlO order listed with
      | nil => rw [hu] at hlen; cases hlen
      | cons i0 rest =>
        obtain ⟨l1, l2, e1, e2, e3, e4⟩ := List.filter_eq_cons_iff.1 hu
        have hun : listed.getD i0 true = false := by simpa using e3
        obtain ⟨o, ho, h5⟩ := hed l1 i0 l2 e1
        have : i0 ∈ Region.ready .any ops listed := by
          refine mem_ready.2 ⟨hun, o, ho, fun e hee hb => ?_⟩
          rcases h5 e hee hb with h6 | h6
          · cases h6
          · have h7 := e2 _ h6
            have h8 : listed.getD e.on true = true := by simpa using h7
            -- an operation of the order is one of the region
            rcases Nat.lt_or_ge e.on listed.size with h9 | h9
            · rw [getD_tf h9 false true]; exact h8
            · exfalso
              obtain ⟨m1, m2, hm⟩ := List.append_of_mem h6
              obtain ⟨o2, ho2, _⟩ := hed m1 e.on (m2 ++ i0 :: l2) (by rw [e1, hm]; simp)
              have := (Array.getElem?_eq_some_iff.1 ho2).1
              omega
        rw [hr] at this; cases this
    · obtain ⟨hun, o, ho, haft⟩ := mem_ready.1 hi
      have hlt : i < ops.size := (Array.getElem?_eq_some_iff.1 ho).1
      have hiu : i ∈ unlO order listed := mem_unl.2 ⟨hall i hlt, hun⟩
      obtain ⟨l1, l2, hl⟩ := List.append_of_mem hiu
      have hpu : (unlO order listed).Pairwise (PairR ops qs F) := hpw.filter _
      have hku : ∀ q ∈ unlO order listed, known ops q ∧ (∀ d, (opAt ops q).dst = some d → d ∉ (opAt ops q).looksAt ops) := fun q hq => hkn q (mem_unl.1 hq).1
      rw [hl] at hpu hku h
      rw [List.pairwise_append] at hpu
      obtain ⟨hp1, hp2, hp3⟩ := hpu
      rw [List.pairwise_cons] at hp2
      have hrest : unlO order (listed.setIfInBounds i true) = l1 ++ l2 := by
        have e1 : unlO order (listed.setIfInBounds i true) = (unlO order listed).filter (· != i) := by
          unfold unlO
          rw [List.filter_filter]
          refine List.filter_congr fun j hj => ?_
          by_cases e : i = j
          · subst e
            rw [Array.getD_eq_getD_getElem?, Array.getElem?_setIfInBounds_self_of_lt (by omega)]
            simp
          · rw [getD_set_ne _ e]
            have : (j != i) = true := by simp; omega
            rw [this]; simp
        rw [e1, hl, List.filter_append, List.filter_cons_of_neg (by simp)]
        congr 1
        · rw [List.filter_eq_self]
          intro p hp
          have := (hp3 p hp i List.mem_cons_self).1
          simpa using this
        · rw [List.filter_eq_self]
          intro p hp
          have := (hp2.1 p hp).1
          have : p ≠ i := fun e => this e.symm
          simpa using this
      have hf := frontR (ops := ops) (bs := bs) (F := F) (i := i) (l2 := l2) (hku i (by simp)).1 l1 [] (fun p hp => hku p (by simp [hp])) (fun p hp => ⟨hp3 p hp i List.mem_cons_self, by
        cases e : reach ops ops.size p i with
        | false => rfl
        | true =>
          exfalso
          have h1 := reach_listed hcl _ i o ho e haft
          have hpm : p ∈ unlO order listed := by rw [hl]; simp [hp]
          have h2 := (mem_unl.1 hpm).2
          rw [getD_tf (by rw [hsz]; exact hlt_ hsz h2) true false, h1] at h2; cases h2⟩) hp1 (fun p hp => (by cases hp)) h
      rw [← hrest] at hf
      have hsz' : (listed.setIfInBounds i true).size = ops.size := by simp [hsz]
      have hcl' : Closed ops (listed.setIfInBounds i true) := by
        intro q oq hoq hq e hee hb
        by_cases hqi : i = q
        · subst hqi
          rw [ho] at hoq; cases hoq
          exact getD_set_true (haft e hee hb)
        · rw [getD_set_ne _ hqi] at hq
          exact getD_set_true (hcl q oq hoq hq e hee hb)
      have hlen' : (unlO order (listed.setIfInBounds i true)).length = fuel := by
        rw [hrest]
        rw [hl] at hlen
        simp at hlen ⊢; omega
      have hgo : ∀ (R : LS → Prop), stepL (fun _ => P) (fun _ => T) ops.toList o s R → (∀ s1, R s1 → lopsR (fun _ => P) (fun _ => T) ops bs qs F (unlO order (listed.setIfInBounds i true)) s1 K) → wpOp P ops Q i (fun a' w' => wpAny P .any ops Q fuel (listed.setIfInBounds i true) a' w') a w := by
        intro R hf hR
        unfold wpOp
        rw [ho]
        dsimp only
        unfold stepL at hf
        split at hf
        · rename_i cb hy
          have hw := yes_sound hs hy
          cases cb with
          | true =>
            rw [if_pos hw]
            left
            refine Oper.wp_mono (fun a' w' hp => ?_) (lop_sound (Q := Q) hT hs hf)
            obtain ⟨c', s', hK, hs', he'⟩ := hp
            exact ih _ hsz' hcl' hlen' (he.trans he') hs' (hR _ hK)
          | false =>
            rw [if_neg (by rw [hw]; simp)]
            exact ih _ hsz' hcl' hlen' he (hs.put .nul _) (hR _ hf)
        · exact hf.elim
      cases hcA : cA ops qs i with
      | true =>
        obtain ⟨u, h1, _, h3⟩ := headR_x (hf.1 hcA)
        rw [at_ ho] at h1 h3
        rcases h3 s ⟨fun _ _ => rfl, fun _ _ => rfl, Nat.le_refl _⟩ with h3 | h3
        · refine hgo _ (h3 (fun s1 => s1 = s.put o.dst u) rfl) fun s1 e => ?_
          rw [e]; exact h1
        · unfold wpOp
          rw [ho]
          dsimp only
          rw [if_pos (yes_sound hs h3.1)]
          left
          refine Oper.wp_mono (fun a' w' hp => ?_) (row_sound (Q := Q) hT hs h3.2)
          obtain ⟨c', s', hK, hs', he'⟩ := hp
          subst hK
          exact ih _ hsz' hcl' hlen' (he.trans he') hs' h1
      | false =>
        have h3 := hf.2 hcA
        rw [at_ ho] at h3
        exact hgo _ h3 fun s1 h => h.2

/-- A drawn region: in the order that is told. -/
theorem read_sound (hT : TOK P T) (hm : P.follows .mixedOrders = true) (bs : List Nat) (qs : List Nat) (F : List (Nat × List Nat)) (order : List Nat) {ops : Unit → Array Oper} {s : LS} (hd : drawnR (ops ()) qs F order = true) (h : lopsR (fun _ => P) (fun _ => T) (ops ()) bs qs F order s K) : DrawF (fun _ => P) ops s K := by
  refine .mk fun c a w t Q hs hQ => ?_
  generalize ops () = ops at *
  simp only [Region.schedule, hm, Bool.true_or, if_true]
  have hget : ∀ i, (Array.replicate ops.size false).getD i false = false := by
    intro i
    rw [Array.getD_eq_getD_getElem?, Array.getElem?_replicate]
    split <;> rfl
  have hd' := hd
  simp only [drawnR, Bool.and_eq_true] at hd'
  obtain ⟨hpw, _, hed⟩ := orderR_spec hd'.1
  have hlt : ∀ j ∈ order, j < ops.size := fun j hj => by
    obtain ⟨l1, l2, e⟩ := List.append_of_mem hj
    obtain ⟨o, ho, _⟩ := hed l1 j l2 e
    exact (Array.getElem?_eq_some_iff.1 ho).1
  have hun : unlO order (Array.replicate ops.size false) = order := by
    unfold unlO
    rw [List.filter_eq_self]
    intro j hj
    have := hlt j hj
    rw [Array.getD_eq_getD_getElem?, Array.getElem?_replicate, if_pos this]; rfl
  have hnd : order.Nodup := hpw.imp fun h => h.1
  have hlen : order.length = ops.size := by
    have h1 : order.Perm (List.range ops.size) := by
      rw [List.perm_ext_iff_of_nodup hnd List.nodup_range]
      intro j
      rw [List.mem_range]
      exact ⟨hlt j, fun hj => by have := List.all_eq_true.1 hd'.2 j (List.mem_range.2 hj); simpa using this⟩
    simpa using h1.length_eq
  refine wpAny_sound ops.size t _ a w (anyR_sound (K := K) (bs := bs) hT hd (c0 := c) (w0 := w) (fun a' w' hp => hQ a' w' ?_) ops.size _ (by simp) ?_ (by rw [hun]; exact hlen) (Ext.refl hs.hr) hs ?_)
  · obtain ⟨c', s', hK, hs', he⟩ := hp
    exact ⟨c', s', hK, hs', he⟩
  · intro q o _ hq
    rw [hget] at hq; cases hq
  · rw [hun]; exact h

/-! ### An order, found by program -/
def autoOR (ops : Array Oper) (qs : List Nat) : Nat → List Nat → List Nat → List Nat
  | 0, _, _ => []
  | n + 1, pre, rest => match firstOf (fun q => cA ops qs q && edgesOK ops pre q) rest with
    | some q => q :: autoOR ops qs n (q :: pre) (rest.filter (· != q))
    | none => match firstOf (fun q => edgesOK ops pre q) rest with
      | some q => q :: autoOR ops qs n (q :: pre) (rest.filter (· != q))
      | none => []
def autoFR (ops : Array Oper) (qs : List Nat) : List Nat → List Nat → List (Nat × List Nat)
  | _, [] => []
  | pre, q :: l => if cA ops qs q then autoFR ops qs (q :: pre) l else (q, pre.filter fun p => cA ops qs p && !reach ops ops.size p q) :: autoFR ops qs (q :: pre) l
end
/-! ### The same order, held against the edges by masks -/
def pairRF (ops : Array Oper) (qs : List Nat) (F : List (Nat × List Nat)) (M : List Nat) (p q : Nat) : Bool :=
  p != q && ((cA ops qs p && (opAt ops p).apart ops (opAt ops q) && (cA ops qs q || (look F q).contains p)) || (M.getD q 0).testBit p) && (!(F.any fun e => e.2.contains p && e.2.contains q) || match (opAt ops q).dst with
    | some d => !cA ops qs p || !cA ops qs q || !((opAt ops p).looksAt ops).contains d
    | none => true)
def orderRF (ops : Array Oper) (qs : List Nat) (F : List (Nat × List Nat)) (M : List Nat) : List Nat → List Nat → Bool
  | _, [] => true
  | pre, q :: l => edgesOK ops pre q && selfOK ops q && l.all (fun r => pairRF ops qs F M q r) && orderRF ops qs F M (q :: pre) l
def drawnRF (ops : Array Oper) (qs : List Nat) (F : List (Nat × List Nat)) (order : List Nat) : Bool := orderRF ops qs F (masksL ops.toList []) [] order && (List.range ops.size).all (fun j => order.contains j)
theorem pairRF_ok {ops : Array Oper} {qs : List Nat} {F : List (Nat × List Nat)} {M : List Nat} (hM : MasksOk ops M) (hl : M.length = ops.size) {p q : Nat} (h : pairRF ops qs F M p q = true) : pairR ops qs F p q = true := by
  unfold pairRF at h
  unfold pairR
  rw [Bool.and_eq_true, Bool.and_eq_true] at h ⊢
  refine ⟨⟨h.1.1, ?_⟩, h.2⟩
  have h2 := h.1.2
  rw [Bool.or_eq_true] at h2 ⊢
  rcases h2 with h2 | h2
  · exact .inr h2
  · obtain ⟨g1, g2⟩ := hM _ _ h2
    exact .inl (reach_mono g2 (by omega))
theorem orderRF_ok {ops : Array Oper} {qs : List Nat} {F : List (Nat × List Nat)} {M : List Nat} (hM : MasksOk ops M) (hl : M.length = ops.size) : ∀ {l pre : List Nat}, orderRF ops qs F M pre l = true → orderR ops qs F pre l = true
  | [], pre, _ => rfl
  | q :: l, pre, h => by
    rw [orderRF, Bool.and_eq_true, Bool.and_eq_true] at h
    rw [orderR, Bool.and_eq_true, Bool.and_eq_true]
    refine ⟨⟨h.1.1, ?_⟩, orderRF_ok hM hl h.2⟩
    rw [List.all_eq_true] at *
    exact fun r hr => pairRF_ok hM hl (h.1.2 r hr)
theorem drawnRF_ok {ops : Array Oper} {qs : List Nat} {F : List (Nat × List Nat)} {order : List Nat} (h : drawnRF ops qs F order = true) : drawnR ops qs F order = true := by
  unfold drawnRF at h
  unfold drawnR
  rw [Bool.and_eq_true] at h ⊢
  obtain ⟨g1, g2⟩ := masksL_ok (ops := ops) ops.toList [] [] rfl rfl (fun q p h => by simp at h)
  exact ⟨orderRF_ok g1 g2 h.1, h.2⟩
theorem readF_sound {P : Program} {T : TT} {K : LS → Prop} (hT : TOK P T) (hm : P.follows .mixedOrders = true) (bs : List Nat) (qs : List Nat) (F : List (Nat × List Nat)) (order : List Nat) {ops : Unit → Array Oper} {s : LS} (hd : drawnRF (ops ()) qs F order = true) (h : lopsR (fun _ => P) (fun _ => T) (ops ()) bs qs F order s K) : DrawF (fun _ => P) ops s K :=
  read_sound hT hm bs qs F order (drawnRF_ok hd) h
/-- Heaps that tell the same. -/
theorem re_same {n : Nat} {t : List LV} {h1 h : LH} (he : ∀ b B, hget h b = some B → hget h1 b = some B) : Re n ⟨t, h1, n⟩ ⟨t, h, n⟩ := by
  refine .mk fun c w c2 a w' hN hx hs => ⟨c2, hx, ⟨hs.tl, hs.tr, hs.df, ⟨fun b B hb => hs.hr.live b B (he b B hb), hs.hr.fresh, hs.hr.inj, hs.hr.noX, hs.hr.ltX, hs.hr.lt⟩, hs.nn⟩⟩
theorem renH_some {ρ : List (Nat × Nat)} {n0 n : Nat} : ∀ {h0 : LH} {a b : Nat} {A : LB}, hget h0 a = some A → rn ρ n0 n a = some b → ∃ B, hget (renH ρ n0 n h0) b = some B
  | [], _, _, _, h, _ => by cases h
  | (d, D) :: h0, a, b, A, h, hr => by
    rw [hget_cons] at h
    rw [renH]
    by_cases e : d = a
    · subst e
      rw [hr]
      exact ⟨_, by rw [hget_cons, if_pos rfl]⟩
    · rw [if_neg e] at h
      obtain ⟨B, hB⟩ := renH_some h hr
      cases hd : rn ρ n0 n d with
      | none => exact ⟨B, hB⟩
      | some d' =>
        dsimp only
        rw [hget_cons]
        by_cases e2 : d' = b
        · rw [if_pos e2]; exact ⟨_, rfl⟩
        · rw [if_neg e2]; exact ⟨B, hB⟩
theorem hdels_not : ∀ (ρ : List (Nat × Nat)) (h : LH) (b : Nat), nback ρ b = none → hget (hdels ρ h) b = hget h b
  | [], _, _, _ => rfl
  | (x, y) :: ρ, h, b, hn => by
    rw [nback_cons] at hn
    split at hn
    · cases hn
    · rename_i e
      rw [hdels, hget_del, if_neg (fun q => e q.symm)]
      exact hdels_not ρ h b hn
theorem nback_mem : ∀ {ρ : List (Nat × Nat)} {a b : Nat}, nback ρ b = some a → (a, b) ∈ ρ
  | [], _, _, h => by cases h
  | (x, y) :: ρ, a, b, h => by
    rw [nback_cons] at h
    split at h
    · rename_i e
      cases h
      subst e
      exact List.mem_cons_self
    · exact List.mem_cons_of_mem _ (nback_mem h)
theorem frameH_same {ρ : List (Nat × Nat)} {n0 n : Nat} {h h0 : LH} (hF : fok n0 n ρ = true) (hm : hmapOk ρ n0 n h h0) (hall : ρ.all (fun p => (hget h0 p.1).isSome) = true) : ∀ b B, hget h b = some B → hget (frameH ρ n0 n h h0) b = some B := by
  intro b B hb
  have hF' := fok_ok hF
  unfold frameH
  rw [hget_happ]
  cases e : hget (renH ρ n0 n h0) b with
  | some B' =>
    dsimp only
    obtain ⟨a, A, k1, k2, k3⟩ := hget_renH hF' h0 b B' e
    obtain ⟨b', g1, g2, _⟩ := hmapOk_get hm a A k2
    have : rn ρ n0 n a = some b' := by unfold rn; rw [g1]
    obtain rfl : b' = b := Option.some.inj (this.symm.trans k1)
    rw [k3]
    exact g2.symm.trans hb
  | none =>
    dsimp only
    cases en : nback ρ b with
    | none => rw [hdels_not ρ h b en]; exact hb
    | some a =>
      have hab := nback_mem en
      have := List.all_eq_true.1 hall _ hab
      obtain ⟨A, hA⟩ := Option.isSome_iff_exists.1 this
      obtain ⟨b', g1, _, _⟩ := hmapOk_get hm a A hA
      have hr : rn ρ n0 n a = some b := by
        unfold rn
        rw [(hF'.iff a b).2 en]
      obtain ⟨B', hB'⟩ := renH_some hA hr
      rw [e] at hB'; cases hB'
theorem callF_read {P : Unit → Program} {f : Nat} {args0 args : List LV} {h0 h : LH} {n0 n : Nat} {u0 u : LV} (hc : CallF P f args0 h0 n0 fun r h1 n1 => r = u0 ∧ h1 = h0 ∧ n1 = n0) (ρ : List (Nat × Nat)) (hF : fok n0 n ρ = true) (hm : hmapOk ρ n0 n h h0) (ha : args = renVs ρ n0 n args0) (hok : okVs ρ args0 = true) (hu : u = renV ρ n0 n u0) (hall : ρ.all (fun p => (hget h0 p.1).isSome) = true) : CallF P f args h n fun r h2 n2 => r = u ∧ h2 = h ∧ n2 = n := by
  refine CallF.ret (callF_frame (K := fun r h1 n1 => r = u ∧ h1 = frameH ρ n0 n h h0 ∧ n1 = n) hc ρ hF hm ha hok (fun r h' n' ⟨e1, e2, e3⟩ => ?_)) (fun r h' n' ⟨e1, e2, e3⟩ => ?_)
  · subst e1 e2 e3
    exact ⟨hu.symm, rfl, by omega⟩
  · subst e1 e2 e3
    exact .mk [r] h n' (re_same (frameH_same hF hm hall)) rfl ⟨rfl, rfl, rfl⟩
end Go.LX
/-
  Plain mathematics of texts: the runes of a string, its lines, and numbers of one to four digits.
-/
namespace Go.Proofs.YtfjdifeofnpcnaaDoor

/-- The runes that ranging over s tells from place pos on, in at most f rounds. -/
def runesFrom (s : ByteArray) : Nat → Nat → List Nat
  | 0, _ => []
  | f + 1, pos => if pos < s.size then (Utf8.decode s pos).1 :: runesFrom s f (pos + (Utf8.decode s pos).2) else []
def runesOf (s : ByteArray) : List Nat := runesFrom s s.size 0

theorem width_pos (s : ByteArray) (pos : Nat) (h : pos < s.size) : 1 ≤ (Utf8.decode s pos).2 := by
  by_cases ha : (s[pos]'h).toNat < 128
  · rw [decode_ascii s pos h ha]; exact Nat.le_refl _
  · exact (decode_high s pos h (by omega)).2
theorem runesFrom_end (s : ByteArray) (f pos : Nat) (h : ¬ pos < s.size) : runesFrom s f pos = [] := by
  cases f with
  | zero => rfl
  | succ f => rw [runesFrom, if_neg h]
theorem runesFrom_next (s : ByteArray) (f pos : Nat) (h : pos < s.size) : runesFrom s (f + 1) pos = (Utf8.decode s pos).1 :: runesFrom s f (pos + (Utf8.decode s pos).2) := by
  rw [runesFrom, if_pos h]

/-- May a sign not stand in a text? -/
def badR (c : Nat) : Bool := decide (c ≠ 10 ∧ (c < 32 ∨ 126 < c))
def wrongs (l : List Nat) : Nat := l.countP badR

theorem wrongs_snoc (l : List Nat) (c : Nat) : wrongs (l ++ [c]) = wrongs l + if badR c then 1 else 0 := by
  simp [wrongs, List.countP_append, List.countP_cons]
theorem wrongs_le (l : List Nat) : wrongs l ≤ l.length := List.countP_le_length
theorem runesFrom_length (s : ByteArray) (f : Nat) : ∀ pos, (runesFrom s f pos).length ≤ s.size - pos := by
  induction f with
  | zero => intro pos; simp [runesFrom]
  | succ f ih =>
    intro pos
    by_cases h : pos < s.size
    · rw [runesFrom_next s f pos h, List.length_cons]
      have := ih (pos + (Utf8.decode s pos).2)
      have := width_pos s pos h
      omega
    · rw [runesFrom_end s _ pos h]; simp

/-- Where no rune is wrong, they are just the bytes. -/
theorem runes_bytes (s : ByteArray) (f : Nat) : ∀ pos, s.size ≤ pos + f → wrongs (runesFrom s f pos) = 0 → runesFrom s f pos = (s.data.toList.drop pos).map UInt8.toNat := by
  induction f with
  | zero =>
    intro pos h _
    have h2 : s.data.toList.length ≤ pos := by simpa using h
    rw [List.drop_eq_nil_of_le h2]; rfl
  | succ f ih =>
    intro pos h hw
    by_cases hp : pos < s.size
    · rw [runesFrom_next s f pos hp] at hw ⊢
      have hb : badR (Utf8.decode s pos).1 = false := by
        simp only [wrongs, List.countP_cons] at hw
        by_cases hh : badR (Utf8.decode s pos).1 = true
        · rw [if_pos hh] at hw; omega
        · simpa using hh
      have hw2 : wrongs (runesFrom s f (pos + (Utf8.decode s pos).2)) = 0 := by
        simp only [wrongs, List.countP_cons] at hw ⊢
        omega
      have ha : (s[pos]'hp).toNat < 128 := by
        rcases Nat.lt_or_ge (s[pos]'hp).toNat 128 with h1 | h1
        · exact h1
        · have := (decode_high s pos hp h1).1
          simp only [badR, decide_eq_false_iff_not] at hb
          omega
      rw [decode_ascii s pos hp ha] at hw2 ⊢
      have hp2 : pos < s.data.toList.length := by simpa using hp
      rw [List.drop_eq_getElem_cons hp2, List.map_cons, ih (pos + 1) (by omega) hw2]
      rfl
    · rw [runesFrom_end s _ pos hp]
      have h2 : s.data.toList.length ≤ pos := by simpa using hp
      rw [List.drop_eq_nil_of_le h2]; rfl

/-- One sign of a text that may be: the lines so far, and the one that is being read. -/
def partStep (st : List (List UInt8) × List UInt8) (c : UInt8) : List (List UInt8) × List UInt8 :=
  if c = 10 then (if st.2 = [] then st.1 else st.1 ++ [st.2], []) else if c = 32 then st else (st.1, st.2 ++ [c])
def partsOf (l : List UInt8) : List (List UInt8) × List UInt8 := l.foldl partStep ([], [])
def closed (st : List (List UInt8) × List UInt8) : List (List UInt8) := if st.2 = [] then st.1 else st.1 ++ [st.2]
/-- What Lines answers: the lines, and the reason for a refusal. -/
def linesV (s : ByteArray) : List (List UInt8) × Int :=
  if 2000 < (runesOf s).length then ([], 3)
  else if 0 < wrongs (runesOf s) then ([], 4)
  else if (closed (partsOf s.data.toList)).length = 0 then ([], 7)
  else if 60 < (closed (partsOf s.data.toList)).length then ([], 3)
  else (closed (partsOf s.data.toList), 0)

theorem parts_snoc (l : List UInt8) (c : UInt8) : partsOf (l ++ [c]) = partStep (partsOf l) c := by simp [partsOf]
theorem parts_le (l : List UInt8) : (partsOf l).1.length + (partsOf l).2.length ≤ l.length := by
  suffices h : ∀ (l : List UInt8) (st : List (List UInt8) × List UInt8), (l.foldl partStep st).1.length + (l.foldl partStep st).2.length ≤ st.1.length + st.2.length + l.length by
    simpa [partsOf] using h l ([], [])
  intro l
  induction l with
  | nil => intro st; simp
  | cons c l ih =>
    intro st
    simp only [List.foldl_cons, List.length_cons]
    refine Nat.le_trans (ih _) ?_
    unfold partStep
    split
    · split
      · simp; omega
      · rename_i hne
        have : 0 < st.2.length := List.length_pos_iff.2 hne
        simp; omega
    · split
      · omega
      · simp; omega

/-- The number that digits tell. -/
def numL (l : List Nat) : Int := l.foldl (fun (n : Int) (c : Nat) => 10 * n + ((c : Int) - 48)) 0
def isDig (c : Nat) : Bool := decide (48 ≤ c ∧ c ≤ 57)
end Go.Proofs.YtfjdifeofnpcnaaDoor
/-
  Plain mathematics of three texts: one sign behind an 'a'; so many 'a'; so many lines of an 'x'.
-/
namespace Go.Proofs.YtfjdifeofnpcnaaDoor

theorem runes_ascii (s : ByteArray) (hA : ∀ i (h : i < s.size), (s[i]'h).toNat < 128) (f : Nat) : ∀ pos, s.size ≤ pos + f → runesFrom s f pos = (s.data.toList.drop pos).map UInt8.toNat := by
  induction f with
  | zero =>
    intro pos h
    have h2 : s.data.toList.length ≤ pos := by simpa using h
    rw [List.drop_eq_nil_of_le h2]; rfl
  | succ f ih =>
    intro pos h
    by_cases hp : pos < s.size
    · rw [runesFrom_next s f pos hp, decode_ascii s pos hp (hA pos hp)]
      have hp2 : pos < s.data.toList.length := by simpa using hp
      rw [List.drop_eq_getElem_cons hp2, List.map_cons, ih (pos + 1) (by omega)]
      rfl
    · rw [runesFrom_end s _ pos hp]
      have h2 : s.data.toList.length ≤ pos := by simpa using hp
      rw [List.drop_eq_nil_of_le h2]; rfl

def bytesOfL (l : List UInt8) : ByteArray := ⟨l.toArray⟩
theorem runesOf_ascii (l : List UInt8) (hA : ∀ c ∈ l, c.toNat < 128) : runesOf (bytesOfL l) = l.map UInt8.toNat := by
  unfold runesOf
  rw [runes_ascii (bytesOfL l) (fun i h => hA _ ?_) _ 0 (by omega)]
  · simp [bytesOfL]
  · have h2 : i < l.length := by simpa [bytesOfL, ByteArray.size] using h
    have e : (bytesOfL l)[i]'h = l[i]'h2 := by simp [bytesOfL, ByteArray.getElem_eq_getElem_data]
    rw [e]
    exact List.getElem_mem h2

theorem enc_high (c : Int) (h : 128 ≤ c) : ∃ b r, (Utf8.encode c).data.toList = b :: r ∧ 128 ≤ b.toNat ∧ r.length ≤ 3 := by
  have key : ∀ n : Nat, 128 ≤ n → n ≤ 1114111 → ∃ b r, (if n < 0x80 then (⟨#[UInt8.ofNat n]⟩ : ByteArray) else if n < 0x800 then ⟨#[UInt8.ofNat (0xC0 + n / 64), UInt8.ofNat (0x80 + n % 64)]⟩
      else if n < 0x10000 then ⟨#[UInt8.ofNat (0xE0 + n / 4096), UInt8.ofNat (0x80 + n / 64 % 64), UInt8.ofNat (0x80 + n % 64)]⟩
      else ⟨#[UInt8.ofNat (0xF0 + n / 262144), UInt8.ofNat (0x80 + n / 4096 % 64), UInt8.ofNat (0x80 + n / 64 % 64), UInt8.ofNat (0x80 + n % 64)]⟩).data.toList = b :: r ∧ 128 ≤ b.toNat ∧ r.length ≤ 3 := by
    intro n h1 h2
    rw [if_neg (by omega)]
    by_cases h3 : n < 0x800
    · rw [if_pos h3]
      exact ⟨_, _, rfl, by rw [UInt8.toNat_ofNat']; omega, by simp⟩
    rw [if_neg h3]
    by_cases h4 : n < 0x10000
    · rw [if_pos h4]
      exact ⟨_, _, rfl, by rw [UInt8.toNat_ofNat']; omega, by simp⟩
    · rw [if_neg h4]
      exact ⟨_, _, rfl, by rw [UInt8.toNat_ofNat']; omega, by simp⟩
  unfold Utf8.encode
  by_cases hv : Utf8.valid c = true
  · simp only [hv, if_true]
    have hv2 : c ≤ 1114111 := by simp [Utf8.valid] at hv; omega
    exact key _ (by omega) (by omega)
  · simp only [hv]
    exact key Utf8.runeError (by decide) (by decide)

def mayB (c : Int) : Bool := decide (c = 10 ∨ (32 ≤ c ∧ c ≤ 126))
theorem sign_low : ∀ c : Fin 128, (linesV (bytesOfL (97 :: (Utf8.encode (c.val : Int)).data.toList))).2 = if mayB (c.val : Int) then 0 else 4 := by decide +kernel
theorem sign_any (c : Int) (h : 0 ≤ c) : (linesV (bytesOfL (97 :: (Utf8.encode c).data.toList))).2 = if mayB c then 0 else 4 := by
  by_cases hc : c < 128
  · have := sign_low ⟨c.toNat, by omega⟩
    simp only at this
    rwa [Int.toNat_of_nonneg h] at this
  · obtain ⟨b, r, e, hb, hr⟩ := enc_high c (by omega)
    have hm : mayB c = false := by simp [mayB]; omega
    rw [hm, e]
    have hsz : (bytesOfL (97 :: b :: r)).size = r.length + 2 := by simp [bytesOfL, ByteArray.size]
    have hl := runesFrom_length (bytesOfL (97 :: b :: r)) (bytesOfL (97 :: b :: r)).size 0
    have hw : 0 < wrongs (runesOf (bytesOfL (97 :: b :: r))) := by
      have e0 : (bytesOfL (97 :: b :: r))[0]'(by omega) = 97 := by simp [bytesOfL, ByteArray.getElem_eq_getElem_data]
      have e1 : (bytesOfL (97 :: b :: r))[1]'(by omega) = b := by simp [bytesOfL, ByteArray.getElem_eq_getElem_data]
      have d0 : Utf8.decode (bytesOfL (97 :: b :: r)) 0 = (97, 1) := by rw [decode_ascii _ 0 (by omega) (by rw [e0]; decide), e0]; rfl
      have d1 := (decode_high (bytesOfL (97 :: b :: r)) 1 (by omega) (by rw [e1]; exact hb)).1
      unfold runesOf
      rw [hsz, runesFrom_next _ _ 0 (by omega), d0, runesFrom_next _ _ _ (by show 0 + 1 < _; omega)]
      have hbad : badR (Utf8.decode (bytesOfL (97 :: b :: r)) (0 + 1)).1 = true := by simp [badR]; omega
      simp [wrongs, hbad]
    rw [linesV, if_neg (by unfold runesOf; omega), if_pos hw]
    rfl

theorem parts_as (n : Nat) : partsOf (List.replicate n 97) = ([], List.replicate n 97) := by
  induction n with
  | zero => rfl
  | succ n ih => rw [List.replicate_succ', parts_snoc, ih]; rfl
theorem long_any (n : Nat) (h : 0 < n) : (linesV (bytesOfL (List.replicate n 97))).2 = if n ≤ 2000 then 0 else 3 := by
  have hr : runesOf (bytesOfL (List.replicate n 97)) = List.replicate n 97 := by
    rw [runesOf_ascii _ (by intro c hc; rw [List.eq_of_mem_replicate hc]; decide), List.map_replicate]; rfl
  have hw : wrongs (List.replicate n 97) = 0 := by
    rw [wrongs, List.countP_eq_zero]
    intro c hc
    rw [List.eq_of_mem_replicate hc]; decide
  have hd : (bytesOfL (List.replicate n 97)).data.toList = List.replicate n 97 := by simp [bytesOfL]
  have hcl : closed (partsOf (List.replicate n 97)) = [List.replicate n 97] := by
    rw [parts_as, closed, if_neg (by cases n with | zero => omega | succ n => simp [List.replicate_succ])]; rfl
  rw [linesV, hr, hw, hd, hcl, List.length_replicate]
  by_cases h2 : n ≤ 2000
  · rw [if_neg (by omega), if_neg (by omega), if_neg (by simp), if_neg (by simp), if_pos h2]
  · rw [if_pos (by omega), if_neg h2]

/-- So many lines of an 'x'. -/
def xs : Nat → List UInt8
  | 0 => []
  | n + 1 => xs n ++ [120, 10]
theorem xs_length (n : Nat) : (xs n).length = 2 * n := by
  induction n with
  | zero => rfl
  | succ n ih => rw [xs, List.length_append, ih]; simp; omega
theorem xs_mem (n : Nat) : ∀ c ∈ xs n, c = 120 ∨ c = 10 := by
  induction n with
  | zero => intro c hc; exact absurd hc (by simp [xs])
  | succ n ih =>
    intro c hc
    rw [xs, List.mem_append] at hc
    rcases hc with hc | hc
    · exact ih c hc
    · simpa using hc
theorem parts_xs (n : Nat) : partsOf (xs n) = (List.replicate n [120], []) := by
  induction n with
  | zero => rfl
  | succ n ih =>
    rw [xs, show xs n ++ [120, 10] = (xs n ++ [120]) ++ [10] by simp, parts_snoc, parts_snoc, ih, List.replicate_succ']
    rfl
theorem many_any (n : Nat) (h : 0 < n) (h2 : n ≤ 1000) : (linesV (bytesOfL (xs n))).2 = if n ≤ 60 then 0 else 3 := by
  have hr : runesOf (bytesOfL (xs n)) = (xs n).map UInt8.toNat := runesOf_ascii _ (by
    intro c hc
    rcases xs_mem n c hc with rfl | rfl <;> decide)
  have hw : wrongs ((xs n).map UInt8.toNat) = 0 := by
    rw [wrongs, List.countP_eq_zero]
    intro c hc
    obtain ⟨d, hd, rfl⟩ := List.mem_map.1 hc
    rcases xs_mem n d hd with rfl | rfl <;> decide
  have hd : (bytesOfL (xs n)).data.toList = xs n := by simp [bytesOfL]
  have hcl : closed (partsOf (xs n)) = List.replicate n [120] := by rw [parts_xs]; rfl
  rw [linesV, hr, hw, hd, hcl, List.length_replicate, List.length_map, xs_length]
  rw [if_neg (by omega), if_neg (by omega), if_neg (by omega)]
  by_cases h3 : n ≤ 60
  · rw [if_neg (by omega), if_pos h3]
  · rw [if_pos (by omega), if_neg h3]
end Go.Proofs.YtfjdifeofnpcnaaDoor
/-
  Plain mathematics of lines joined, with blanks and empty lines between.
-/
namespace Go.Proofs.YtfjdifeofnpcnaaDoor

def segA (n : Nat) : List UInt8 := if n = 0 then [] else if n = 1 then [32] else if n = 2 then [10] else if n = 3 then [10, 32, 32, 10] else [32, 32, 32]
def segB (n : Nat) : List UInt8 := if n = 0 then [10] else if n = 1 then [32, 10] else if n = 2 then [10, 10] else if n = 3 then [10, 32] else [10]
def addL (ls : List (List UInt8)) (x : List UInt8) : List (List UInt8) := if x = [] then ls else ls ++ [x]
def Clean (x : List UInt8) : Prop := ∀ c ∈ x, 33 ≤ c.toNat ∧ c.toNat ≤ 126

theorem parts_append (a b : List UInt8) : partsOf (a ++ b) = b.foldl partStep (partsOf a) := by simp [partsOf]
theorem fold_line (ls : List (List UInt8)) (x : List UInt8) (hx : Clean x) : ∀ cur, x.foldl partStep (ls, cur) = (ls, cur ++ x) := by
  induction x with
  | nil => intro cur; simp
  | cons c x ih =>
    intro cur
    have hc := hx c (by simp)
    have h10 : c ≠ 10 := by rintro rfl; exact absurd hc.1 (by decide)
    have h32 : c ≠ 32 := by rintro rfl; exact absurd hc.1 (by decide)
    rw [List.foldl_cons, show partStep (ls, cur) c = (ls, cur ++ [c]) by rw [partStep, if_neg h10, if_neg h32], ih (fun d hd => hx d (by simp [hd]))]
    simp
theorem fold_a (ls : List (List UInt8)) (n : Nat) : (segA n).foldl partStep (ls, []) = (ls, []) := by
  unfold segA
  repeat' split
  all_goals rfl
theorem fold_b (ls : List (List UInt8)) (x : List UInt8) (n : Nat) : (segB n).foldl partStep (ls, x) = (addL ls x, []) := by
  unfold segB addL
  repeat' split
  all_goals (subst_vars; simp_all [partStep])
/-- One more line behind what was joined. -/
theorem join_step (s x : List UInt8) (ls : List (List UInt8)) (n : Nat) (h : partsOf s = (ls, [])) (hx : Clean x) : partsOf (s ++ segA n ++ x ++ segB n) = (addL ls x, []) := by
  rw [parts_append, parts_append, parts_append, h, fold_a, fold_line _ _ hx, fold_b]
  rfl

def Good8 (s : List UInt8) : Prop := ∀ c ∈ s, c.toNat = 10 ∨ (32 ≤ c.toNat ∧ c.toNat ≤ 126)
theorem good_a (n : Nat) : Good8 (segA n) := by
  unfold segA Good8
  repeat' split
  all_goals decide
theorem good_b (n : Nat) : Good8 (segB n) := by
  unfold segB Good8
  repeat' split
  all_goals decide
theorem good_app {a b : List UInt8} (ha : Good8 a) (hb : Good8 b) : Good8 (a ++ b) := by
  intro c hc
  rw [List.mem_append] at hc
  exact hc.elim (ha c) (hb c)
theorem good_clean {x : List UInt8} (h : Clean x) : Good8 x := fun c hc => .inr ⟨by have := (h c hc).1; omega, (h c hc).2⟩
theorem seg_le (n : Nat) : (segA n).length ≤ 4 ∧ (segB n).length ≤ 2 := by
  unfold segA segB
  constructor
  · repeat' split
    all_goals simp
  · repeat' split
    all_goals simp

theorem joined (s : List UInt8) (ls : List (List UInt8)) (h : partsOf s = (ls, [])) (hg : Good8 s) (hlen : s.length ≤ 2000) (hl : ls.length ≤ 60) : linesV (bytesOfL s) = if ls.length = 0 then ([], 7) else (ls, 0) := by
  have hr : runesOf (bytesOfL s) = s.map UInt8.toNat := runesOf_ascii _ (by intro c hc; rcases hg c hc with h | h <;> omega)
  have hw : wrongs (s.map UInt8.toNat) = 0 := by
    rw [wrongs, List.countP_eq_zero]
    intro c hc
    obtain ⟨d, hd, rfl⟩ := List.mem_map.1 hc
    have := hg d hd
    simp only [badR, decide_eq_true_eq]
    omega
  have hd : (bytesOfL s).data.toList = s := by simp [bytesOfL]
  have hcl : closed (partsOf s) = ls := by rw [h]; simp [closed]
  rw [linesV, hr, hw, hd, hcl, List.length_map, if_neg (by omega), if_neg (by omega)]
  by_cases h0 : ls.length = 0
  · rw [if_pos h0, if_pos h0]
  · rw [if_neg h0, if_neg h0, if_neg (by omega)]

/-- The line that is made of a string: so many of its bytes, each moved among the signs from 33 to 126. -/
def sgn (b : UInt8) : UInt8 := UInt8.ofNat (33 + b.toNat % 94)
def mkLine (b : List UInt8) : List UInt8 := (b.take 30).map sgn
theorem sgn_toNat (b : UInt8) : (sgn b).toNat = 33 + b.toNat % 94 := by unfold sgn; rw [UInt8.toNat_ofNat']; omega
theorem line_clean (b : List UInt8) : Clean (mkLine b) := by
  intro c hc
  obtain ⟨d, _, rfl⟩ := List.mem_map.1 hc
  rw [sgn_toNat]; omega
theorem line_le (b : List UInt8) : (mkLine b).length ≤ 30 := by unfold mkLine; rw [List.length_map]; exact List.length_take_le _ _
end Go.Proofs.YtfjdifeofnpcnaaDoor
/-
  Plain mathematics of layer 2: what a line says, sign by sign and part by part.
-/
namespace Go.Proofs.YtfjdifeofnpcnaaDoor

structure Cs where
  k : Int
  ch : Int
  reg : Int
  to : Int
structure Is where
  op : Int
  a : Int
  b : Int
  n : Int
  cs : List Cs
structure F3 where
  a : Int
  b : Int
  n : Int
def isD (c : UInt8) : Bool := decide (48 ≤ c.toNat ∧ c.toNat ≤ 57)
def numB (l : List UInt8) : Int := l.foldl (fun (n : Int) c => 10 * n + ((c.toNat : Int) - 48)) 0
def numO (l : List UInt8) : Option Int := if l = [] ∨ 4 < l.length ∨ l.all isD = false then none else some (numB l)
def regO (c : UInt8) : Option Int := if 97 ≤ c.toNat ∧ c.toNat ≤ 102 then some ((c.toNat : Int) - 97) else none
def regT : List UInt8 → Option Int
  | [] => none
  | c :: _ => regO c
def glue (c : UInt8) : List (List UInt8) → List (List UInt8)
  | (d :: t) :: ts => if isD c = true ∧ isD d = true then (c :: d :: t) :: ts else [c] :: (d :: t) :: ts
  | ts => [c] :: ts
def toks : List UInt8 → List (List UInt8)
  | [] => []
  | c :: l => glue c (toks l)
def idxOf (c : UInt8) : List UInt8 → Int → Int
  | [], _ => 0
  | d :: l, i => if c = d then i else idxOf c l (i + 1)
/-- =<+msrclkgjzotbuwpqfSx -/
def signsL : List UInt8 := [61, 60, 43, 109, 115, 114, 99, 108, 107, 103, 106, 122, 111, 116, 98, 117, 119, 112, 113, 102, 83, 120]
def opV : List UInt8 → Int
  | [c] => idxOf c signsL 1
  | _ => 0
def caseV : List UInt8 → Int
  | [c] => if c = 115 then 1 else if c = 114 then 2 else if c = 101 then 3 else 0
  | _ => 0
def shapeV (op : Int) : List UInt8 :=
  if op = 2 ∨ op = 3 ∨ op = 5 ∨ op = 6 ∨ op = 8 ∨ op = 9 ∨ op = 15 ∨ op = 16 ∨ op = 17 then [97, 98]
  else if op = 1 ∨ op = 4 ∨ op = 12 ∨ op = 14 ∨ op = 19 ∨ op = 20 then [97, 110]
  else if op = 10 ∨ op = 11 then [110]
  else if op = 7 ∨ op = 13 then [97]
  else if op = 18 then [100, 97] else []
def cshape (k : Int) : List UInt8 := if k = 3 then [110] else [97, 98, 110]
def F3.set (f : F3) (k : UInt8) (v : Int) : F3 := if k = 97 then { f with a := v } else if k = 98 then { f with b := v } else { f with n := v }
def F3.get (f : F3) (k : UInt8) : Int := if k = 97 then f.a else if k = 98 then f.b else f.n
def F3.zero : F3 := ⟨0, 0, 0⟩
def partV (k : UInt8) (t : List UInt8) : Option Int :=
  if k = 97 ∨ k = 98 then regT t else if k = 100 ∧ t.length ≠ 1 then none else numO t
def readP : List UInt8 → List (List UInt8) → F3 → Option (F3 × List (List UInt8))
  | [], p, f => some (f, p)
  | _ :: _, [], _ => none
  | k :: ks, t :: p, f => match partV k t with
    | none => none
    | some v => readP ks p (f.set k v)
def readO (sh : List UInt8) (p : List (List UInt8)) : Option F3 := if p.length = sh.length then (readP sh p .zero).map (·.1) else none
def casesP : Nat → List (List UInt8) → List Cs → Option (List Cs)
  | 0, _, _ => none
  | _ + 1, [], acc => if acc.isEmpty then none else some acc
  | n + 1, t :: p, acc => if caseV t = 0 then none else match readP (cshape (caseV t)) p .zero with
    | none => none
    | some (f, q) => if caseV t = 3 ∧ q.isEmpty = false then none else casesP n q (acc ++ [⟨caseV t, f.a, f.b, f.n⟩])
def decO (l : List UInt8) : Option Is :=
  match toks l with
  | [] => none
  | t :: ts => if opV t = 0 then none else if opV t = 21 then (casesP (l.length + 1) ts []).map (fun cs => ⟨21, 0, 0, 0, cs⟩)
    else (readO (shapeV (opV t)) ts).map fun f => ⟨opV t, f.a, f.b, f.n, []⟩

/-! ### the same, sign by sign -/
def lead (s : List UInt8) : List UInt8 := s.takeWhile isD
def tail (s : List UInt8) : List UInt8 := s.dropWhile isD
def takeF (k : UInt8) (s : List UInt8) : Option (Int × List UInt8) :=
  if k = 97 ∨ k = 98 then match s with
    | [] => none
    | c :: s' => (regO c).map fun v => (v, s')
  else if k = 100 then match s with
    | [] => none
    | c :: s' => (numO [c]).map fun v => (v, s')
  else (numO (lead s)).map fun v => (v, tail s)
def rdB : List UInt8 → List UInt8 → F3 → Option (F3 × List UInt8)
  | [], s, f => some (f, s)
  | k :: ks, s, f => match takeF k s with
    | none => none
    | some (v, s') => rdB ks s' (f.set k v)
def choiceB : Nat → List UInt8 → List Cs → Option (List Cs)
  | 0, _, _ => none
  | _ + 1, [], acc => if acc.isEmpty then none else some acc
  | n + 1, c :: s, acc => if caseV [c] = 0 then none else match rdB (cshape (caseV [c])) s .zero with
    | none => none
    | some (f, q) => if caseV [c] = 3 ∧ q.isEmpty = false then none else choiceB n q (acc ++ [⟨caseV [c], f.a, f.b, f.n⟩])
def endB : Option (F3 × List UInt8) → Option F3
  | some (f, []) => some f
  | _ => none
def decB : List UInt8 → Option Is
  | [] => none
  | c :: s => if opV [c] = 0 then none else if opV [c] = 21 then (choiceB (s.length + 2) s []).map (fun cs => ⟨21, 0, 0, 0, cs⟩)
    else (endB (rdB (shapeV (opV [c])) s .zero)).map fun f => ⟨opV [c], f.a, f.b, f.n, []⟩

theorem toks_cons (c : UInt8) (l : List UInt8) : ∃ t ts, toks (c :: l) = (c :: t) :: ts := by
  show ∃ t ts, glue c (toks l) = _
  unfold glue
  split
  · split
    · exact ⟨_, _, rfl⟩
    · exact ⟨_, _, rfl⟩
  · exact ⟨_, _, rfl⟩
theorem toks_nd (c : UInt8) (l : List UInt8) (h : isD c = false) : toks (c :: l) = [c] :: toks l := by
  show glue c (toks l) = _
  unfold glue
  split
  · rw [if_neg (by rw [h]; simp)]; simp_all
  · rfl
theorem toks_eq_nil {l : List UInt8} (h : toks l = []) : l = [] := by
  cases l with
  | nil => rfl
  | cons c l => obtain ⟨t, ts, e⟩ := toks_cons c l; rw [e] at h; cases h
theorem toks_dig (d : List UInt8) (r : List UInt8) (hd : ∀ c ∈ d, isD c = true) (h0 : d ≠ []) (hr : ∀ c, r.head? = some c → isD c = false) : toks (d ++ r) = d :: toks r := by
  induction d with
  | nil => exact absurd rfl h0
  | cons c d ih =>
    have hc := hd c (by simp)
    cases d with
    | nil =>
      show glue c (toks r) = _
      cases r with
      | nil => rfl
      | cons e r =>
        obtain ⟨t, ts, h⟩ := toks_cons e r
        have := hr e rfl
        rw [h]
        show (if isD c = true ∧ isD e = true then _ else _) = _
        rw [if_neg (by rw [this]; simp)]
    | cons c2 d =>
      have h2 := ih (fun x hx => hd x (by simp [hx])) (by simp)
      show glue c (toks (c2 :: d ++ r)) = _
      rw [h2]
      show (if isD c = true ∧ isD c2 = true then _ else _) = _
      rw [if_pos ⟨hc, hd c2 (by simp)⟩]
theorem lead_tail (s : List UInt8) : lead s ++ tail s = s := List.takeWhile_append_dropWhile
theorem lead_dig (s : List UInt8) : ∀ c ∈ lead s, isD c = true := by
  induction s with
  | nil => simp [lead]
  | cons c s ih =>
    unfold lead
    rw [List.takeWhile_cons]
    split
    · intro d hd
      rcases List.mem_cons.1 hd with rfl | hd
      · assumption
      · exact ih d hd
    · simp
theorem tail_head (s : List UInt8) : ∀ c, (tail s).head? = some c → isD c = false := by
  induction s with
  | nil => simp [tail]
  | cons c s ih =>
    unfold tail
    rw [List.dropWhile_cons]
    split
    · exact ih
    · intro d hd
      simp at hd
      subst hd
      simp_all
theorem toks_lead (s : List UInt8) (h : lead s ≠ []) : toks s = lead s :: toks (tail s) := by
  have := toks_dig (lead s) (tail s) (lead_dig s) h (tail_head s)
  rwa [lead_tail] at this
theorem lead_nd (c : UInt8) (s : List UInt8) (h : isD c = false) : lead (c :: s) = [] := by unfold lead; rw [List.takeWhile_cons, h]; rfl
theorem lead_d (c : UInt8) (s : List UInt8) (h : isD c = true) : lead (c :: s) = c :: lead s := by unfold lead; rw [List.takeWhile_cons, h]; rfl
theorem regO_nd {c : UInt8} {v : Int} (h : regO c = some v) : isD c = false := by
  unfold regO at h
  split at h
  · simp [isD]; omega
  · cases h
theorem numO_nil : numO [] = none := by rw [numO, if_pos (.inl rfl)]
theorem numO_nd (c : UInt8) (t : List UInt8) (h : isD c = false) : numO (c :: t) = none := by
  rw [numO, if_pos (.inr (.inr (by simp [h])))]
theorem readP_len : ∀ (sh : List UInt8) (p : List (List UInt8)) (f f' : F3) (q : List (List UInt8)), readP sh p f = some (f', q) → p.length = sh.length + q.length
  | [], p, f, f', q, h => by rw [readP] at h; simp at h; simp [h.2]
  | k :: ks, [], f, f', q, h => by rw [readP] at h; cases h
  | k :: ks, t :: p, f, f', q, h => by
    rw [readP] at h
    split at h
    · cases h
    · have := readP_len ks p _ f' q h
      simp only [List.length_cons]; omega
theorem readP_toks : ∀ (ks : List UInt8) (s : List UInt8) (f : F3), (∀ k ∈ ks, k ≠ 100) → readP ks (toks s) f = (rdB ks s f).map fun x => (x.1, toks x.2)
  | [], s, f, _ => rfl
  | k :: ks, s, f, h => by
    have h100 : k ≠ 100 := h k (by simp)
    have ih := fun s f => readP_toks ks s f (fun x hx => h x (by simp [hx]))
    rw [rdB]
    by_cases hk : k = 97 ∨ k = 98
    · cases s with
      | nil => rw [takeF, if_pos hk]; rfl
      | cons c s =>
        rw [takeF, if_pos hk]
        obtain ⟨t, ts, e⟩ := toks_cons c s
        cases hc : regO c with
        | none =>
          rw [e, readP, partV, if_pos hk, regT, hc]; rfl
        | some v =>
          rw [toks_nd c s (regO_nd hc), readP, partV, if_pos hk, regT, hc]
          exact ih s _
    · rw [show takeF k s = (numO (lead s)).map fun v => (v, tail s) by unfold takeF; rw [if_neg hk, if_neg h100]]
      by_cases hl : lead s = []
      · rw [hl, numO_nil]
        cases s with
        | nil => rfl
        | cons c s =>
          have hc : isD c = false := by
            cases hd : isD c with
            | false => rfl
            | true => rw [lead_d c s hd] at hl; cases hl
          rw [toks_nd c s hc, readP, partV, if_neg hk, if_neg (fun x => h100 x.1), numO_nd c [] hc]; rfl
      · rw [toks_lead s hl, readP, partV, if_neg hk, if_neg (fun x => h100 x.1)]
        cases hn : numO (lead s) with
        | none => rfl
        | some v => exact ih _ _
theorem readO_end (ks s : List UInt8) (h : ∀ f, readP ks (toks s) f = (rdB ks s f).map fun x => (x.1, toks x.2)) : readO ks (toks s) = endB (rdB ks s .zero) := by
  rw [readO]
  cases e : rdB ks s .zero with
  | none =>
    rw [h, e]
    split <;> rfl
  | some x =>
    obtain ⟨f, q⟩ := x
    have e2 : readP ks (toks s) .zero = some (f, toks q) := by rw [h, e]; rfl
    have hl := readP_len _ _ _ _ _ e2
    rw [e2]
    cases q with
    | nil => rw [if_pos (by rw [hl]; rfl)]; rfl
    | cons c q =>
      obtain ⟨t, ts, e3⟩ := toks_cons c q
      rw [if_neg (by rw [hl, e3]; simp)]; rfl
theorem readO_put (s : List UInt8) : readO [100, 97] (toks s) = endB (rdB [100, 97] s .zero) := by
  have none_of : readP [100, 97] (toks s) .zero = none → readO [100, 97] (toks s) = none := by
    intro h; rw [readO, h]; split <;> rfl
  cases s with
  | nil => rfl
  | cons c s =>
    rw [rdB, takeF, if_neg (by decide), if_pos rfl]
    cases hd : isD c with
    | false =>
      rw [numO_nd c [] hd, none_of (by rw [toks_nd c s hd, readP, partV, if_neg (by decide), if_neg (by simp), numO_nd c [] hd])]
      rfl
    | true =>
      have hn : ∃ v, numO [c] = some v := by rw [numO, if_neg (by simp [hd])]; exact ⟨_, rfl⟩
      obtain ⟨v, hv⟩ := hn
      rw [hv]
      cases s with
      | nil => rfl
      | cons c2 s =>
        cases hd2 : isD c2 with
        | true =>
          have hr2 : regO c2 = none := by
            cases hr : regO c2 with
            | none => rfl
            | some w => rw [regO_nd hr] at hd2; cases hd2
          obtain ⟨t, ts, e⟩ := toks_cons c2 s
          have e2 : toks (c :: c2 :: s) = (c :: c2 :: t) :: ts := by
            show glue c (toks (c2 :: s)) = _
            rw [e]
            show (if isD c = true ∧ isD c2 = true then _ else _) = _
            rw [if_pos ⟨hd, hd2⟩]
          rw [none_of (by rw [e2, readP, partV, if_neg (by decide), if_pos ⟨rfl, by simp⟩])]
          show none = endB (rdB [97] (c2 :: s) _)
          rw [rdB, takeF, if_pos (.inl rfl)]
          simp only [hr2]; rfl
        | false =>
          have e2 : toks (c :: c2 :: s) = [c] :: toks (c2 :: s) := by
            have := toks_dig [c] (c2 :: s) (by simp [hd]) (by simp) (by simp [hd2])
            exact this
          show readO [100, 97] (toks (c :: c2 :: s)) = endB (rdB [97] (c2 :: s) _)
          have h3 := readP_toks [97] (c2 :: s) (F3.zero.set 100 v) (by decide)
          have h5 : readP [100, 97] ([c] :: toks (c2 :: s)) .zero = readP [97] (toks (c2 :: s)) (F3.zero.set 100 v) := by
            rw [readP, partV, if_neg (by decide), if_neg (by simp), hv]
          rw [readO, e2, h5]
          cases e : rdB [97] (c2 :: s) (F3.zero.set 100 v) with
          | none => rw [h3, e]; split <;> rfl
          | some x =>
            obtain ⟨f, q⟩ := x
            have e4 : readP [97] (toks (c2 :: s)) (F3.zero.set 100 v) = some (f, toks q) := by rw [h3, e]; rfl
            have hl := readP_len _ _ _ _ _ e4
            rw [e4]
            cases q with
            | nil => rw [if_pos (by simp only [List.length_cons]; rw [hl]; rfl)]; rfl
            | cons c q =>
              obtain ⟨t, ts, e3⟩ := toks_cons c q
              rw [if_neg (by simp only [List.length_cons]; rw [hl, e3]; simp)]; rfl
theorem shape_cases (op : Int) : shapeV op = [97, 98] ∨ shapeV op = [97, 110] ∨ shapeV op = [110] ∨ shapeV op = [97] ∨ shapeV op = [100, 97] ∨ shapeV op = [] := by
  unfold shapeV
  split
  · simp
  split
  · simp
  split
  · simp
  split
  · simp
  split <;> simp
theorem readO_shape (op : Int) (s : List UInt8) : readO (shapeV op) (toks s) = endB (rdB (shapeV op) s .zero) := by
  rcases shape_cases op with h | h | h | h | h | h <;> rw [h]
  · exact readO_end _ _ (fun f => readP_toks _ _ _ (by decide))
  · exact readO_end _ _ (fun f => readP_toks _ _ _ (by decide))
  · exact readO_end _ _ (fun f => readP_toks _ _ _ (by decide))
  · exact readO_end _ _ (fun f => readP_toks _ _ _ (by decide))
  · exact readO_put s
  · exact readO_end _ _ (fun f => readP_toks _ _ _ (by decide))
theorem cshape_ne (k : Int) : ∀ x ∈ cshape k, x ≠ 100 := by unfold cshape; split <;> decide
theorem lead_le (s : List UInt8) : (tail s).length ≤ s.length := by
  have := congrArg List.length (lead_tail s)
  rw [List.length_append] at this; omega
theorem takeF_le {k : UInt8} {s s' : List UInt8} {v : Int} (h : takeF k s = some (v, s')) : s'.length ≤ s.length := by
  unfold takeF at h
  split at h
  · cases s with
    | nil => cases h
    | cons c s =>
      simp only [Option.map_eq_some_iff] at h
      obtain ⟨_, _, h⟩ := h
      cases h; simp
  · split at h
    · cases s with
      | nil => cases h
      | cons c s =>
        simp only [Option.map_eq_some_iff] at h
        obtain ⟨_, _, h⟩ := h
        cases h; simp
    · simp only [Option.map_eq_some_iff] at h
      obtain ⟨_, _, h⟩ := h
      cases h; exact lead_le s
theorem rdB_le : ∀ (ks s : List UInt8) (f f' : F3) (s' : List UInt8), rdB ks s f = some (f', s') → s'.length ≤ s.length
  | [], s, f, f', s', h => by rw [rdB] at h; cases h; exact Nat.le_refl _
  | k :: ks, s, f, f', s', h => by
    rw [rdB] at h
    split at h
    · cases h
    · rename_i v s2 e
      exact Nat.le_trans (rdB_le ks s2 _ f' s' h) (takeF_le e)
theorem caseV_long (c d : UInt8) (t : List UInt8) : caseV (c :: d :: t) = 0 := rfl
theorem isD_case {c : UInt8} (h : isD c = true) : caseV [c] = 0 := by
  simp only [isD, decide_eq_true_eq] at h
  show (if c = 115 then (1 : Int) else if c = 114 then 2 else if c = 101 then 3 else 0) = 0
  rw [if_neg (by rintro rfl; exact absurd h (by decide)), if_neg (by rintro rfl; exact absurd h (by decide)), if_neg (by rintro rfl; exact absurd h (by decide))]
theorem toks_isEmpty (s : List UInt8) : (toks s).isEmpty = s.isEmpty := by
  cases s with
  | nil => rfl
  | cons c s => obtain ⟨t, ts, e⟩ := toks_cons c s; rw [e]; rfl
theorem cases_eq : ∀ (n m : Nat) (s : List UInt8) (acc : List Cs), s.length < n → s.length < m → casesP n (toks s) acc = choiceB m s acc
  | 0, _, s, _, h, _ => absurd h (Nat.not_lt_zero _)
  | _ + 1, 0, s, _, _, h => absurd h (Nat.not_lt_zero _)
  | n + 1, m + 1, [], acc, _, _ => rfl
  | n + 1, m + 1, c :: s, acc, h, hm => by
    cases hd : isD c with
    | true =>
      obtain ⟨t, ts, e⟩ := toks_cons c s
      have h0 : caseV (c :: t) = 0 := by
        cases t with
        | nil => exact isD_case hd
        | cons d t => rfl
      rw [e, casesP, choiceB, if_pos h0, if_pos (isD_case hd)]
    | false =>
      rw [toks_nd c s hd, casesP, choiceB]
      by_cases h0 : caseV [c] = 0
      · rw [if_pos h0, if_pos h0]
      rw [if_neg h0, if_neg h0, readP_toks _ _ _ (cshape_ne _)]
      cases e : rdB (cshape (caseV [c])) s .zero with
      | none => rfl
      | some x =>
        obtain ⟨f, q⟩ := x
        have hl := rdB_le _ _ _ _ _ e
        simp only [List.length_cons] at h hm
        show (if caseV [c] = 3 ∧ (toks q).isEmpty = false then none else casesP n (toks q) _) = (if _ then none else choiceB m q _)
        rw [toks_isEmpty]
        split
        · rfl
        · exact cases_eq n m q _ (by omega) (by omega)
theorem isD_op {c : UInt8} (h : isD c = true) : opV [c] = 0 := by
  have : ∀ x : Fin 256, isD (UInt8.ofNat x.val) = true → opV [UInt8.ofNat x.val] = 0 := by decide +kernel
  have h2 := this ⟨c.toNat, c.toNat_lt⟩
  simp only [UInt8.ofNat_toNat] at h2
  exact h2 h
theorem dec_eq (l : List UInt8) : decO l = decB l := by
  cases l with
  | nil => rfl
  | cons c s =>
    cases hd : isD c with
    | true =>
      obtain ⟨t, ts, e⟩ := toks_cons c s
      have h0 : opV (c :: t) = 0 := by
        cases t with
        | nil => exact isD_op hd
        | cons d t => rfl
      rw [decO, e, decB]
      show (if opV (c :: t) = 0 then none else _) = _
      rw [if_pos h0, if_pos (isD_op hd)]
    | false =>
      rw [decO, toks_nd c s hd, decB]
      show (if opV [c] = 0 then none else _) = _
      rw [readO_shape, cases_eq _ (s.length + 2) s [] (by simp only [List.length_cons]; omega) (by omega)]
end Go.Proofs.YtfjdifeofnpcnaaDoor
/-
  Plain mathematics of layer 2: lines that are written, and read again.
-/
namespace Go.Proofs.YtfjdifeofnpcnaaDoor

theorem numB_snoc (l : List UInt8) (c : UInt8) : numB (l ++ [c]) = 10 * numB l + ((c.toNat : Int) - 48) := by simp [numB]
theorem numB_bound : ∀ l : List UInt8, (∀ c ∈ l, isD c = true) → 0 ≤ numB l ∧ numB l < (10 ^ l.length : Nat) := by
  intro l
  obtain ⟨m, hm⟩ : ∃ m : List UInt8, m = l.reverse := ⟨_, rfl⟩
  have hl : l = m.reverse := by rw [hm, List.reverse_reverse]
  subst hl
  clear hm
  induction m with
  | nil => intro _; simp [numB]
  | cons c m ih =>
    rw [List.reverse_cons]
    generalize m.reverse = l at ih ⊢
    intro h
    have h1 := ih (fun d hd => h d (by simp [hd]))
    have h2 := h c (by simp)
    simp only [isD, decide_eq_true_eq] at h2
    rw [numB_snoc, List.length_append, List.length_singleton, Nat.pow_succ]
    generalize (10 ^ l.length : Nat) = P at h1 ⊢
    omega
theorem dd_digits (u : Nat) : ∀ c ∈ Lib.decDigits u, isD c = true := by
  induction u using Nat.strongRecOn with
  | _ u ih =>
    rw [Lib.decDigits]
    split
    · intro c hc
      rw [List.mem_singleton] at hc
      subst hc
      simp only [isD, decide_eq_true_eq, UInt8.toNat_ofNat']; omega
    · intro c hc
      rcases List.mem_append.1 hc with hc | hc
      · exact ih (u / 10) (by omega) c hc
      · rw [List.mem_singleton] at hc
        subst hc
        simp only [isD, decide_eq_true_eq, UInt8.toNat_ofNat']; omega
theorem dd_num (u : Nat) : numB (Lib.decDigits u) = u := by
  induction u using Nat.strongRecOn with
  | _ u ih =>
    rw [Lib.decDigits]
    split
    · simp [numB, UInt8.toNat_ofNat']; omega
    · rw [numB_snoc, ih (u / 10) (by omega), UInt8.toNat_ofNat']; omega
theorem nDig_le : ∀ k u : Nat, u < 10 ^ (k + 1) → Lib.nDigits u ≤ k + 1
  | 0, u, h => by rw [Lib.nDigits_small (by simpa using h)]; omega
  | k + 1, u, h => by
    by_cases h2 : u < 10
    · rw [Lib.nDigits_small h2]; omega
    · rw [Lib.nDigits_big h2]
      have := nDig_le k (u / 10) (by rw [Nat.pow_succ] at h; omega)
      omega
theorem dd_ne (u : Nat) : Lib.decDigits u ≠ [] := by
  intro h
  have h1 := Lib.decDigits_length u
  have h2 := Lib.nDigits_pos u
  rw [h] at h1; simp at h1; omega
theorem itoa_nn {n : Int} (h : 0 ≤ n) : Lib.itoa n = Lib.decDigits n.toNat := by unfold Lib.itoa; rw [if_neg (by omega)]
theorem itoa_ne (n : Int) : Lib.itoa n ≠ [] := by
  unfold Lib.itoa
  split
  · simp
  · exact dd_ne _
theorem itoa_len {n : Int} (h : 0 ≤ n) (k : Nat) (h2 : n < (10 ^ (k + 1) : Nat)) : (Lib.itoa n).length ≤ k + 1 := by
  rw [itoa_nn h, Lib.decDigits_length]
  exact nDig_le k _ (by omega)
theorem numO_itoa {n : Int} (h : 0 ≤ n) (h2 : n ≤ 9999) : numO (Lib.itoa n) = some n := by
  have hl := itoa_len h 3 (by show n < ((10000 : Nat) : Int); omega)
  rw [itoa_nn h] at hl ⊢
  rw [numO, if_neg, dd_num]
  · rw [Int.toNat_of_nonneg h]
  · rintro (g | g | g)
    · exact dd_ne _ g
    · omega
    · have := List.all_eq_true.2 (dd_digits n.toNat)
      rw [this] at g; cases g
theorem numO_inv {l : List UInt8} {n : Int} (h : numO l = some n) : 0 ≤ n ∧ n ≤ 9999 ∧ (Lib.itoa n).length ≤ l.length ∧ l ≠ [] ∧ l.length ≤ 4 ∧ (∀ c ∈ l, isD c = true) := by
  unfold numO at h
  split at h
  · cases h
  · rename_i g
    simp only [not_or, Bool.not_eq_false] at g
    obtain ⟨g1, g2, g3⟩ := g
    cases h
    have hd : ∀ c ∈ l, isD c = true := List.all_eq_true.1 g3
    have hb := numB_bound l hd
    have hlen : 0 < l.length := List.length_pos_iff.2 g1
    obtain ⟨k, hk⟩ : ∃ k, l.length = k + 1 := ⟨l.length - 1, by omega⟩
    have h3 := itoa_len hb.1 k (by rw [← hk]; exact hb.2)
    refine ⟨hb.1, ?_, by omega, g1, by omega, hd⟩
    have : (10 ^ l.length : Nat) ≤ 10 ^ 4 := Nat.pow_le_pow_right (by decide) (by omega)
    have h4 : ((10 ^ l.length : Nat) : Int) ≤ ((10000 : Nat) : Int) := Int.ofNat_le.2 this
    have h5 := hb.2
    omega

def regB (v : Int) : UInt8 := UInt8.ofNat (97 + v.toNat)
theorem regO_inv {c : UInt8} {v : Int} (h : regO c = some v) : 0 ≤ v ∧ v ≤ 5 ∧ c = regB v := by
  unfold regO at h
  split at h
  · rename_i g
    cases h
    refine ⟨by omega, by omega, ?_⟩
    unfold regB
    apply UInt8.toNat_inj.1
    rw [UInt8.toNat_ofNat']; omega
  · cases h
theorem regO_B {v : Int} (h : 0 ≤ v) (h2 : v ≤ 5) : regO (regB v) = some v := by
  have e : (regB v).toNat = 97 + v.toNat := by unfold regB; rw [UInt8.toNat_ofNat']; omega
  unfold regO
  rw [e, if_pos (by omega)]
  congr 1; omega
theorem regB_nat {v : Int} (h : 0 ≤ v) (h2 : v ≤ 5) : ((regB v).toNat : Int) = 97 + v := by unfold regB; rw [UInt8.toNat_ofNat']; omega

def inR (k : UInt8) (v : Int) : Prop := if k = 97 ∨ k = 98 then 0 ≤ v ∧ v ≤ 5 else if k = 100 then 0 ≤ v ∧ v ≤ 9 else 0 ≤ v ∧ v ≤ 9999
def partL (k : UInt8) (v : Int) : List UInt8 := if k = 97 ∨ k = 98 then [regB v] else Lib.itoa v
def fld (k : UInt8) : Nat := if k = 97 then 0 else if k = 98 then 1 else 2
theorem get_set (f : F3) (k k' : UInt8) (v : Int) : (f.set k v).get k' = if fld k = fld k' then v else f.get k' := by
  unfold F3.set F3.get fld
  repeat' split
  all_goals first | rfl | omega | contradiction
def fieldsL (ks : List UInt8) (f : F3) : List UInt8 := ks.flatMap fun k => partL k (f.get k)
theorem takeF_inv {k : UInt8} {s s' : List UInt8} {v : Int} (h : takeF k s = some (v, s')) : inR k v ∧ (partL k v).length + s'.length ≤ s.length := by
  unfold takeF at h
  unfold inR partL
  split at h
  · rename_i g
    rw [if_pos g, if_pos g]
    cases s with
    | nil => cases h
    | cons c s =>
      simp only [Option.map_eq_some_iff] at h
      obtain ⟨w, h1, h⟩ := h
      cases h
      have := regO_inv h1
      exact ⟨⟨this.1, this.2.1⟩, by simp; omega⟩
  · rename_i g
    rw [if_neg g, if_neg g]
    split at h
    · rename_i g2
      rw [if_pos g2]
      cases s with
      | nil => cases h
      | cons c s =>
        simp only [Option.map_eq_some_iff] at h
        obtain ⟨w, h1, h⟩ := h
        cases h
        have h3 := numO_inv h1
        have hb := numB_bound [c] h3.2.2.2.2.2
        have e : numB [c] = v := by
          unfold numO at h1
          split at h1
          · cases h1
          · cases h1; rfl
        simp only [List.length_cons, List.length_nil] at hb h3 ⊢
        exact ⟨⟨by omega, by omega⟩, by omega⟩
    · rename_i g2
      rw [if_neg g2]
      simp only [Option.map_eq_some_iff] at h
      obtain ⟨w, h1, h⟩ := h
      cases h
      have h3 := numO_inv h1
      have := congrArg List.length (lead_tail s)
      rw [List.length_append] at this
      exact ⟨⟨h3.1, h3.2.1⟩, by omega⟩
theorem lead_of (d r : List UInt8) (hd : ∀ c ∈ d, isD c = true) (hr : ∀ c, r.head? = some c → isD c = false) : lead (d ++ r) = d ∧ tail (d ++ r) = r := by
  induction d with
  | nil =>
    cases r with
    | nil => exact ⟨rfl, rfl⟩
    | cons c r =>
      have := hr c rfl
      exact ⟨lead_nd c r this, by show tail (c :: r) = _; unfold tail; rw [List.dropWhile_cons, this]; rfl⟩
  | cons c d ih =>
    have hc := hd c (by simp)
    obtain ⟨i1, i2⟩ := ih (fun x hx => hd x (by simp [hx]))
    refine ⟨?_, ?_⟩
    · show lead (c :: (d ++ r)) = _; rw [lead_d c _ hc, i1]
    · show tail (c :: (d ++ r)) = _; unfold tail at i2 ⊢; rw [List.dropWhile_cons, hc]; exact i2
theorem takeF_fwd {k : UInt8} {v : Int} (r : List UInt8) (h : inR k v) (hr : k = 97 ∨ k = 98 ∨ k = 100 ∨ ∀ c, r.head? = some c → isD c = false) : takeF k (partL k v ++ r) = some (v, r) := by
  unfold inR at h
  unfold partL takeF
  split at h
  · rename_i g
    rw [if_pos g, if_pos g]
    show (regO (regB v)).map _ = _
    rw [regO_B h.1 h.2]; rfl
  · rename_i g
    rw [if_neg g, if_neg g]
    split at h
    · rename_i g2
      rw [if_pos g2]
      have e : Lib.itoa v = [UInt8.ofNat (48 + v.toNat)] := by rw [itoa_nn h.1, Lib.decDigits_one (by omega)]
      have e2 := numO_itoa h.1 (by omega)
      rw [e] at e2 ⊢
      show (numO [_]).map _ = _
      rw [e2]; rfl
    · rename_i g2
      rw [if_neg g2]
      have hr2 : ∀ c, r.head? = some c → isD c = false := by
        rcases hr with x | x | x | x
        · exact absurd (.inl x) g
        · exact absurd (.inr x) g
        · exact absurd x g2
        · exact x
      obtain ⟨e1, e2⟩ := lead_of (Lib.itoa v) r (by rw [itoa_nn h.1]; exact dd_digits _) hr2
      rw [e1, e2, numO_itoa h.1 h.2]; rfl
def Nd (ks : List UInt8) : Prop := (ks.map fld).Nodup
theorem rdB_inv : ∀ (ks s : List UInt8) (f f' : F3) (s' : List UInt8), Nd ks → rdB ks s f = some (f', s') →
    (∀ k ∈ ks, inR k (f'.get k)) ∧ (∀ k, (∀ k' ∈ ks, fld k' ≠ fld k) → f'.get k = f.get k) ∧ (fieldsL ks f').length + s'.length ≤ s.length
  | [], s, f, f', s', _, h => by
    rw [rdB] at h; cases h
    exact ⟨by simp, fun _ _ => rfl, by simp [fieldsL]⟩
  | k :: ks, s, f, f', s', hn, h => by
    rw [rdB] at h
    split at h
    · cases h
    · rename_i v s2 e
      have hn2 : fld k ∉ ks.map fld ∧ (ks.map fld).Nodup := List.nodup_cons.1 hn
      obtain ⟨i1, i2, i3⟩ := rdB_inv ks s2 _ f' s' hn2.2 h
      obtain ⟨t1, t2⟩ := takeF_inv e
      have hk : f'.get k = v := by
        rw [i2 k (fun k' hk' g => hn2.1 (List.mem_map.2 ⟨k', hk', g⟩)), get_set, if_pos rfl]
      refine ⟨fun x hx => ?_, fun x hx => ?_, ?_⟩
      · rcases List.mem_cons.1 hx with rfl | hx
        · rw [hk]; exact t1
        · exact i1 x hx
      · rw [i2 x (fun k' hk' => hx k' (by simp [hk'])), get_set, if_neg (hx k (by simp))]
      · show (partL k (f'.get k) ++ fieldsL ks f').length + _ ≤ _
        rw [hk, List.length_append]; omega
def EndN : List UInt8 → Prop
  | [] => True
  | k :: ks => (k = 97 ∨ k = 98 ∨ k = 100 ∨ ks = []) ∧ EndN ks
theorem rdB_fwd (g : F3) (r : List UInt8) (hr : ∀ c, r.head? = some c → isD c = false) : ∀ (ks : List UInt8) (f : F3), (∀ k ∈ ks, inR k (g.get k)) → Nd ks → EndN ks →
    ∃ f', rdB ks (fieldsL ks g ++ r) f = some (f', r) ∧ ∀ k, f'.get k = if fld k ∈ ks.map fld then g.get k else f.get k
  | [], f, _, _, _ => ⟨f, rfl, fun k => by simp⟩
  | k :: ks, f, h, hn, he => by
    have hn2 : fld k ∉ ks.map fld ∧ (ks.map fld).Nodup := List.nodup_cons.1 hn
    have ht : takeF k (fieldsL (k :: ks) g ++ r) = some (g.get k, fieldsL ks g ++ r) := by
      show takeF k ((partL k (g.get k) ++ fieldsL ks g) ++ r) = _
      rw [List.append_assoc]
      refine takeF_fwd _ (h k (by simp)) ?_
      rcases he.1 with x | x | x | x
      · exact .inl x
      · exact .inr (.inl x)
      · exact .inr (.inr (.inl x))
      · subst x; exact .inr (.inr (.inr hr))
    obtain ⟨f', e, hf⟩ := rdB_fwd g r hr ks (f.set k (g.get k)) (fun x hx => h x (by simp [hx])) hn2.2 he.2
    refine ⟨f', by rw [rdB, ht]; exact e, fun x => ?_⟩
    rw [hf x, get_set]
    by_cases h1 : fld x ∈ ks.map fld
    · rw [if_pos h1, if_pos (by simp only [List.map_cons]; exact List.mem_cons_of_mem _ h1)]
    · rw [if_neg h1]
      by_cases h2 : fld k = fld x
      · rw [if_pos h2, if_pos (by rw [List.map_cons, h2]; exact List.mem_cons_self)]
        unfold fld at h2
        unfold F3.get
        repeat' split at h2
        all_goals first | rfl | omega | simp_all
      · rw [if_neg h2, if_neg]
        rw [List.map_cons, List.mem_cons]
        rintro (g | g)
        · exact h2 g.symm
        · exact h1 g
/-- What is named is in its bounds; what is not is 0. -/
def Shp3 (ks : List UInt8) (g : F3) : Prop := (∀ k ∈ ks, inR k (g.get k)) ∧ ∀ k, (∀ k' ∈ ks, fld k' ≠ fld k) → g.get k = 0
theorem F3.ext' {f g : F3} (h : ∀ k, f.get k = g.get k) : f = g := by
  have h1 := h 97
  have h2 := h 98
  have h3 := h 110
  cases f; cases g
  simp [F3.get] at h1 h2 h3
  simp [h1, h2, h3]
theorem zero_get (k : UInt8) : F3.zero.get k = 0 := by
  unfold F3.get F3.zero
  repeat' split
  all_goals rfl
theorem rd_fwd (ks : List UInt8) (g : F3) (r : List UInt8) (hr : ∀ c, r.head? = some c → isD c = false) (h : Shp3 ks g) (hn : Nd ks) (he : EndN ks) : rdB ks (fieldsL ks g ++ r) .zero = some (g, r) := by
  obtain ⟨f', e, hf⟩ := rdB_fwd g r hr ks .zero h.1 hn he
  rw [e]
  have : f' = g := by
    apply F3.ext'
    intro k
    rw [hf k]
    split
    · rfl
    · rename_i g1
      rw [zero_get, h.2 k (fun k' hk' g => g1 (List.mem_map.2 ⟨k', hk', g⟩))]
  rw [this]
theorem rd_inv (ks s : List UInt8) (f' : F3) (s' : List UInt8) (hn : Nd ks) (h : rdB ks s .zero = some (f', s')) : Shp3 ks f' ∧ (fieldsL ks f').length + s'.length ≤ s.length := by
  obtain ⟨h1, h2, h3⟩ := rdB_inv ks s .zero f' s' hn h
  exact ⟨⟨h1, fun k hk => by rw [h2 k hk, zero_get]⟩, h3⟩
theorem shape_ok (op : Int) : Nd (shapeV op) ∧ EndN (shapeV op) := by
  rcases shape_cases op with h | h | h | h | h | h <;> rw [h] <;> exact ⟨by unfold Nd; decide, by simp [EndN]⟩
theorem cshape_ok (k : Int) : Nd (cshape k) ∧ EndN (cshape k) := by
  unfold cshape
  split <;> exact ⟨by unfold Nd; decide, by simp [EndN]⟩

/-! ### Lines -/
def Cs.f (c : Cs) : F3 := ⟨c.ch, c.reg, c.to⟩
def Is.f (x : Is) : F3 := ⟨x.a, x.b, x.n⟩
def CShpL : List Cs → Prop
  | [] => True
  | c :: cs => ((c.k = 1 ∨ c.k = 2 ∨ c.k = 3) ∧ Shp3 (cshape c.k) c.f ∧ (c.k = 3 → cs = [])) ∧ CShpL cs
def Shp (x : Is) : Prop := if x.op = 21 then x.a = 0 ∧ x.b = 0 ∧ x.n = 0 ∧ x.cs ≠ [] ∧ CShpL x.cs else (1 ≤ x.op ∧ x.op ≤ 22) ∧ x.cs = [] ∧ Shp3 (shapeV x.op) x.f
def caseB (k : Int) : UInt8 := if k = 1 then 115 else if k = 2 then 114 else 101
def caseL (c : Cs) : List UInt8 := caseB c.k :: fieldsL (cshape c.k) c.f
def signB (op : Int) : UInt8 := signsL.getD (op - 1).toNat 0
def lineOf (x : Is) : List UInt8 := signB x.op :: (if x.op = 21 then x.cs.flatMap caseL else fieldsL (shapeV x.op) x.f)
theorem op_sign {op : Int} (h : 1 ≤ op) (h2 : op ≤ 22) : opV [signB op] = op := by
  have : ∀ i : Fin 22, opV [signB ((i.val : Int) + 1)] = (i.val : Int) + 1 := by decide +kernel
  have h3 := this ⟨(op - 1).toNat, by omega⟩
  have e : (((op - 1).toNat : Nat) : Int) + 1 = op := by omega
  simp only [e] at h3
  exact h3
theorem op_bound (c : UInt8) : 0 ≤ opV [c] ∧ opV [c] ≤ 22 := by
  have : ∀ x : Fin 256, 0 ≤ opV [UInt8.ofNat x.val] ∧ opV [UInt8.ofNat x.val] ≤ 22 := by decide +kernel
  have h2 := this ⟨c.toNat, c.toNat_lt⟩
  simp only [UInt8.ofNat_toNat] at h2
  exact h2
theorem case_sign {k : Int} (h : k = 1 ∨ k = 2 ∨ k = 3) : caseV [caseB k] = k := by rcases h with rfl | rfl | rfl <;> rfl
theorem case_bound {c : UInt8} (h : caseV [c] ≠ 0) : caseV [c] = 1 ∨ caseV [c] = 2 ∨ caseV [c] = 3 := by
  unfold caseV at h ⊢
  simp only at h ⊢
  repeat' split
  all_goals simp_all
theorem caseB_nd (k : Int) : isD (caseB k) = false := by
  unfold caseB
  repeat' split
  all_goals decide
theorem caseL_head (cs : List Cs) : ∀ c, (cs.flatMap caseL).head? = some c → isD c = false := by
  cases cs with
  | nil => intro c h; cases h
  | cons d cs =>
    intro c h
    have : caseB d.k = c := by simpa [caseL] using h
    rw [← this]; exact caseB_nd _
theorem choice_inv : ∀ (n : Nat) (s : List UInt8) (acc r : List Cs), choiceB n s acc = some r → ∃ cs, r = acc ++ cs ∧ CShpL cs ∧ (cs.flatMap caseL).length ≤ s.length ∧ r ≠ []
  | 0, s, acc, r, h => by rw [choiceB] at h; cases h
  | n + 1, [], acc, r, h => by
    rw [choiceB] at h
    cases acc with
    | nil => cases h
    | cons c acc => cases h; exact ⟨[], by simp, trivial, by simp, by simp⟩
  | n + 1, c :: s, acc, r, h => by
    rw [choiceB] at h
    split at h
    · cases h
    · rename_i h0
      cases e : rdB (cshape (caseV [c])) s .zero with
      | none => rw [e] at h; cases h
      | some x =>
        obtain ⟨f, q⟩ := x
        rw [e] at h
        simp only at h
        split at h
        · cases h
        · rename_i h3
          obtain ⟨cs, e1, e2, e4, e5⟩ := choice_inv n q _ r h
          obtain ⟨i1, i2⟩ := rd_inv _ _ _ _ (cshape_ok _).1 e
          refine ⟨⟨caseV [c], f.a, f.b, f.n⟩ :: cs, by rw [e1]; simp, ⟨⟨case_bound h0, i1, fun hk => ?_⟩, e2⟩, ?_, e5⟩
          · cases q with
            | nil =>
              cases cs with
              | nil => rfl
              | cons d cs => simp [caseL] at e4
            | cons d q => exact absurd ⟨hk, rfl⟩ h3
          · have : (caseL ⟨caseV [c], f.a, f.b, f.n⟩).length = 1 + (fieldsL (cshape (caseV [c])) f).length := by show (_ :: fieldsL _ f).length = _; simp; omega
            rw [List.flatMap_cons, List.length_append, this, List.length_cons]; omega
theorem choice_fwd : ∀ (n : Nat) (cs acc : List Cs), CShpL cs → (cs.flatMap caseL).length < n → (acc ++ cs) ≠ [] → choiceB n (cs.flatMap caseL) acc = some (acc ++ cs)
  | 0, cs, acc, _, h, _ => absurd h (Nat.not_lt_zero _)
  | n + 1, [], acc, _, _, h => by
    cases acc with
    | nil => exact absurd rfl h
    | cons c acc => show (if _ then none else some _) = _; simp
  | n + 1, c :: cs, acc, h, hn, h0 => by
    obtain ⟨⟨hk, hs, h3⟩, hc⟩ := h
    have e : (c :: cs).flatMap caseL = caseB c.k :: (fieldsL (cshape c.k) c.f ++ cs.flatMap caseL) := by rw [List.flatMap_cons]; rfl
    have e2 : rdB (cshape c.k) (fieldsL (cshape c.k) c.f ++ cs.flatMap caseL) .zero = some (c.f, cs.flatMap caseL) := rd_fwd _ _ _ (caseL_head cs) hs (cshape_ok _).1 (cshape_ok _).2
    rw [e] at hn ⊢
    rw [choiceB, case_sign hk, if_neg (by omega), e2]
    simp only
    rw [if_neg]
    · have := choice_fwd n cs (acc ++ [c]) hc (by rw [List.length_cons, List.length_append] at hn; omega) (by simp)
      rw [show (⟨c.k, c.f.a, c.f.b, c.f.n⟩ : Cs) = c from rfl, this]; simp
    · rintro ⟨g1, g2⟩
      rw [h3 g1] at g2; cases g2
theorem dec_inv {l : List UInt8} {x : Is} (h : decB l = some x) : Shp x ∧ (lineOf x).length ≤ l.length := by
  cases l with
  | nil => cases h
  | cons c s =>
    rw [decB] at h
    split at h
    · cases h
    · rename_i h0
      have hb := op_bound c
      split at h
      · rename_i h21
        simp only [Option.map_eq_some_iff] at h
        obtain ⟨cs, e, h⟩ := h
        cases h
        obtain ⟨cs', e1, e2, e3, e4⟩ := choice_inv _ _ _ _ e
        rw [List.nil_append] at e1
        subst e1
        refine ⟨by unfold Shp; rw [if_pos rfl]; exact ⟨rfl, rfl, rfl, e4, e2⟩, ?_⟩
        show (_ :: (if (21 : Int) = 21 then _ else _)).length ≤ _
        rw [if_pos rfl]; simp only [List.length_cons]; omega
      · rename_i h21
        simp only [Option.map_eq_some_iff] at h
        obtain ⟨f, e, h⟩ := h
        cases h
        cases e2 : rdB (shapeV (opV [c])) s .zero with
        | none => rw [e2] at e; cases e
        | some y =>
          obtain ⟨f', q⟩ := y
          rw [e2] at e
          cases q with
          | cons d q => cases e
          | nil =>
            cases e
            obtain ⟨i1, i2⟩ := rd_inv _ _ _ _ (shape_ok _).1 e2
            refine ⟨by unfold Shp; rw [if_neg h21]; exact ⟨by show 1 ≤ opV [c] ∧ opV [c] ≤ 22; omega, rfl, i1⟩, ?_⟩
            show (_ :: (if opV [c] = 21 then _ else fieldsL (shapeV (opV [c])) f)).length ≤ _
            rw [if_neg h21]; simp only [List.length_cons, List.length_nil] at i2 ⊢; omega
theorem dec_fwd {x : Is} (h : Shp x) : decB (lineOf x) = some x := by
  unfold Shp at h
  unfold lineOf
  split at h
  · rename_i h21
    obtain ⟨ha, hb, hn, h0, hc⟩ := h
    rw [if_pos h21, decB, op_sign (by omega) (by omega), if_neg (by omega), if_pos h21, choice_fwd _ _ _ hc (by omega) (by simpa using h0)]
    cases x
    simp_all
  · rename_i h21
    obtain ⟨hr, hcs, hs⟩ := h
    have e := rd_fwd (shapeV x.op) x.f [] (by simp) hs (shape_ok _).1 (shape_ok _).2
    rw [List.append_nil] at e
    rw [if_neg h21, decB, op_sign hr.1 hr.2, if_neg (by omega), if_neg h21, e]
    cases x
    simp only at hcs
    subst hcs
    rfl
theorem itoa_clean (n : Int) : Clean (Lib.itoa n) := by
  have key : ∀ u, Clean (Lib.decDigits u) := by
    intro u c hc
    have := dd_digits u c hc
    simp only [isD, decide_eq_true_eq] at this; omega
  unfold Lib.itoa
  split
  · intro c hc
    rcases List.mem_cons.1 hc with rfl | hc
    · decide
    · exact key _ c hc
  · exact key _
theorem clean_app {a b : List UInt8} (ha : Clean a) (hb : Clean b) : Clean (a ++ b) := by
  intro c hc
  rcases List.mem_append.1 hc with h | h
  · exact ha c h
  · exact hb c h
theorem clean_cons {c : UInt8} {b : List UInt8} (hc : 33 ≤ c.toNat ∧ c.toNat ≤ 126) (hb : Clean b) : Clean (c :: b) := by
  intro d hd
  rcases List.mem_cons.1 hd with rfl | h
  · exact hc
  · exact hb d h
/-- May the registers that are named be? -/
def RegsOk (ks : List UInt8) (f : F3) : Prop := ∀ k ∈ ks, k = 97 ∨ k = 98 → 0 ≤ f.get k ∧ f.get k ≤ 5
theorem fields_clean {ks : List UInt8} {f : F3} (h : RegsOk ks f) : Clean (fieldsL ks f) := by
  intro c hc
  obtain ⟨k, hk, hc⟩ := List.mem_flatMap.1 hc
  unfold partL at hc
  split at hc
  · rename_i g
    rw [List.mem_singleton] at hc
    have := h k hk g
    have h2 := regB_nat this.1 this.2
    rw [hc]; omega
  · exact itoa_clean _ c hc
theorem shp3_regs {ks : List UInt8} {f : F3} (h : Shp3 ks f) : RegsOk ks f := by
  intro k hk g
  have := h.1 k hk
  unfold inR at this
  rwa [if_pos g] at this
/-- What writeLine tells. -/
def WlOk (x : Is) : Prop := (1 ≤ x.op ∧ x.op ≤ 22) ∧ if x.op = 21 then ∀ c ∈ x.cs, (c.k = 1 ∨ c.k = 2 ∨ c.k = 3) ∧ RegsOk (cshape c.k) c.f else RegsOk (shapeV x.op) x.f
theorem cshp_mem : ∀ {cs : List Cs}, CShpL cs → ∀ c ∈ cs, (c.k = 1 ∨ c.k = 2 ∨ c.k = 3) ∧ Shp3 (cshape c.k) c.f
  | [], _, c, hc => by simp at hc
  | d :: cs, h, c, hc => by
    rcases List.mem_cons.1 hc with rfl | hc
    · exact ⟨h.1.1, h.1.2.1⟩
    · exact cshp_mem h.2 c hc
theorem shp_wl {x : Is} (h : Shp x) : WlOk x := by
  unfold Shp at h
  unfold WlOk
  split at h
  · rename_i h21
    rw [if_pos h21]
    exact ⟨by omega, fun c hc => ⟨(cshp_mem h.2.2.2.2 c hc).1, shp3_regs (cshp_mem h.2.2.2.2 c hc).2⟩⟩
  · rename_i h21
    rw [if_neg h21]
    exact ⟨h.1, shp3_regs h.2.2⟩
theorem sign_clean {op : Int} (h : 1 ≤ op) (h2 : op ≤ 22) : 33 ≤ (signB op).toNat ∧ (signB op).toNat ≤ 126 := by
  have : ∀ i : Fin 22, 33 ≤ (signB ((i.val : Int) + 1)).toNat ∧ (signB ((i.val : Int) + 1)).toNat ≤ 126 := by decide +kernel
  have h3 := this ⟨(op - 1).toNat, by omega⟩
  have e : (((op - 1).toNat : Nat) : Int) + 1 = op := by omega
  simp only [e] at h3
  exact h3
theorem case_clean (k : Int) : 33 ≤ (caseB k).toNat ∧ (caseB k).toNat ≤ 126 := by
  unfold caseB
  repeat' split
  all_goals decide
theorem line_clean2 {x : Is} (h : WlOk x) : Clean (lineOf x) := by
  obtain ⟨h1, h2⟩ := h
  unfold lineOf
  refine clean_cons (sign_clean h1.1 h1.2) ?_
  split at h2
  · rename_i h21
    rw [if_pos h21]
    intro c hc
    obtain ⟨d, hd, hc⟩ := List.mem_flatMap.1 hc
    exact clean_cons (case_clean d.k) (fields_clean (h2 d hd).2) c hc
  · rename_i h21
    rw [if_neg h21]
    exact fields_clean h2

/-! ### Texts -/
def decsV : List (List UInt8) → Int → List Is → List Is × Int × Int
  | [], _, acc => (acc, 0, 0)
  | l :: ls, i, acc => match decB l with
    | none => ([], i + 1, 5)
    | some x => decsV ls (i + 1) (acc ++ [x])
def decodeV (z : ByteArray) : List Is × Int × Int := if (linesV z).2 = 0 then decsV (linesV z).1 0 [] else ([], 0, (linesV z).2)
def joinL (ls : List (List UInt8)) : List UInt8 := ls.flatMap fun x => x ++ [10]
theorem parts_join (ls : List (List UInt8)) (h : ∀ x ∈ ls, Clean x ∧ x ≠ []) : ∀ s acc, partsOf s = (acc, []) → partsOf (s ++ joinL ls) = (acc ++ ls, []) := by
  induction ls with
  | nil => intro s acc hs; simp [joinL, hs]
  | cons x ls ih =>
    intro s acc hs
    have hx := h x (by simp)
    have e : partsOf (s ++ (x ++ [10])) = (acc ++ [x], []) := by
      rw [← List.append_assoc, parts_snoc, parts_append, hs, fold_line _ _ hx.1]
      show (if (10 : UInt8) = 10 then _ else _) = _
      rw [if_pos rfl]
      show ((if [] ++ x = [] then _ else _), _) = _
      rw [List.nil_append, if_neg hx.2]
    have := ih (fun y hy => h y (by simp [hy])) (s ++ (x ++ [10])) _ e
    show partsOf (s ++ ((x ++ [10]) ++ joinL ls)) = _
    rw [← List.append_assoc, this]
    simp
theorem join_good {ls : List (List UInt8)} (h : ∀ x ∈ ls, Clean x ∧ x ≠ []) : Good8 (joinL ls) := by
  intro c hc
  obtain ⟨x, hx, hc⟩ := List.mem_flatMap.1 hc
  rcases List.mem_append.1 hc with hc | hc
  · exact good_clean (h x hx).1 c hc
  · rw [List.mem_singleton] at hc; left; rw [hc]; rfl
theorem decs_map : ∀ (ls : List (List UInt8)) (l : List Is) (i : Int) (acc : List Is), ls.map decB = l.map some → decsV ls i acc = (acc ++ l, 0, 0)
  | [], [], i, acc, _ => by simp [decsV]
  | [], _ :: _, i, acc, h => by simp at h
  | _ :: _, [], i, acc, h => by simp at h
  | x :: ls, y :: l, i, acc, h => by
    simp only [List.map_cons, List.cons.injEq] at h
    rw [decsV, h.1]
    simp only
    rw [decs_map ls l _ _ h.2]; simp
theorem decs_inv : ∀ (ls : List (List UInt8)) (i : Int) (acc r : List Is) (a : Int), decsV ls i acc = (r, a, 0) → ∃ l, r = acc ++ l ∧ ls.map decB = l.map some ∧ a = 0
  | [], i, acc, r, a, h => by rw [decsV] at h; cases h; exact ⟨[], by simp, rfl, rfl⟩
  | x :: ls, i, acc, r, a, h => by
    rw [decsV] at h
    cases e : decB x with
    | none => rw [e] at h; cases h
    | some y =>
      rw [e] at h
      obtain ⟨l, h1, h2, h3⟩ := decs_inv ls _ _ r a h
      exact ⟨y :: l, by rw [h1]; simp, by simp [e, h2], h3⟩
/-- A program that Write tells. -/
def Okay (l : List Is) : Prop := l ≠ [] ∧ (∀ x ∈ l, Shp x) ∧ (joinL (l.map lineOf)).length ≤ 2000 ∧ l.length ≤ 60
theorem lines_join (ls : List (List UInt8)) (h : ∀ x ∈ ls, Clean x ∧ x ≠ []) : linesV (bytesOfL (joinL ls)) = if 2000 < (joinL ls).length then ([], 3) else if ls.length = 0 then ([], 7) else if 60 < ls.length then ([], 3) else (ls, 0) := by
  have hg := join_good h
  have hp : partsOf (joinL ls) = (ls, []) := by simpa using parts_join ls h [] [] rfl
  have hr : runesOf (bytesOfL (joinL ls)) = (joinL ls).map UInt8.toNat := runesOf_ascii _ (by intro c hc; rcases hg c hc with h | h <;> omega)
  have hw : wrongs ((joinL ls).map UInt8.toNat) = 0 := by
    rw [wrongs, List.countP_eq_zero]
    intro c hc
    obtain ⟨d, hd, rfl⟩ := List.mem_map.1 hc
    have := hg d hd
    simp only [badR, decide_eq_true_eq]
    omega
  have hd : (bytesOfL (joinL ls)).data.toList = joinL ls := by simp [bytesOfL]
  have hcl : closed (partsOf (joinL ls)) = ls := by rw [hp]; simp [closed]
  rw [linesV, hr, hw, hd, hcl, List.length_map]
  split
  · rfl
  · rw [if_neg (by omega)]
theorem lineOf_ne (x : Is) : lineOf x ≠ [] := by unfold lineOf; simp
theorem okay_dec {l : List Is} (h : Okay l) : decodeV (bytesOfL (joinL (l.map lineOf))) = (l, 0, 0) := by
  obtain ⟨h0, h1, h2, h3⟩ := h
  have hl : linesV (bytesOfL (joinL (l.map lineOf))) = (l.map lineOf, 0) := by
    rw [lines_join _ (by intro x hx; obtain ⟨y, hy, rfl⟩ := List.mem_map.1 hx; exact ⟨line_clean2 (shp_wl (h1 y hy)), lineOf_ne y⟩), if_neg (by omega), if_neg (by simpa using h0), if_neg (by simpa using h3)]
  rw [decodeV, hl, if_pos rfl]
  have := decs_map (l.map lineOf) l 0 [] (by
    rw [List.map_map]
    apply List.map_congr_left
    intro x hx
    exact dec_fwd (h1 x hx))
  simpa using this
/-- Texts whose lines are written, each by itself, and read as they were: just those of programs that are okay. -/
theorem dec_okay {l : List Is} {ls : List (List UInt8)} {a : Int} (h0 : l ≠ []) (hc : ∀ x ∈ ls, Clean x ∧ x ≠ []) (h : decodeV (bytesOfL (joinL ls)) = (l, a, 0)) : (∀ x ∈ l, Shp x) ∧ ls.map decB = l.map some ∧ (joinL ls).length ≤ 2000 ∧ l.length ≤ 60 := by
  rw [decodeV, lines_join ls hc] at h
  by_cases g : 2000 < (joinL ls).length ∨ ls.length = 0 ∨ 60 < ls.length
  · have : ∃ e : Int, e ≠ 0 ∧ (if 2000 < (joinL ls).length then (([], 3) : List (List UInt8) × Int) else if ls.length = 0 then ([], 7) else if 60 < ls.length then ([], 3) else (ls, 0)) = ([], e) := by
      by_cases q1 : 2000 < (joinL ls).length
      · exact ⟨3, by decide, by rw [if_pos q1]⟩
      by_cases q2 : ls.length = 0
      · exact ⟨7, by decide, by rw [if_neg q1, if_pos q2]⟩
      · exact ⟨3, by decide, by rw [if_neg q1, if_neg q2, if_pos (by omega)]⟩
    obtain ⟨e, he, e2⟩ := this
    rw [e2, if_neg he] at h
    cases h
    exact absurd rfl h0
  · have hl : ¬ 2000 < (joinL ls).length ∧ ¬ ls.length = 0 ∧ ¬ 60 < ls.length := by omega
    rw [if_neg hl.1, if_neg hl.2.1, if_neg hl.2.2] at h
    obtain ⟨l', e1, e2, _⟩ := decs_inv _ _ _ _ _ h
    rw [List.nil_append] at e1
    subst e1
    refine ⟨fun x hx => ?_, e2, by omega, ?_⟩
    · have : some x ∈ ls.map decB := by rw [e2]; exact List.mem_map.2 ⟨x, hx, rfl⟩
      obtain ⟨y, _, hy⟩ := List.mem_map.1 this
      exact (dec_inv hy).1
    · have := congrArg List.length e2
      simp only [List.length_map] at this; omega
end Go.Proofs.YtfjdifeofnpcnaaDoor
/-
  A table of types held against the program by the kernel.
-/
namespace Go.LX
open Go
set_option linter.unusedVariables false

def veq : Value → PV → Bool
  | .int k n, .int k' e => (k == k') && (n == e.val)
  | .bool b, .bool b' => b == b'
  | .string s, .str s' => s.data.toList.isEmpty && (s' ()).data.toList.isEmpty
  | .pointer none, .nilp => true
  | .slice none 0 0, .nils => true
  | .nilIface, .nilif => true
  | .nilFunc, .nilfn => true
  | .map none, .nilm => true
  | _, _ => false
def veqs : List Value → List PV → Bool
  | [], [] => true
  | x :: l, y :: m => veq x y && veqs l m
  | _, _ => false
def keq (P : Program) : TK → TypeDesc → Bool
  | .int k, .int k' => k == k'
  | .bool, .bool => true
  | .str, .string => true
  | .ptr e, .pointer e' => e == e'
  | .slice e, .slice e' => e == e'
  | .struct fs, .struct fs' => (fs == fs'.toList.map fun f => (f.offset, f.type)) && (fs'.toList.mapM fun f => (P.info? f.type).map fun i => (f.offset, i.size)).isSome
  | .arr n e, .array n' e' => (n == n') && (e == e') && (P.info? e).isSome
  | .iface, .interface _ => true
  | .func, .func _ _ _ => true
  | .map k e, .map k' e' => k == k' && e == e'
  | _, _ => false
def shape : TK → Value → Bool
  | k, .agg _ => k.agg
  | k, .tuple _ => false
  | k, _ => !k.agg
def teq (P : Program) (t : Nat) (ti : TI) : Bool :=
  match P.info? t, P.underlying t with
  | some i, some d => (i.size == ti.size) && (i.bytes == ti.bytes) && (match i.zero with
    | some z => veqs z.cells.toList ti.zero && shape ti.kind z
    | none => false) && keq P ti.kind d
  | _, _ => false
def teqs (P : Program) : TT → Bool
  | [] => true
  | (t, ti) :: l => teq P t ti && teqs P l
theorem veq_ok {x : Value} {y : PV} (h : veq x y = true) : x = y.toV ∧ zok y = true := by
  unfold veq at h
  split at h
  · rename_i k n k' e
    simp only [Bool.and_eq_true, beq_iff_eq] at h
    obtain ⟨rfl, rfl⟩ := h
    exact ⟨rfl, rfl⟩
  · have h := beq_iff_eq.1 h; subst h; exact ⟨rfl, rfl⟩
  · rename_i s s'
    simp only [Bool.and_eq_true, List.isEmpty_iff] at h
    have : s = s' () := by
      apply Go.WideShapes.bytes_inj
      rw [h.1, h.2]
    subst this; exact ⟨rfl, rfl⟩
  · exact ⟨rfl, rfl⟩
  · exact ⟨rfl, rfl⟩
  · exact ⟨rfl, rfl⟩
  · exact ⟨rfl, rfl⟩
  · exact ⟨rfl, rfl⟩
  · cases h
theorem veqs_ok : ∀ {l : List Value} {m : List PV}, veqs l m = true → l = m.map PV.toV ∧ m.all zok = true
  | [], [], _ => ⟨rfl, rfl⟩
  | x :: l, y :: m, h => by
    simp only [veqs, Bool.and_eq_true] at h
    obtain ⟨h1, h2⟩ := veq_ok h.1
    obtain ⟨h3, h4⟩ := veqs_ok h.2
    exact ⟨by rw [List.map_cons, ← h1, ← h3], by simp only [List.all_cons, h2, h4, Bool.and_self]⟩
  | [], _ :: _, h => by cases h
  | _ :: _, [], h => by cases h
theorem keq_ok {P : Program} {k : TK} {d : TypeDesc} (h : keq P k d = true) : kindOk P k d := by
  unfold keq at h
  split at h
  · exact beq_iff_eq.1 h
  · trivial
  · trivial
  · exact beq_iff_eq.1 h
  · exact beq_iff_eq.1 h
  · simp only [Bool.and_eq_true, beq_iff_eq] at h; exact h
  · simp only [Bool.and_eq_true, beq_iff_eq] at h; exact ⟨h.1.1, h.1.2, h.2⟩
  · trivial
  · trivial
  · simp only [Bool.and_eq_true, beq_iff_eq] at h; exact h
  · cases h
theorem teq_ok {P : Program} {t : Nat} {ti : TI} (h : teq P t ti = true) : TIok P t ti := by
  unfold teq at h
  split at h
  · rename_i i d hi hd
    simp only [Bool.and_eq_true, beq_iff_eq] at h
    obtain ⟨⟨⟨h1, h2⟩, h3⟩, h4⟩ := h
    split at h3
    · rename_i z hz
      simp only [Bool.and_eq_true] at h3
      obtain ⟨h5, h6⟩ := veqs_ok h3.1
      refine ⟨⟨i, z, d, hi, h1, h2, hz, h5, hd, keq_ok h4, fun hk => ?_, fun hk => ?_⟩, h6⟩
      · have := h3.2
        cases z <;> simp [shape, hk] at this
        rfl
      · have := h3.2
        cases z <;> simp [shape, hk] at this <;> rfl
    · cases h3
  · cases h
theorem teqs_ok {P : Program} : ∀ {T : TT}, teqs P T = true → TOK P T
  | [], _ => tok_nil P
  | (t, ti) :: l, h => by
    simp only [teqs, Bool.and_eq_true] at h
    exact tok_cons (teq_ok h.1) (teqs_ok h.2)
end Go.LX
/-
  The calculus' own functions, each evaluated once: what Lean makes for that is then at hand.
-/
namespace Go.LX
open Go
set_option linter.unusedVariables false
section
variable (P : Unit → Program) (K : LS → Prop) (KE : Exit → LS → Prop) (KV : LV → Prop) (KI : I → Prop) (KB : Bool → Prop) (KL : LV → LH → Nat → Prop) (KP : Bool → List PV → I → Prop) (KLB : LB → Prop) (x : Int) (V : Nat → LS → Prop) (s : LS) (KVS : List LV → Prop) (KPV : PV → Prop) (KBL : Bool → List PV → Prop)
def T0 : TT := [(3, ⟨1, 8, [.int .i64 (.lit 0)], .int .i64⟩), (4, ⟨1, 1, [.bool false], .bool⟩), (5, ⟨1, 24, [.nils], .slice 3⟩), (6, ⟨1, 16, [.str fun _ => ⟨#[]⟩], .str⟩), (7, ⟨2, 24, [.int .i64 (.lit 0), .str fun _ => ⟨#[]⟩], .struct [(0, 3), (1, 6)]⟩), (8, ⟨1, 8, [.nilp], .ptr 7⟩), (9, ⟨2, 16, [.int .i64 (.lit 0), .int .i64 (.lit 0)], .arr 2 3⟩), (10, ⟨1, 16, [.nilif], .iface⟩), (16, ⟨1, 1, [.int .u8 (.lit 0)], .int .u8⟩), (17, ⟨1, 24, [.nils], .slice 16⟩)]
def S0 : LS := ⟨[.p (.int .i64 (.sym x)), .p (.int .i64 (.lit 3)), .p (.bool true), .ptr 0 (.lit 0), .p (.vsl (.lit 1) false [.int .i64 (.lit 1)]), .sl 1 3 1 (.lit 0) (.lit 1), .p (.str fun _ => ⟨#[97]⟩), .agg [.p (.int .i64 (.lit 1)), .p (.str fun _ => ⟨#[]⟩)], .tup [.p (.int .i64 (.lit 1)), .p (.str fun _ => ⟨#[]⟩)], .iface 3 (.p (.int .i64 (.lit 1))), .ptr 2 (.lit 0), .p .nils, .undef, .p .nilp, .fn 3 [.p (.int .i64 (.lit 1))], .sl 3 3 1 (.lit 0) (.sym x), .p (.vsl (.sym x) true [])], [(0, .pure false [.int .i64 (.lit 1), .str fun _ => ⟨#[]⟩]), (1, .pure false [.int .i64 (.lit 1)]), (2, .iter (fun _ => ⟨#[97]⟩) (.lit 0)), (3, .pure true [.int .i64 (.lit 1)]), (4, .mix [.p (.int .i64 (.lit 1)), .ptr 0 (.lit 0)])], 5⟩
def op (o : Op) : Oper := ⟨some 12, o, 3, "", #[], none⟩
def warmed (p : Prop) : Prop := True
theorem wm (p : Prop) : warmed p := trivial
def runs (o : Op) : Prop := lop P (fun _ => T0) (op o) (S0 x) K
def all (l : List Op) : Prop := match l with
  | [] => True
  | o :: l => And (runs P K x o) (all l)
theorem w2 (h : all P K x [.move (.tmp 0), .assign (.const (.int .i64 3)), .pick (.tmp 2) (.tmp 0) (.tmp 1), .binOp .add 3 (.tmp 0) (.tmp 1) 3, .binOp .add 3 (.tmp 1) (.tmp 1) 3, .binOp .lss 3 (.tmp 1) (.tmp 1) 3, .binOp .lss 3 (.tmp 0) (.tmp 1) 3,
    .binOp .sub 3 (.tmp 0) (.tmp 1) 3, .binOp .mul 3 (.tmp 0) (.tmp 1) 3, .binOp .quo 3 (.tmp 0) (.tmp 1) 3, .binOp .rem 3 (.tmp 0) (.tmp 1) 3, .binOp .rem 3 (.tmp 1) (.tmp 1) 3, .binOp .and 3 (.tmp 0) (.tmp 1) 3, .binOp .leq 3 (.tmp 0) (.tmp 1) 3, .binOp .gtr 3 (.tmp 0) (.tmp 1) 3, .binOp .geq 3 (.tmp 0) (.tmp 1) 3, .binOp .eql 3 (.tmp 0) (.tmp 1) 3, .binOp .neq 3 (.tmp 0) (.tmp 1) 3,
    .binOp .eql 6 (.tmp 6) (.tmp 6) 6, .binOp .add 6 (.tmp 6) (.tmp 6) 6, .binOp .eql 4 (.tmp 2) (.tmp 2) 4, .binOp .eql 8 (.tmp 3) (.tmp 13) 8, .unOp .not 4 (.tmp 2), .unOp .neg 3 (.tmp 0), .nilCheck (.tmp 3), .alloc 7, .box 7 (.tmp 7), .build 7 #[(0, .tmp 1)], .buildSlice 5 2 #[(0, .tmp 0), (1, .tmp 1)], .load 7 (.tmp 3), .load 3 (.tmp 3), .store 3 (.tmp 3) (.tmp 0),
    .fieldAddr 7 (.tmp 3) 1, .field 7 (.tmp 7) 1, .indexAddr 5 (.tmp 4) (.tmp 1), .indexAddr 5 (.tmp 5) (.tmp 0), .index 6 (.tmp 6) (.tmp 0), .slice 6 (.tmp 6) (some (.tmp 0)) none none, .slice 5 (.tmp 4) (some (.tmp 0)) (some (.tmp 1)) none, .slice 5 (.tmp 5) none (some (.tmp 1)) none, .binOp .eql 7 (.tmp 7) (.tmp 7) 7, .binOp .neq 7 (.tmp 7) (.tmp 7) 7, .slice 6 (.tmp 6) (some (.tmp 0)) (some (.tmp 1)) none, .convert 3 3 (.tmp 0), .convert 3 6 (.tmp 0), .makeInterface 3 (.tmp 0), .typeAssert (.tmp 9) 10 3 true, .typeAssert (.tmp 9) 10 7 true, .extract (.tmp 8) 1,
    .range 6 (.tmp 6), .next (.tmp 10) true, .makeFunc (.func 3) #[] #[.tmp 1], .call { callee := .value (.func 3), args := #[.tmp 0], argTypes := #[3] }, .call { callee := .value (.tmp 14), args := #[.tmp 0], argTypes := #[3] }, .call { callee := .builtin .len, args := #[.tmp 4], argTypes := #[5] }, .call { callee := .builtin .len, args := #[.tmp 5], argTypes := #[5] }, .call { callee := .builtin .len, args := #[.tmp 6], argTypes := #[6] },
    .call { callee := .builtin .append, args := #[.tmp 11, .tmp 4], argTypes := #[5, 5] }, .call { callee := .builtin .append, args := #[.tmp 15, .tmp 5], argTypes := #[5, 5] }, .makeSlice 5 (.tmp 0) (.tmp 1), .makeSlice 5 (.tmp 0) (.tmp 0), .call { callee := .builtin .cap, args := #[.tmp 15], argTypes := #[5] }, .convert 17 6 (.tmp 16), .call { callee := .builtin .min, args := #[.tmp 0, .tmp 1], argTypes := #[3, 3] }, .call { callee := .builtin .max, args := #[.tmp 0, .tmp 1], argTypes := #[3, 3] }]) : warmed (all P K x [.move (.tmp 0)]) := by
  revert h
  conv => lhs; cbv
  intro h
  trivial
def codes : Prop := lcode P (fun _ => T0) 0 (.seq (.region 0 #[op (.move (.tmp 0))] false) (.block 3 (.seq (.cond (.tmp 2) .skip (.exit 3)) (.seq (.cond (.const (.bool false)) .skip (.seq (.label 1) (.exit 3))) .ret)))) (S0 x) KE
theorem w3 (h : codes P KE x) : warmed (codes P KE x) := by
  revert h
  conv => lhs; cbv
  intro h
  trivial
def loops : Prop := And (LoopK V 0 KE 1 .normal s) (And (LoopK V 0 KE 1 .ret s) (And (LoopK V 0 KE 1 (.exit 2) s) (And (lcode P (fun _ => T0) 0 (.loop .skip) s KE) (lcode P (fun _ => T0) 0 (.region 0 #[] true) s KE))))
theorem w4 (h : loops P KE V s) : True := by
  revert h
  conv => lhs; cbv
  intro h
  trivial
def bodies : Prop := lbody P (fun _ => T0) (.seq (.region 0 #[⟨some 1, .move (.tmp 0), 3, "", #[], none⟩, ⟨some 0, .move (.tmp 1), 3, "", #[], some (0, true)⟩] false) .ret) [.tmp 1] 2 [.p (.bool true)] [] 0 KL
theorem w5 (h : bodies P KL) : True := by
  revert h
  conv => lhs; cbv
  intro h
  trivial
def names : Prop := And (lvles [(0, 0), (1, 2)] [3] (S0 x).h (S0 x).t (S0 x).t) (And (lhle [(0, 0)] [3] (S0 x).h (S0 x).h) (And (rok 0 3 [] [(0, 0), (1, 2)] = true) (vok 0 3 [1] = true)))
theorem w6 (h : names x) : True := by
  revert h
  conv => lhs; cbv
  intro h
  trivial
end
end Go.LX
/-
  The types of this program, as a table that the kernel holds against it.
-/
namespace Go.Proofs.YtfjdifeofnpcnaaDoor
open Go.LX
def T : TT := [
  (2, ⟨1, 8, [.int .i64 (.lit 0)], .int .i64⟩),
  (3, ⟨1, 8, [.int .i64 (.lit 0)], .int .i64⟩),
  (4, ⟨1, 1, [.bool false], .bool⟩),
  (5, ⟨1, 1, [.int .u8 (.lit 0)], .int .u8⟩),
  (7, ⟨4, 24, [.int .i64 (.lit 0), .int .i64 (.lit 0), .bool false, .int .u8 (.lit 0)], .struct [(0, 2), (1, 3), (2, 4), (3, 6)]⟩),
  (9, ⟨1, 16, [.str fun _ => ⟨#[]⟩], .str⟩),
  (12, ⟨1, 8, [.int .u64 (.lit 0)], .int .u64⟩),
  (13, ⟨2, 24, [.str fun _ => ⟨#[]⟩, .int .u64 (.lit 0)], .struct [(0, 9), (1, 12)]⟩),
  (15, ⟨1, 8, [.nilp], .ptr 127⟩),
  (16, ⟨1, 8, [.nilp], .ptr 130⟩),
  (17, ⟨1, 8, [.nilp], .ptr 138⟩),
  (18, ⟨1, 8, [.nilp], .struct [(0, 17)]⟩),
  (20, ⟨1, 16, [.nilif], .iface⟩),
  (21, ⟨1, 4, [.int .i32 (.lit 0)], .int .i32⟩),
  (22, ⟨1, 24, [.nils], .slice 36⟩),
  (25, ⟨1, 8, [.int .i64 (.lit 0)], .int .i64⟩),
  (32, ⟨1, 24, [.nils], .slice 3⟩),
  (33, ⟨1, 8, [.int .u64 (.lit 0)], .int .u64⟩),
  (34, ⟨1, 24, [.nils], .slice 38⟩),
  (35, ⟨5, 56, [.int .i64 (.lit 0), .int .i64 (.lit 0), .int .i64 (.lit 0), .int .i64 (.lit 0), .nils], .struct [(0, 3), (1, 3), (2, 3), (3, 3), (4, 34)]⟩),
  (36, ⟨5, 56, [.int .i64 (.lit 0), .int .i64 (.lit 0), .int .i64 (.lit 0), .int .i64 (.lit 0), .nils], .struct [(0, 3), (1, 3), (2, 3), (3, 3), (4, 34)]⟩),
  (37, ⟨4, 32, [.int .i64 (.lit 0), .int .i64 (.lit 0), .int .i64 (.lit 0), .int .i64 (.lit 0)], .struct [(0, 3), (1, 3), (2, 3), (3, 3)]⟩),
  (38, ⟨4, 32, [.int .i64 (.lit 0), .int .i64 (.lit 0), .int .i64 (.lit 0), .int .i64 (.lit 0)], .struct [(0, 3), (1, 3), (2, 3), (3, 3)]⟩),
  (39, ⟨1, 24, [.nils], .slice 5⟩),
  (49, ⟨1, 8, [.nilp], .ptr 51⟩),
  (50, ⟨2, 32, [.nilp, .nils], .struct [(0, 49), (1, 39)]⟩),
  (51, ⟨2, 32, [.nilp, .nils], .struct [(0, 49), (1, 39)]⟩),
  (54, ⟨1, 16, [.nilif], .iface⟩),
  (55, ⟨1, 16, [.nilif], .iface⟩),
  (62, ⟨1, 24, [.nils], .slice 9⟩),
  (75, ⟨3, 24, [.int .i64 (.lit 0), .int .i64 (.lit 0), .int .i64 (.lit 0)], .struct [(0, 3), (1, 3), (2, 3)]⟩),
  (76, ⟨3, 24, [.int .i64 (.lit 0), .int .i64 (.lit 0), .int .i64 (.lit 0)], .struct [(0, 3), (1, 3), (2, 3)]⟩),
  (77, ⟨1, 8, [.nilp], .ptr 5⟩),
  (86, ⟨1, 24, [.nils], .slice 89⟩),
  (88, ⟨3, 32, [.int .i64 (.lit 0), .int .u8 (.lit 0), .str fun _ => ⟨#[]⟩], .struct [(0, 3), (1, 5), (2, 9)]⟩),
  (89, ⟨3, 32, [.int .i64 (.lit 0), .int .u8 (.lit 0), .str fun _ => ⟨#[]⟩], .struct [(0, 3), (1, 5), (2, 9)]⟩),
  (91, ⟨2, 16, [.int .i64 (.lit 0), .int .i64 (.lit 0)], .struct [(0, 3), (1, 25)]⟩),
  (92, ⟨2, 16, [.int .i64 (.lit 0), .int .i64 (.lit 0)], .struct [(0, 3), (1, 25)]⟩),
  (110, ⟨1, 4, [.int .u32 (.lit 0)], .int .u32⟩),
  (112, ⟨24, 24, [.int .u8 (.lit 0), .int .u8 (.lit 0), .int .u8 (.lit 0), .int .u8 (.lit 0), .int .u8 (.lit 0), .int .u8 (.lit 0), .int .u8 (.lit 0), .int .u8 (.lit 0), .int .u8 (.lit 0), .int .u8 (.lit 0), .int .u8 (.lit 0), .int .u8 (.lit 0), .int .u8 (.lit 0), .int .u8 (.lit 0), .int .u8 (.lit 0), .int .u8 (.lit 0), .int .u8 (.lit 0), .int .u8 (.lit 0), .int .u8 (.lit 0), .int .u8 (.lit 0), .int .u8 (.lit 0), .int .u8 (.lit 0), .int .u8 (.lit 0), .int .u8 (.lit 0)], .arr 24 5⟩),
  (113, ⟨1, 8, [.int .u64 (.lit 0)], .int .u64⟩),
  (119, ⟨20, 160, [.int .u64 (.lit 0), .int .u64 (.lit 0), .int .u64 (.lit 0), .int .u64 (.lit 0), .int .u64 (.lit 0), .int .u64 (.lit 0), .int .u64 (.lit 0), .int .u64 (.lit 0), .int .u64 (.lit 0), .int .u64 (.lit 0), .int .u64 (.lit 0), .int .u64 (.lit 0), .int .u64 (.lit 0), .int .u64 (.lit 0), .int .u64 (.lit 0), .int .u64 (.lit 0), .int .u64 (.lit 0), .int .u64 (.lit 0), .int .u64 (.lit 0), .int .u64 (.lit 0)], .arr 20 113⟩),
  (120, ⟨65, 65, [.int .u8 (.lit 0), .int .u8 (.lit 0), .int .u8 (.lit 0), .int .u8 (.lit 0), .int .u8 (.lit 0), .int .u8 (.lit 0), .int .u8 (.lit 0), .int .u8 (.lit 0), .int .u8 (.lit 0), .int .u8 (.lit 0), .int .u8 (.lit 0), .int .u8 (.lit 0), .int .u8 (.lit 0), .int .u8 (.lit 0), .int .u8 (.lit 0), .int .u8 (.lit 0), .int .u8 (.lit 0), .int .u8 (.lit 0), .int .u8 (.lit 0), .int .u8 (.lit 0), .int .u8 (.lit 0), .int .u8 (.lit 0), .int .u8 (.lit 0), .int .u8 (.lit 0), .int .u8 (.lit 0), .int .u8 (.lit 0), .int .u8 (.lit 0), .int .u8 (.lit 0), .int .u8 (.lit 0), .int .u8 (.lit 0), .int .u8 (.lit 0), .int .u8 (.lit 0), .int .u8 (.lit 0), .int .u8 (.lit 0), .int .u8 (.lit 0), .int .u8 (.lit 0), .int .u8 (.lit 0), .int .u8 (.lit 0), .int .u8 (.lit 0), .int .u8 (.lit 0), .int .u8 (.lit 0), .int .u8 (.lit 0), .int .u8 (.lit 0), .int .u8 (.lit 0), .int .u8 (.lit 0), .int .u8 (.lit 0), .int .u8 (.lit 0), .int .u8 (.lit 0), .int .u8 (.lit 0), .int .u8 (.lit 0), .int .u8 (.lit 0), .int .u8 (.lit 0), .int .u8 (.lit 0), .int .u8 (.lit 0), .int .u8 (.lit 0), .int .u8 (.lit 0), .int .u8 (.lit 0), .int .u8 (.lit 0), .int .u8 (.lit 0), .int .u8 (.lit 0), .int .u8 (.lit 0), .int .u8 (.lit 0), .int .u8 (.lit 0), .int .u8 (.lit 0), .int .u8 (.lit 0)], .arr 65 5⟩),
  (124, ⟨32, 32, [.int .u8 (.lit 0), .int .u8 (.lit 0), .int .u8 (.lit 0), .int .u8 (.lit 0), .int .u8 (.lit 0), .int .u8 (.lit 0), .int .u8 (.lit 0), .int .u8 (.lit 0), .int .u8 (.lit 0), .int .u8 (.lit 0), .int .u8 (.lit 0), .int .u8 (.lit 0), .int .u8 (.lit 0), .int .u8 (.lit 0), .int .u8 (.lit 0), .int .u8 (.lit 0), .int .u8 (.lit 0), .int .u8 (.lit 0), .int .u8 (.lit 0), .int .u8 (.lit 0), .int .u8 (.lit 0), .int .u8 (.lit 0), .int .u8 (.lit 0), .int .u8 (.lit 0), .int .u8 (.lit 0), .int .u8 (.lit 0), .int .u8 (.lit 0), .int .u8 (.lit 0), .int .u8 (.lit 0), .int .u8 (.lit 0), .int .u8 (.lit 0), .int .u8 (.lit 0)], .arr 32 5⟩),
  (125, ⟨64, 64, [.int .u8 (.lit 0), .int .u8 (.lit 0), .int .u8 (.lit 0), .int .u8 (.lit 0), .int .u8 (.lit 0), .int .u8 (.lit 0), .int .u8 (.lit 0), .int .u8 (.lit 0), .int .u8 (.lit 0), .int .u8 (.lit 0), .int .u8 (.lit 0), .int .u8 (.lit 0), .int .u8 (.lit 0), .int .u8 (.lit 0), .int .u8 (.lit 0), .int .u8 (.lit 0), .int .u8 (.lit 0), .int .u8 (.lit 0), .int .u8 (.lit 0), .int .u8 (.lit 0), .int .u8 (.lit 0), .int .u8 (.lit 0), .int .u8 (.lit 0), .int .u8 (.lit 0), .int .u8 (.lit 0), .int .u8 (.lit 0), .int .u8 (.lit 0), .int .u8 (.lit 0), .int .u8 (.lit 0), .int .u8 (.lit 0), .int .u8 (.lit 0), .int .u8 (.lit 0), .int .u8 (.lit 0), .int .u8 (.lit 0), .int .u8 (.lit 0), .int .u8 (.lit 0), .int .u8 (.lit 0), .int .u8 (.lit 0), .int .u8 (.lit 0), .int .u8 (.lit 0), .int .u8 (.lit 0), .int .u8 (.lit 0), .int .u8 (.lit 0), .int .u8 (.lit 0), .int .u8 (.lit 0), .int .u8 (.lit 0), .int .u8 (.lit 0), .int .u8 (.lit 0), .int .u8 (.lit 0), .int .u8 (.lit 0), .int .u8 (.lit 0), .int .u8 (.lit 0), .int .u8 (.lit 0), .int .u8 (.lit 0), .int .u8 (.lit 0), .int .u8 (.lit 0), .int .u8 (.lit 0), .int .u8 (.lit 0), .int .u8 (.lit 0), .int .u8 (.lit 0), .int .u8 (.lit 0), .int .u8 (.lit 0), .int .u8 (.lit 0), .int .u8 (.lit 0)], .arr 64 5⟩),
  (126, ⟨4, 40, [.nilp, .nilp, .nilp, .str fun _ => ⟨#[]⟩], .struct [(0, 17), (1, 17), (2, 17), (3, 9)]⟩),
  (128, ⟨0, 0, [], .arr 0 16⟩),
  (129, ⟨0, 0, [], .struct [(0, 128)]⟩),
  (137, ⟨11, 48, [.int .u64 (.lit 0), .int .u64 (.lit 0), .int .u32 (.lit 0), .int .u8 (.lit 0), .int .u8 (.lit 0), .int .u8 (.lit 0), .int .u8 (.lit 0), .nilfn, .nilp, .int .i32 (.lit 0), .int .i32 (.lit 0)], .struct [(0, 12), (1, 12), (2, 110), (3, 132), (4, 5), (5, 5), (6, 133), (7, 134), (8, 77), (9, 135), (10, 136)]⟩)]
theorem tok : TOK Tryd.prog T := teqs_ok (by kernel_rfl)
end Go.Proofs.YtfjdifeofnpcnaaDoor
