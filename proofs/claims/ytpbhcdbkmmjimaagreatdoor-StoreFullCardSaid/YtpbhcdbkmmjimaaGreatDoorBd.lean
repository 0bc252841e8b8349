/-
  The ground of the proof, part 4: the calculus and what is proved with it.
-/
import Derived.Test.YtpbhcdbkmmjimaaGreatDoorBc
import Derived.Test.YtpbhcdbkmmjimaaGreatDoorRows
import Derived.Shelf.Strings.BuilderK
import Derived.Shelf.Lay
import Derived.WalkKit
import Derived.ProofKit
import Derived.Handy
import Derived.Outline
import Derived.WalkSpells
import Derived.WalkSmall
import Derived.OneCell
import Derived.Shelf.Strings.Builder1
import Derived.Shelf.Strings.Builder2
import Derived.Shelf.Strings.BuilderF
import Derived.Shelf.LaysM
import Derived.Shelf.Strconv.Itoa3
import Derived.Shelf.LaysC
import Derived.Shelf.Strconv.AtoiAll
import Derived.Shelf.Strings.Prefix
import Derived.Shelf.Strings.Repeat
import Derived.Ground.Names2Prog
import Derived.Shelf.Slices.Clone
import Derived.Test.YtpbhcdbkmmjimaaGreatDoorProg
import Derived.Laws.RangeAny
namespace Go.LX
open Go
set_option maxHeartbeats 32000000
def lmem (n : Nat) : List Nat → Bool
 | [] => false
 | m :: l => match Nat.beq n m with
  | true => true
  | false => lmem n l
inductive Joined (J : LS → Prop) (n0 : Nat) (s' : LS) : Prop
 | mk (s'' : LS) (hr : Re n0 s' s'') (hj : J s'')
def JoinK (J : LS → Prop) (n0 : Nat) (K : Exit → LS → Prop) : Exit → LS → Prop
 | .normal,s' => Joined J n0 s'
 | .exit j,s' => K (.exit j) s'
 | .ret,s' => K .ret s'
 | .goto j,s' => K (.goto j) s'
 | .panic c,s' => K (.panic c) s'
 | .outgrown,s' => K .outgrown s'
inductive JoinF (n0 : Nat) (B : Unit → (Exit → LS → Prop) → Prop) (K : Exit → LS → Prop) : Prop
 | mk (J : LS → Prop) (hx : B () (JoinK J n0 K)) (hy : ∀ s,J s → K .normal s)
def headReg : Code → Nat
 | .region r _ _ => r
 | _ => 1000000
def seqK (N : LS → Prop) (K : Exit → LS → Prop) : Exit → LS → Prop
 | .normal,s' => N s'
 | .exit j,s' => K (.exit j) s'
 | .ret,s' => K .ret s'
 | .goto _,_ => False
 | .panic _,_ => False
 | .outgrown,_ => False
def blockK (id : Nat) (K : Exit → LS → Prop) (e : Exit) (s' : LS) : Prop := match e with
 | .exit j => match Nat.beq j id with
  | true => K .normal s'
  | false => K (.exit j) s'
 | .normal => K .normal s'
 | .ret => K .ret s'
 | .goto _ => False
 | .panic _ => False
 | .outgrown => False
def lcodeB (P : Unit → Program) (T : Unit → TT) (n0 : Nat) (bs : List Nat) : Code → LS → (Exit → LS → Prop) → Prop
 | .skip,s,K => K .normal s
 | .label _,s,K => K .normal s
 | .region _ ops d,s,K => match d with
  | false => lops P T ops.toList ops.toList s fun s' => K .normal s'
  | true => DrawF P (fun _ => ops) s fun s' => K .normal s'
 | .seq a b,s,K => match lmem (headReg a) bs with
  | true => JoinF n0 (fun _ K => lcodeB P T n0 bs a s (seqK (fun s' => lcodeB P T n0 bs b s' K) K)) K
  | false => lcodeB P T n0 bs a s (seqK (fun s' => lcodeB P T n0 bs b s' K) K)
 | .cond c a b,s,K => match ev s c with
  | .p (.bool c) => match c with
   | true => lcodeB P T n0 bs a s K
   | false => lcodeB P T n0 bs b s K
  | _ => False
 | .block id c,s,K => lcodeB P T n0 bs c s (blockK id K)
 | .loop c,s,K => LoopF n0 (fun _ s K => lcodeB P T n0 bs c s K) s K
 | .exit id,s,K => K (.exit id) s
 | .ret,s,K => K .ret s
 | _,_,_ => False
def lbodyB (P : Unit → Program) (T : Unit → TT) (bs : List Nat) (cd : Code) (rs : List ResultVar) (nt : Nat) (args : List LV) (h : LH) (n : Nat) (K : LV → LH → Nat → Prop) : Prop :=
 lcodeB P T n bs cd ⟨args ++ undefs (nt - llen args),h,n⟩ fun e s' => match e with
  | .normal => lres T s' rs fun vs => RetF n vs s'.h s'.n K
  | .ret => lres T s' rs fun vs => RetF n vs s'.h s'.n K
  | .exit _ => False
  | .goto _ => False
  | .panic _ => False
  | .outgrown => False
section
variable {P : Program} {T : TT} {c : Ctx} {a : Act} {w w' : World}
theorem lcodeB_sound (hT : TOK P T) {c0 : Ctx} {w0 : World} (n0 : Nat) (hn0 : c0.N = n0) (bs : List Nat) : ∀ (cd : Code) {s : LS} {K : Exit → LS → Prop} {c : Ctx} {a : Act} {w : World},Ext c0 w0 c w → St c s a w → lcodeB (fun _ => P) (fun _ => T) n0 bs cd s K → cd.wp P (PostE K c0 w0) a w
 | .skip,s,K,c,a,w,he,hs,h => wp_skip ⟨c,s,h,hs,he⟩
 | .label _,s,K,c,a,w,he,hs,h => wp_label ⟨c,s,h,hs,he⟩
 | .exit _,s,K,c,a,w,he,hs,h => wp_exit ⟨c,s,h,hs,he⟩
 | .ret,s,K,c,a,w,he,hs,h => wp_ret ⟨c,s,h,hs,he⟩
 | .region _ ops d,s,K,c,a,w,he,hs,h => by
  cases d with
  | false =>
   refine wp_region ?_
   rw [List.range_eq_range']
   refine lops_sound hT (c0 := c0) (w0 := w0) (K := fun s' => K .normal s') (fun a' w' hp => ?_) ops.size 0 (by omega) he hs (by rw [List.drop_zero]; exact h)
   obtain ⟨c',s',hK,hs',he'⟩ := hp
   exact ⟨c',s',hK,hs',he'⟩
  | true =>
   refine wp_region_draw fun t => ?_
   obtain ⟨e1,r1⟩ := hs.hr.same (w' := { w with drawn := w.drawn + 1 }) rfl rfl rfl rfl
   have hs1 : St c s a { w with drawn := w.drawn + 1 } := ⟨hs.tl,fun i u hu => (hs.tr i u hu).ext hs.hr.fresh e1,hs.df,r1,hs.nn⟩
   cases h with
   | mk h =>
    refine h c a _ t _ hs1 (fun a' w' hp => ?_)
    obtain ⟨c',s',hK,hs',he'⟩ := hp
    exact ⟨c',s',hK,hs',he.trans (e1.trans he')⟩
 | .seq x y,s,K,c,a,w,he,hs,h => by
  rw [lcodeB] at h
  have key : ∀ (K : Exit → LS → Prop),lcodeB (fun _ => P) (fun _ => T) n0 bs x s (seqK (fun s' => lcodeB (fun _ => P) (fun _ => T) n0 bs y s' K) K) → (Code.seq x y).wp P (PostE K c0 w0) a w := by
   intro K h
   refine wp_seq (wp_mono (lcodeB_sound hT n0 hn0 bs x he hs h) fun e a' w' hp => ?_)
   obtain ⟨c',s',hK,hs',he'⟩ := hp
   cases e with
   | normal => exact lcodeB_sound hT n0 hn0 bs y he' hs' hK
   | exit j => exact ⟨c',s',hK,hs',he'⟩
   | ret => exact ⟨c',s',hK,hs',he'⟩
   | goto l => exact hK.elim
   | panic ch => exact hK.elim
   | outgrown => exact hK.elim
  split at h
  ·cases h with
   | mk J hx hy =>
    refine wp_mono (key _ hx) fun e a' w' hp => ?_
    obtain ⟨c2,s2,hK,hs2,he2⟩ := hp
    cases e with
    | normal =>
     obtain ⟨s3,hre,hj⟩ := hK
     obtain ⟨hre⟩ := hre
     obtain ⟨c3,he3,hs3⟩ := hre c0 w0 c2 a' w' hn0 he2 hs2
     exact ⟨c3,s3,hy s3 hj,hs3,he3⟩
    | exit j => exact ⟨c2,s2,hK,hs2,he2⟩
    | ret => exact ⟨c2,s2,hK,hs2,he2⟩
    | goto l => exact ⟨c2,s2,hK,hs2,he2⟩
    | panic ch => exact ⟨c2,s2,hK,hs2,he2⟩
    | outgrown => exact ⟨c2,s2,hK,hs2,he2⟩
  ·exact key _ h
 | .cond co x y,s,K,c,a,w,he,hs,h => by
  rw [lcodeB] at h
  split at h
  ·rename_i b hb
   have hv : a.eval co = .bool b := LR.inv_bool (hb ▸ hs.ev co)
   cases b with
   | true => exact wp_cond_true hv (lcodeB_sound hT n0 hn0 bs x he hs h)
   | false => exact wp_cond_false hv (lcodeB_sound hT n0 hn0 bs y he hs h)
  ·exact h.elim
 | .block id x,s,K,c,a,w,he,hs,h => by
  refine wp_block (wp_mono (lcodeB_sound hT n0 hn0 bs x he hs h) fun e a' w' hp => ?_)
  obtain ⟨c',s',hK,hs',he'⟩ := hp
  cases e with
  | normal => exact ⟨c',s',hK,hs',he'⟩
  | exit j =>
   show if j = id then _ else _
   unfold blockK at hK
   dsimp only at hK
   by_cases hj : j = id
   ·rw [if_pos hj]
    subst hj
    rw [Nat.beq_refl] at hK
    exact ⟨c',s',hK,hs',he'⟩
   ·rw [if_neg hj]
    rw [nbeq hj] at hK
    exact ⟨c',s',hK,hs',he'⟩
  | ret => exact ⟨c',s',hK,hs',he'⟩
  | goto l => exact hK.elim
  | panic ch => exact hK.elim
  | outgrown => exact hK.elim
 | .loop x,s,K,c,a,w,he,hs,h => by
  cases h with
  | mk V k0 s0 h0 hv hr =>
   obtain ⟨h0⟩ := h0
   obtain ⟨c',he',hs'⟩ := h0 c0 w0 c a w hn0 he hs
   refine wp_loop_ghost (fun n a w => ∃ s c,V n s ∧ Ext c0 w0 c w ∧ St c s a w) k0 ⟨s0,c',hv,he',hs'⟩ fun n a w hI => ?_
   obtain ⟨s1,c1,hv1,he1,hs1⟩ := hI
   refine wp_mono (lcodeB_sound hT n0 hn0 bs x he1 hs1 (hr n s1 hv1)) fun e a' w' hp => ?_
   obtain ⟨c2,s2,hK,hs2,he2⟩ := hp
   cases e with
   | normal =>
    obtain ⟨k3,s3,hm3,hre,hv3⟩ := hK
    obtain ⟨hre⟩ := hre
    obtain ⟨c3,he3,hs3⟩ := hre c0 w0 c2 a' w' hn0 he2 hs2
    exact ⟨k3,hm3,s3,c3,hv3,he3,hs3⟩
   | exit j => exact ⟨c2,s2,hK,hs2,he2⟩
   | ret => exact ⟨c2,s2,hK,hs2,he2⟩
   | goto l => exact ⟨c2,s2,hK,hs2,he2⟩
   | panic ch => exact ⟨c2,s2,hK,hs2,he2⟩
   | outgrown => exact ⟨c2,s2,hK,hs2,he2⟩
  | rounds m h =>
   refine wp_loop_rounds m ?_
   induction m generalizing s c a w with
   | zero => exact h.elim
   | succ m ih =>
    refine wp_mono (lcodeB_sound hT n0 hn0 bs x he hs h) fun e a' w' hp => ?_
    obtain ⟨c',s',hK,hs',he'⟩ := hp
    cases e with
    | normal => exact ih s' c' a' w' he' hs' hK
    | exit j => exact ⟨c',s',hK,hs',he'⟩
    | ret => exact ⟨c',s',hK,hs',he'⟩
    | goto l => exact ⟨c',s',hK,hs',he'⟩
    | panic ch => exact ⟨c',s',hK,hs',he'⟩
    | outgrown => exact ⟨c',s',hK,hs',he'⟩
 | .rangeFunc _ _ _ _,s,K,c,a,w,he,hs,h => h.elim
 | .scope _,s,K,c,a,w,he,hs,h => h.elim
 | .goto _,s,K,c,a,w,he,hs,h => h.elim
 | .refuse _,s,K,c,a,w,he,hs,h => h.elim
theorem callF_of_bodyB (hT : TOK P T) {f : Nat} {fn : Func} {cd : Code} {args : List LV} {h : LH} {n : Nat} {K : LV → LH → Nat → Prop} (hf : P.funcs[f]? = some fn) (hname : (fn.name == "runtime.NumGoroutine") = false) (hb : fn.body = some cd)
  {rs : List ResultVar} {nt : Nat} (hrs : fn.results.toList = rs) (hnt : fn.ntmps = nt) (bs : List Nat) (hbody : lbodyB (fun _ => P) (fun _ => T) bs cd rs nt args h n K) : CallF (fun _ => P) f args h n K := by
 refine .mk ⟨fn,cd,hf,hname,hb⟩ fun c w xs hr hN hl hrel => ?_
 refine calls_of_wp hf hb ?_
 subst hrs hnt
 unfold lbodyB at hbody
 have hs : St c ⟨args ++ undefs (fn.ntmps - llen args),h,n⟩ { tmps := xs ++ Array.replicate (fn.ntmps - xs.size) undef,defers := [] } w := by
  refine ⟨by simp [undefs_length,llen_eq,hl],fun i u hu => ?_,rfl,hr,hN⟩
  dsimp only at hu ⊢
  by_cases hi : i < args.length
  ·rw [List.getElem?_append_left hi] at hu
   have := hrel i u hu
   rw [Array.getD_eq_getD_getElem?] at this ⊢
   rw [Array.getElem?_append_left (by omega)]
   exact this
  ·rw [List.getElem?_append_right (by omega)] at hu
   rw [undefs_get _ _ _ hu]; exact .undef _
 refine wp_mono (lcodeB_sound hT n hN bs cd (Ext.refl hr) hs hbody) fun e a' w' hp => ?_
 obtain ⟨c',s',hK,hs',he'⟩ := hp
 have fin : lres (fun _ => T) s' fn.results.toList (fun rs => RetF n rs s'.h s'.n K) → a'.defers = [] ∧ ∃ v,(results fn a'.tmps).run P w' = .ok v w' ∧
   (fun (e : Ending) w' => ∃ (c' : Ctx) (r : LV) (v : Value) (h' : LH) (n' : Nat),e = .returned v ∧ K r h' n' ∧ HR c' w' h' ∧ c'.N = n' ∧ LR c' w' r v ∧ Ext c w c' w') (.returned v) w' := by
  intro hres
  refine ⟨hs'.df,?_⟩
  obtain ⟨us,vs,h1,h2,h3⟩ := lres_sound hT hs' _ hres
  obtain ⟨rs',h',n',⟨hre⟩,hlr,hk⟩ := h3
  have hs2 : St c' ⟨us,s'.h,s'.n⟩ { tmps := vs.toArray,defers := [] } w' := ⟨by simpa using h2.1,fun i u hu => (Rel2.getD (x := vs.toArray) (by simpa using h2)).2 i u hu,rfl,hs'.hr,hs'.nn⟩
  obtain ⟨c2,he2,hs3⟩ := hre c w c' _ w' hN he' hs2
  refine ⟨if h : vs.toArray.size = 1 then vs.toArray[0] else .tuple vs.toArray,?_,c2,one rs',_,h',n',rfl,hk,hs3.hr,hs3.nn,?_,he2⟩
  ·rw [results_eq,Sem.run_bind,Array.mapM_eq_mapM_toList,Sem.run_map,h1]
   rfl
  ·have hr3 : Rel2 c2 w' rs' vs := by
    have := Rel2.ofD hs3.tl hs3.tr
    simpa using this
   cases rs' with
   | nil =>
    have : vs = [] := List.eq_nil_of_length_eq_zero hr3.1.symm
    subst this
    exact .tup [] #[] rfl (fun j u hu => by simp at hu)
   | cons u rs =>
    obtain ⟨y,ys,rfl,h5,h6⟩ := hr3.head
    cases rs with
    | nil =>
     have : ys = [] := List.eq_nil_of_length_eq_zero h6.1.symm
     subst this
     simpa [one] using h5
    | cons u2 rs =>
     have hne : ¬ (y :: ys).toArray.size = 1 := by
      have := h6.1
      simp at this ⊢
      intro h; rw [h] at this; simp at this
     rw [dif_neg hne]
     exact .tup _ _ (by simpa using hr3.1) (Rel2.getD (x := (y :: ys).toArray) (by simpa using hr3)).2
 cases e with
 | normal => exact fin hK
 | ret => exact fin hK
 | exit j => exact hK.elim
 | goto l => exact hK.elim
 | panic ch => exact hK.elim
 | outgrown => exact hK.elim
end
theorem Br.yes {p : Unit → Prop} {K : Bool → Prop} (h : p ()) (hk : K true) : Br p K := .mk (fun _ => hk) (fun n => absurd h n)
theorem Br.no {p : Unit → Prop} {K : Bool → Prop} (h : ¬ p ()) (hk : K false) : Br p K := .mk (fun y => absurd y h) (fun _ => hk)
end Go.LX
namespace Go.LX
open Go
set_option linter.unusedVariables false
set_option maxHeartbeats 32000000
def isFix : LB → Bool
 | .fix _ _ => true
 | _ => false
def flatN (n0 : Nat) : LH → Prop
 | [] => True
 | (b,B) :: l => (match Nat.blt b n0 with
  | true => True
  | false => flatB B) ∧ flatN n0 l
def fixOn (h : LH) : LH → List (Nat × Nat) → Prop
 | _,[] => True
 | h0,(a,b) :: ρ => (match hget h0 a,hget h b with
  | some (.fix g o),some (.fix g' o') => g = g' ∧ o = o'
  | _,_ => False) ∧ fixOn h h0 ρ
def allFix (ρ : List (Nat × Nat)) : LH → Bool
 | [] => true
 | (a,B) :: l => isFix B && (nget ρ a).isSome && allFix ρ l
section
variable {c c0 : Ctx} {w w' : World} {n n0 : Nat} {h h0 : LH} {ρ : List (Nat × Nat)}
theorem fixOn_get : ∀ {ρ : List (Nat × Nat)},fixOn h h0 ρ → ∀ a b,nget ρ a = some b → ∃ g o,hget h0 a = some (.fix g o) ∧ hget h b = some (.fix g o)
 | [],_,a,b,e => by simp [nget] at e
 | (x,y) :: ρ,hf,a,b,e => by
  rw [nget_cons] at e
  by_cases e1 : x = a
  ·rw [if_pos e1] at e; cases e
   subst e1
   have h1 := hf.1
   split at h1
   ·rename_i g o g' o' e2 e3
    obtain ⟨rfl,rfl⟩ := h1
    exact ⟨g,o,e2,e3⟩
   ·exact h1.elim
  ·rw [if_neg e1] at e; exact fixOn_get hf.2 a b e
theorem allFix_get : ∀ {l : LH},allFix ρ l = true → ∀ a A,hget l a = some A → (∃ b,nget ρ a = some b) ∧ isFix A = true
 | [],_,a,A,e => by cases e
 | (x,B) :: l,hf,a,A,e => by
  simp only [allFix,Bool.and_eq_true] at hf
  rw [hget_cons] at e
  by_cases e1 : x = a
  ·rw [if_pos e1] at e; cases e
   subst e1
   exact ⟨Option.isSome_iff_exists.1 hf.1.2,hf.1.1⟩
  ·rw [if_neg e1] at e; exact allFix_get hf.2 a A e
theorem flatN_get : ∀ {l : LH},flatN n0 l → ∀ b B,n0 ≤ b → hget l b = some B → flatB B
 | [],_,b,B,_,hb => by cases hb
 | (a,A) :: l,h,b,B,hn,hb => by
  rw [hget_cons] at hb
  by_cases e : a = b
  ·rw [if_pos e] at hb; cases hb
   subst e
   have h1 := h.1
   have : Nat.blt a n0 = false := by
    cases e3 : Nat.blt a n0 with
    | false => rfl
    | true =>
         have : a < n0 := by simpa using e3
         omega
   rw [this] at h1; exact h1
  ·rw [if_neg e] at hb; exact flatN_get h.2 b B hn hb
def Ctx.lendF (c : Ctx) (L : List Nat) (ρ : List (Nat × Nat)) (n0 : Nat) : Ctx := { m := fun a => match nget ρ a with | some b => c.m b | none => none,X := fun r => c.mut r ∧ ∀ b ∈ L,c.m b ≠ some (some r),N := n0 }
theorem rn_nil {a b : Nat} (h : rn [] n0 n a = some b) : n0 ≤ a := by
 unfold rn at h
 simp only [nget] at h
 rcases Nat.lt_or_ge a n0 with h1 | h1
 ·have : Nat.blt a n0 = true := by simpa using h1
  rw [this] at h; cases h
 ·exact h1
theorem callF_lendF {P : Unit → Program} {f : Nat} {args0 args : List LV} {K0 K : LV → LH → Nat → Prop} (hc : CallF P f args0 h0 n0 K0) (ρ : List (Nat × Nat)) (hF : fok n0 n ρ = true) (hfx : fixOn h h0 ρ) (hal : allFix ρ h0 = true) (hle : lends h args args0) (hfl : ∀ r h' n',K0 r h' n' → flatV r ∧ flatN n0 h')
  (hK : ∀ r h' n',K0 r h' n' → K (renV [] n0 n r) (frameH [] n0 n h h') (n + (n' - n0))) : CallF P f args h n K := by
 have hF := fok_ok hF
 have hF0 : FOK n0 n [] := fok_ok rfl
 cases hc with
 | mk h1 h2 =>
  refine .mk h1 fun c w xs hr hN hl hrel => ?_
  obtain ⟨g1,g2⟩ := lends_get hle
  have dom : ∀ a b,nget ρ a = some b → c.m b = some none ∧ ∃ g o,hget h0 a = some (.fix g o) ∧ w.heap[g]? = some (o ()) ∧ ¬ c.mut g := by
   intro a b hab
   obtain ⟨g,o,e1,e2⟩ := fixOn_get hfx a b hab
   obtain ⟨m,e3,e4⟩ := hr.live b _ e2
   cases m with
   | some r => exact e4.elim
   | none => exact ⟨e3,g,o,e1,e4.1,e4.2⟩
  have inm : ∀ {a b},nget ρ a = some b → (c.lendF (lent h args) ρ n0).m a = some none := by
   intro a b hab
   show (match nget ρ a with | some b => c.m b | none => none) = _
   rw [hab]; exact (dom a b hab).1
  have inm0 : ∀ {a},nget ρ a = none → (c.lendF (lent h args) ρ n0).m a = none := by
   intro a ha
   show (match nget ρ a with | some b => c.m b | none => none) = _
   rw [ha]
  have inown : ∀ r,¬ (c.lendF (lent h args) ρ n0).own r := by
   rintro r ⟨a,ha⟩
   cases e : nget ρ a with
   | some b => rw [inm e] at ha; cases ha
   | none => rw [inm0 e] at ha; cases ha
  have inmut : ∀ r,(c.lendF (lent h args) ρ n0).mut r → (c.lend (lent h args)).mut r := by
   rintro r (hx | ho)
   ·exact .inl hx
   ·exact (inown r ho).elim
  have hri : HR (c.lendF (lent h args) ρ n0) w h0 := by
   refine ⟨fun a A ha => ?_,fun a ha => ?_,fun a a' r e1 e2 => (inown r ⟨a,e1⟩).elim,fun a r e1 => (inown r ⟨a,e1⟩).elim,fun r hx => ?_,fun a r e1 => (inown r ⟨a,e1⟩).elim⟩
   ·obtain ⟨⟨b,hb⟩,_⟩ := allFix_get hal a A ha
    obtain ⟨_,g,o,e1,e2,e3⟩ := dom a b hb
    rw [ha] at e1; cases e1
    exact ⟨none,inm hb,e2,fun hm => e3 (lend_mut _ _ (inmut g hm))⟩
   ·have ha : n0 ≤ a := ha
    cases e : nget ρ a with
    | none => exact inm0 e
    | some b => have := hF.lo a b e; omega
   ·rcases hx.1 with hx | ⟨b,hb⟩
    ·exact hr.ltX r hx
    ·exact hr.lt b r hb
  refine (h2 (c.lendF (lent h args) ρ n0) w xs hri rfl (g1.symm.trans hl) fun i u hu => ?_).mono fun e w' hh => ?_
  ·obtain ⟨v,k1,k2,k3⟩ := g2 i u hu
   have hv := (hrel i v k1).lendL hr _ k2 k3
   have hp : ∃ p,u = .p p := by
    unfold lendV at k2
    split at k2
    ·exact ⟨_,rfl⟩
    ·exact ⟨_,rfl⟩
    ·exact k2.elim
   obtain ⟨p,rfl⟩ := hp
   cases hv with
   | p _ _ hp => exact .p _ _ (hp.anti inmut)
  obtain ⟨c0,r,v,h0',n0',rfl,hKr,hr0,hn0',hv,he⟩ := hh
  obtain ⟨f1,f2⟩ := hfl _ _ _ hKr
  have hn0 : n0 ≤ c0.N := he.N
  have old : ∀ r,r < w.heap.size → w'.heap[r]? = w.heap[r]? := fun r hlt => he.same r hlt (inown r)
  have newr : ∀ a r,c0.m a = some (some r) → w.heap.size ≤ r := fun a r h => by
   rcases Nat.lt_or_ge a n0 with h3 | h3
   ·rcases he.old a h3 with e | e
    ·exact (inown r ⟨a,e ▸ h⟩).elim
    ·rw [e] at h; cases h
   ·rcases he.new a r h3 h with g | g
    ·exact g
    ·exact (inown r g).elim
  have hext : Ext c w (c.outer c0 [] n0 n) w' := by
   refine ⟨he.os,he.tape,he.output,he.size,rfl,by show c.N ≤ n + (c0.N - n0); omega,fun b hb => .inl (outer_old hF0 rfl (by omega)),fun b r hb hbm => ?_,fun r hlt _ => old r hlt,fun b r hb hbm => ?_⟩
   ·rcases outer_cases (c := c) (c0 := c0) hF0 b with ⟨a,k1,k2⟩ | ⟨k1,k2,k3⟩
    ·rw [k2] at hbm; exact .inl (newr a r hbm)
    ·omega
   ·rw [outer_old hF0 rfl (by omega)] at hbm
    simp only [World.shape?,old r (hr.lt b r hbm)]
  refine ⟨c.outer c0 [] n0 n,_,v,_,_,rfl,hK r h0' n0' hKr,⟨fun b B hb => ?_,fun b hb => ?_,fun b b' r e1 e2 => ?_,fun b r e1 hx => ?_,fun r hx => ?_,fun b r e1 => ?_⟩,by show n + (c0.N - n0) = _; rw [hn0'],hv.outofL hF0 f1,hext⟩
  ·rw [frameH,hget_happ] at hb
   cases e : hget (renH [] n0 n h0') b with
   | some B' =>
    rw [e] at hb; cases hb
    obtain ⟨a,A,k1,k2,rfl⟩ := hget_renH hF0 h0' b _ e
    obtain ⟨m,k3,k4⟩ := hr0.live a A k2
    exact ⟨m,(outer_rn hF0 k1).trans k3,k4.outofL hF0 (flatN_get f2 a A (rn_nil k1) k2)⟩
   | none =>
    rw [e] at hb
    obtain ⟨m,k3,k4⟩ := hr.live b B hb
    exact ⟨m,(outer_old hF0 rfl (by have := live_lt hr.fresh k3; omega)).trans k3,k4.ext hr.fresh hext fun r hmr => old r (hr.lt b r (by rw [k3,hmr]))⟩
  ·have hb : n + (c0.N - n0) ≤ b := hb
   rcases outer_cases (c := c) (c0 := c0) hF0 b with ⟨a,k1,k2⟩ | ⟨k1,k2,k3⟩
   ·rw [k2]
    refine hr0.fresh a ?_
    rcases Nat.lt_or_ge a c0.N with g | g
    ·have := rn_lt hF0 k1 g; omega
    ·exact g
   ·omega
  ·rcases outer_cases (c := c) (c0 := c0) hF0 b with ⟨a,k1,k2⟩ | ⟨k1,k2,k3⟩ <;> rcases outer_cases (c := c) (c0 := c0) hF0 b' with ⟨a',g1,g2⟩ | ⟨g1,g2,g3⟩
   ·rw [k2] at e1; rw [g2] at e2
    have := hr0.inj a a' r e1 e2
    subst this
    rw [k1] at g1; cases g1; rfl
   ·rw [k2] at e1; rw [g3] at e2
    have := newr a r e1; have := hr.lt b' r e2; omega
   ·rw [k3] at e1; rw [g2] at e2
    have := newr a' r e2; have := hr.lt b r e1; omega
   ·rw [k3] at e1; rw [g3] at e2
    exact hr.inj b b' r e1 e2
  ·have hx : c.X r := hx
   rcases outer_cases (c := c) (c0 := c0) hF0 b with ⟨a,k1,k2⟩ | ⟨k1,k2,k3⟩
   ·rw [k2] at e1
    have := newr a r e1; have := hr.ltX r hx; omega
   ·rw [k3] at e1
    exact hr.noX b r e1 hx
  ·exact Nat.lt_of_lt_of_le (hr.ltX r hx) he.size
  ·rcases outer_cases (c := c) (c0 := c0) hF0 b with ⟨a,k1,k2⟩ | ⟨k1,k2,k3⟩
   ·rw [k2] at e1; exact hr0.lt a r e1
   ·rw [k3] at e1; exact Nat.lt_of_lt_of_le (hr.lt b r e1) he.size
def fixL : Nat → List (Nat × (Unit → Obj)) → LH
 | _,[] => []
 | n,(g,o) :: l => (n,.fix g o) :: fixL (n + 1) l
theorem fixL_get : ∀ (l : List (Nat × (Unit → Obj))) (n b : Nat) (B : LB),hget (fixL n l) b = some B → n ≤ b ∧ b < n + l.length ∧ ∃ g o,(g,o) ∈ l ∧ B = .fix g o
 | [],n,b,B,h => by cases h
 | (g,o) :: l,n,b,B,h => by
  rw [fixL,hget_cons] at h
  by_cases e : n = b
  ·rw [if_pos e] at h; cases h
   exact ⟨by omega,by simp; omega,g,o,List.mem_cons_self,rfl⟩
  ·rw [if_neg e] at h
   obtain ⟨h1,h2,g',o',h3,h4⟩ := fixL_get l (n + 1) b B h
   exact ⟨by omega,by simp; omega,g',o',List.mem_cons_of_mem _ h3,h4⟩
def Ctx.laid (k : Nat) : Ctx := ⟨fun b => if b < k then some none else none,fun _ => False,k⟩
theorem laid_mut (k r : Nat) : ¬ (Ctx.laid k).mut r := by
 rintro (h | ⟨b,hb⟩)
 ·exact h
 ·have hb : (if b < k then some none else none) = some (some r) := hb
  split at hb <;> cases hb
theorem law_laid {P : Program} {f : Nat} {args : List LV} {b : Bool} (l : List (Nat × (Unit → Obj))) (h : CallF (fun _ => P) f args (fixL 0 l) l.length fun r _ _ => r = .p (.bool b)) {w : World} {xs : Array Value} (hl : ∀ g o,(g,o) ∈ l → w.heap[g]? = some (o ())) (hx : Rel2 (Ctx.laid l.length) w args xs.toList) :
  Calls P f xs w fun e w' => e = .returned (.bool b) ∧ Go.RowKit.Below w.heap.size w w' := by
 cases h with
 | mk h1 h2 =>
  have hno : ∀ b r,(Ctx.laid l.length).m b ≠ some (some r) := fun b r h => laid_mut l.length r (.inr ⟨b,h⟩)
  refine (h2 (Ctx.laid l.length) w xs ⟨fun b B hb => ?_,fun b hb => ?_,fun b b' r e => (hno b r e).elim,fun b r e => (hno b r e).elim,fun r hx => hx.elim,fun b r e => (hno b r e).elim⟩ rfl hx.getD.1 hx.getD.2).mono fun e w' ⟨c',r,v,h',n',g1,g2,g3,g4,g5,g6⟩ => ?_
  ·obtain ⟨_,k1,g,o,k2,rfl⟩ := fixL_get l 0 b B hb
   exact ⟨none,if_pos (by omega),hl g o k2,laid_mut _ g⟩
  ·exact if_neg (by have hb : l.length ≤ b := hb; omega)
  ·subst g2
   rw [g5.inv_bool] at g1
   refine ⟨g1,⟨g6.os,g6.tape,g6.output,g6.size,fun k hk => g6.same k hk ?_⟩⟩
   exact fun h => laid_mut l.length k (.inr h)
theorem callF_calls {P : Program} {f : Nat} {args : List LV} {K : LV → Prop} (hc : callable P f) (H : ∀ (c : Ctx) (w : World) (xs : Array Value),HR c w h → c.N = n → args.length = xs.size → (∀ (i : Nat) (u : LV),args[i]? = some u → LR c w u (xs.getD i Go.undef)) →
  Calls P f xs w fun e w' => ∃ v r,e = .returned v ∧ K r ∧ Go.RowKit.Below w.heap.size w w' ∧ ∀ c',LR c' w' r v) : CallF (fun _ => P) f args h n fun r h' n' => K r ∧ h' = h ∧ n' = n := by
 refine .mk hc fun c w xs hr hN hl hrel => (H c w xs hr hN hl hrel).mono fun e w' ⟨v,r,h1,h2,h3,h4⟩ => ?_
 have he : Ext c w c w' := ⟨h3.os,h3.tape,h3.output,h3.size,rfl,Nat.le_refl _,fun _ _ => .inl rfl,fun b r hb e => (by rw [hr.fresh b hb] at e; cases e),fun r hlt _ => h3.block r hlt,fun b r _ e => by simp only [World.shape?,h3.block r (hr.lt b r e)]⟩
 exact ⟨c,r,v,h,n,h1,⟨h2,rfl,rfl⟩,hr.step he (.inl rfl) hr.fresh (fun _ => .inl rfl) (fun d C hd => .inl ⟨hd,rfl,fun k hk => h3.block k (hr.lt d k hk)⟩),hN,h4 c,he⟩
end
end Go.LX
namespace Go.LX
open Go
set_option linter.unusedVariables false
set_option maxHeartbeats 32000000
def addE (ops : Array Oper) (p q : Nat) : Array Oper := ops.modify q fun o => { o with after := o.after.push ⟨p,.data⟩ }
section
variable {P : Program} {Q : Exit → Act → World → Prop} {ops : Array Oper} {K K1 K2 : Act → World → Prop} {a : Act} {w : World} {p q i : Nat}
theorem addE_get (ops : Array Oper) (p q i : Nat) : (addE ops p q)[i]? = (ops[i]?).map fun o => if q = i then { o with after := o.after.push ⟨p,.data⟩ } else o := by
 unfold addE
 rw [Array.getElem?_modify]
 by_cases h : q = i
 ·simp [h]
 ·simp [h]
theorem addE_size : (addE ops p q).size = ops.size := by unfold addE; exact Array.size_modify
theorem addE_yielded (t : Array Value) : yielded (addE ops p q) t = yielded ops t := by
 funext j
 unfold yielded
 have : ((addE ops p q)[j]?).bind (·.dst) = (ops[j]?).bind (·.dst) := by
  rw [addE_get]
  cases ops[j]? with
  | none => rfl
  | some o => simp only [Option.map_some,Option.bind_some]; split <;> rfl
 rw [this]
theorem wpOp_addE (h : wpOp P (addE ops p q) Q i K a w) : wpOp P ops Q i K a w := by
 unfold wpOp at h ⊢
 rw [addE_get,addE_yielded] at h
 cases ho : ops[i]? with
 | none => rw [ho] at h; exact h
 | some o =>
  rw [ho] at h
  simp only [Option.map_some] at h ⊢
  by_cases e : q = i
  ·rw [if_pos e] at h
   exact h
  ·rw [if_neg e] at h; exact h
def NoE (P : Program) (s : Sem Next) : Prop := ∀ w,(∀ f args w',s.run P w ≠ .ok (.enter f args) w') ∧ ∀ r args w',s.run P w ≠ .ok (.row r args) w'
theorem NoE.v (s : Sem Value) : NoE P (do pure (Next.value (← s))) := fun w => by
 rw [Sem.run_bind]
 cases s.run P w <;> exact ⟨fun _ _ _ h => (by cases h),fun _ _ _ h => (by cases h)⟩
theorem NoE.u (s : Sem Unit) : NoE P (do s; pure Next.skip) := fun w => by
 rw [Sem.run_bind]
 cases s.run P w <;> exact ⟨fun _ _ _ h => (by cases h),fun _ _ _ h => (by cases h)⟩
theorem NoE.pu (x : Value) : NoE P (pure (Next.value x)) := fun w => ⟨fun _ _ _ h => (by cases h),fun _ _ _ h => (by cases h)⟩
theorem NoE.bind {α : Type} {s : Sem α} {f : α → Sem Next} (h : ∀ x,NoE P (f x)) : NoE P (s >>= f) := fun w => by
 rw [Sem.run_bind]
 cases s.run P w with
 | ok v w' => exact h v w'
 | halt x w' => exact ⟨fun _ _ _ h => (by cases h),fun _ _ _ h => (by cases h)⟩
theorem NoE.halt (x : Halt) : NoE P (Sem.halt x) := fun w => ⟨fun _ _ _ h => (by cases h),fun _ _ _ h => (by cases h)⟩
theorem NoE.deref : NoE P (runtimePanic .nilDeref : Sem Next) := by
 unfold runtimePanic
 exact NoE.bind fun p => NoE.halt _
theorem nilCheck_ne (x : Operand) (dst : Option Nat) (ty : TypeId) (pos : String) (after : Array Edge) (guard : Option (Nat × Bool)) (ρ : Operand → Value) : NoE P (execOp ρ ⟨dst,.nilCheck x,ty,pos,after,guard⟩) := by
 unfold execOp
 dsimp only
 repeat' (first | exact NoE.deref | exact NoE.pu _ | exact NoE.halt _ | split | (refine NoE.bind fun _ => ?_))
def simpleOp (o : Oper) : Bool :=
 match o.op with
 | .move _ => true
 | .assign _ => true
 | .alloc _ => true
 | .box _ _ => true
 | .build _ _ => true
 | .buildSlice _ _ _ => true
 | .load _ _ => true
 | .nilCheck _ => true
 | .store _ _ _ => true
 | .binOp _ _ _ _ _ => true
 | .unOp _ _ _ => true
 | .convert _ _ _ => true
 | .makeInterface _ _ => true
 | .slice _ _ _ _ _ => true
 | .fieldAddr _ _ _ => true
 | .field _ _ _ => true
 | .indexAddr _ _ _ => true
 | .index _ _ _ => true
 | .extract _ _ => true
 | .call c => match c.callee with
  | .builtin b => match b with
   | .append => true
   | _ => false
  | _ => false
 | _ => false
theorem append_ne {c : Call} (hc : c.callee = .builtin .append) (dst : Option Nat) (ty : TypeId) (pos : String) (after : Array Edge) (guard : Option (Nat × Bool)) (ρ : Operand → Value) : NoE P (execOp ρ ⟨dst,.call c,ty,pos,after,guard⟩) := by
 intro w
 have key : ∃ cs,(execOp ρ ⟨dst,.call c,ty,pos,after,guard⟩).run P w = (builtin .append c.argTypes ty cs (c.args.map ρ)).run P w := by
  unfold execOp
  simp [resolve,hc,invoke]
  exact ⟨_,rfl⟩
 obtain ⟨cs,key⟩ := key
 rw [key]
 exact NoE.v _ w
theorem simple_ne {o : Oper} (h : simpleOp o = true) (ρ : Operand → Value) : NoE P (execOp ρ o) := by
 obtain ⟨dst,op,ty,pos,after,guard⟩ := o
 cases op
 case call c =>
  simp only [simpleOp] at h
  split at h
  ·rename_i b hc
   split at h
   ·exact append_ne hc _ _ _ _ _ _
   ·cases h
  ·cases h
 case nilCheck x => exact nilCheck_ne x _ _ _ _ _ _
 all_goals simp only [simpleOp,Bool.false_eq_true] at h
 all_goals (unfold execOp; first | exact NoE.pu _ | exact NoE.v _ | exact NoE.u _)
theorem wp_and {o : Oper} (hne : NoE P (execOp a.eval o)) (h1 : o.wp P a w K1 Q) (h2 : o.wp P a w K2 Q) : o.wp P a w (fun a w => K1 a w ∧ K2 a w) Q := by
 unfold Oper.wp at *
 have hn := hne w
 generalize (execOp a.eval o).run P w = r at *
 cases r with
 | ok n w' =>
  cases n <;> simp only [Oper.upon] at h1 h2 ⊢ <;> first | exact ⟨h1,h2⟩ | exact absurd rfl (hn.1 _ _ _) | exact absurd rfl (hn.2 _ _ _) | exact h1
 | halt x w' => cases x <;> simp only [Oper.upon] at h1 ⊢ <;> exact h1
theorem wpOp_and (hne : ∀ o,ops[i]? = some o → simpleOp o = true) (h1 : wpOp P ops Q i K1 a w) (h2 : wpOp P ops Q i K2 a w) : wpOp P ops Q i (fun a w => K1 a w ∧ K2 a w) a w := by
 unfold wpOp at *
 cases ho : ops[i]? with
 | none => rw [ho] at h1 h2; exact ⟨h1,h2⟩
 | some o =>
  rw [ho] at h1 h2
  dsimp only at h1 h2 ⊢
  split
  ·rename_i hw
   rw [if_pos hw] at h1 h2
   rcases h1 with h1 | h1
   ·rcases h2 with h2 | h2
    ·exact .inl (wp_and (simple_ne (hne o ho) _) h1 h2)
    ·exact .inr h2
   ·exact .inr h1
  ·rename_i hw
   rw [if_neg hw] at h1 h2
   exact ⟨h1,h2⟩
theorem ready_sub {listed : Array Bool} (h : i ∈ Region.ready .any (addE ops p q) listed) : i ∈ Region.ready .any ops listed := by
 obtain ⟨h1,o,ho,h2⟩ := mem_ready.1 h
 rw [addE_get] at ho
 cases e : ops[i]? with
 | none => rw [e] at ho; cases ho
 | some o' =>
  rw [e] at ho
  simp only [Option.map_some,Option.some.injEq] at ho
  refine mem_ready.2 ⟨h1,o',e,fun ed hed hb => h2 ed ?_ hb⟩
  rw [← ho]
  split
  ·exact Array.mem_push.2 (.inl hed)
  ·exact hed
theorem ready_sup {listed : Array Bool} (h : i ∈ Region.ready .any ops listed) (hp : i = q → listed.getD p false = true) : i ∈ Region.ready .any (addE ops p q) listed := by
 obtain ⟨h1,o,ho,h2⟩ := mem_ready.1 h
 refine mem_ready.2 ⟨h1,_,by rw [addE_get,ho]; rfl,fun ed hed hb => ?_⟩
 split at hed
 ·rename_i hq
  rcases Array.mem_push.1 hed with hed | hed
  ·exact h2 ed hed hb
  ·rw [hed]; exact hp hq.symm
 ·exact h2 ed hed hb
theorem getD_keep {listed : Array Bool} (h : listed.getD p false = true) : (listed.setIfInBounds i true).getD p false = true := by
 rw [Array.getD_eq_getD_getElem?,Array.getElem?_setIfInBounds]
 rw [Array.getD_eq_getD_getElem?] at h
 split
 ·rename_i e
  split
  ·rfl
  ·rename_i hlt
   subst e
   rw [Array.getElem?_eq_none (by omega)] at h; cases h
 ·exact h
theorem any_done : ∀ (fuel : Nat) (listed : Array Bool) (a : Act) (w : World),listed.getD p false = true → wpAny P .any (addE ops p q) Q fuel listed a w → wpAny P .any ops Q fuel listed a w := by
 intro fuel
 induction fuel with
 | zero =>
  intro listed a w hp h
  refine ⟨List.eq_nil_iff_forall_not_mem.2 fun j hj => ?_,h.2⟩
  have := ready_sup (p := p) (q := q) hj (fun _ => hp)
  rw [h.1] at this; cases this
 | succ fuel ih =>
  intro listed a w hp h
  refine ⟨fun hr => h.1 (List.eq_nil_iff_forall_not_mem.2 fun j hj => ?_),fun i hi => ?_⟩
  ·have := ready_sub hj
   rw [hr] at this; cases this
  ·exact wpOp_mono (fun a w h => ih _ a w (getD_keep hp) h) (wpOp_addE (h.2 i (ready_sup hi fun _ => hp)))
def splitOK (ops : Array Oper) (p q : Nat) : Bool :=
 p != q && Nat.blt p ops.size && Nat.blt q ops.size && (List.range ops.size).all fun i => i == p || i == q || simpleOp (opAt ops i) || reach ops ops.size p i || reach ops ops.size q i
theorem any_split (hs : splitOK ops p q = true) : ∀ (fuel : Nat) (listed : Array Bool) (a : Act) (w : World),listed.size = ops.size → Closed ops listed → listed.getD p true = false → listed.getD q true = false →
  wpAny P .any (addE ops p q) Q fuel listed a w → wpAny P .any (addE ops q p) Q fuel listed a w → wpAny P .any ops Q fuel listed a w := by
 simp only [splitOK,Bool.and_eq_true,bne_iff_ne,ne_eq,List.all_eq_true,List.mem_range,Bool.or_eq_true,beq_iff_eq] at hs
 obtain ⟨⟨⟨hpq,hp⟩,hq⟩,hall⟩ := hs
 have hp : p < ops.size := Nat.le_of_ble_eq_true hp
 have hq : q < ops.size := Nat.le_of_ble_eq_true hq
 intro fuel
 induction fuel with
 | zero =>
  intro listed a w hsz hcl hlp hlq h1 h2
  refine ⟨List.eq_nil_iff_forall_not_mem.2 fun j hj => ?_,h1.2⟩
  by_cases e : j = q
  ·have := ready_sup (p := q) (q := p) hj (fun e2 => absurd (e2.symm.trans e) hpq)
   rw [h2.1] at this; cases this
  ·have := ready_sup (p := p) (q := q) hj (fun e2 => absurd e2 e)
   rw [h1.1] at this; cases this
 | succ fuel ih =>
  intro listed a w hsz hcl hlp hlq h1 h2
  refine ⟨fun hr => h1.1 (List.eq_nil_iff_forall_not_mem.2 fun j hj => ?_),fun i hi => ?_⟩
  ·have := ready_sub hj
   rw [hr] at this; cases this
  ·obtain ⟨hun,o,ho,haft⟩ := mem_ready.1 hi
   have hlt : i < ops.size := (Array.getElem?_eq_some_iff.1 ho).1
   have hset : ∀ {k : Nat},k < ops.size → (listed.setIfInBounds k true).getD k false = true := by
    intro k hk
    rw [Array.getD_eq_getD_getElem?,Array.getElem?_setIfInBounds_self_of_lt (by omega)]; rfl
   by_cases e1 : i = p
   ·subst e1
    exact wpOp_mono (fun a w h => any_done _ _ a w (hset hp) h) (wpOp_addE (h1.2 i (ready_sup hi fun e => absurd e hpq)))
   ·by_cases e2 : i = q
    ·subst e2
     exact wpOp_mono (fun a w h => any_done _ _ a w (hset hq) h) (wpOp_addE (h2.2 i (ready_sup hi fun e => absurd e e1)))
    ·have hsim : simpleOp o = true := by
      have hat : opAt ops i = o := by simp [opAt,ho]
      rcases hall i hlt with (((h | h) | h) | h) | h
      ·exact absurd h e1
      ·exact absurd h e2
      ·rw [hat] at h; exact h
      ·have := reach_listed hcl _ i o ho h haft
       rw [getD_tf (by rw [hsz]; exact hp) true false,this] at hlp; cases hlp
      ·have := reach_listed hcl _ i o ho h haft
       rw [getD_tf (by rw [hsz]; exact hq) true false,this] at hlq; cases hlq
     have hcl' : Closed ops (listed.setIfInBounds i true) := by
      intro j oj hoj hj e hee hb
      by_cases hji : i = j
      ·subst hji
       rw [ho] at hoj; cases hoj
       exact getD_set_true (haft e hee hb)
      ·rw [getD_set_ne _ hji] at hj
       exact getD_set_true (hcl j oj hoj hj e hee hb)
     refine wpOp_mono (fun a w h => ?_) (wpOp_and (fun o' ho' => by rw [ho] at ho'; cases ho'; exact hsim) (wpOp_addE (h1.2 i (ready_sup hi fun e => absurd e e2))) (wpOp_addE (h2.2 i (ready_sup hi fun e => absurd e e1))))
     exact ih _ a w (by simp [hsz]) hcl' (by rw [getD_set_ne _ e1]; exact hlp) (by rw [getD_set_ne _ e2]; exact hlq) h.1 h.2
end
end Go.LX
namespace Go.LX
open Go
set_option maxHeartbeats 32000000
section
variable {P : Program} {T : TT} {K : LS → Prop}
def DrawAny (P : Program) (ops : Array Oper) (s : LS) (K : LS → Prop) : Prop :=
 ∀ c a w Q,St c s a w → (∀ a' w',Post K c w a' w' → Q Exit.normal a' w') → wpAny P .any ops Q ops.size (Array.replicate ops.size false) a w
theorem rep_get (n i : Nat) : (Array.replicate n false).getD i false = false := by
 rw [Array.getD_eq_getD_getElem?,Array.getElem?_replicate]
 split <;> rfl
theorem rep_get' {n i : Nat} (h : i < n) : (Array.replicate n false).getD i true = false := by
 rw [Array.getD_eq_getD_getElem?,Array.getElem?_replicate,if_pos h]; rfl
theorem drawF_of_any (hm : P.follows .mixedOrders = true) {ops : Unit → Array Oper} {s : LS} (h : DrawAny P (ops ()) s K) : DrawF (fun _ => P) ops s K := by
 refine .mk fun c a w t Q hs hQ => ?_
 simp only [Region.schedule,hm,Bool.true_or,if_true]
 exact wpAny_sound (ops ()).size t _ a w (h c a w Q hs fun a' w' hp => hQ a' w' (let ⟨c',s',hK,hs',he⟩ := hp; ⟨c',s',hK,hs',he⟩))
theorem any_of_drawn (hT : TOK P T) (F : List (Nat × List Nat)) (order : List Nat) {ops : Array Oper} {s : LS} (hd : drawnOK ops F order = true) (h : lopsG (fun _ => P) (fun _ => T) ops F order s K) : DrawAny P ops s K := by
 intro c a w Q hs hQ
 have hd' := hd
 simp only [drawnOK,Bool.and_eq_true] at hd'
 obtain ⟨hpw,_,hed⟩ := orderOK_spec hd'.1
 have hlt : ∀ j ∈ order,j < ops.size := fun j hj => by
  obtain ⟨l1,l2,e⟩ := List.append_of_mem hj
  obtain ⟨o,ho,_⟩ := hed l1 j l2 e
  exact (Array.getElem?_eq_some_iff.1 ho).1
 have hun : unlO order (Array.replicate ops.size false) = order := by
  unfold unlO
  rw [List.filter_eq_self]
  intro j hj
  rw [rep_get' (hlt j hj)]; rfl
 have hnd : order.Nodup := hpw.imp fun h => h.1
 have hlen : order.length = ops.size := by
  have h1 : order.Perm (List.range ops.size) := by
   rw [List.perm_ext_iff_of_nodup hnd List.nodup_range]
   intro j
   rw [List.mem_range]
   exact ⟨hlt j,fun hj => by have := List.all_eq_true.1 hd'.2 j (List.mem_range.2 hj); simpa using this⟩
  simpa using h1.length_eq
 refine anyO_sound (K := K) hT hd (c0 := c) (w0 := w) (fun a' w' hp => hQ a' w' hp) ops.size _ (by simp) ?_ (by rw [hun]; exact hlen) (Ext.refl hs.hr) hs ?_
 ·intro q o _ hq
  rw [rep_get] at hq; cases hq
 ·rw [hun]; exact h
theorem drawAny_split (p q : Nat) {ops : Array Oper} {s : LS} (hs : splitOK ops p q = true) (h1 : DrawAny P (addE ops p q) s K) (h2 : DrawAny P (addE ops q p) s K) : DrawAny P ops s K := by
 intro c a w Q hst hQ
 have hb : p < ops.size ∧ q < ops.size := by
  simp only [splitOK,Bool.and_eq_true] at hs
  exact ⟨Nat.le_of_ble_eq_true hs.1.1.2,Nat.le_of_ble_eq_true hs.1.2⟩
 have e1 := h1 c a w Q hst hQ
 have e2 := h2 c a w Q hst hQ
 rw [addE_size] at e1 e2
 refine any_split hs ops.size _ a w (by simp) (fun k o _ hk => ?_) (rep_get' hb.1) (rep_get' hb.2) e1 e2
 rw [rep_get] at hk; cases hk
theorem split_sound (hT : TOK P T) (hm : P.follows .mixedOrders = true) (p q : Nat) (F1 : List (Nat × List Nat)) (o1 : List Nat) (F2 : List (Nat × List Nat)) (o2 : List Nat) {ops : Unit → Array Oper} {s : LS} (hs : splitOK (ops ()) p q = true)
  (hd1 : drawnOK (addE (ops ()) p q) F1 o1 = true) (hd2 : drawnOK (addE (ops ()) q p) F2 o2 = true)
  (h1 : lopsG (fun _ => P) (fun _ => T) (addE (ops ()) p q) F1 o1 s K) (h2 : lopsG (fun _ => P) (fun _ => T) (addE (ops ()) q p) F2 o2 s K) : DrawF (fun _ => P) ops s K :=
 drawF_of_any hm (drawAny_split p q hs (any_of_drawn hT F1 o1 hd1 h1) (any_of_drawn hT F2 o2 hd2 h2))
end
end Go.LX
namespace Go.LX
open Go
set_option linter.unusedVariables false
set_option maxHeartbeats 32000000
inductive QuietF (P : Unit → Program) (f : Nat) (args : List LV) (K : LV → Prop) : Prop
 | mk (u : LV) (hq : ∀ h n,CallF P f args h n fun r h' n' => r = u ∧ h' = h ∧ n' = n) (hk : K u)
section
variable {P : Unit → Program} {T : Unit → TT} {o : Oper} {s : LS}
def quietL (P : Unit → Program) (o : Oper) (s : LS) (L : LS → Prop) : Prop :=
 match o.guard,o.op with
 | none,.call c => match c.callee with
  | .value (.func f) => QuietF P f (eva s c.args.toList) fun u => L (s.put o.dst u)
  | _ => False
 | _,_ => False
def cA (ops : Array Oper) (qs : List Nat) (p : Nat) : Bool := isA (opAt ops p) || qs.contains p
def headQ (P : Unit → Program) (T : Unit → TT) (ops : Array Oper) (i : Nat) (s : LS) (L : LS → Prop) : Prop :=
 match isA (opAt ops i) with
 | true => stepL P T ops.toList (opAt ops i) s L
 | false => quietL P (opAt ops i) s L
theorem head_x {ops : Array Oper} {i : Nat} {L : LS → Prop} (h : headQ P T ops i s L) : ∃ u,L (s.put (opAt ops i).dst u) ∧ (∀ s',AgreeS ops (opAt ops i) s s' → ∀ L' : LS → Prop,L' (s'.put (opAt ops i).dst u) → headQ P T ops i s' L') ∧ GivesS P T ops (opAt ops i) s u := by
 unfold headQ at h
 split at h
 ·rename_i hA
  obtain ⟨u,h1,h2⟩ := step_x hA h
  refine ⟨u,h1,fun s' ha L' hL => ?_,h2⟩
  unfold headQ
  rw [hA]
  exact h2 s' ha L' hL
 ·rename_i hA
  generalize hoo : opAt ops i = o at *
  unfold quietL at h
  split at h
  ·rename_i c hg ho
   split at h
   ·rename_i f hc
    cases h with
    | mk u hq hk =>
     have hev : ∀ s',AgreeS ops o s s' → eva s' c.args.toList = eva s c.args.toList := fun s' ha => eva_agree _ fun x hx => (agree_of ha).2 x (by
      have hx : x ∈ c.args := by simpa using hx
      rw [ho]
      simp [Op.operands,Call.operands,hc,hx])
     refine ⟨u,hk,fun s' ha L' hL => ?_,fun s' ha L' hL => ?_⟩
     ·unfold headQ
      rw [hoo,hA]
      dsimp only
      unfold quietL
      rw [hg,ho]
      dsimp only
      rw [hc]
      dsimp only
      rw [hev s' ha]
      exact .mk u hq hL
     ·unfold stepL
      rw [hg]
      dsimp only [yes]
      unfold lop
      rw [ho]
      dsimp only
      rw [hc]
      dsimp only [ev]
      rw [hev s' ha]
      refine (hq s'.h s'.n).mono fun r h' n' ⟨e1,e2,e3⟩ => ?_
      subst e1 e2 e3
      exact hL
   ·exact h.elim
  ·exact h.elim
def lopsQ (P : Unit → Program) (T : Unit → TT) (ops : Array Oper) (qs : List Nat) (F : List (Nat × List Nat)) : List Nat → LS → (LS → Prop) → Prop
 | [],s,K => K s
 | i :: l,s,K => match cA ops qs i with
  | true => headQ P T ops i s fun s1 => lopsQ P T ops qs F l s1 K
  | false => stepL P T ops.toList (opAt ops i) s fun s1 => keptB ops (look F i) s s1 ∧ lopsQ P T ops qs F l s1 K
def pairQ (ops : Array Oper) (qs : List Nat) (F : List (Nat × List Nat)) (p q : Nat) : Bool :=
 p != q && (reach ops ops.size p q || (cA ops qs p && (opAt ops p).apart ops (opAt ops q) && (cA ops qs q || (look F q).contains p))) && (!(F.any fun e => e.2.contains p && e.2.contains q) || match (opAt ops q).dst with
  | some d => !cA ops qs p || !cA ops qs q || !((opAt ops p).looksAt ops).contains d
  | none => true)
def PairQ (ops : Array Oper) (qs : List Nat) (F : List (Nat × List Nat)) (p q : Nat) : Prop := p ≠ q ∧ (reach ops ops.size p q = true ∨ (cA ops qs p = true ∧ (opAt ops p).apart ops (opAt ops q) = true ∧ (cA ops qs q = true ∨ p ∈ look F q))) ∧ (∀ i,p ∈ look F i → q ∈ look F i → cA ops qs p = true → cA ops qs q = true → ∀ d,(opAt ops q).dst = some d → d ∉ (opAt ops p).looksAt ops)
theorem pairQ_spec {ops : Array Oper} {qs : List Nat} {F : List (Nat × List Nat)} {p q : Nat} (h : pairQ ops qs F p q = true) : PairQ ops qs F p q := by
 simp only [pairQ,Bool.and_eq_true,Bool.or_eq_true,bne_iff_ne,ne_eq] at h
 obtain ⟨⟨h1,h2⟩,h3⟩ := h
 refine ⟨h1,h2.imp id (fun h => ⟨h.1.1,h.1.2,h.2.imp id (fun h => by simpa using h)⟩),fun i hpi hqi hp hq d hd => ?_⟩
 rw [look_any hpi hqi,hd,hp,hq] at h3
 simpa using h3
theorem frontQ {ops : Array Oper} {qs : List Nat} {F : List (Nat × List Nat)} {i : Nat} {l2 : List Nat} {K : LS → Prop} (hki : known ops i) :
  ∀ (l1 gh : List Nat) {s : LS},(∀ p ∈ l1,known ops p ∧ (∀ d,(opAt ops p).dst = some d → d ∉ (opAt ops p).looksAt ops)) → (∀ p ∈ l1,PairQ ops qs F p i ∧ reach ops ops.size p i = false) → l1.Pairwise (PairQ ops qs F) → (∀ p ∈ gh,p ∈ look F i ∧ cA ops qs p = true ∧ ∀ q ∈ l1,PairQ ops qs F p q) →
   lopsQ P T ops qs F (l1 ++ i :: l2) s K → (cA ops qs i = true → headQ P T ops i s fun s1 => lopsQ P T ops qs F (l1 ++ l2) s1 K) ∧ (cA ops qs i = false → stepL P T ops.toList (opAt ops i) s fun s1 => (∀ p ∈ gh,keptL (rds (opAt ops p) s) s s1) ∧ lopsQ P T ops qs F (l1 ++ l2) s1 K)
 | [],gh,s,_,_,_,hgh,h => by
  rw [List.nil_append,lopsQ] at h
  split at h
  ·rename_i hA
   exact ⟨fun _ => h,fun e => (by rw [hA] at e; cases e)⟩
  ·rename_i hA
   exact ⟨fun e => (by rw [hA] at e; cases e),fun _ => stepL_m hki h fun s1 h1 => ⟨fun p hp => keptB_get h1.1 p (hgh p hp).1,h1.2⟩⟩
 | p :: l1,gh,s,hk,hi,hpw,hdn,h => by
  obtain ⟨hkp,hself⟩ := hk p List.mem_cons_self
  obtain ⟨⟨hpi1,hpi2,hpi3⟩,hnr⟩ := hi p List.mem_cons_self
  rw [List.pairwise_cons] at hpw
  obtain ⟨hA,hap,hfl⟩ : cA ops qs p = true ∧ (opAt ops p).apart ops (opAt ops i) = true ∧ (cA ops qs i = true ∨ p ∈ look F i) := by
   rcases hpi2 with e | e
   ·rw [hnr] at e; cases e
   ·exact e
  obtain ⟨a1,a2,a3⟩ := Oper.apart_spec hap
  rw [List.cons_append,lopsQ] at h
  rw [hA] at h
  dsimp only at h
  obtain ⟨u,h1,hg,_⟩ := head_x h
  have next : ∀ {s1 : LS},AgreeS ops (opAt ops p) s s1 → lopsQ P T ops qs F (l1 ++ l2) (s1.put (opAt ops p).dst u) K → lopsQ P T ops qs F (p :: l1 ++ l2) s1 K := by
   intro s1 hag h2
   rw [List.cons_append,lopsQ,hA]
   exact hg s1 hag _ h2
  have hkl : ∀ q ∈ l1,known ops q ∧ (∀ d,(opAt ops q).dst = some d → d ∉ (opAt ops q).looksAt ops) := fun q hq => hk q (List.mem_cons_of_mem _ hq)
  have hil : ∀ q ∈ l1,PairQ ops qs F q i ∧ reach ops ops.size q i = false := fun q hq => hi q (List.mem_cons_of_mem _ hq)
  refine ⟨fun hAi => ?_,fun hnA => ?_⟩
  ·have ih := (frontQ hki l1 [] hkl hil hpw.2 (fun q hq => (by cases hq)) h1).1 hAi
   obtain ⟨v,h4,h5,_⟩ := head_x ih
   refine h5 s ⟨fun _ _ => by rw [put_h],fun t ht => (tget_put _ _ _ (fun e => a1 t e ht)).symm⟩ _ ?_
   refine next ⟨fun _ _ => by rw [put_h],fun t ht => tget_put _ _ _ (fun e => a3 t e ht)⟩ ?_
   rw [← put_comm _ _ _ _ a2]
   exact h4
  ·have hX : isX (opAt ops i) = true := hki.resolve_right (fun e => by unfold cA at hnA; rw [e] at hnA; cases hnA)
   have hpf : p ∈ look F i := hfl.resolve_left (fun e => by rw [hnA] at e; cases e)
   have ih := (frontQ hki l1 (p :: gh) hkl hil hpw.2 (fun q hq => by
    rcases List.mem_cons.1 hq with rfl | hq
    ·exact ⟨hpf,hA,hpw.1⟩
    ·exact ⟨(hdn q hq).1,(hdn q hq).2.1,fun r hr => (hdn q hq).2.2 r (List.mem_cons_of_mem _ hr)⟩) h1).2 hnA
   have h3 := step_slot hX a1 a2 ih
   refine stepL_m (.inl hX) h3 fun s1 ⟨h4,h5,h6⟩ => ?_
   have hkp2 := h5 p List.mem_cons_self
   rw [rds_put hself] at hkp2
   refine ⟨fun q hq => ?_,next ⟨fun b hb => ?_,fun t ht => h4 t fun e => a3 t e ht⟩ h6⟩
   ·have e := h5 q (List.mem_cons_of_mem _ hq)
    rw [rds_put (((hdn q hq).2.2 p List.mem_cons_self).2.2 i (hdn q hq).1 hpf (hdn q hq).2.1 hA)] at e
    refine keptL_mk fun b hb => ?_
    have := keptL_get e b hb
    rwa [put_h,put_h] at this
   ·have := keptL_get hkp2 b hb
    rwa [put_h,put_h] at this
end
def orderQ (ops : Array Oper) (qs : List Nat) (F : List (Nat × List Nat)) : List Nat → List Nat → Bool
 | _,[] => true
 | pre,q :: l => edgesOK ops pre q && selfOK ops q && l.all (fun r => pairQ ops qs F q r) && orderQ ops qs F (q :: pre) l
def drawnQ (ops : Array Oper) (qs : List Nat) (F : List (Nat × List Nat)) (order : List Nat) : Bool := orderQ ops qs F [] order && (List.range ops.size).all (fun j => order.contains j)
section
variable {P : Program} {T : TT} {K : LS → Prop}
theorem orderQ_spec {ops : Array Oper} {qs : List Nat} {F : List (Nat × List Nat)} : ∀ {l pre : List Nat},orderQ ops qs F pre l = true → l.Pairwise (PairQ ops qs F) ∧ (∀ q ∈ l,known ops q ∧ (∀ d,(opAt ops q).dst = some d → d ∉ (opAt ops q).looksAt ops)) ∧
  ∀ l1 q l2,l = l1 ++ q :: l2 → ∃ o,ops[q]? = some o ∧ ∀ e ∈ o.after,Region.binds .any e = true → e.on ∈ pre ∨ e.on ∈ l1
 | [],pre,_ => ⟨.nil,fun q hq => (by cases hq),fun l1 q l2 h => (by cases l1 <;> cases h)⟩
 | r :: l,pre,h => by
  simp only [orderQ,Bool.and_eq_true] at h
  obtain ⟨⟨⟨h1,h2⟩,h3⟩,h4⟩ := h
  obtain ⟨k1,k2,k3⟩ := orderQ_spec h4
  refine ⟨List.pairwise_cons.2 ⟨fun q hq => pairQ_spec (List.all_eq_true.1 h3 q hq),k1⟩,fun q hq => ?_,fun l1 q l2 e => ?_⟩
  ·rcases List.mem_cons.1 hq with rfl | hq
   ·exact selfOK_spec h2
   ·exact k2 q hq
  ·cases l1 with
   | nil =>
    cases e
    unfold edgesOK at h1
    split at h1
    ·rename_i o ho
     refine ⟨o,ho,fun e he hb => .inl ?_⟩
     have := Array.all_eq_true_iff_forall_mem.1 h1 e he
     simpa [hb] using this
    ·cases h1
   | cons x l1 =>
    cases e
    obtain ⟨o,ho,h5⟩ := k3 l1 q l2 rfl
    refine ⟨o,ho,fun e he hb => ?_⟩
    rcases h5 e he hb with h | h
    ·rcases List.mem_cons.1 h with h | h
     ·exact .inr (by rw [h]; exact List.mem_cons_self)
     ·exact .inl h
    ·exact .inr (List.mem_cons_of_mem _ h)
theorem anyQ_sound (hT : TOK P T) {ops : Array Oper} {qs : List Nat} {F : List (Nat × List Nat)} {order : List Nat} (hd : drawnQ ops qs F order = true) {c0 : Ctx} {w0 : World} {Q : Exit → Act → World → Prop} (hQ : ∀ a' w',Post K c0 w0 a' w' → Q .normal a' w') :
  ∀ (fuel : Nat) (listed : Array Bool) {s : LS} {c : Ctx} {a : Act} {w : World},listed.size = ops.size → Closed ops listed → (unlO order listed).length = fuel → Ext c0 w0 c w → St c s a w →
  lopsQ (fun _ => P) (fun _ => T) ops qs F (unlO order listed) s K → wpAny P .any ops Q fuel listed a w := by
 simp only [drawnQ,Bool.and_eq_true,List.all_eq_true,List.mem_range] at hd
 obtain ⟨hpw,hkn,hed⟩ := orderQ_spec hd.1
 have hall : ∀ j,j < ops.size → j ∈ order := fun j hj => by simpa using hd.2 j hj
 have mem_unl : ∀ {listed : Array Bool} {j : Nat},j ∈ unlO order listed ↔ j ∈ order ∧ listed.getD j true = false := by
  intro listed j
  simp [unlO,List.mem_filter]
 have at_ : ∀ {j o},ops[j]? = some o → opAt ops j = o := by
  intro j o ho
  simp [opAt,ho]
 have hlt_ : ∀ {listed : Array Bool} {j : Nat},listed.size = ops.size → listed.getD j true = false → j < ops.size := by
  intro listed j hsz h
  rcases Nat.lt_or_ge j ops.size with h1 | h1
  ·exact h1
  ·rw [Array.getD_eq_getD_getElem?,Array.getElem?_eq_none (by omega)] at h; cases h
 intro fuel
 induction fuel with
 | zero =>
  intro listed s c a w hsz hcl hlen he hs h
  have h0 : unlO order listed = [] := List.eq_nil_of_length_eq_zero hlen
  refine ⟨List.eq_nil_iff_forall_not_mem.2 fun j hj => ?_,?_⟩
  ·obtain ⟨h1,o,h2,_⟩ := mem_ready.1 hj
   have : j ∈ unlO order listed := mem_unl.2 ⟨hall j (Array.getElem?_eq_some_iff.1 h2).1,h1⟩
   rw [h0] at this; cases this
  ·rw [h0] at h
   exact hQ _ _ ⟨c,s,h,hs,he⟩
 | succ fuel ih =>
  intro listed s c a w hsz hcl hlen he hs h
  refine ⟨fun hr => ?_,fun i hi => ?_⟩
  ·exfalso
   cases hu : unlO order listed with
   | nil => rw [hu] at hlen; cases hlen
   | cons i0 rest =>
    obtain ⟨l1,l2,e1,e2,e3,e4⟩ := List.filter_eq_cons_iff.1 hu
    have hun : listed.getD i0 true = false := by simpa using e3
    obtain ⟨o,ho,h5⟩ := hed l1 i0 l2 e1
    have : i0 ∈ Region.ready .any ops listed := by
     refine mem_ready.2 ⟨hun,o,ho,fun e hee hb => ?_⟩
     rcases h5 e hee hb with h6 | h6
     ·cases h6
     ·have h7 := e2 _ h6
      have h8 : listed.getD e.on true = true := by simpa using h7
      rcases Nat.lt_or_ge e.on listed.size with h9 | h9
      ·rw [getD_tf h9 false true]; exact h8
      ·exfalso
       obtain ⟨m1,m2,hm⟩ := List.append_of_mem h6
       obtain ⟨o2,ho2,_⟩ := hed m1 e.on (m2 ++ i0 :: l2) (by rw [e1,hm]; simp)
       have := (Array.getElem?_eq_some_iff.1 ho2).1
       omega
    rw [hr] at this; cases this
  ·obtain ⟨hun,o,ho,haft⟩ := mem_ready.1 hi
   have hlt : i < ops.size := (Array.getElem?_eq_some_iff.1 ho).1
   have hiu : i ∈ unlO order listed := mem_unl.2 ⟨hall i hlt,hun⟩
   obtain ⟨l1,l2,hl⟩ := List.append_of_mem hiu
   have hpu : (unlO order listed).Pairwise (PairQ ops qs F) := hpw.filter _
   have hku : ∀ q ∈ unlO order listed,known ops q ∧ (∀ d,(opAt ops q).dst = some d → d ∉ (opAt ops q).looksAt ops) := fun q hq => hkn q (mem_unl.1 hq).1
   rw [hl] at hpu hku h
   rw [List.pairwise_append] at hpu
   obtain ⟨hp1,hp2,hp3⟩ := hpu
   rw [List.pairwise_cons] at hp2
   have hrest : unlO order (listed.setIfInBounds i true) = l1 ++ l2 := by
    have e1 : unlO order (listed.setIfInBounds i true) = (unlO order listed).filter (· != i) := by
     unfold unlO
     rw [List.filter_filter]
     refine List.filter_congr fun j hj => ?_
     by_cases e : i = j
     ·subst e
      rw [Array.getD_eq_getD_getElem?,Array.getElem?_setIfInBounds_self_of_lt (by omega)]
      simp
     ·rw [getD_set_ne _ e]
      have : (j != i) = true := by simp; omega
      rw [this]; simp
    rw [e1,hl,List.filter_append,List.filter_cons_of_neg (by simp)]
    congr 1
    ·rw [List.filter_eq_self]
     intro p hp
     have := (hp3 p hp i List.mem_cons_self).1
     simpa using this
    ·rw [List.filter_eq_self]
     intro p hp
     have := (hp2.1 p hp).1
     have : p ≠ i := fun e => this e.symm
     simpa using this
   have hf := frontQ (ops := ops) (F := F) (i := i) (l2 := l2) (hku i (by simp)).1 l1 [] (fun p hp => hku p (by simp [hp])) (fun p hp => ⟨hp3 p hp i List.mem_cons_self,by
    cases e : reach ops ops.size p i with
    | false => rfl
    | true =>
     exfalso
     have h1 := reach_listed hcl _ i o ho e haft
     have hpm : p ∈ unlO order listed := by rw [hl]; simp [hp]
     have h2 := (mem_unl.1 hpm).2
     rw [getD_tf (by rw [hsz]; exact hlt_ hsz h2) true false,h1] at h2; cases h2⟩) hp1 (fun p hp => (by cases hp)) h
   rw [← hrest] at hf
   have hsz' : (listed.setIfInBounds i true).size = ops.size := by simp [hsz]
   have hcl' : Closed ops (listed.setIfInBounds i true) := by
    intro q oq hoq hq e hee hb
    by_cases hqi : i = q
    ·subst hqi
     rw [ho] at hoq; cases hoq
     exact getD_set_true (haft e hee hb)
    ·rw [getD_set_ne _ hqi] at hq
     exact getD_set_true (hcl q oq hoq hq e hee hb)
   have hlen' : (unlO order (listed.setIfInBounds i true)).length = fuel := by
    rw [hrest]
    rw [hl] at hlen
    simp at hlen ⊢; omega
   have hgo : ∀ (R : LS → Prop),stepL (fun _ => P) (fun _ => T) ops.toList o s R → (∀ s1,R s1 → lopsQ (fun _ => P) (fun _ => T) ops qs F (unlO order (listed.setIfInBounds i true)) s1 K) → wpOp P ops Q i (fun a' w' => wpAny P .any ops Q fuel (listed.setIfInBounds i true) a' w') a w := by
    intro R hf hR
    unfold wpOp
    rw [ho]
    dsimp only
    unfold stepL at hf
    split at hf
    ·rename_i cb hy
     have hw := yes_sound hs hy
     cases cb with
     | true =>
      rw [if_pos hw]
      left
      refine Oper.wp_mono (fun a' w' hp => ?_) (lop_sound (Q := Q) hT hs hf)
      obtain ⟨c',s',hK,hs',he'⟩ := hp
      exact ih _ hsz' hcl' hlen' (he.trans he') hs' (hR _ hK)
     | false =>
      rw [if_neg (by rw [hw]; simp)]
      exact ih _ hsz' hcl' hlen' he (hs.put .nul _) (hR _ hf)
    ·exact hf.elim
   cases hcA : cA ops qs i with
   | true =>
    obtain ⟨u,h1,_,h3⟩ := head_x (hf.1 hcA)
    rw [at_ ho] at h1 h3
    refine hgo _ (h3 s ⟨fun _ _ => rfl,fun _ _ => rfl⟩ (fun s1 => s1 = s.put o.dst u) rfl) fun s1 e => ?_
    rw [e]; exact h1
   | false =>
    have h3 := hf.2 hcA
    rw [at_ ho] at h3
    exact hgo _ h3 fun s1 h => h.2
theorem quiet_sound (hT : TOK P T) (hm : P.follows .mixedOrders = true) (qs : List Nat) (F : List (Nat × List Nat)) (order : List Nat) {ops : Unit → Array Oper} {s : LS} (hd : drawnQ (ops ()) qs F order = true) (h : lopsQ (fun _ => P) (fun _ => T) (ops ()) qs F order s K) : DrawF (fun _ => P) ops s K := by
 refine .mk fun c a w t Q hs hQ => ?_
 generalize ops () = ops at *
 simp only [Region.schedule,hm,Bool.true_or,if_true]
 have hget : ∀ i,(Array.replicate ops.size false).getD i false = false := by
  intro i
  rw [Array.getD_eq_getD_getElem?,Array.getElem?_replicate]
  split <;> rfl
 have hd' := hd
 simp only [drawnQ,Bool.and_eq_true] at hd'
 obtain ⟨hpw,_,hed⟩ := orderQ_spec hd'.1
 have hlt : ∀ j ∈ order,j < ops.size := fun j hj => by
  obtain ⟨l1,l2,e⟩ := List.append_of_mem hj
  obtain ⟨o,ho,_⟩ := hed l1 j l2 e
  exact (Array.getElem?_eq_some_iff.1 ho).1
 have hun : unlO order (Array.replicate ops.size false) = order := by
  unfold unlO
  rw [List.filter_eq_self]
  intro j hj
  have := hlt j hj
  rw [Array.getD_eq_getD_getElem?,Array.getElem?_replicate,if_pos this]; rfl
 have hnd : order.Nodup := hpw.imp fun h => h.1
 have hlen : order.length = ops.size := by
  have h1 : order.Perm (List.range ops.size) := by
   rw [List.perm_ext_iff_of_nodup hnd List.nodup_range]
   intro j
   rw [List.mem_range]
   exact ⟨hlt j,fun hj => by have := List.all_eq_true.1 hd'.2 j (List.mem_range.2 hj); simpa using this⟩
  simpa using h1.length_eq
 refine wpAny_sound ops.size t _ a w (anyQ_sound (K := K) hT hd (c0 := c) (w0 := w) (fun a' w' hp => hQ a' w' ?_) ops.size _ (by simp) ?_ (by rw [hun]; exact hlen) (Ext.refl hs.hr) hs ?_)
 ·obtain ⟨c',s',hK,hs',he⟩ := hp
  exact ⟨c',s',hK,hs',he⟩
 ·intro q o _ hq
  rw [hget] at hq; cases hq
 ·rw [hun]; exact h
def autoOQ (ops : Array Oper) (qs : List Nat) : Nat → List Nat → List Nat → List Nat
 | 0,_,_ => []
 | n + 1,pre,rest => match firstOf (fun q => cA ops qs q && edgesOK ops pre q) rest with
  | some q => q :: autoOQ ops qs n (q :: pre) (rest.filter (· != q))
  | none => match firstOf (fun q => edgesOK ops pre q) rest with
   | some q => q :: autoOQ ops qs n (q :: pre) (rest.filter (· != q))
   | none => []
def autoFQ (ops : Array Oper) (qs : List Nat) : List Nat → List Nat → List (Nat × List Nat)
 | _,[] => []
 | pre,q :: l => if cA ops qs q then autoFQ ops qs (q :: pre) l else (q,pre.filter fun p => cA ops qs p && !reach ops ops.size p q) :: autoFQ ops qs (q :: pre) l
end
end Go.LX
namespace Go.LX
open Go
set_option linter.unusedVariables false
set_option maxHeartbeats 32000000
inductive ReadF (P : Unit → Program) (f : Nat) (args : List LV) (bs : List Nat) (h : LH) (n : Nat) (K : LV → Prop) : Prop
 | mk (u : LV) (hq : ∀ h' n',(∀ b ∈ bs,hget h' b = hget h b) → n ≤ n' → CallF P f args h' n' fun r h2 n2 => r = u ∧ h2 = h' ∧ n2 = n') (hk : K u)
section
variable {P : Unit → Program} {T : Unit → TT} {o : Oper} {s : LS}
def rowL (T : Unit → TT) (o : Oper) (s : LS) : Option LV :=
 match o.op with
 | .buildSlice t len parts => match lget (T ()) t with
  | some ti => match ti.kind with
   | .slice e => match lget (T ()) e with
    | some te => match Nat.ble (len * te.size) 10000,Nat.beq (llen (pvs te.zero)) te.size,Nat.ble 1 te.size with
     | true,true,true => match fillL (T ()) ti.kind (reps te.zero len) (evs s parts.toList) with
      | some cs => match allP cs with
       | some ps => some (.p (.vsl (.lit len) false ps))
       | none => none
      | none => none
     | _,_,_ => none
    | none => none
   | _ => none
  | none => none
 | _ => none
def readL (P : Unit → Program) (T : Unit → TT) (all : List Oper) (bs : List Nat) (o : Oper) (s : LS) (L : LS → Prop) : Prop :=
 match yes s all o.guard with
 | some c => match c with
  | true => match o.op with
   | .call c => match c.callee with
    | .value (.func f) => ReadF P f (eva s c.args.toList) bs s.h s.n fun u => L (s.put o.dst u)
    | _ => False
   | .buildSlice _ _ _ => match rowL T o s with
    | some u => L (s.put o.dst u)
    | none => False
   | _ => False
  | false => L (s.put o.dst .nul)
 | none => False
theorem rowL_agree {T : Unit → TT} {o : Oper} {s s' : LS} {ops : Array Oper} (h : ∀ t ∈ o.looksAt ops,tget s'.t t = tget s.t t) : rowL T o s' = rowL T o s := by
 unfold rowL
 split
 ·rename_i t len parts ho
  have hev : evs s' parts.toList = evs s parts.toList := evs_agree _ fun x hx => by
   have hx2 : x.2 ∈ o.op.operands := by
    rw [ho]
    simp only [Op.operands]
    simpa using ⟨x.1,(by simpa using hx)⟩
   cases hx3 : x.2 with
   | tmp t =>
    rw [hx3] at hx2
    refine h t ?_
    simp only [Oper.looksAt,List.mem_append,List.mem_filterMap]
    exact .inl ⟨.tmp t,by simpa using hx2,rfl⟩
   | const v => rfl
   | global g => rfl
   | func f => rfl
  rw [hev]
 ·rfl
theorem Ext.mute {c : Ctx} {w : World} {h : LH} (hr : HR c w h) (o : Obj) : Ext c w c (w.alloc o) := by
 refine ⟨rfl,rfl,rfl,by simp,rfl,Nat.le_refl _,fun b hb => .inl rfl,fun b r hb h => ?_,fun r hr _ => heap_alloc_old w o hr,fun b r hb h => ?_⟩
 ·rw [hr.fresh b hb] at h; cases h
 ·simp only [World.shape?,heap_alloc_old w o (hr.lt b r h)]
theorem row_sound {P : Program} {T : TT} {o : Oper} {s : LS} {u : LV} {c : Ctx} {a : Act} {w : World} {Q : Exit → Act → World → Prop} (hT : TOK P T) (hs : St c s a w) (h : rowL (fun _ => T) o s = some u) : o.wp P a w (Post (fun s1 => s1 = s.put o.dst u) c w) Q := by
 unfold rowL at h
 split at h
 ·rename_i t len parts ho
  split at h
  ·rename_i ti ht
   split at h
   ·rename_i e hk
    split at h
    ·rename_i te hte
     split at h
     ·rename_i hlen hzl h1
      split at h
      ·rename_i cs hf
       split at h
       ·rename_i ps hps
        cases h
        have hlen := Nat.le_of_ble_eq_true hlen
        have h1 := Nat.le_of_ble_eq_true h1
        obtain ⟨z,hz,hzc,hzr⟩ := zero_cells (hT e te hte)
        obtain ⟨hl,hq⟩ := evs_rel hs parts.toList
        obtain ⟨⟨i,z',d,hi,hsz,_,hz',_,hu,hkd,_⟩,_⟩ := hT t ti ht
        rw [hk] at hkd hf
        cases d <;> try exact hkd.elim
        rename_i e'
        have hkd : e = e' := hkd
        subst hkd
        have hse := tok_size (w := w) (hT e te hte)
        have hzs : z.cells.size = te.size := by
         have h2 := Nat.eq_of_beq_eq_true hzl
         rw [llen_eq,pvs_length] at h2
         have : z.cells.toList.length = te.zero.length := by rw [hzc,List.length_map]
         rw [Array.length_toList] at this; omega
        have hpl2 : ∀ i off sz,place T (.slice e) i = some (off,sz) → (fun i => some (i * te.size,te.size)) i = some (off,sz) := by
         intro i off sz hp
         simp only [place,hte] at hp
         exact hp
        have hrel0 := reps_rel c w (hzr c w) (by omega) len
        rw [hzs] at hrel0
        obtain ⟨arr',h3,h4,h5⟩ := fill_sound (c := c) (w := w) hpl2 _ _ _ _ hl hq hrel0 hf
        have hlens : arr'.size = len * te.size := by rw [h5]; simp
        have hmap : (parts.map fun (i,x) => (i,a.eval x)).toList = parts.toList.map fun (i,x) => (i,a.eval x) := by simp
        have hrun : (execOp a.eval o).run P w = .ok (.value (.slice (some ⟨w.heap.size,0,none⟩) len len)) (w.alloc (.cells arr' e)) := by
         unfold execOp; rw [ho]
         refine runv ?_
         have hbig : ¬ len * te.size > 2 ^ 24 := by omega
         by_cases h0 : len * te.size = 0
         ·have e0 : (Array.range (len * te.size)).map (fun j => z.cells[j % te.size]!) = (#[] : Array Value) := by rw [h0]; simp
          rw [e0] at h3
          have e1 : (Array.map (fun _ => (default : Value)) (Array.range 0)) = (#[] : Array Value) := by simp
          have hmap2 : (List.map (fun x : Nat × Operand => (x.fst,a.eval x.snd)) parts.toList) = parts.toList.map fun (i,x) => (i,a.eval x) := rfl
          simp [Instr.buildSlice,run_underlying hu,hse,h0,newRow]
          rw [e1,hmap2,h3]
          simp
         ·simp only at h3
          simp [Instr.buildSlice,run_underlying hu,hse,hbig,h0,hz,hzs,h3,newRow]
        have he := Ext.mute hs.hr (.cells arr' e)
        have hr' : HR c (w.alloc (.cells arr' e)) s.h := hs.hr.step he (.inl rfl) hs.hr.fresh (fun b => .inl rfl) (fun b B hb => .inl ⟨hb,rfl,fun r hm => heap_alloc_old w _ (hs.hr.lt b r hm)⟩)
        have hs1 : St c s a (w.alloc (.cells arr' e)) := ⟨hs.tl,fun i u hu => (hs.tr i u hu).ext hs.hr.fresh he,hs.df,hr',hs.nn⟩
        have hps := allP_eq _ hps
        subst hps
        have hcell : ∀ (j : Nat) (u : PV),ps[j]? = some u → ∃ x,arr'.toList[j]? = some x ∧ PR c.mut w u x := by
         intro j u hj
         obtain ⟨x,hx,hxr⟩ := h4.2 j (.p u) (by rw [pvs_get,hj]; rfl)
         cases hxr with
         | p _ _ hxr => exact ⟨x,hx,hxr⟩
        have hnew : LR c (w.alloc (.cells arr' e)) (.p (.vsl (.lit len) false ps)) (.slice (some ⟨w.heap.size,0,none⟩) len len) := by
         refine .p _ _ (.vsl _ _ _ _ len len (fun j => arr'.toList.getD j Go.undef) rfl rfl ?_ ?_ (Nat.le_refl _) ?_ ?_ ?_)
         ·rintro (hx | ⟨b,hb⟩)
          ·exact Nat.lt_irrefl _ (hs.hr.ltX _ hx)
          ·exact Nat.lt_irrefl _ (hs.hr.lt _ _ hb)
         ·simp
         ·unfold maxLen
          have : len ≤ len * te.size := Nat.le_mul_of_pos_right _ h1
          omega
         ·intro j u hj
          obtain ⟨x,hx,_⟩ := hcell j u hj
          have hx2 : arr'[j]? = some x := by simpa using hx
          have hg2 : (w.alloc (.cells arr' e)).heap[w.heap.size]? = some (.cells arr' e (0,0)) := by rw [heap_alloc_new]
          rw [add_lit]
          simp only [World.cell?,hg2]
          rw [List.getD_eq_getElem?_getD,hx]
          simpa using hx2
         ·intro j u hj
          obtain ⟨x,hx,hxr⟩ := hcell j u hj
          rw [List.getD_eq_getElem?_getD,hx]
          exact hxr.ext hs.hr.fresh he
        unfold Oper.wp
        rw [hrun,Oper.upon_value]
        exact ⟨c,_,rfl,hs1.put hnew _,he⟩
       ·cases h
      ·cases h
     ·cases h
    ·cases h
   ·cases h
  ·cases h
 ·cases h
def rdsR (ops : Array Oper) (bs : List Nat) (p : Nat) (s : LS) : List Nat := match isA (opAt ops p) with
 | true => rds (opAt ops p) s
 | false => bs
def AgreeR (ops : Array Oper) (bs : List Nat) (p : Nat) (s s' : LS) : Prop := (∀ b ∈ rdsR ops bs p s,hget s'.h b = hget s.h b) ∧ (∀ t ∈ (opAt ops p).looksAt ops,tget s'.t t = tget s.t t) ∧ s.n ≤ s'.n
theorem rdsR_put {ops : Array Oper} {bs : List Nat} {p : Nat} {d : Option Nat} {u : LV} (hd : ∀ t,d = some t → t ∉ (opAt ops p).looksAt ops) : rdsR ops bs p (s.put d u) = rdsR ops bs p s := by
 unfold rdsR
 cases isA (opAt ops p) with
 | true => exact rds_put hd
 | false => rfl
def keptR (ops : Array Oper) (bs : List Nat) : List Nat → LS → LS → Prop
 | [],s,s1 => Nat.ble s.n s1.n = true
 | p :: fl,s,s1 => keptL (rdsR ops bs p s) s s1 ∧ keptR ops bs fl s s1
theorem keptR_get {ops : Array Oper} {bs : List Nat} : ∀ {fl : List Nat} {s s1 : LS},keptR ops bs fl s s1 → s.n ≤ s1.n ∧ ∀ p ∈ fl,keptL (rdsR ops bs p s) s s1
 | [],_,_,h => ⟨Nat.le_of_ble_eq_true h,fun p hp => by cases hp⟩
 | x :: l,s,s1,h => ⟨(keptR_get h.2).1,fun p hp => by
  rcases List.mem_cons.1 hp with rfl | hp
  ·exact h.1
  ·exact (keptR_get h.2).2 p hp⟩
theorem yes_agree {ops : Array Oper} {s s' : LS} (h : ∀ t ∈ o.looksAt ops,tget s'.t t = tget s.t t) : yes s' ops.toList o.guard = yes s ops.toList o.guard := by
 cases hg : o.guard with
 | none => rfl
 | some p =>
  obtain ⟨j,want⟩ := p
  simp only [yes,onth_eq]
  have hj : ops.toList[j]? = ops[j]? := by simp
  rw [hj]
  cases e : ops[j]? with
  | none => rfl
  | some q =>
   dsimp only
   cases e2 : q.dst with
   | none => rfl
   | some d =>
    dsimp only
    rw [h d (by simp [Oper.looksAt,hg,e,e2])]
def headR (P : Unit → Program) (T : Unit → TT) (ops : Array Oper) (bs : List Nat) (i : Nat) (s : LS) (L : LS → Prop) : Prop :=
 match isA (opAt ops i) with
 | true => stepL P T ops.toList (opAt ops i) s L
 | false => readL P T ops.toList bs (opAt ops i) s L
theorem AgreeR.toS {ops : Array Oper} {bs : List Nat} {i : Nat} {s s' : LS} (hA : isA (opAt ops i) = true) (h : AgreeR ops bs i s s') : AgreeS ops (opAt ops i) s s' := by
 refine ⟨?_,h.2.1⟩
 have := h.1
 unfold rdsR at this
 rw [hA] at this
 exact this
theorem headR_x {ops : Array Oper} {bs : List Nat} {i : Nat} {L : LS → Prop} (h : headR P T ops bs i s L) : ∃ u,L (s.put (opAt ops i).dst u) ∧ (∀ s',AgreeR ops bs i s s' → ∀ L' : LS → Prop,L' (s'.put (opAt ops i).dst u) → headR P T ops bs i s' L') ∧ (∀ s',AgreeR ops bs i s s' → (∀ L' : LS → Prop,L' (s'.put (opAt ops i).dst u) → stepL P T ops.toList (opAt ops i) s' L') ∨ (yes s' ops.toList (opAt ops i).guard = some true ∧ rowL T (opAt ops i) s' = some u)) := by
 unfold headR at h
 split at h
 ·rename_i hA
  obtain ⟨u,h1,h2⟩ := step_x hA h
  refine ⟨u,h1,fun s' ha L' hL => ?_,fun s' ha => .inl (h2 s' (ha.toS hA))⟩
  unfold headR
  rw [hA]
  exact h2 s' (ha.toS hA) L' hL
 ·rename_i hA
  have hbs : ∀ s',AgreeR ops bs i s s' → ∀ b ∈ bs,hget s'.h b = hget s.h b := fun s' ha => by
   have := ha.1
   unfold rdsR at this
   rw [hA] at this
   exact this
  have hlk : ∀ s',AgreeR ops bs i s s' → ∀ t ∈ (opAt ops i).looksAt ops,tget s'.t t = tget s.t t := fun s' ha => ha.2.1
  have hn : ∀ s',AgreeR ops bs i s s' → s.n ≤ s'.n := fun s' ha => ha.2.2
  generalize hoo : opAt ops i = o at *
  unfold readL at h
  split at h
  ·rename_i cb hy
   have hy' : ∀ s',AgreeR ops bs i s s' → yes s' ops.toList o.guard = some cb := fun s' ha => (yes_agree (hlk s' ha)).trans hy
   split at h
   ·split at h
    ·rename_i c ho
     split at h
     ·rename_i f hc
      cases h with
      | mk u hq hk =>
       have hev : ∀ s',AgreeR ops bs i s s' → eva s' c.args.toList = eva s c.args.toList := fun s' ha => eva_agree _ fun x hx => by
        have hx : x ∈ c.args := by simpa using hx
        have hx2 : x ∈ o.op.operands := by rw [ho]; simp [Op.operands,Call.operands,hc,hx]
        cases x with
        | tmp t =>
         refine hlk s' ha t ?_
         simp only [Oper.looksAt,List.mem_append,List.mem_filterMap]
         exact .inl ⟨.tmp t,by simpa using hx2,rfl⟩
        | const v => rfl
        | global g => rfl
        | func f => rfl
       refine ⟨u,hk,fun s' ha L' hL => ?_,fun s' ha => .inl fun L' hL => ?_⟩
       ·unfold headR
        rw [hoo,hA]
        dsimp only
        unfold readL
        rw [hy' s' ha]
        dsimp only
        rw [ho]
        dsimp only
        rw [hc]
        dsimp only
        rw [hev s' ha]
        exact .mk u (fun h' n' hb hn' => hq h' n' (fun b hbm => (hb b hbm).trans (hbs s' ha b hbm)) (Nat.le_trans (hn s' ha) hn')) hL
       ·unfold stepL
        rw [hy' s' ha]
        dsimp only
        unfold lop
        rw [ho]
        dsimp only
        rw [hc]
        dsimp only [ev]
        rw [hev s' ha]
        refine (hq s'.h s'.n (hbs s' ha) (hn s' ha)).mono fun r h' n' ⟨e1,e2,e3⟩ => ?_
        subst e1 e2 e3
        exact hL
     ·exact h.elim
    ·rename_i t0 len0 parts0 ho
     split at h
     ·rename_i u hu
      refine ⟨u,h,fun s' ha L' hL => ?_,fun s' ha => .inr ⟨hy' s' ha,(rowL_agree (hlk s' ha)).trans hu⟩⟩
      unfold headR
      rw [hoo,hA]
      dsimp only
      unfold readL
      rw [hy' s' ha]
      dsimp only
      rw [ho]
      dsimp only
      rw [rowL_agree (hlk s' ha),hu]
      exact hL
     ·exact h.elim
    ·exact h.elim
   ·refine ⟨.nul,h,fun s' ha L' hL => ?_,fun s' ha => .inl fun L' hL => ?_⟩
    ·unfold headR
     rw [hoo,hA]
     dsimp only
     unfold readL
     rw [hy' s' ha]
     exact hL
    ·unfold stepL
     rw [hy' s' ha]
     exact hL
  ·exact h.elim
def lopsR (P : Unit → Program) (T : Unit → TT) (ops : Array Oper) (bs : List Nat) (qs : List Nat) (F : List (Nat × List Nat)) : List Nat → LS → (LS → Prop) → Prop
 | [],s,K => K s
 | i :: l,s,K => match cA ops qs i with
  | true => headR P T ops bs i s fun s1 => lopsR P T ops bs qs F l s1 K
  | false => stepL P T ops.toList (opAt ops i) s fun s1 => keptR ops bs (look F i) s s1 ∧ lopsR P T ops bs qs F l s1 K
def pairR (ops : Array Oper) (qs : List Nat) (F : List (Nat × List Nat)) (p q : Nat) : Bool :=
 p != q && (reach ops ops.size p q || (cA ops qs p && (opAt ops p).apart ops (opAt ops q) && (cA ops qs q || (look F q).contains p))) && (!(F.any fun e => e.2.contains p && e.2.contains q) || match (opAt ops q).dst with
  | some d => !cA ops qs p || !cA ops qs q || !((opAt ops p).looksAt ops).contains d
  | none => true)
def PairR (ops : Array Oper) (qs : List Nat) (F : List (Nat × List Nat)) (p q : Nat) : Prop := p ≠ q ∧ (reach ops ops.size p q = true ∨ (cA ops qs p = true ∧ (opAt ops p).apart ops (opAt ops q) = true ∧ (cA ops qs q = true ∨ p ∈ look F q))) ∧ (∀ i,p ∈ look F i → q ∈ look F i → cA ops qs p = true → cA ops qs q = true → ∀ d,(opAt ops q).dst = some d → d ∉ (opAt ops p).looksAt ops)
theorem pairR_spec {ops : Array Oper} {qs : List Nat} {F : List (Nat × List Nat)} {p q : Nat} (h : pairR ops qs F p q = true) : PairR ops qs F p q := by
 simp only [pairR,Bool.and_eq_true,Bool.or_eq_true,bne_iff_ne,ne_eq] at h
 obtain ⟨⟨h1,h2⟩,h3⟩ := h
 refine ⟨h1,h2.imp id (fun h => ⟨h.1.1,h.1.2,h.2.imp id (fun h => by simpa using h)⟩),fun i hpi hqi hp hq d hd => ?_⟩
 rw [look_any hpi hqi,hd,hp,hq] at h3
 simpa using h3
theorem frontR {ops : Array Oper} {bs : List Nat} {qs : List Nat} {F : List (Nat × List Nat)} {i : Nat} {l2 : List Nat} {K : LS → Prop} (hki : known ops i) :
  ∀ (l1 gh : List Nat) {s : LS},(∀ p ∈ l1,known ops p ∧ (∀ d,(opAt ops p).dst = some d → d ∉ (opAt ops p).looksAt ops)) → (∀ p ∈ l1,PairR ops qs F p i ∧ reach ops ops.size p i = false) → l1.Pairwise (PairR ops qs F) → (∀ p ∈ gh,p ∈ look F i ∧ cA ops qs p = true ∧ ∀ q ∈ l1,PairR ops qs F p q) →
   lopsR P T ops bs qs F (l1 ++ i :: l2) s K → (cA ops qs i = true → headR P T ops bs i s fun s1 => lopsR P T ops bs qs F (l1 ++ l2) s1 K) ∧ (cA ops qs i = false → stepL P T ops.toList (opAt ops i) s fun s1 => (s.n ≤ s1.n ∧ ∀ p ∈ gh,keptL (rdsR ops bs p s) s s1) ∧ lopsR P T ops bs qs F (l1 ++ l2) s1 K)
 | [],gh,s,_,_,_,hgh,h => by
  rw [List.nil_append,lopsR] at h
  split at h
  ·rename_i hA
   exact ⟨fun _ => h,fun e => (by rw [hA] at e; cases e)⟩
  ·rename_i hA
   exact ⟨fun e => (by rw [hA] at e; cases e),fun _ => stepL_m hki h fun s1 h1 => ⟨⟨(keptR_get h1.1).1,fun p hp => (keptR_get h1.1).2 p (hgh p hp).1⟩,h1.2⟩⟩
 | p :: l1,gh,s,hk,hi,hpw,hdn,h => by
  obtain ⟨hkp,hself⟩ := hk p List.mem_cons_self
  obtain ⟨⟨hpi1,hpi2,hpi3⟩,hnr⟩ := hi p List.mem_cons_self
  rw [List.pairwise_cons] at hpw
  obtain ⟨hA,hap,hfl⟩ : cA ops qs p = true ∧ (opAt ops p).apart ops (opAt ops i) = true ∧ (cA ops qs i = true ∨ p ∈ look F i) := by
   rcases hpi2 with e | e
   ·rw [hnr] at e; cases e
   ·exact e
  obtain ⟨a1,a2,a3⟩ := Oper.apart_spec hap
  rw [List.cons_append,lopsR] at h
  rw [hA] at h
  dsimp only at h
  obtain ⟨u,h1,hg,_⟩ := headR_x h
  have next : ∀ {s1 : LS},AgreeR ops bs p s s1 → lopsR P T ops bs qs F (l1 ++ l2) (s1.put (opAt ops p).dst u) K → lopsR P T ops bs qs F (p :: l1 ++ l2) s1 K := by
   intro s1 hag h2
   rw [List.cons_append,lopsR,hA]
   exact hg s1 hag _ h2
  have hkl : ∀ q ∈ l1,known ops q ∧ (∀ d,(opAt ops q).dst = some d → d ∉ (opAt ops q).looksAt ops) := fun q hq => hk q (List.mem_cons_of_mem _ hq)
  have hil : ∀ q ∈ l1,PairR ops qs F q i ∧ reach ops ops.size q i = false := fun q hq => hi q (List.mem_cons_of_mem _ hq)
  refine ⟨fun hAi => ?_,fun hnA => ?_⟩
  ·have ih := (frontR hki l1 [] hkl hil hpw.2 (fun q hq => (by cases hq)) h1).1 hAi
   obtain ⟨v,h4,h5,_⟩ := headR_x ih
   refine h5 s ⟨fun _ _ => by rw [put_h],fun t ht => (tget_put _ _ _ (fun e => a1 t e ht)).symm,by rw [put_n]; exact Nat.le_refl _⟩ _ ?_
   refine next ⟨fun _ _ => by rw [put_h],fun t ht => tget_put _ _ _ (fun e => a3 t e ht),by rw [put_n]; exact Nat.le_refl _⟩ ?_
   rw [← put_comm _ _ _ _ a2]
   exact h4
  ·have hX : isX (opAt ops i) = true := hki.resolve_right (fun e => by unfold cA at hnA; rw [e] at hnA; cases hnA)
   have hpf : p ∈ look F i := hfl.resolve_left (fun e => by rw [hnA] at e; cases e)
   have ih := (frontR hki l1 (p :: gh) hkl hil hpw.2 (fun q hq => by
    rcases List.mem_cons.1 hq with rfl | hq
    ·exact ⟨hpf,hA,hpw.1⟩
    ·exact ⟨(hdn q hq).1,(hdn q hq).2.1,fun r hr => (hdn q hq).2.2 r (List.mem_cons_of_mem _ hr)⟩) h1).2 hnA
   have h3 := step_slot hX a1 a2 ih
   refine stepL_m (.inl hX) h3 fun s1 ⟨h4,⟨hn5,h5⟩,h6⟩ => ?_
   simp only [put_n] at hn5
   have hkp2 := h5 p List.mem_cons_self
   rw [rdsR_put hself] at hkp2
   refine ⟨⟨hn5,fun q hq => ?_⟩,next ⟨fun b hb => ?_,(fun t ht => h4 t fun e => a3 t e ht),hn5⟩ h6⟩
   ·have e := h5 q (List.mem_cons_of_mem _ hq)
    rw [rdsR_put (((hdn q hq).2.2 p List.mem_cons_self).2.2 i (hdn q hq).1 hpf (hdn q hq).2.1 hA)] at e
    refine keptL_mk fun b hb => ?_
    have := keptL_get e b hb
    rwa [put_h,put_h] at this
   ·have := keptL_get hkp2 b hb
    rwa [put_h,put_h] at this
end
def orderR (ops : Array Oper) (qs : List Nat) (F : List (Nat × List Nat)) : List Nat → List Nat → Bool
 | _,[] => true
 | pre,q :: l => edgesOK ops pre q && selfOK ops q && l.all (fun r => pairR ops qs F q r) && orderR ops qs F (q :: pre) l
def drawnR (ops : Array Oper) (qs : List Nat) (F : List (Nat × List Nat)) (order : List Nat) : Bool := orderR ops qs F [] order && (List.range ops.size).all (fun j => order.contains j)
section
variable {P : Program} {T : TT} {K : LS → Prop}
theorem orderR_spec {ops : Array Oper} {qs : List Nat} {F : List (Nat × List Nat)} : ∀ {l pre : List Nat},orderR ops qs F pre l = true → l.Pairwise (PairR ops qs F) ∧ (∀ q ∈ l,known ops q ∧ (∀ d,(opAt ops q).dst = some d → d ∉ (opAt ops q).looksAt ops)) ∧
  ∀ l1 q l2,l = l1 ++ q :: l2 → ∃ o,ops[q]? = some o ∧ ∀ e ∈ o.after,Region.binds .any e = true → e.on ∈ pre ∨ e.on ∈ l1
 | [],pre,_ => ⟨.nil,fun q hq => (by cases hq),fun l1 q l2 h => (by cases l1 <;> cases h)⟩
 | r :: l,pre,h => by
  simp only [orderR,Bool.and_eq_true] at h
  obtain ⟨⟨⟨h1,h2⟩,h3⟩,h4⟩ := h
  obtain ⟨k1,k2,k3⟩ := orderR_spec h4
  refine ⟨List.pairwise_cons.2 ⟨fun q hq => pairR_spec (List.all_eq_true.1 h3 q hq),k1⟩,fun q hq => ?_,fun l1 q l2 e => ?_⟩
  ·rcases List.mem_cons.1 hq with rfl | hq
   ·exact selfOK_spec h2
   ·exact k2 q hq
  ·cases l1 with
   | nil =>
    cases e
    unfold edgesOK at h1
    split at h1
    ·rename_i o ho
     refine ⟨o,ho,fun e he hb => .inl ?_⟩
     have := Array.all_eq_true_iff_forall_mem.1 h1 e he
     simpa [hb] using this
    ·cases h1
   | cons x l1 =>
    cases e
    obtain ⟨o,ho,h5⟩ := k3 l1 q l2 rfl
    refine ⟨o,ho,fun e he hb => ?_⟩
    rcases h5 e he hb with h | h
    ·rcases List.mem_cons.1 h with h | h
     ·exact .inr (by rw [h]; exact List.mem_cons_self)
     ·exact .inl h
    ·exact .inr (List.mem_cons_of_mem _ h)
theorem anyR_sound (hT : TOK P T) {ops : Array Oper} {bs : List Nat} {qs : List Nat} {F : List (Nat × List Nat)} {order : List Nat} (hd : drawnR ops qs F order = true) {c0 : Ctx} {w0 : World} {Q : Exit → Act → World → Prop} (hQ : ∀ a' w',Post K c0 w0 a' w' → Q .normal a' w') :
  ∀ (fuel : Nat) (listed : Array Bool) {s : LS} {c : Ctx} {a : Act} {w : World},listed.size = ops.size → Closed ops listed → (unlO order listed).length = fuel → Ext c0 w0 c w → St c s a w →
  lopsR (fun _ => P) (fun _ => T) ops bs qs F (unlO order listed) s K → wpAny P .any ops Q fuel listed a w := by
 simp only [drawnR,Bool.and_eq_true,List.all_eq_true,List.mem_range] at hd
 obtain ⟨hpw,hkn,hed⟩ := orderR_spec hd.1
 have hall : ∀ j,j < ops.size → j ∈ order := fun j hj => by simpa using hd.2 j hj
 have mem_unl : ∀ {listed : Array Bool} {j : Nat},j ∈ unlO order listed ↔ j ∈ order ∧ listed.getD j true = false := by
  intro listed j
  simp [unlO,List.mem_filter]
 have at_ : ∀ {j o},ops[j]? = some o → opAt ops j = o := by
  intro j o ho
  simp [opAt,ho]
 have hlt_ : ∀ {listed : Array Bool} {j : Nat},listed.size = ops.size → listed.getD j true = false → j < ops.size := by
  intro listed j hsz h
  rcases Nat.lt_or_ge j ops.size with h1 | h1
  ·exact h1
  ·rw [Array.getD_eq_getD_getElem?,Array.getElem?_eq_none (by omega)] at h; cases h
 intro fuel
 induction fuel with
 | zero =>
  intro listed s c a w hsz hcl hlen he hs h
  have h0 : unlO order listed = [] := List.eq_nil_of_length_eq_zero hlen
  refine ⟨List.eq_nil_iff_forall_not_mem.2 fun j hj => ?_,?_⟩
  ·obtain ⟨h1,o,h2,_⟩ := mem_ready.1 hj
   have : j ∈ unlO order listed := mem_unl.2 ⟨hall j (Array.getElem?_eq_some_iff.1 h2).1,h1⟩
   rw [h0] at this; cases this
  ·rw [h0] at h
   exact hQ _ _ ⟨c,s,h,hs,he⟩
 | succ fuel ih =>
  intro listed s c a w hsz hcl hlen he hs h
  refine ⟨fun hr => ?_,fun i hi => ?_⟩
  ·exfalso
   cases hu : unlO order listed with
   | nil => rw [hu] at hlen; cases hlen
   | cons i0 rest =>
    obtain ⟨l1,l2,e1,e2,e3,e4⟩ := List.filter_eq_cons_iff.1 hu
    have hun : listed.getD i0 true = false := by simpa using e3
    obtain ⟨o,ho,h5⟩ := hed l1 i0 l2 e1
    have : i0 ∈ Region.ready .any ops listed := by
     refine mem_ready.2 ⟨hun,o,ho,fun e hee hb => ?_⟩
     rcases h5 e hee hb with h6 | h6
     ·cases h6
     ·have h7 := e2 _ h6
      have h8 : listed.getD e.on true = true := by simpa using h7
      rcases Nat.lt_or_ge e.on listed.size with h9 | h9
      ·rw [getD_tf h9 false true]; exact h8
      ·exfalso
       obtain ⟨m1,m2,hm⟩ := List.append_of_mem h6
       obtain ⟨o2,ho2,_⟩ := hed m1 e.on (m2 ++ i0 :: l2) (by rw [e1,hm]; simp)
       have := (Array.getElem?_eq_some_iff.1 ho2).1
       omega
    rw [hr] at this; cases this
  ·obtain ⟨hun,o,ho,haft⟩ := mem_ready.1 hi
   have hlt : i < ops.size := (Array.getElem?_eq_some_iff.1 ho).1
   have hiu : i ∈ unlO order listed := mem_unl.2 ⟨hall i hlt,hun⟩
   obtain ⟨l1,l2,hl⟩ := List.append_of_mem hiu
   have hpu : (unlO order listed).Pairwise (PairR ops qs F) := hpw.filter _
   have hku : ∀ q ∈ unlO order listed,known ops q ∧ (∀ d,(opAt ops q).dst = some d → d ∉ (opAt ops q).looksAt ops) := fun q hq => hkn q (mem_unl.1 hq).1
   rw [hl] at hpu hku h
   rw [List.pairwise_append] at hpu
   obtain ⟨hp1,hp2,hp3⟩ := hpu
   rw [List.pairwise_cons] at hp2
   have hrest : unlO order (listed.setIfInBounds i true) = l1 ++ l2 := by
    have e1 : unlO order (listed.setIfInBounds i true) = (unlO order listed).filter (· != i) := by
     unfold unlO
     rw [List.filter_filter]
     refine List.filter_congr fun j hj => ?_
     by_cases e : i = j
     ·subst e
      rw [Array.getD_eq_getD_getElem?,Array.getElem?_setIfInBounds_self_of_lt (by omega)]
      simp
     ·rw [getD_set_ne _ e]
      have : (j != i) = true := by simp; omega
      rw [this]; simp
    rw [e1,hl,List.filter_append,List.filter_cons_of_neg (by simp)]
    congr 1
    ·rw [List.filter_eq_self]
     intro p hp
     have := (hp3 p hp i List.mem_cons_self).1
     simpa using this
    ·rw [List.filter_eq_self]
     intro p hp
     have := (hp2.1 p hp).1
     have : p ≠ i := fun e => this e.symm
     simpa using this
   have hf := frontR (ops := ops) (bs := bs) (F := F) (i := i) (l2 := l2) (hku i (by simp)).1 l1 [] (fun p hp => hku p (by simp [hp])) (fun p hp => ⟨hp3 p hp i List.mem_cons_self,by
    cases e : reach ops ops.size p i with
    | false => rfl
    | true =>
     exfalso
     have h1 := reach_listed hcl _ i o ho e haft
     have hpm : p ∈ unlO order listed := by rw [hl]; simp [hp]
     have h2 := (mem_unl.1 hpm).2
     rw [getD_tf (by rw [hsz]; exact hlt_ hsz h2) true false,h1] at h2; cases h2⟩) hp1 (fun p hp => (by cases hp)) h
   rw [← hrest] at hf
   have hsz' : (listed.setIfInBounds i true).size = ops.size := by simp [hsz]
   have hcl' : Closed ops (listed.setIfInBounds i true) := by
    intro q oq hoq hq e hee hb
    by_cases hqi : i = q
    ·subst hqi
     rw [ho] at hoq; cases hoq
     exact getD_set_true (haft e hee hb)
    ·rw [getD_set_ne _ hqi] at hq
     exact getD_set_true (hcl q oq hoq hq e hee hb)
   have hlen' : (unlO order (listed.setIfInBounds i true)).length = fuel := by
    rw [hrest]
    rw [hl] at hlen
    simp at hlen ⊢; omega
   have hgo : ∀ (R : LS → Prop),stepL (fun _ => P) (fun _ => T) ops.toList o s R → (∀ s1,R s1 → lopsR (fun _ => P) (fun _ => T) ops bs qs F (unlO order (listed.setIfInBounds i true)) s1 K) → wpOp P ops Q i (fun a' w' => wpAny P .any ops Q fuel (listed.setIfInBounds i true) a' w') a w := by
    intro R hf hR
    unfold wpOp
    rw [ho]
    dsimp only
    unfold stepL at hf
    split at hf
    ·rename_i cb hy
     have hw := yes_sound hs hy
     cases cb with
     | true =>
      rw [if_pos hw]
      left
      refine Oper.wp_mono (fun a' w' hp => ?_) (lop_sound (Q := Q) hT hs hf)
      obtain ⟨c',s',hK,hs',he'⟩ := hp
      exact ih _ hsz' hcl' hlen' (he.trans he') hs' (hR _ hK)
     | false =>
      rw [if_neg (by rw [hw]; simp)]
      exact ih _ hsz' hcl' hlen' he (hs.put .nul _) (hR _ hf)
    ·exact hf.elim
   cases hcA : cA ops qs i with
   | true =>
    obtain ⟨u,h1,_,h3⟩ := headR_x (hf.1 hcA)
    rw [at_ ho] at h1 h3
    rcases h3 s ⟨fun _ _ => rfl,fun _ _ => rfl,Nat.le_refl _⟩ with h3 | h3
    ·refine hgo _ (h3 (fun s1 => s1 = s.put o.dst u) rfl) fun s1 e => ?_
     rw [e]; exact h1
    ·unfold wpOp
     rw [ho]
     dsimp only
     rw [if_pos (yes_sound hs h3.1)]
     left
     refine Oper.wp_mono (fun a' w' hp => ?_) (row_sound (Q := Q) hT hs h3.2)
     obtain ⟨c',s',hK,hs',he'⟩ := hp
     subst hK
     exact ih _ hsz' hcl' hlen' (he.trans he') hs' h1
   | false =>
    have h3 := hf.2 hcA
    rw [at_ ho] at h3
    exact hgo _ h3 fun s1 h => h.2
theorem read_sound (hT : TOK P T) (hm : P.follows .mixedOrders = true) (bs : List Nat) (qs : List Nat) (F : List (Nat × List Nat)) (order : List Nat) {ops : Unit → Array Oper} {s : LS} (hd : drawnR (ops ()) qs F order = true) (h : lopsR (fun _ => P) (fun _ => T) (ops ()) bs qs F order s K) : DrawF (fun _ => P) ops s K := by
 refine .mk fun c a w t Q hs hQ => ?_
 generalize ops () = ops at *
 simp only [Region.schedule,hm,Bool.true_or,if_true]
 have hget : ∀ i,(Array.replicate ops.size false).getD i false = false := by
  intro i
  rw [Array.getD_eq_getD_getElem?,Array.getElem?_replicate]
  split <;> rfl
 have hd' := hd
 simp only [drawnR,Bool.and_eq_true] at hd'
 obtain ⟨hpw,_,hed⟩ := orderR_spec hd'.1
 have hlt : ∀ j ∈ order,j < ops.size := fun j hj => by
  obtain ⟨l1,l2,e⟩ := List.append_of_mem hj
  obtain ⟨o,ho,_⟩ := hed l1 j l2 e
  exact (Array.getElem?_eq_some_iff.1 ho).1
 have hun : unlO order (Array.replicate ops.size false) = order := by
  unfold unlO
  rw [List.filter_eq_self]
  intro j hj
  have := hlt j hj
  rw [Array.getD_eq_getD_getElem?,Array.getElem?_replicate,if_pos this]; rfl
 have hnd : order.Nodup := hpw.imp fun h => h.1
 have hlen : order.length = ops.size := by
  have h1 : order.Perm (List.range ops.size) := by
   rw [List.perm_ext_iff_of_nodup hnd List.nodup_range]
   intro j
   rw [List.mem_range]
   exact ⟨hlt j,fun hj => by have := List.all_eq_true.1 hd'.2 j (List.mem_range.2 hj); simpa using this⟩
  simpa using h1.length_eq
 refine wpAny_sound ops.size t _ a w (anyR_sound (K := K) (bs := bs) hT hd (c0 := c) (w0 := w) (fun a' w' hp => hQ a' w' ?_) ops.size _ (by simp) ?_ (by rw [hun]; exact hlen) (Ext.refl hs.hr) hs ?_)
 ·obtain ⟨c',s',hK,hs',he⟩ := hp
  exact ⟨c',s',hK,hs',he⟩
 ·intro q o _ hq
  rw [hget] at hq; cases hq
 ·rw [hun]; exact h
def autoOR (ops : Array Oper) (qs : List Nat) : Nat → List Nat → List Nat → List Nat
 | 0,_,_ => []
 | n + 1,pre,rest => match firstOf (fun q => cA ops qs q && edgesOK ops pre q) rest with
  | some q => q :: autoOR ops qs n (q :: pre) (rest.filter (· != q))
  | none => match firstOf (fun q => edgesOK ops pre q) rest with
   | some q => q :: autoOR ops qs n (q :: pre) (rest.filter (· != q))
   | none => []
def autoFR (ops : Array Oper) (qs : List Nat) : List Nat → List Nat → List (Nat × List Nat)
 | _,[] => []
 | pre,q :: l => if cA ops qs q then autoFR ops qs (q :: pre) l else (q,pre.filter fun p => cA ops qs p && !reach ops ops.size p q) :: autoFR ops qs (q :: pre) l
end
def pairRF (ops : Array Oper) (qs : List Nat) (F : List (Nat × List Nat)) (M : List Nat) (p q : Nat) : Bool :=
 p != q && ((cA ops qs p && (opAt ops p).apart ops (opAt ops q) && (cA ops qs q || (look F q).contains p)) || (M.getD q 0).testBit p) && (!(F.any fun e => e.2.contains p && e.2.contains q) || match (opAt ops q).dst with
  | some d => !cA ops qs p || !cA ops qs q || !((opAt ops p).looksAt ops).contains d
  | none => true)
def orderRF (ops : Array Oper) (qs : List Nat) (F : List (Nat × List Nat)) (M : List Nat) : List Nat → List Nat → Bool
 | _,[] => true
 | pre,q :: l => edgesOK ops pre q && selfOK ops q && l.all (fun r => pairRF ops qs F M q r) && orderRF ops qs F M (q :: pre) l
def drawnRF (ops : Array Oper) (qs : List Nat) (F : List (Nat × List Nat)) (order : List Nat) : Bool := orderRF ops qs F (masksL ops.toList []) [] order && (List.range ops.size).all (fun j => order.contains j)
theorem pairRF_ok {ops : Array Oper} {qs : List Nat} {F : List (Nat × List Nat)} {M : List Nat} (hM : MasksOk ops M) (hl : M.length = ops.size) {p q : Nat} (h : pairRF ops qs F M p q = true) : pairR ops qs F p q = true := by
 unfold pairRF at h
 unfold pairR
 rw [Bool.and_eq_true,Bool.and_eq_true] at h ⊢
 refine ⟨⟨h.1.1,?_⟩,h.2⟩
 have h2 := h.1.2
 rw [Bool.or_eq_true] at h2 ⊢
 rcases h2 with h2 | h2
 ·exact .inr h2
 ·obtain ⟨g1,g2⟩ := hM _ _ h2
  exact .inl (reach_mono g2 (by omega))
theorem orderRF_ok {ops : Array Oper} {qs : List Nat} {F : List (Nat × List Nat)} {M : List Nat} (hM : MasksOk ops M) (hl : M.length = ops.size) : ∀ {l pre : List Nat},orderRF ops qs F M pre l = true → orderR ops qs F pre l = true
 | [],pre,_ => rfl
 | q :: l,pre,h => by
  rw [orderRF,Bool.and_eq_true,Bool.and_eq_true] at h
  rw [orderR,Bool.and_eq_true,Bool.and_eq_true]
  refine ⟨⟨h.1.1,?_⟩,orderRF_ok hM hl h.2⟩
  rw [List.all_eq_true] at *
  exact fun r hr => pairRF_ok hM hl (h.1.2 r hr)
theorem drawnRF_ok {ops : Array Oper} {qs : List Nat} {F : List (Nat × List Nat)} {order : List Nat} (h : drawnRF ops qs F order = true) : drawnR ops qs F order = true := by
 unfold drawnRF at h
 unfold drawnR
 rw [Bool.and_eq_true] at h ⊢
 obtain ⟨g1,g2⟩ := masksL_ok (ops := ops) ops.toList [] [] rfl rfl (fun q p h => by simp at h)
 exact ⟨orderRF_ok g1 g2 h.1,h.2⟩
theorem readF_sound {P : Program} {T : TT} {K : LS → Prop} (hT : TOK P T) (hm : P.follows .mixedOrders = true) (bs : List Nat) (qs : List Nat) (F : List (Nat × List Nat)) (order : List Nat) {ops : Unit → Array Oper} {s : LS} (hd : drawnRF (ops ()) qs F order = true) (h : lopsR (fun _ => P) (fun _ => T) (ops ()) bs qs F order s K) : DrawF (fun _ => P) ops s K :=
 read_sound hT hm bs qs F order (drawnRF_ok hd) h
theorem re_same {n : Nat} {t : List LV} {h1 h : LH} (he : ∀ b B,hget h b = some B → hget h1 b = some B) : Re n ⟨t,h1,n⟩ ⟨t,h,n⟩ := by
 refine .mk fun c w c2 a w' hN hx hs => ⟨c2,hx,⟨hs.tl,hs.tr,hs.df,⟨fun b B hb => hs.hr.live b B (he b B hb),hs.hr.fresh,hs.hr.inj,hs.hr.noX,hs.hr.ltX,hs.hr.lt⟩,hs.nn⟩⟩
theorem renH_some {ρ : List (Nat × Nat)} {n0 n : Nat} : ∀ {h0 : LH} {a b : Nat} {A : LB},hget h0 a = some A → rn ρ n0 n a = some b → ∃ B,hget (renH ρ n0 n h0) b = some B
 | [],_,_,_,h,_ => by cases h
 | (d,D) :: h0,a,b,A,h,hr => by
  rw [hget_cons] at h
  rw [renH]
  by_cases e : d = a
  ·subst e
   rw [hr]
   exact ⟨_,by rw [hget_cons,if_pos rfl]⟩
  ·rw [if_neg e] at h
   obtain ⟨B,hB⟩ := renH_some h hr
   cases hd : rn ρ n0 n d with
   | none => exact ⟨B,hB⟩
   | some d' =>
    dsimp only
    rw [hget_cons]
    by_cases e2 : d' = b
    ·rw [if_pos e2]; exact ⟨_,rfl⟩
    ·rw [if_neg e2]; exact ⟨B,hB⟩
theorem hdels_not : ∀ (ρ : List (Nat × Nat)) (h : LH) (b : Nat),nback ρ b = none → hget (hdels ρ h) b = hget h b
 | [],_,_,_ => rfl
 | (x,y) :: ρ,h,b,hn => by
  rw [nback_cons] at hn
  split at hn
  ·cases hn
  ·rename_i e
   rw [hdels,hget_del,if_neg (fun q => e q.symm)]
   exact hdels_not ρ h b hn
theorem nback_mem : ∀ {ρ : List (Nat × Nat)} {a b : Nat},nback ρ b = some a → (a,b) ∈ ρ
 | [],_,_,h => by cases h
 | (x,y) :: ρ,a,b,h => by
  rw [nback_cons] at h
  split at h
  ·rename_i e
   cases h
   subst e
   exact List.mem_cons_self
  ·exact List.mem_cons_of_mem _ (nback_mem h)
theorem frameH_same {ρ : List (Nat × Nat)} {n0 n : Nat} {h h0 : LH} (hF : fok n0 n ρ = true) (hm : hmapOk ρ n0 n h h0) (hall : ρ.all (fun p => (hget h0 p.1).isSome) = true) : ∀ b B,hget h b = some B → hget (frameH ρ n0 n h h0) b = some B := by
 intro b B hb
 have hF' := fok_ok hF
 unfold frameH
 rw [hget_happ]
 cases e : hget (renH ρ n0 n h0) b with
 | some B' =>
  dsimp only
  obtain ⟨a,A,k1,k2,k3⟩ := hget_renH hF' h0 b B' e
  obtain ⟨b',g1,g2,_⟩ := hmapOk_get hm a A k2
  have : rn ρ n0 n a = some b' := by unfold rn; rw [g1]
  obtain rfl : b' = b := Option.some.inj (this.symm.trans k1)
  rw [k3]
  exact g2.symm.trans hb
 | none =>
  dsimp only
  cases en : nback ρ b with
  | none => rw [hdels_not ρ h b en]; exact hb
  | some a =>
   have hab := nback_mem en
   have := List.all_eq_true.1 hall _ hab
   obtain ⟨A,hA⟩ := Option.isSome_iff_exists.1 this
   obtain ⟨b',g1,_,_⟩ := hmapOk_get hm a A hA
   have hr : rn ρ n0 n a = some b := by
    unfold rn
    rw [(hF'.iff a b).2 en]
   obtain ⟨B',hB'⟩ := renH_some hA hr
   rw [e] at hB'; cases hB'
theorem callF_read {P : Unit → Program} {f : Nat} {args0 args : List LV} {h0 h : LH} {n0 n : Nat} {u0 u : LV} (hc : CallF P f args0 h0 n0 fun r h1 n1 => r = u0 ∧ h1 = h0 ∧ n1 = n0) (ρ : List (Nat × Nat)) (hF : fok n0 n ρ = true) (hm : hmapOk ρ n0 n h h0) (ha : args = renVs ρ n0 n args0) (hok : okVs ρ args0 = true) (hu : u = renV ρ n0 n u0) (hall : ρ.all (fun p => (hget h0 p.1).isSome) = true) : CallF P f args h n fun r h2 n2 => r = u ∧ h2 = h ∧ n2 = n := by
 refine CallF.ret (callF_frame (K := fun r h1 n1 => r = u ∧ h1 = frameH ρ n0 n h h0 ∧ n1 = n) hc ρ hF hm ha hok (fun r h' n' ⟨e1,e2,e3⟩ => ?_)) (fun r h' n' ⟨e1,e2,e3⟩ => ?_)
 ·subst e1 e2 e3
  exact ⟨hu.symm,rfl,by omega⟩
 ·subst e1 e2 e3
  exact .mk [r] h n' (re_same (frameH_same hF hm hall)) rfl ⟨rfl,rfl,rfl⟩
end Go.LX
namespace Go.LX
open Go
set_option linter.unusedVariables false
set_option maxHeartbeats 32000000
def veq : Value → PV → Bool
 | .int k n,.int k' e => (k == k') && (n == e.val)
 | .bool b,.bool b' => b == b'
 | .string s,.str s' => s.data.toList.isEmpty && (s' ()).data.toList.isEmpty
 | .pointer none,.nilp => true
 | .slice none 0 0,.nils => true
 | .nilIface,.nilif => true
 | .nilFunc,.nilfn => true
 | .map none,.nilm => true
 | _,_ => false
def veqs : List Value → List PV → Bool
 | [],[] => true
 | x :: l,y :: m => veq x y && veqs l m
 | _,_ => false
def keq (P : Program) : TK → TypeDesc → Bool
 | .int k,.int k' => k == k'
 | .bool,.bool => true
 | .str,.string => true
 | .ptr e,.pointer e' => e == e'
 | .slice e,.slice e' => e == e'
 | .struct fs,.struct fs' => (fs == fs'.toList.map fun f => (f.offset,f.type)) && (fs'.toList.mapM fun f => (P.info? f.type).map fun i => (f.offset,i.size)).isSome
 | .arr n e,.array n' e' => (n == n') && (e == e') && (P.info? e).isSome
 | .iface,.interface _ => true
 | .func,.func _ _ _ => true
 | .map k e,.map k' e' => k == k' && e == e'
 | _,_ => false
def shape : TK → Value → Bool
 | k,.agg _ => k.agg
 | k,.tuple _ => false
 | k,_ => !k.agg
def teq (P : Program) (t : Nat) (ti : TI) : Bool :=
 match P.info? t,P.underlying t with
 | some i,some d => (i.size == ti.size) && (i.bytes == ti.bytes) && (match i.zero with
  | some z => veqs z.cells.toList ti.zero && shape ti.kind z
  | none => false) && keq P ti.kind d
 | _,_ => false
def teqs (P : Program) : TT → Bool
 | [] => true
 | (t,ti) :: l => teq P t ti && teqs P l
theorem veq_ok {x : Value} {y : PV} (h : veq x y = true) : x = y.toV ∧ zok y = true := by
 unfold veq at h
 split at h
 ·rename_i k n k' e
  simp only [Bool.and_eq_true,beq_iff_eq] at h
  obtain ⟨rfl,rfl⟩ := h
  exact ⟨rfl,rfl⟩
 ·have h := beq_iff_eq.1 h; subst h; exact ⟨rfl,rfl⟩
 ·rename_i s s'
  simp only [Bool.and_eq_true,List.isEmpty_iff] at h
  have : s = s' () := by
   apply Go.WideShapes.bytes_inj
   rw [h.1,h.2]
  subst this; exact ⟨rfl,rfl⟩
 ·exact ⟨rfl,rfl⟩
 ·exact ⟨rfl,rfl⟩
 ·exact ⟨rfl,rfl⟩
 ·exact ⟨rfl,rfl⟩
 ·exact ⟨rfl,rfl⟩
 ·cases h
theorem veqs_ok : ∀ {l : List Value} {m : List PV},veqs l m = true → l = m.map PV.toV ∧ m.all zok = true
 | [],[],_ => ⟨rfl,rfl⟩
 | x :: l,y :: m,h => by
  simp only [veqs,Bool.and_eq_true] at h
  obtain ⟨h1,h2⟩ := veq_ok h.1
  obtain ⟨h3,h4⟩ := veqs_ok h.2
  exact ⟨by rw [List.map_cons,← h1,← h3],by simp only [List.all_cons,h2,h4,Bool.and_self]⟩
 | [],_ :: _,h => by cases h
 | _ :: _,[],h => by cases h
theorem keq_ok {P : Program} {k : TK} {d : TypeDesc} (h : keq P k d = true) : kindOk P k d := by
 unfold keq at h
 split at h
 ·exact beq_iff_eq.1 h
 ·trivial
 ·trivial
 ·exact beq_iff_eq.1 h
 ·exact beq_iff_eq.1 h
 ·simp only [Bool.and_eq_true,beq_iff_eq] at h; exact h
 ·simp only [Bool.and_eq_true,beq_iff_eq] at h; exact ⟨h.1.1,h.1.2,h.2⟩
 ·trivial
 ·trivial
 ·simp only [Bool.and_eq_true,beq_iff_eq] at h; exact h
 ·cases h
theorem teq_ok {P : Program} {t : Nat} {ti : TI} (h : teq P t ti = true) : TIok P t ti := by
 unfold teq at h
 split at h
 ·rename_i i d hi hd
  simp only [Bool.and_eq_true,beq_iff_eq] at h
  obtain ⟨⟨⟨h1,h2⟩,h3⟩,h4⟩ := h
  split at h3
  ·rename_i z hz
   simp only [Bool.and_eq_true] at h3
   obtain ⟨h5,h6⟩ := veqs_ok h3.1
   refine ⟨⟨i,z,d,hi,h1,h2,hz,h5,hd,keq_ok h4,fun hk => ?_,fun hk => ?_⟩,h6⟩
   ·have := h3.2
    cases z <;> simp [shape,hk] at this
    rfl
   ·have := h3.2
    cases z <;> simp [shape,hk] at this <;> rfl
  ·cases h3
 ·cases h
theorem teqs_ok {P : Program} : ∀ {T : TT},teqs P T = true → TOK P T
 | [],_ => tok_nil P
 | (t,ti) :: l,h => by
  simp only [teqs,Bool.and_eq_true] at h
  exact tok_cons (teq_ok h.1) (teqs_ok h.2)
end Go.LX
namespace Go.LX
open Go
set_option linter.unusedVariables false
set_option maxHeartbeats 32000000
section
variable (P : Unit → Program) (K : LS → Prop) (KE : Exit → LS → Prop) (KV : LV → Prop) (KI : I → Prop) (KB : Bool → Prop) (KL : LV → LH → Nat → Prop) (KP : Bool → List PV → I → Prop) (KLB : LB → Prop) (x : Int) (V : Nat → LS → Prop) (s : LS) (KVS : List LV → Prop) (KPV : PV → Prop) (KBL : Bool → List PV → Prop)
def T0 : TT := [(3,⟨1,8,[.int .i64 (.lit 0)],.int .i64⟩),(4,⟨1,1,[.bool false],.bool⟩),(5,⟨1,24,[.nils],.slice 3⟩),(6,⟨1,16,[.str fun _ => ⟨#[]⟩],.str⟩),(7,⟨2,24,[.int .i64 (.lit 0),.str fun _ => ⟨#[]⟩],.struct [(0,3),(1,6)]⟩),(8,⟨1,8,[.nilp],.ptr 7⟩),(9,⟨2,16,[.int .i64 (.lit 0),.int .i64 (.lit 0)],.arr 2 3⟩),(10,⟨1,16,[.nilif],.iface⟩),(16,⟨1,1,[.int .u8 (.lit 0)],.int .u8⟩),(17,⟨1,24,[.nils],.slice 16⟩)]
def S0 : LS := ⟨[i6 x,.p (.int .i64 (.lit 3)),.p (.bool true),.ptr 0 (.lit 0),.p (.vsl (.lit 1) false [.int .i64 (.lit 1)]),.sl 1 3 1 (.lit 0) (.lit 1),.p (.str fun _ => ⟨#[97]⟩),.agg [.p (.int .i64 (.lit 1)),.p (.str fun _ => ⟨#[]⟩)],.tup [.p (.int .i64 (.lit 1)),.p (.str fun _ => ⟨#[]⟩)],.iface 3 (.p (.int .i64 (.lit 1))),.ptr 2 (.lit 0),.p .nils,.undef,.p .nilp,.fn 3 [.p (.int .i64 (.lit 1))],.sl 3 3 1 (.lit 0) (.sym x),.p (.vsl (.sym x) true [])],[(0,.pure false [.int .i64 (.lit 1),.str fun _ => ⟨#[]⟩]),(1,.pure false [.int .i64 (.lit 1)]),(2,.iter (fun _ => ⟨#[97]⟩) (.lit 0)),(3,.pure true [.int .i64 (.lit 1)]),(4,.mix [.p (.int .i64 (.lit 1)),.ptr 0 (.lit 0)])],5⟩
def op (o : Op) : Oper := ⟨some 12,o,3, "",#[],none⟩
def warmed (p : Prop) : Prop := True
theorem wm (p : Prop) : warmed p := trivial
def runs (o : Op) : Prop := lop P (fun _ => T0) (op o) (S0 x) K
def all (l : List Op) : Prop := match l with
 | [] => True
 | o :: l => And (runs P K x o) (all l)
theorem w2 (h : all P K x [.move (.tmp 0),.assign (.const (.int .i64 3)),.pick (.tmp 2) (.tmp 0) (.tmp 1),.binOp .add 3 (.tmp 0) (.tmp 1) 3,.binOp .add 3 (.tmp 1) (.tmp 1) 3,.binOp .lss 3 (.tmp 1) (.tmp 1) 3,.binOp .lss 3 (.tmp 0) (.tmp 1) 3,
  .binOp .sub 3 (.tmp 0) (.tmp 1) 3,.binOp .mul 3 (.tmp 0) (.tmp 1) 3,.binOp .quo 3 (.tmp 0) (.tmp 1) 3,.binOp .rem 3 (.tmp 0) (.tmp 1) 3,.binOp .rem 3 (.tmp 1) (.tmp 1) 3,.binOp .and 3 (.tmp 0) (.tmp 1) 3,.binOp .leq 3 (.tmp 0) (.tmp 1) 3,.binOp .gtr 3 (.tmp 0) (.tmp 1) 3,.binOp .geq 3 (.tmp 0) (.tmp 1) 3,.binOp .eql 3 (.tmp 0) (.tmp 1) 3,.binOp .neq 3 (.tmp 0) (.tmp 1) 3,
  .binOp .eql 6 (.tmp 6) (.tmp 6) 6,.binOp .add 6 (.tmp 6) (.tmp 6) 6,.binOp .eql 4 (.tmp 2) (.tmp 2) 4,.binOp .eql 8 (.tmp 3) (.tmp 13) 8,.unOp .not 4 (.tmp 2),.unOp .neg 3 (.tmp 0),.nilCheck (.tmp 3),.alloc 7,.box 7 (.tmp 7),.build 7 #[(0,.tmp 1)],.buildSlice 5 2 #[(0,.tmp 0),(1,.tmp 1)],.load 7 (.tmp 3),.load 3 (.tmp 3),.store 3 (.tmp 3) (.tmp 0),
  .fieldAddr 7 (.tmp 3) 1,.field 7 (.tmp 7) 1,.indexAddr 5 (.tmp 4) (.tmp 1),.indexAddr 5 (.tmp 5) (.tmp 0),.index 6 (.tmp 6) (.tmp 0),.slice 6 (.tmp 6) (some (.tmp 0)) none none,.slice 5 (.tmp 4) (some (.tmp 0)) (some (.tmp 1)) none,.slice 5 (.tmp 5) none (some (.tmp 1)) none,.binOp .eql 7 (.tmp 7) (.tmp 7) 7,.binOp .neq 7 (.tmp 7) (.tmp 7) 7,.slice 6 (.tmp 6) (some (.tmp 0)) (some (.tmp 1)) none,.convert 3 3 (.tmp 0),.convert 3 6 (.tmp 0),.makeInterface 3 (.tmp 0),.typeAssert (.tmp 9) 10 3 true,.typeAssert (.tmp 9) 10 7 true,.extract (.tmp 8) 1,
  .range 6 (.tmp 6),.next (.tmp 10) true,.makeFunc (.func 3) #[] #[.tmp 1],.call { callee := .value (.func 3),args := #[.tmp 0],argTypes := #[3] },.call { callee := .value (.tmp 14),args := #[.tmp 0],argTypes := #[3] },.call { callee := .builtin .len,args := #[.tmp 4],argTypes := #[5] },.call { callee := .builtin .len,args := #[.tmp 5],argTypes := #[5] },.call { callee := .builtin .len,args := #[.tmp 6],argTypes := #[6] },
  .call { callee := .builtin .append,args := #[.tmp 11,.tmp 4],argTypes := #[5,5] },.call { callee := .builtin .append,args := #[.tmp 15,.tmp 5],argTypes := #[5,5] },.makeSlice 5 (.tmp 0) (.tmp 1),.makeSlice 5 (.tmp 0) (.tmp 0),.call { callee := .builtin .cap,args := #[.tmp 15],argTypes := #[5] },.convert 17 6 (.tmp 16),.call { callee := .builtin .min,args := #[.tmp 0,.tmp 1],argTypes := #[3,3] },.call { callee := .builtin .max,args := #[.tmp 0,.tmp 1],argTypes := #[3,3] }]) : warmed (all P K x [.move (.tmp 0)]) := by
 revert h
 conv => lhs; cbv
 intro h
 trivial
def codes : Prop := lcode P (fun _ => T0) 0 (.seq (.region 0 #[op (.move (.tmp 0))] false) (.block 3 (.seq (.cond (.tmp 2) .skip (.exit 3)) (.seq (.cond (.const (.bool false)) .skip (.seq (.label 1) (.exit 3))) .ret)))) (S0 x) KE
theorem w3 (h : codes P KE x) : warmed (codes P KE x) := by
 revert h
 conv => lhs; cbv
 intro h
 trivial
def loops : Prop := And (LoopK V 0 KE 1 .normal s) (And (LoopK V 0 KE 1 .ret s) (And (LoopK V 0 KE 1 (.exit 2) s) (And (lcode P (fun _ => T0) 0 (.loop .skip) s KE) (lcode P (fun _ => T0) 0 (.region 0 #[] true) s KE))))
theorem w4 (h : loops P KE V s) : True := by
 revert h
 conv => lhs; cbv
 intro h
 trivial
def bodies : Prop := lbody P (fun _ => T0) (.seq (.region 0 #[⟨some 1,.move (.tmp 0),3, "",#[],none⟩,⟨some 0,.move (.tmp 1),3, "",#[],some (0,true)⟩] false) .ret) [.tmp 1] 2 [.p (.bool true)] [] 0 KL
theorem w5 (h : bodies P KL) : True := by
 revert h
 conv => lhs; cbv
 intro h
 trivial
def names : Prop := And (lvles [(0,0),(1,2)] [3] (S0 x).h (S0 x).t (S0 x).t) (And (lhle [(0,0)] [3] (S0 x).h (S0 x).h) (And (rok 0 3 [] [(0,0),(1,2)] = true) (vok 0 3 [1] = true)))
theorem w6 (h : names x) : True := by
 revert h
 conv => lhs; cbv
 intro h
 trivial
end
end Go.LX
namespace Go.Proofs.YtpbhcdbkmmjimaaGreatDoor
open Go.LX
set_option maxHeartbeats 32000000
def T : TT := [
 (2,⟨1,8,[.int .i64 (.lit 0)],.int .i64⟩),
 (3,⟨1,8,[.int .i64 (.lit 0)],.int .i64⟩),
 (4,⟨1,1,[.bool false],.bool⟩),
 (5,⟨1,1,[.int .u8 (.lit 0)],.int .u8⟩),
 (7,⟨4,24,[.int .i64 (.lit 0),.int .i64 (.lit 0),.bool false,.int .u8 (.lit 0)],.struct [(0,2),(1,3),(2,4),(3,6)]⟩),
 (9,⟨1,16,[.str fun _ => ⟨#[]⟩],.str⟩),
 (12,⟨1,8,[.int .u64 (.lit 0)],.int .u64⟩),
 (13,⟨2,24,[.str fun _ => ⟨#[]⟩,.int .u64 (.lit 0)],.struct [(0,9),(1,12)]⟩),
 (15,⟨1,8,[.nilp],.ptr 230⟩),
 (16,⟨1,8,[.nilp],.ptr 233⟩),
 (17,⟨1,8,[.nilp],.ptr 240⟩),
 (18,⟨1,8,[.nilp],.struct [(0,17)]⟩),
 (20,⟨1,16,[.nilif],.iface⟩),
 (21,⟨1,4,[.int .i32 (.lit 0)],.int .i32⟩),
 (22,⟨3,24,[.int .i64 (.lit 0),.int .i64 (.lit 0),.int .i64 (.lit 0)],.struct [(0,3),(1,3),(2,3)]⟩),
 (23,⟨3,24,[.int .i64 (.lit 0),.int .i64 (.lit 0),.int .i64 (.lit 0)],.struct [(0,3),(1,3),(2,3)]⟩),
 (24,⟨1,24,[.nils],.slice 37⟩),
 (26,⟨1,8,[.nilp],.ptr 84⟩),
 (27,⟨1,8,[.int .i64 (.lit 0)],.int .i64⟩),
 (30,⟨1,8,[.nilp],.ptr 47⟩),
 (34,⟨1,24,[.nils],.slice 3⟩),
 (35,⟨1,24,[.nils],.slice 64⟩),
 (36,⟨5,56,[.int .i64 (.lit 0),.int .i64 (.lit 0),.int .i64 (.lit 0),.int .i64 (.lit 0),.nils],.struct [(0,3),(1,3),(2,3),(3,3),(4,35)]⟩),
 (37,⟨5,56,[.int .i64 (.lit 0),.int .i64 (.lit 0),.int .i64 (.lit 0),.int .i64 (.lit 0),.nils],.struct [(0,3),(1,3),(2,3),(3,3),(4,35)]⟩),
 (39,⟨4,48,[.int .i64 (.lit 0),.int .i64 (.lit 0),.nils,.bool false],.struct [(0,3),(1,3),(2,34),(3,4)]⟩),
 (40,⟨4,48,[.int .i64 (.lit 0),.int .i64 (.lit 0),.nils,.bool false],.struct [(0,3),(1,3),(2,34),(3,4)]⟩),
 (41,⟨1,24,[.nils],.slice 40⟩),
 (45,⟨1,8,[.nilp],.ptr 92⟩),
 (46,⟨4,32,[.nilp,.int .i64 (.lit 0),.int .i64 (.lit 0),.int .i64 (.lit 0)],.struct [(0,45),(1,23)]⟩),
 (47,⟨4,32,[.nilp,.int .i64 (.lit 0),.int .i64 (.lit 0),.int .i64 (.lit 0)],.struct [(0,45),(1,23)]⟩),
 (49,⟨1,8,[.int .u64 (.lit 0)],.int .u64⟩),
 (50,⟨1,8,[.nilp],.ptr 109⟩),
 (59,⟨1,24,[.nils],.slice 4⟩),
 (63,⟨2,16,[.int .i64 (.lit 0),.int .i64 (.lit 0)],.struct [(0,3),(1,3)]⟩),
 (64,⟨2,16,[.int .i64 (.lit 0),.int .i64 (.lit 0)],.struct [(0,3),(1,3)]⟩),
 (66,⟨1,8,[.nilp],.ptr 112⟩),
 (83,⟨3,24,[.nilp,.int .i64 (.lit 0),.int .i64 (.lit 0)],.struct [(0,50),(1,3),(2,3)]⟩),
 (84,⟨3,24,[.nilp,.int .i64 (.lit 0),.int .i64 (.lit 0)],.struct [(0,50),(1,3),(2,3)]⟩),
 (89,⟨1,8,[.nilp],.ptr 102⟩),
 (90,⟨1,8,[.nilp],.ptr 123⟩),
 (91,⟨6,64,[.nilp,.nils,.nilp,.int .i64 (.lit 0),.int .i64 (.lit 0),.int .i64 (.lit 0)],.struct [(0,89),(1,34),(2,90),(3,3),(4,3),(5,3)]⟩),
 (92,⟨6,64,[.nilp,.nils,.nilp,.int .i64 (.lit 0),.int .i64 (.lit 0),.int .i64 (.lit 0)],.struct [(0,89),(1,34),(2,90),(3,3),(4,3),(5,3)]⟩),
 (100,⟨1,8,[.nilp],.ptr 130⟩),
 (101,⟨2,32,[.nilp,.nils],.struct [(0,100),(1,34)]⟩),
 (102,⟨2,32,[.nilp,.nils],.struct [(0,100),(1,34)]⟩),
 (105,⟨1,24,[.nils],.slice 9⟩),
 (107,⟨1,8,[.nilp],.ptr 146⟩),
 (108,⟨6,64,[.nilp,.nilp,.nils,.int .i64 (.lit 0),.int .i64 (.lit 0),.int .i64 (.lit 0)],.struct [(0,66),(1,107),(2,34),(3,3),(4,3),(5,3)]⟩),
 (109,⟨6,64,[.nilp,.nilp,.nils,.int .i64 (.lit 0),.int .i64 (.lit 0),.int .i64 (.lit 0)],.struct [(0,66),(1,107),(2,34),(3,3),(4,3),(5,3)]⟩),
 (110,⟨1,8,[.nilp],.ptr 135⟩),
 (111,⟨2,32,[.nilp,.nils],.struct [(0,110),(1,34)]⟩),
 (112,⟨2,32,[.nilp,.nils],.struct [(0,110),(1,34)]⟩),
 (113,⟨2,16,[.int .i64 (.lit 0),.int .i64 (.lit 0)],.struct [(0,3),(1,3)]⟩),
 (114,⟨2,16,[.int .i64 (.lit 0),.int .i64 (.lit 0)],.struct [(0,3),(1,3)]⟩),
 (122,⟨2,32,[.nils,.bool false],.struct [(0,34),(1,4)]⟩),
 (123,⟨2,32,[.nils,.bool false],.struct [(0,34),(1,4)]⟩),
 (128,⟨1,24,[.nils],.slice 131⟩),
 (129,⟨2,48,[.nils,.nils],.struct [(0,34),(1,128)]⟩),
 (130,⟨2,48,[.nils,.nils],.struct [(0,34),(1,128)]⟩),
 (131,⟨8,8,[.bool false,.bool false,.bool false,.bool false,.bool false,.bool false,.bool false,.bool false],.arr 8 4⟩),
 (133,⟨1,24,[.nils],.slice 137⟩),
 (134,⟨1,24,[.nils],.struct [(0,133)]⟩),
 (135,⟨1,24,[.nils],.struct [(0,133)]⟩),
 (136,⟨2,24,[.int .i64 (.lit 0),.str fun _ => ⟨#[]⟩],.struct [(0,3),(1,9)]⟩),
 (137,⟨2,24,[.int .i64 (.lit 0),.str fun _ => ⟨#[]⟩],.struct [(0,3),(1,9)]⟩),
 (141,⟨0,0,[],.struct []⟩),
 (142,⟨0,0,[],.struct []⟩),
 (145,⟨2,24,[.str fun _ => ⟨#[]⟩,.bool false],.struct [(0,9),(1,4)]⟩),
 (146,⟨2,24,[.str fun _ => ⟨#[]⟩,.bool false],.struct [(0,9),(1,4)]⟩),
 (150,⟨2,16,[.int .i64 (.lit 0),.int .i64 (.lit 0)],.struct [(0,3),(1,3)]⟩),
 (151,⟨2,16,[.int .i64 (.lit 0),.int .i64 (.lit 0)],.struct [(0,3),(1,3)]⟩),
 (156,⟨1,8,[.int .i64 (.lit 0)],.int .i64⟩),
 (160,⟨1,8,[.int .i64 (.lit 0)],.struct [(0,3)]⟩),
 (161,⟨1,8,[.int .i64 (.lit 0)],.struct [(0,3)]⟩),
 (164,⟨1,8,[.int .i64 (.lit 0)],.int .i64⟩),
 (165,⟨0,0,[],.struct []⟩),
 (168,⟨1,16,[.nilif],.iface⟩),
 (169,⟨1,16,[.nilif],.iface⟩),
 (172,⟨0,0,[],.struct []⟩),
 (179,⟨1,8,[.nilp],.ptr 182⟩),
 (180,⟨1,24,[.nils],.slice 5⟩),
 (181,⟨2,32,[.nilp,.nils],.struct [(0,179),(1,180)]⟩),
 (182,⟨2,32,[.nilp,.nils],.struct [(0,179),(1,180)]⟩),
 (186,⟨24,24,[.int .u8 (.lit 0),.int .u8 (.lit 0),.int .u8 (.lit 0),.int .u8 (.lit 0),.int .u8 (.lit 0),.int .u8 (.lit 0),.int .u8 (.lit 0),.int .u8 (.lit 0),.int .u8 (.lit 0),.int .u8 (.lit 0),.int .u8 (.lit 0),.int .u8 (.lit 0),.int .u8 (.lit 0),.int .u8 (.lit 0),.int .u8 (.lit 0),.int .u8 (.lit 0),.int .u8 (.lit 0),.int .u8 (.lit 0),.int .u8 (.lit 0),.int .u8 (.lit 0),.int .u8 (.lit 0),.int .u8 (.lit 0),.int .u8 (.lit 0),.int .u8 (.lit 0)],.arr 24 5⟩),
 (187,⟨1,8,[.int .u64 (.lit 0)],.int .u64⟩),
 (195,⟨1,8,[.nilp],.ptr 212⟩),
 (199,⟨1,8,[.nilp],.ptr 5⟩),
 (204,⟨20,160,[.int .u64 (.lit 0),.int .u64 (.lit 0),.int .u64 (.lit 0),.int .u64 (.lit 0),.int .u64 (.lit 0),.int .u64 (.lit 0),.int .u64 (.lit 0),.int .u64 (.lit 0),.int .u64 (.lit 0),.int .u64 (.lit 0),.int .u64 (.lit 0),.int .u64 (.lit 0),.int .u64 (.lit 0),.int .u64 (.lit 0),.int .u64 (.lit 0),.int .u64 (.lit 0),.int .u64 (.lit 0),.int .u64 (.lit 0),.int .u64 (.lit 0),.int .u64 (.lit 0)],.arr 20 187⟩),
 (205,⟨1,4,[.int .u32 (.lit 0)],.int .u32⟩),
 (206,⟨65,65,[.int .u8 (.lit 0),.int .u8 (.lit 0),.int .u8 (.lit 0),.int .u8 (.lit 0),.int .u8 (.lit 0),.int .u8 (.lit 0),.int .u8 (.lit 0),.int .u8 (.lit 0),.int .u8 (.lit 0),.int .u8 (.lit 0),.int .u8 (.lit 0),.int .u8 (.lit 0),.int .u8 (.lit 0),.int .u8 (.lit 0),.int .u8 (.lit 0),.int .u8 (.lit 0),.int .u8 (.lit 0),.int .u8 (.lit 0),.int .u8 (.lit 0),.int .u8 (.lit 0),.int .u8 (.lit 0),.int .u8 (.lit 0),.int .u8 (.lit 0),.int .u8 (.lit 0),.int .u8 (.lit 0),.int .u8 (.lit 0),.int .u8 (.lit 0),.int .u8 (.lit 0),.int .u8 (.lit 0),.int .u8 (.lit 0),.int .u8 (.lit 0),.int .u8 (.lit 0),.int .u8 (.lit 0),.int .u8 (.lit 0),.int .u8 (.lit 0),.int .u8 (.lit 0),.int .u8 (.lit 0),.int .u8 (.lit 0),.int .u8 (.lit 0),.int .u8 (.lit 0),.int .u8 (.lit 0),.int .u8 (.lit 0),.int .u8 (.lit 0),.int .u8 (.lit 0),.int .u8 (.lit 0),.int .u8 (.lit 0),.int .u8 (.lit 0),.int .u8 (.lit 0),.int .u8 (.lit 0),.int .u8 (.lit 0),.int .u8 (.lit 0),.int .u8 (.lit 0),.int .u8 (.lit 0),.int .u8 (.lit 0),.int .u8 (.lit 0),.int .u8 (.lit 0),.int .u8 (.lit 0),.int .u8 (.lit 0),.int .u8 (.lit 0),.int .u8 (.lit 0),.int .u8 (.lit 0),.int .u8 (.lit 0),.int .u8 (.lit 0),.int .u8 (.lit 0),.int .u8 (.lit 0)],.arr 65 5⟩),
 (211,⟨3,48,[.str fun _ => ⟨#[]⟩,.str fun _ => ⟨#[]⟩,.nilif],.struct [(0,9),(1,9),(2,169)]⟩),
 (212,⟨3,48,[.str fun _ => ⟨#[]⟩,.str fun _ => ⟨#[]⟩,.nilif],.struct [(0,9),(1,9),(2,169)]⟩),
 (223,⟨1,8,[.nilp],.ptr 225⟩),
 (224,⟨1,16,[.str fun _ => ⟨#[]⟩],.struct [(0,9)]⟩),
 (225,⟨1,16,[.str fun _ => ⟨#[]⟩],.struct [(0,9)]⟩),
 (227,⟨32,32,[.int .u8 (.lit 0),.int .u8 (.lit 0),.int .u8 (.lit 0),.int .u8 (.lit 0),.int .u8 (.lit 0),.int .u8 (.lit 0),.int .u8 (.lit 0),.int .u8 (.lit 0),.int .u8 (.lit 0),.int .u8 (.lit 0),.int .u8 (.lit 0),.int .u8 (.lit 0),.int .u8 (.lit 0),.int .u8 (.lit 0),.int .u8 (.lit 0),.int .u8 (.lit 0),.int .u8 (.lit 0),.int .u8 (.lit 0),.int .u8 (.lit 0),.int .u8 (.lit 0),.int .u8 (.lit 0),.int .u8 (.lit 0),.int .u8 (.lit 0),.int .u8 (.lit 0),.int .u8 (.lit 0),.int .u8 (.lit 0),.int .u8 (.lit 0),.int .u8 (.lit 0),.int .u8 (.lit 0),.int .u8 (.lit 0),.int .u8 (.lit 0),.int .u8 (.lit 0)],.arr 32 5⟩),
 (228,⟨64,64,[.int .u8 (.lit 0),.int .u8 (.lit 0),.int .u8 (.lit 0),.int .u8 (.lit 0),.int .u8 (.lit 0),.int .u8 (.lit 0),.int .u8 (.lit 0),.int .u8 (.lit 0),.int .u8 (.lit 0),.int .u8 (.lit 0),.int .u8 (.lit 0),.int .u8 (.lit 0),.int .u8 (.lit 0),.int .u8 (.lit 0),.int .u8 (.lit 0),.int .u8 (.lit 0),.int .u8 (.lit 0),.int .u8 (.lit 0),.int .u8 (.lit 0),.int .u8 (.lit 0),.int .u8 (.lit 0),.int .u8 (.lit 0),.int .u8 (.lit 0),.int .u8 (.lit 0),.int .u8 (.lit 0),.int .u8 (.lit 0),.int .u8 (.lit 0),.int .u8 (.lit 0),.int .u8 (.lit 0),.int .u8 (.lit 0),.int .u8 (.lit 0),.int .u8 (.lit 0),.int .u8 (.lit 0),.int .u8 (.lit 0),.int .u8 (.lit 0),.int .u8 (.lit 0),.int .u8 (.lit 0),.int .u8 (.lit 0),.int .u8 (.lit 0),.int .u8 (.lit 0),.int .u8 (.lit 0),.int .u8 (.lit 0),.int .u8 (.lit 0),.int .u8 (.lit 0),.int .u8 (.lit 0),.int .u8 (.lit 0),.int .u8 (.lit 0),.int .u8 (.lit 0),.int .u8 (.lit 0),.int .u8 (.lit 0),.int .u8 (.lit 0),.int .u8 (.lit 0),.int .u8 (.lit 0),.int .u8 (.lit 0),.int .u8 (.lit 0),.int .u8 (.lit 0),.int .u8 (.lit 0),.int .u8 (.lit 0),.int .u8 (.lit 0),.int .u8 (.lit 0),.int .u8 (.lit 0),.int .u8 (.lit 0),.int .u8 (.lit 0),.int .u8 (.lit 0)],.arr 64 5⟩),
 (229,⟨4,40,[.nilp,.nilp,.nilp,.str fun _ => ⟨#[]⟩],.struct [(0,17),(1,17),(2,17),(3,9)]⟩),
 (231,⟨0,0,[],.arr 0 16⟩),
 (232,⟨0,0,[],.struct [(0,231)]⟩),
 (239,⟨11,48,[.int .u64 (.lit 0),.int .u64 (.lit 0),.int .u32 (.lit 0),.int .u8 (.lit 0),.int .u8 (.lit 0),.int .u8 (.lit 0),.int .u8 (.lit 0),.nilfn,.nilp,.int .i32 (.lit 0),.int .i32 (.lit 0)],.struct [(0,12),(1,12),(2,205),(3,234),(4,5),(5,5),(6,235),(7,236),(8,199),(9,237),(10,238)]⟩)]
theorem tok : TOK Tryz.prog T := teqs_ok (by kernel_rfl)
end Go.Proofs.YtpbhcdbkmmjimaaGreatDoor
namespace Go.Proofs.YtpbhcdbkmmjimaaGreatDoor
open Go.RowKit
open Go Go.LX
set_option maxRecDepth 100000
set_option linter.unusedVariables false
set_option linter.unusedSimpArgs false
set_option maxHeartbeats 32000000
theorem bd_size : (Tryz.prog.info? 182).map (·.size) = some 2 := by kernel_rfl
theorem bd_lies : liesAt Tryz.prog Tryz.prog.depth 182 (2 / Tryz.prog.cellsOf 182) 0 182 1 = true := by kernel_rfl
theorem bd_byte : Tryz.prog.cellsOf 5 = 1 := by kernel_rfl
theorem copyCheck_fresh (b : Nat) (w : World) (h0 : w.cell? ⟨b,0,none⟩ = some (.pointer none)) (hsh : w.shape? b = some (182,2)) (hfz : w.frozen? ⟨b,0,none⟩ = false) :
  Calls Tryz.prog 162 #[.pointer (some ⟨b,0,none⟩)] w fun e w' => e = .returned (.tuple #[]) ∧ w' = w.setCell ⟨b,0,none⟩ (.pointer (some ⟨b,0,none⟩)) := by
 obtain ⟨j,hj,hjs⟩ := Option.map_eq_some_iff.1 bd_size
 go_enter Tryz.func162,Tryz.ntmps162
 go_wp2
 rw [Lib.run_to_unsafe w ⟨b,0,none⟩ Tryz.underlying179 Tryz.underlying214 hj (by rw [hjs]; decide) hsh (Nat.zero_lt_succ 1)]
 simp only [Result.andThen]
 rw [Oper.upon_value]
 go_wp2
 rw [run_callFunc_extern Tryz.func178 (by kernel_rfl) (by kernel_rfl) (by kernel_rfl) (e := Extern.AbiNoEscape.same) (by kernel_rfl)]
 rw [Lib.run_noEscape]
 simp only [Result.andThen]
 rw [Oper.upon_value]
 go_wp2
 rw [Lib.run_from_unsafe w ⟨b,0,none⟩ Tryz.underlying214 Tryz.underlying179 hj hsh bd_lies]
 simp only [Result.andThen]
 rw [Oper.upon_value]
 go_wp2
 go_end0
 exact ⟨rfl,rfl⟩
theorem copyCheck_used (b : Nat) (w : World) (h0 : w.cell? ⟨b,0,none⟩ = some (.pointer (some ⟨b,0,none⟩))) :
  Calls Tryz.prog 162 #[.pointer (some ⟨b,0,none⟩)] w fun e w' => e = .returned (.tuple #[]) ∧ w' = w := by
 obtain ⟨j,hj,_⟩ := Option.map_eq_some_iff.1 bd_size
 go_enter Tryz.func162,Tryz.ntmps162
 go_wp2
 rw [Lib.run_neq_ptr_same w _ Tryz.underlying179 hj]
 go_wp2
 go_end0
 exact ⟨rfl,rfl⟩
theorem arg1 {c : Ctx} {w : World} {u : LV} {xs : Array Value} (hl : [u].length = xs.size) (hrel : ∀ (i : Nat) (v : LV),[u][i]? = some v → LR c w v (xs.getD i Go.undef)) : ∃ x,xs = #[x] ∧ LR c w u x := by
 have h0 := hrel 0 u rfl
 rcases xs with ⟨l⟩
 match l,hl with
 | [x],_ => exact ⟨x,rfl,h0⟩
theorem ptr_live {c : Ctx} {w : World} {b : Nat} {m : Nat} {x : Value} (hm : c.m b = some (some m)) (hx : LR c w (.ptr b (.lit 0)) x) : x = .pointer (some ⟨m,0,none⟩) := by
 cases hx with
 | ptr _ _ r k hm' ho =>
  rw [hm] at hm'; cases hm'
  have : k = 0 := by simp only [I.val] at ho; omega
  rw [this]
 | goneP _ _ _ hm' _ => rw [hm] at hm'; cases hm'
theorem copyCheck_lx (v : LV) (B : LB) : CallF (fun _ => Tryz.prog) 162 [.ptr 0 (.lit 0)] [(0,.bld 182 [v]),(1,B)] 2 (fun r h n => r = .tup [] ∧ h = [(0,.bld 182 [v]),(1,B)] ∧ n = 2) := by
 refine .mk ⟨_,_,Tryz.func162,by kernel_rfl,rfl⟩ fun c w xs hr hN hl hrel => ?_
 obtain ⟨x,rfl,hx⟩ := arg1 hl hrel
 obtain ⟨m,hm,hB⟩ := hr.live 0 _ rfl
 cases m with
 | none => exact hB.elim
 | some r =>
  have hx := ptr_live hm hx
  subst hx
  have hB0 := hB
  obtain ⟨cur,hg,hsz,h0,hc⟩ := hB
  have hsz : cur.size = 2 := hsz
  have hc0 : w.cell? ⟨r,0,none⟩ = some (cur.getD 0 Go.undef) := by
   simp only [World.cell?,hg]
   rw [Array.getD_eq_getD_getElem?,Array.getElem?_eq_getElem (by omega : 0 < cur.size)]; rfl
  rcases h0 with h0 | h0
  ·rw [h0] at hc0
   refine (copyCheck_fresh r w hc0 (by simp only [World.shape?,hg,hsz]) (by simp [World.frozen?,hg])).mono ?_
   rintro e w' ⟨rfl,rfl⟩
   have hg' : (w.setCell ⟨r,0,none⟩ (.pointer (some ⟨r,0,none⟩))).heap[r]? = some (.cells (cur.setIfInBounds 0 (.pointer (some ⟨r,0,none⟩))) 182 (0,0)) := by
    simp [World.setCell,Array.getElem?_modify,hg]
   have ht : Turn w (w.setCell ⟨r,0,none⟩ (.pointer (some ⟨r,0,none⟩))) r := by
    refine ⟨rfl,rfl,rfl,by simp [World.setCell],fun k hk => ?_,?_⟩
    ·have hk' : ¬ r = k := fun h => hk h.symm
     simp [World.setCell,Array.getElem?_modify,hk']
    ·simp only [World.shape?,hg,hg',Array.size_setIfInBounds]
   have hB' : BR c (w.setCell ⟨r,0,none⟩ (.pointer (some ⟨r,0,none⟩))) (.bld 182 [v]) (some r) := by
    refine ⟨_,hg',by rw [Array.size_setIfInBounds]; exact hsz,.inr ?_,fun j u hu => ?_⟩
    ·simp [Array.getD_eq_getD_getElem?,hsz]
    ·have := (hc j u hu).ext hr.fresh (Ext.turn hr hm ht)
     rw [Array.getD_eq_getD_getElem?,Array.getElem?_setIfInBounds,if_neg (by omega),← Array.getD_eq_getD_getElem?]
     exact this
   exact ⟨c,.tup [],_,_,_,rfl,⟨rfl,rfl,rfl⟩,hr.turn rfl hm ht hB',hN,.tup _ _ rfl (fun j u hu => by simp at hu),Ext.turn hr hm ht⟩
  ·rw [h0] at hc0
   refine (copyCheck_used r w hc0).mono ?_
   rintro e w' ⟨rfl,rfl⟩
   exact ⟨c,.tup [],_,_,_,rfl,⟨rfl,rfl,rfl⟩,hr,hN,.tup _ _ rfl (fun j u hu => by simp at hu),Ext.refl hr⟩
theorem bd_mixed : Tryz.prog.follows .mixedOrders = true := by kernel_rfl
theorem string_some (b g cap : Nat) (p : Value) (cur : Array Value) (l : List UInt8) (w : World) (h0 : l ≠ []) (hbk : w.heap[b]? = some (.cells #[p,.slice (some ⟨g,0,none⟩) l.length cap] 182 (0,0)))
  (hg : w.heap[g]? = some (.cells cur 5 (0,0))) (hn : l.length ≤ cap) (hcm : cap ≤ maxLen) (hcs : cap ≤ cur.size) (hcell : ∀ j x,l[j]? = some x → w.cell? ((⟨g,0,none⟩ : Addr).add j) = some (.int .u8 x.toNat)) :
  Calls Tryz.prog 150 #[.pointer (some ⟨b,0,none⟩)] w fun e w' => e = .returned (.string ⟨l.toArray⟩) ∧ w' = w.drew.freeze ⟨g,0,none⟩ l.length := by
 have hl0 : l.length ≠ 0 := by simpa using h0
 have c1 : w.drew.cell? ⟨b,1,none⟩ = some (.slice (some ⟨g,0,none⟩) l.length cap) := by
  have : w.drew.heap[b]? = some (.cells #[p,.slice (some ⟨g,0,none⟩) l.length cap] 182 (0,0)) := hbk
  rw [Lib.cell_of_heap this]; rfl
 have hSD : (Builtin.unsafeSliceData_ #[180] 199 #[.slice (some ⟨g,0,none⟩) l.length cap]).run Tryz.prog w.drew = .ok (.pointer (some ⟨g,0,none⟩)) w.drew :=
  Lib.run_unsafeSliceData_row _ _ _ _ _ _ (by omega)
 have hUS : (Builtin.unsafeString_ #[199,3] 9 #[.pointer (some ⟨g,0,none⟩),.int .i64 l.length]).run Tryz.prog w.drew = .ok (.string ⟨l.toArray⟩) (w.drew.freeze ⟨g,0,none⟩ l.length) := by
  refine Lib.run_unsafeString_row w.drew 199 3 9 5 Tryz.underlying199 bd_byte g cur.size (by have hg' : w.drew.heap[g]? = some (.cells cur 5 (0,0)) := hg; simp [World.shape?,hg']) l h0 (by omega) (by unfold maxLen at hcm; omega) ?_
  intro j x hx
  exact hcell j x hx
 have mixed := bd_mixed
 go_enter Tryz.func150,Tryz.ntmps150
 go_wp2
 go_region_o
 all_goals (go_wp2; go_ret; exact ⟨rfl,rfl⟩)
theorem string_us (W : World) (q : Option Addr) : (Builtin.unsafeString_ #[199,3] 9 #[.pointer q,.int .i64 0]).run Tryz.prog W = .ok (.string .empty) W :=
 Lib.run_unsafeString_none W _ _ _ q
theorem string_nil (b : Nat) (p : Value) (w : World) (hbk : w.heap[b]? = some (.cells #[p,.slice none 0 0] 182 (0,0))) :
  Calls Tryz.prog 150 #[.pointer (some ⟨b,0,none⟩)] w fun e w' => e = .returned (.string ⟨#[]⟩) ∧ w' = w.drew := by
 have hUS := string_us
 have c1 : w.drew.cell? ⟨b,1,none⟩ = some (.slice none 0 0) := by
  have : w.drew.heap[b]? = some (.cells #[p,.slice none 0 0] 182 (0,0)) := hbk
  rw [Lib.cell_of_heap this]; rfl
 have hSD : (Builtin.unsafeSliceData_ #[180] 199 #[.slice none 0 0]).run Tryz.prog w.drew = .ok (.pointer none) w.drew := rfl
 have mixed := bd_mixed
 go_enter Tryz.func150,Tryz.ntmps150
 go_wp2
 go_region_o
 all_goals (go_wp2; go_ret; exact ⟨rfl,rfl⟩)
theorem string_room (b g cap : Nat) (p : Value) (w : World) (hc0 : cap ≠ 0) (hbk : w.heap[b]? = some (.cells #[p,.slice (some ⟨g,0,none⟩) 0 cap] 182 (0,0))) :
  Calls Tryz.prog 150 #[.pointer (some ⟨b,0,none⟩)] w fun e w' => e = .returned (.string ⟨#[]⟩) ∧ w' = w.drew := by
 have hUS := string_us
 have c1 : w.drew.cell? ⟨b,1,none⟩ = some (.slice (some ⟨g,0,none⟩) 0 cap) := by
  have : w.drew.heap[b]? = some (.cells #[p,.slice (some ⟨g,0,none⟩) 0 cap] 182 (0,0)) := hbk
  rw [Lib.cell_of_heap this]; rfl
 have hSD : (Builtin.unsafeSliceData_ #[180] 199 #[.slice (some ⟨g,0,none⟩) 0 cap]).run Tryz.prog w.drew = .ok (.pointer (some ⟨g,0,none⟩)) w.drew :=
  Lib.run_unsafeSliceData_row _ _ _ _ _ _ hc0
 clear hc0
 have mixed := bd_mixed
 go_enter Tryz.func150,Tryz.ntmps150
 go_wp2
 go_region_o
 all_goals (go_wp2; go_ret; exact ⟨rfl,rfl⟩)
theorem string_noroom (b g : Nat) (p : Value) (cur : Array Value) (w : World) (hbk : w.heap[b]? = some (.cells #[p,.slice (some ⟨g,0,none⟩) 0 0] 182 (0,0))) (hg : w.heap[g]? = some (.cells cur 5 (0,0))) :
  Calls Tryz.prog 150 #[.pointer (some ⟨b,0,none⟩)] w fun e w' => e = .returned (.string ⟨#[]⟩) ∧ w' = w.drew.alloc (.view ⟨g,0,none⟩ 5) := by
 have hUS := string_us
 have hlt : b < w.heap.size := by
  rcases Nat.lt_or_ge b w.heap.size with h' | h'
  ·exact h'
  ·simp [Array.getElem?_eq_none h'] at hbk
 have c1 : w.drew.cell? ⟨b,1,none⟩ = some (.slice (some ⟨g,0,none⟩) 0 0) := by
  have : w.drew.heap[b]? = some (.cells #[p,.slice (some ⟨g,0,none⟩) 0 0] 182 (0,0)) := hbk
  rw [Lib.cell_of_heap this]; rfl
 have hSD : (Builtin.unsafeSliceData_ #[180] 199 #[.slice (some ⟨g,0,none⟩) 0 0]).run Tryz.prog w.drew = .ok (.pointer (some ⟨w.drew.heap.size,0,none⟩)) (w.drew.alloc (.view ⟨g,0,none⟩ 5)) :=
  Lib.run_unsafeSliceData_zero w.drew _ _ 5 Tryz.underlying199 ⟨g,0,none⟩ 0 (5,cur.size) (by have hg' : w.drew.heap[g]? = some (.cells cur 5 (0,0)) := hg; simp [World.shape?,hg'])
 have c2 : (w.drew.alloc (.view ⟨g,0,none⟩ 5)).cell? ⟨b,1,none⟩ = some (.slice (some ⟨g,0,none⟩) 0 0) := by
  have : (w.drew.alloc (.view ⟨g,0,none⟩ 5)).heap[b]? = _ := (Lib.alloc_old w.drew _ b hlt).trans hbk
  rw [Lib.cell_of_heap this]; rfl
 have c3 : w.cell? ⟨b,1,none⟩ = some (.slice (some ⟨g,0,none⟩) 0 0) := by rw [Lib.cell_of_heap hbk]; rfl
 have mixed := bd_mixed
 go_enter Tryz.func150,Tryz.ntmps150
 go_wp2
 go_region_o
 all_goals (go_wp2; go_ret; exact ⟨rfl,rfl⟩)
theorem string_lx (j : Int) (L : List PV) (z : ByteArray) (hL : L = bytesPV z) (hj : j = z.size) :
  CallF (fun _ => Tryz.prog) 150 [.ptr 0 (.lit 0)] [(0,.bld 182 [.sl 1 5 1 (.lit 0) (.sym j)]),hpP 1 L] 2
   (fun r h n => r = .p (.str fun _ => z) ∧ h = [(0,.bld 182 [.p (.vsl (.sym j) true L)])] ∧ n = 2) := by
 refine .mk ⟨_,_,Tryz.func150,by kernel_rfl,rfl⟩ fun c w xs hr hN hl hrel => ?_
 obtain ⟨x,rfl,hx⟩ := arg1 hl hrel
 obtain ⟨m,hm,hB⟩ := hr.live 0 _ rfl
 obtain ⟨m1,hm1,hB1⟩ := hr.live 1 _ rfl
 cases m with
 | none => exact hB.elim
 | some r =>
  have hx := ptr_live hm hx
  subst hx
  obtain ⟨cur,hg,hsz,h0,hc⟩ := hB
  have hsz : cur.size = 2 := hsz
  have hc1 := hc 0 _ rfl
  obtain ⟨p,v,rfl⟩ : ∃ p v,cur = #[p,v] := by
   rcases cur with ⟨l⟩
   match l,hsz with
   | [p,v],_ => exact ⟨p,v,rfl⟩
  have hc1 : LR c w (.sl 1 5 1 (.lit 0) (.sym j)) v := hc1
  have hlen : L.length = z.size := by rw [hL,bytesPV,List.length_map,Array.length_toList]; rfl
  have fin : ∀ (w' : World),Ext c w (c.drop 1) w' → (w'.heap[r]? = w.heap[r]?) → LR (c.drop 1) w' (.p (.vsl (.sym j) true L)) v →
    ∃ (c' : Ctx) (rv : LV) (vv : Value) (h' : LH) (n' : Nat),Ending.returned (Value.string z) = .returned vv ∧ (rv = .p (.str fun _ => z) ∧ h' = [(0,LB.bld 182 [.p (.vsl (.sym j) true L)])] ∧ n' = 2) ∧ HR c' w' h' ∧ c'.N = n' ∧ LR c' w' rv vv ∧ Ext c w c' w' := by
   intro w' he hh hv
   have hd := hr.drop 1
   have e0 : ∀ b,b ≠ 1 → (c.drop 1).m b = c.m b := fun b hb => if_neg hb
   have e1 : (c.drop 1).m 1 = none := by simp [Ctx.drop]
   refine ⟨c.drop 1,.p (.str fun _ => z),.string z,_,2,rfl,⟨rfl,rfl,rfl⟩,?_,hN,.p _ _ (.str _),he⟩
   refine hr.step he (.inl rfl) (fun b hb => ?_) (fun b => ?_) (fun b B hb => .inr ?_)
   ·by_cases e : b = 1
    ·rw [e]; exact e1
    ·rw [e0 b e]; exact hr.fresh b hb
   ·by_cases e : b = 1
    ·exact .inr (.inl (by rw [e]; exact e1))
    ·exact .inl (e0 b e)
   ·rw [hget_cons] at hb
    by_cases e : 0 = b
    ·rw [if_pos e] at hb; cases hb
     subst e
     refine ⟨some r,(e0 0 (by decide)).trans hm,_,hh.trans hg,rfl,h0,fun j u hu => ?_⟩
     rcases j with _ | j
     ·simp at hu; subst hu; exact hv
     ·simp at hu
    ·rw [if_neg e] at hb; cases hb
  have drewE : Ext c w (c.drop 1) w.drew := (Ext.drop hr 1).trans (hr.drop 1 |>.same (w' := w.drew) rfl rfl rfl rfl).1
  have empty : z.size = 0 → z = ⟨#[]⟩ := fun h => by
   cases z with | mk d => have : d = #[] := Array.eq_empty_of_size_eq_zero h; rw [this]
  have hnM : ∀ r1,c.m 1 = some (some r1) → ¬ (c.drop 1).mut r1 := by
   rintro r1 h1 (hX | ⟨b,hb⟩)
   ·exact hr.noX 1 r1 h1 hX
   ·by_cases e : b = 1
    ·rw [e] at hb; have : (c.drop 1).m 1 = none := by simp [Ctx.drop]
     rw [this] at hb; cases hb
    ·have e0 : (c.drop 1).m b = c.m b := if_neg e
     rw [e0] at hb
     exact e (hr.inj b 1 r1 hb h1)
  cases hc1 with
  | goneS _ _ _ _ _ _ _ _ hm' _ => rw [hm1] at hm'; cases hm'
  | slz _ _ _ _ _ _ _ _ _ ho' _ _ h0' => exfalso; simp only [I.val] at ho'; omega
  | slv _ _ _ _ _ hm' ho' hn' =>
   simp only [I.val] at hn'
   have hz := empty (by omega)
   refine (string_nil r p w hg).mono ?_
   rintro e w' ⟨rfl,rfl⟩
   rw [← hz]
   exact fin _ drewE rfl (.p _ _ (.vsl0 _ _ _ _ _ hn' (Nat.zero_le _)))
  | sl _ _ _ _ _ g o k cp tot hm' ho' hn' hk' hcp hs' ht' =>
   rw [hm1] at hm'; cases hm'
   obtain ⟨cur,ty,hgg,hle,hrel⟩ := hB1
   simp only [I.val] at ho' hn'
   have ho0 : o = 0 := by omega
   subst ho0
   have hsh : ty = 5 ∧ cur.size = tot := by
    rw [World.shape?,hgg] at hs'
    cases hs'; exact ⟨rfl,rfl⟩
   obtain ⟨rfl,rfl⟩ := hsh
   have hkz : k = z.size := by omega
   have hgr : r ≠ g := fun e => by
    rw [e] at hm
    have := hr.inj 0 1 g hm hm1
    cases this
   by_cases hk0 : k = 0
   ·subst hk0
    have hz := empty (by omega)
    by_cases hcp0 : cp = 0
    ·subst hcp0
     refine (string_noroom r g p cur w hg hgg).mono ?_
     rintro e w' ⟨rfl,rfl⟩
     rw [← hz]
     have hlt : r < w.heap.size := hr.lt 0 r hm
     have he : Ext c w (c.drop 1) (w.drew.alloc (.view ⟨g,0,none⟩ 5)) := by
      refine ⟨rfl,rfl,rfl,by simp,rfl,Nat.le_refl _,drewE.old,fun b r hb h => ?_,fun r hr' _ => heap_alloc_old w.drew _ hr',fun b r' hb h => ?_⟩
      ·rcases drewE.new b r hb h with h1 | h1
       ·exact .inl h1
       ·exact .inr h1
      ·have h2 : c.m b = some (some r') := by
        rcases drewE.old b hb with e | e
        ·rw [← e]; exact h
        ·rw [e] at h; cases h
       simp only [World.shape?]
       rw [heap_alloc_old w.drew _ (hr.lt b r' h2)]; rfl
     exact fin _ he (heap_alloc_old w.drew _ hlt) (.p _ _ (.vsl0 _ _ _ _ _ hn' (Nat.zero_le _)))
    ·refine (string_room r g cp p w hcp0 hg).mono ?_
     rintro e w' ⟨rfl,rfl⟩
     rw [← hz]
     exact fin _ drewE rfl (.p _ _ (.vsl0 _ _ _ _ _ hn' hcp))
   ·have hll : z.data.toList.length = k := by rw [Array.length_toList]; exact hkz.symm
    have hcur : ∀ (j : Nat) (x : UInt8),z.data.toList[j]? = some x → cur[j]? = some (Value.int .u8 x.toNat) := by
     intro j x hx
     have hLj : L[j]? = some (.int .u8 (.sym x.toNat)) := by rw [hL,bytesPV,List.getElem?_map,hx]; rfl
     have h1 := hrel j _ hLj
     have hjl : j < L.length := (List.getElem?_eq_some_iff.1 hLj).1
     rw [Array.getD_eq_getD_getElem?,Array.getElem?_eq_getElem (by omega : j < cur.size)] at h1
     rw [Array.getElem?_eq_getElem (by omega : j < cur.size)]
     generalize cur[j] = q at h1
     have h1 : PR c.mut w (.int .u8 (.sym x.toNat)) q := h1
     cases h1 with | int _ _ m hm => rw [← hm]; rfl
    have hs1 := string_some r g cp p cur z.data.toList w (by intro h; rw [h] at hll; simp at hll; omega) (by rw [hll]; exact hg) hgg (by omega) hcp (by omega) (fun j x hx => by
     rw [add_lit]
     simp only [World.cell?,hgg,Nat.zero_add]
     simpa using hcur j x hx)
    refine hs1.mono ?_
    rintro e w' ⟨rfl,rfl⟩
    have hfg : (w.drew.freeze ⟨g,0,none⟩ z.data.toList.length).heap[g]? = some (.cells cur 5 (0,k)) := by
     have hgg' : w.drew.heap[g]? = some (.cells cur 5 (0,0)) := hgg
     rw [hll]; simp [World.freeze,hk0,Array.getElem?_modify,hgg']
    have hfo : ∀ i,i ≠ g → (w.drew.freeze ⟨g,0,none⟩ z.data.toList.length).heap[i]? = w.heap[i]? := by
     intro i hi
     have hi' : ¬ g = i := fun h => hi h.symm
     rw [hll]; simp [World.freeze,hk0,Array.getElem?_modify,hi']; rfl
    have hfs : (w.drew.freeze ⟨g,0,none⟩ z.data.toList.length).heap.size = w.heap.size := by rw [hll]; simp [World.freeze,hk0]
    have he : Ext c w (c.drop 1) (w.drew.freeze ⟨g,0,none⟩ z.data.toList.length) := by
     refine ⟨by rw [hll]; simp [World.freeze,hk0] <;> rfl,by rw [hll]; simp [World.freeze,hk0] <;> rfl,by rw [hll]; simp [World.freeze,hk0] <;> rfl,by rw [hfs]; exact Nat.le_refl _,rfl,Nat.le_refl _,drewE.old,drewE.new,fun i hi ho => hfo i fun e => ho (by rw [e]; exact ⟨1,hm1⟩),fun b r' hb h => ?_⟩
     have hrg : r' ≠ g := fun e => by
      rw [e] at h
      exact hnM g hm1 (.inr ⟨b,h⟩)
     simp only [World.shape?,hfo r' hrg]
    refine fin _ he (hfo r hgr) (.p _ _ (.vsl _ _ _ ⟨g,0,none⟩ k cp (fun j => cur.getD j Go.undef) hn' rfl (hnM g hm1) (by rw [hfs]; exact hr.lt 1 g hm1) hk' hcp (fun j u hu => ?_) (fun j u hu => (hrel j u hu).ext hr.fresh he)))
    have hjl : j < L.length := (List.getElem?_eq_some_iff.1 hu).1
    rw [add_lit]
    simp only [World.cell?,hfg,Nat.zero_add]
    rw [Array.getD_eq_getD_getElem?,Array.getElem?_eq_getElem (by omega : j < cur.size)]; rfl
end Go.Proofs.YtpbhcdbkmmjimaaGreatDoor
namespace Go.Proofs.YtpbhcdbkmmjimaaGreatDoor
open Go Go.LX
set_option maxRecDepth 100000
set_option linter.unusedVariables false
set_option maxHeartbeats 32000000
theorem bytesPV_append (a b : ByteArray) : bytesPV (a ++ b) = bytesPV a ++ bytesPV b := by
 have : (a ++ b).data.toList = a.data.toList ++ b.data.toList := by rw [ByteArray.data_append,Array.toList_append]
 rw [bytesPV,bytesPV,bytesPV,this,List.map_append]
theorem bytesPV_length (a : ByteArray) : (bytesPV a).length = a.size := by rw [bytesPV,List.length_map,Array.length_toList]; rfl
end Go.Proofs.YtpbhcdbkmmjimaaGreatDoor
namespace Go.Proofs.YtpbhcdbkmmjimaaGreatDoor
open Go Go.LX
set_option maxRecDepth 100000
set_option linter.unusedVariables false
set_option maxHeartbeats 32000000
theorem appendRune_lx (j cc : Int) (L : List PV) (z : ByteArray) (hL : L = bytesPV z) (hj : j = z.size) (h0 : 0 ≤ cc) (h1 : cc ≤ 127) (hm : z.size + 1 ≤ 140737488355328) :
  CallF (fun _ => Tryz.prog) 163 [.sl 0 5 1 (.lit 0) (.sym j),.p (.int .i32 (.sym cc))] [hpP 0 L] 1
   (fun r h n => ∃ (k : Int) (L' : List PV),r = .sl 1 5 1 (.lit 0) (.sym k) ∧ h = [hpP 1 L'] ∧ n = 2 ∧ L' = bytesPV (z ++ ⟨#[cc.toNat.toUInt8]⟩) ∧ k = (z.size : Int) + 1) := by
 refine callF_of_body tok Tryz.func163 (by kernel_rfl) rfl rfl rfl ?_; conv => cbv
 refine Fit.mk (show (0 : Int) ≤ cc by omega) (show cc ≤ 4294967295 by omega) fun u hu => ?_
 have hu : u = cc := hu
 conv => cbv
 refine Br.mk (fun _ => ?_) (fun hc => absurd (show u ≤ 127 by omega) hc)
 conv => cbv
 refine Fit.mk (show (0 : Int) ≤ cc by omega) (show cc ≤ 255 by omega) fun v hv => ?_
 have hv : v = cc := hv
 conv => cbv
 refine Room.new rfl ?_
 conv => cbv
 refine Room.new ⟨by rw [hL,bytesPV_length]; show ((z.size : Nat) : Int) = j * 1; omega,by show (j + 1) * 1 ≤ 140737488355328; omega,by show j + 1 ≤ 9223372036854775807; omega⟩ ?_
 conv => cbv
 refine Upd.mk fun L2 hL2 => ?_
 have hL2 : L2 = L ++ [.int .u8 (.sym v)] := hL2
 conv => cbv
 refine Sum.mk fun k hk => ?_
 have hk : k = j + 1 := hk
 have hk2 : k = (z.size : Int) + 1 := by rw [hk,hj]
 conv => cbv
 refine RetF.mk [.sl 1 5 1 (.lit 0) (.sym k)] [hpP 1 L2] 2 (Re.at [(2,1)] []) rfl ⟨k,L2,rfl,rfl,rfl,?_,hk2⟩
 have hb : ((cc.toNat.toUInt8).toNat : Int) = v := by
  have : cc.toNat.toUInt8.toNat = cc.toNat := by rw [Nat.toUInt8,UInt8.toNat_ofNat']; omega
  omega
 rw [hL2,hL,bytesPV_append]
 show _ = bytesPV z ++ [PV.int .u8 (.sym ((cc.toNat.toUInt8).toNat : Int))]
 rw [hb]
theorem writeRune_lx (j cc : Int) (L : List PV) (z : ByteArray) (hL : L = bytesPV z) (hj : j = z.size) (h0 : 0 ≤ cc) (h1 : cc ≤ 127) (hm : z.size + 1 ≤ 140737488355328) :
  CallF (fun _ => Tryz.prog) 149 [.ptr 0 (.lit 0),.p (.int .i32 (.sym cc))] [(0,.bld 182 [.sl 1 5 1 (.lit 0) (.sym j)]),hpP 1 L] 2
   (fun r h n => ∃ (m k : Int) (L' : List PV),r = .tup [i6 m,.p .nilif] ∧ h = [hpP 2 L',(0,.bld 182 [.sl 2 5 1 (.lit 0) (.sym k)])] ∧ n = 3 ∧ L' = bytesPV (z ++ ⟨#[cc.toNat.toUInt8]⟩) ∧ k = (z ++ ⟨#[cc.toNat.toUInt8]⟩).size) := by
 refine callF_of_body tok Tryz.func149 (by kernel_rfl) rfl rfl rfl ?_; conv => cbv
 refine cfr (copyCheck_lx (.sl 1 5 1 (.lit 0) (.sym j)) (.pure true L)) [(0,0),(1,1)] (fun r h' n' ⟨e1,e2,e3⟩ => ?_)
 subst e1 e2 e3
 conv => cbv
 refine callF_frame (appendRune_lx j cc L z hL hj h0 h1 hm) [(0,1)] rfl (by simp [hmapOk,nget,hget,renB,okB]) rfl rfl (fun r h' n' ⟨k,L2,e1,e2,e3,hL2,hk⟩ => ?_)
 subst e1 e2 e3
 conv => cbv
 refine Fit.mk (show (-9223372036854775808 : Int) ≤ k - j by omega) (show k - j ≤ 9223372036854775807 by omega) fun m hm2 => ?_
 conv => cbv
 have hk2 : k = (z ++ ⟨#[cc.toNat.toUInt8]⟩ : ByteArray).size := by rw [ByteArray.size_append,hk]; rfl
 refine RetF.mk [i6 m,.p .nilif] [hpP 2 L2,(0,.bld 182 [.sl 2 5 1 (.lit 0) (.sym k)])] 3 (Re.at [(0,0),(2,2)] []) rfl ⟨m,k,L2,rfl,rfl,rfl,hL2,hk2⟩
end Go.Proofs.YtpbhcdbkmmjimaaGreatDoor
namespace Go.Proofs
open Go.Shelf
set_option maxHeartbeats 32000000
def Tryz.laysM171_ren : Go.Shelf.Ren := ⟨fun | 171 => 128 | 243 => 139 | 246 => 145 | 283 => 152 | 284 => 153 | 285 => 154 | 286 => 155 | 129 => 170 | 317 => 169 | 318 => 171 | 319 => 172 | 320 => 173 | 337 => 184 | 338 => 185 | n => n,fun | 3 => 3 | 9 => 9 | 2 => 2 | 4 => 4 | 171 => 186 | 0 => 0 | 53 => 187 | 37 => 180 | 5 => 5 | 173 => 190 | 212 => 204 | 51 => 205 | 20 => 20 | 213 => 206 | 46 => 49 | 232 => 227 | 233 => 228 | n => n,fun | 17 => 0 | 18 => 3 | 19 => 4 | n => n⟩
theorem Tryz.laysM171 : Go.Proofs.LaysM.n171 Tryz.prog Tryz.laysM171_ren := {
 mixed := by kernel_rfl
 f129 := Tryz.func170.trans (congrArg some (by kernel_rfl))
 f171 := Tryz.func128.trans (congrArg some (by kernel_rfl))
 f243 := Tryz.func139.trans (congrArg some (by kernel_rfl))
 f246 := Tryz.func145.trans (congrArg some (by kernel_rfl))
 f283 := Tryz.func152.trans (congrArg some (by kernel_rfl))
 f284 := Tryz.func153.trans (congrArg some (by kernel_rfl))
 f285 := Tryz.func154.trans (congrArg some (by kernel_rfl))
 f286 := Tryz.func155.trans (congrArg some (by kernel_rfl))
 f317 := Tryz.func169.trans (congrArg some (by kernel_rfl))
 f318 := Tryz.func171.trans (congrArg some (by kernel_rfl))
 f319 := Tryz.func172.trans (congrArg some (by kernel_rfl))
 f320 := Tryz.func173.trans (congrArg some (by kernel_rfl))
 f337 := Tryz.func184.trans (congrArg some (by kernel_rfl))
 f338 := Tryz.func185.trans (congrArg some (by kernel_rfl))
 t0 := Tryz.underlying0
 a0 := Tryz.isAgg0
 z0 := Tryz.sizeOf0
 v0 := Tryz.zeroValue0
 t2 := Tryz.underlying2
 a2 := Tryz.isAgg2
 z2 := Tryz.sizeOf2
 v2 := Tryz.zeroValue2
 t3 := Tryz.underlying3
 a3 := Tryz.isAgg3
 z3 := Tryz.sizeOf3
 v3 := Tryz.zeroValue3
 t4 := Tryz.underlying4
 a4 := Tryz.isAgg4
 z4 := Tryz.sizeOf4
 v4 := Tryz.zeroValue4
 t5 := Tryz.underlying5
 a5 := Tryz.isAgg5
 z5 := Tryz.sizeOf5
 v5 := Tryz.zeroValue5
 t9 := Tryz.underlying9
 a9 := Tryz.isAgg9
 z9 := Tryz.sizeOf9
 v9 := Tryz.zeroValue9
 t20 := Tryz.underlying20
 a20 := Tryz.isAgg20
 z20 := Tryz.sizeOf20
 v20 := Tryz.zeroValue20
 t37 := Tryz.underlying180
 a37 := Tryz.isAgg180
 z37 := Tryz.sizeOf180
 v37 := Tryz.zeroValue180
 t46 := Tryz.underlying49
 a46 := Tryz.isAgg49
 z46 := Tryz.sizeOf49
 v46 := Tryz.zeroValue49
 t51 := Tryz.underlying205
 a51 := Tryz.isAgg205
 z51 := Tryz.sizeOf205
 v51 := Tryz.zeroValue205
 t53 := Tryz.underlying187
 a53 := Tryz.isAgg187
 z53 := Tryz.sizeOf187
 v53 := Tryz.zeroValue187
 t171 := Tryz.underlying186
 a171 := Tryz.isAgg186
 z171 := Tryz.sizeOf186
 v171 := Tryz.zeroValue186
 t173 := Tryz.underlying190
 a173 := Tryz.isAgg190
 z173 := Tryz.sizeOf190
 v173 := Tryz.zeroValue190
 t212 := Tryz.underlying204
 a212 := Tryz.isAgg204
 z212 := Tryz.sizeOf204
 v212 := Tryz.zeroValue204
 t213 := Tryz.underlying206
 a213 := Tryz.isAgg206
 z213 := Tryz.sizeOf206
 t232 := Tryz.underlying227
 a232 := Tryz.isAgg227
 z232 := Tryz.sizeOf227
 v232 := Tryz.zeroValue227
 t233 := Tryz.underlying228
 a233 := Tryz.isAgg228
 z233 := Tryz.sizeOf228
 v233 := Tryz.zeroValue228
 g17 := by kernel_rfl
 g18 := by kernel_rfl
 g19 := by kernel_rfl
 i0 := by kernel_rfl
 i2 := by kernel_rfl
 i3 := by kernel_rfl
 i4 := by kernel_rfl
 i5 := by kernel_rfl
 i9 := by kernel_rfl
 i20 := by kernel_rfl
 i37 := by kernel_rfl
 i46 := by kernel_rfl
 i51 := by kernel_rfl
 i53 := by kernel_rfl
 i171 := by kernel_rfl
 i173 := by kernel_rfl
 i212 := by kernel_rfl
 i232 := by kernel_rfl
 i233 := by kernel_rfl
 m17 := by kernel_rfl
 m18 := by kernel_rfl
 m19 := by kernel_rfl }
open Go.RowKit Go.Sort Go.Lib in
theorem Tryz.strconv_Itoa (n : Int) (h0 : -9223372036854775808 ≤ n) (h1 : n ≤ 9223372036854775807) (w : World) (htab : Lib.TabIs Tryz.prog w "internal/strconv.uint64pow10" .u64 Lib.pow10Tab) :
  Calls Tryz.prog 128 #[.int .i64 n] w fun e w' => e = .returned (.string ⟨(Lib.itoa n).toArray⟩) ∧ ∃ k os,w' = grow (w.drewN k) os := Any.strconv_Itoa Tryz.laysM171 n h0 h1 w htab
def Tryz.laysC172_ren : Go.Shelf.Ren := ⟨fun | 172 => 141 | 244 => 147 | 245 => 148 | 247 => 157 | 279 => 158 | 280 => 159 | 281 => 160 | 282 => 161 | 287 => 175 | 316 => 176 | 171 => 128 | 205 => 177 | 321 => 186 | 322 => 187 | 243 => 139 | 246 => 145 | 283 => 152 | 284 => 153 | 285 => 154 | 286 => 155 | 129 => 170 | 317 => 169 | 318 => 171 | 319 => 172 | 320 => 173 | 337 => 184 | 338 => 185 | n => n,fun | 9 => 9 | 3 => 3 | 75 => 169 | 76 => 170 | 4 => 4 | 5 => 5 | 167 => 192 | 37 => 180 | 0 => 0 | 85 => 193 | 2 => 2 | 168 => 195 | 53 => 187 | 175 => 208 | 46 => 49 | 210 => 212 | 127 => 199 | 145 => 225 | 143 => 223 | 21 => 21 | 171 => 186 | 173 => 190 | 212 => 204 | 51 => 205 | 20 => 20 | 213 => 206 | 232 => 227 | 233 => 228 | 80 => 184 | n => n,fun | 15 => 1 | 16 => 2 | 17 => 0 | 18 => 3 | 19 => 4 | n => n⟩
theorem Tryz.laysC172 : Go.Proofs.LaysC.n172 Tryz.prog Tryz.laysC172_ren := {
 mixed := by kernel_rfl
 f129 := Tryz.func170.trans (congrArg some (by kernel_rfl))
 f171 := Tryz.func128.trans (congrArg some (by kernel_rfl))
 f172 := Tryz.func141.trans (congrArg some (by kernel_rfl))
 f205 := Tryz.func177.trans (congrArg some (by kernel_rfl))
 f243 := Tryz.func139.trans (congrArg some (by kernel_rfl))
 f244 := Tryz.func147.trans (congrArg some (by kernel_rfl))
 f245 := Tryz.func148.trans (congrArg some (by kernel_rfl))
 f246 := Tryz.func145.trans (congrArg some (by kernel_rfl))
 f247 := Tryz.func157.trans (congrArg some (by kernel_rfl))
 f279 := Tryz.func158.trans (congrArg some (by kernel_rfl))
 f280 := Tryz.func159.trans (congrArg some (by kernel_rfl))
 f281 := Tryz.func160.trans (congrArg some (by kernel_rfl))
 f282 := Tryz.func161.trans (congrArg some (by kernel_rfl))
 f283 := Tryz.func152.trans (congrArg some (by kernel_rfl))
 f284 := Tryz.func153.trans (congrArg some (by kernel_rfl))
 f285 := Tryz.func154.trans (congrArg some (by kernel_rfl))
 f286 := Tryz.func155.trans (congrArg some (by kernel_rfl))
 f287 := Tryz.func175.trans (congrArg some (by kernel_rfl))
 f316 := Tryz.func176.trans (congrArg some (by kernel_rfl))
 f317 := Tryz.func169.trans (congrArg some (by kernel_rfl))
 f318 := Tryz.func171.trans (congrArg some (by kernel_rfl))
 f319 := Tryz.func172.trans (congrArg some (by kernel_rfl))
 f320 := Tryz.func173.trans (congrArg some (by kernel_rfl))
 f321 := Tryz.func186.trans (congrArg some (by kernel_rfl))
 f322 := Tryz.func187.trans (congrArg some (by kernel_rfl))
 f337 := Tryz.func184.trans (congrArg some (by kernel_rfl))
 f338 := Tryz.func185.trans (congrArg some (by kernel_rfl))
 t0 := Tryz.underlying0
 a0 := Tryz.isAgg0
 z0 := Tryz.sizeOf0
 v0 := Tryz.zeroValue0
 t2 := Tryz.underlying2
 a2 := Tryz.isAgg2
 z2 := Tryz.sizeOf2
 v2 := Tryz.zeroValue2
 t3 := Tryz.underlying3
 a3 := Tryz.isAgg3
 z3 := Tryz.sizeOf3
 v3 := Tryz.zeroValue3
 t4 := Tryz.underlying4
 a4 := Tryz.isAgg4
 z4 := Tryz.sizeOf4
 v4 := Tryz.zeroValue4
 t5 := Tryz.underlying5
 a5 := Tryz.isAgg5
 z5 := Tryz.sizeOf5
 v5 := Tryz.zeroValue5
 t9 := Tryz.underlying9
 a9 := Tryz.isAgg9
 z9 := Tryz.sizeOf9
 v9 := Tryz.zeroValue9
 t20 := Tryz.underlying20
 a20 := Tryz.isAgg20
 z20 := Tryz.sizeOf20
 v20 := Tryz.zeroValue20
 t21 := Tryz.underlying21
 a21 := Tryz.isAgg21
 z21 := Tryz.sizeOf21
 v21 := Tryz.zeroValue21
 t37 := Tryz.underlying180
 a37 := Tryz.isAgg180
 z37 := Tryz.sizeOf180
 v37 := Tryz.zeroValue180
 t46 := Tryz.underlying49
 a46 := Tryz.isAgg49
 z46 := Tryz.sizeOf49
 v46 := Tryz.zeroValue49
 t51 := Tryz.underlying205
 a51 := Tryz.isAgg205
 z51 := Tryz.sizeOf205
 v51 := Tryz.zeroValue205
 t53 := Tryz.underlying187
 a53 := Tryz.isAgg187
 z53 := Tryz.sizeOf187
 v53 := Tryz.zeroValue187
 t75 := Tryz.underlying169
 a75 := Tryz.isAgg169
 z75 := Tryz.sizeOf169
 v75 := Tryz.zeroValue169
 t76 := Tryz.underlying170
 a76 := Tryz.isAgg170
 z76 := Tryz.sizeOf170
 v76 := Tryz.zeroValue170
 t85 := Tryz.underlying193
 a85 := Tryz.isAgg193
 z85 := Tryz.sizeOf193
 v85 := Tryz.zeroValue193
 t127 := Tryz.underlying199
 a127 := Tryz.isAgg199
 z127 := Tryz.sizeOf199
 v127 := Tryz.zeroValue199
 t143 := Tryz.underlying223
 a143 := Tryz.isAgg223
 z143 := Tryz.sizeOf223
 v143 := Tryz.zeroValue223
 t145 := Tryz.underlying225
 a145 := Tryz.isAgg225
 z145 := Tryz.sizeOf225
 v145 := Tryz.zeroValue225
 t167 := Tryz.underlying192
 a167 := Tryz.isAgg192
 z167 := Tryz.sizeOf192
 v167 := Tryz.zeroValue192
 t168 := Tryz.underlying195
 a168 := Tryz.isAgg195
 z168 := Tryz.sizeOf195
 v168 := Tryz.zeroValue195
 t171 := Tryz.underlying186
 a171 := Tryz.isAgg186
 z171 := Tryz.sizeOf186
 v171 := Tryz.zeroValue186
 t173 := Tryz.underlying190
 a173 := Tryz.isAgg190
 z173 := Tryz.sizeOf190
 v173 := Tryz.zeroValue190
 t175 := Tryz.underlying208
 a175 := Tryz.isAgg208
 z175 := Tryz.sizeOf208
 v175 := Tryz.zeroValue208
 t210 := Tryz.underlying212
 a210 := Tryz.isAgg212
 z210 := Tryz.sizeOf212
 v210 := Tryz.zeroValue212
 t212 := Tryz.underlying204
 a212 := Tryz.isAgg204
 z212 := Tryz.sizeOf204
 v212 := Tryz.zeroValue204
 t213 := Tryz.underlying206
 a213 := Tryz.isAgg206
 z213 := Tryz.sizeOf206
 t232 := Tryz.underlying227
 a232 := Tryz.isAgg227
 z232 := Tryz.sizeOf227
 v232 := Tryz.zeroValue227
 t233 := Tryz.underlying228
 a233 := Tryz.isAgg228
 z233 := Tryz.sizeOf228
 v233 := Tryz.zeroValue228
 g15 := by kernel_rfl
 g16 := by kernel_rfl
 g17 := by kernel_rfl
 g18 := by kernel_rfl
 g19 := by kernel_rfl
 t80 := Tryz.underlying184
 a80 := Tryz.isAgg184
 z80 := Tryz.sizeOf184
 v80 := Tryz.zeroValue184
 i0 := by kernel_rfl
 i2 := by kernel_rfl
 i3 := by kernel_rfl
 i4 := by kernel_rfl
 i5 := by kernel_rfl
 i9 := by kernel_rfl
 i20 := by kernel_rfl
 i21 := by kernel_rfl
 i37 := by kernel_rfl
 i46 := by kernel_rfl
 i51 := by kernel_rfl
 i53 := by kernel_rfl
 i75 := by kernel_rfl
 i76 := by kernel_rfl
 i80 := by kernel_rfl
 i85 := by kernel_rfl
 i127 := by kernel_rfl
 i143 := by kernel_rfl
 i145 := by kernel_rfl
 i167 := by kernel_rfl
 i168 := by kernel_rfl
 i171 := by kernel_rfl
 i173 := by kernel_rfl
 i175 := by kernel_rfl
 i210 := by kernel_rfl
 i212 := by kernel_rfl
 i232 := by kernel_rfl
 i233 := by kernel_rfl
 m15 := by kernel_rfl
 m16 := by kernel_rfl
 m17 := by kernel_rfl
 m18 := by kernel_rfl
 m19 := by kernel_rfl
 c0 := by kernel_rfl
 c2 := by kernel_rfl
 c3 := by kernel_rfl
 c4 := by kernel_rfl
 c5 := by kernel_rfl
 c9 := by kernel_rfl
 c20 := by kernel_rfl
 c21 := by kernel_rfl
 c37 := by kernel_rfl
 c46 := by kernel_rfl
 c51 := by kernel_rfl
 c53 := by kernel_rfl
 c75 := by kernel_rfl
 c76 := by kernel_rfl
 c80 := by kernel_rfl
 c85 := by kernel_rfl
 c127 := by kernel_rfl
 c143 := by kernel_rfl
 c145 := by kernel_rfl
 c167 := by kernel_rfl
 c168 := by kernel_rfl
 c171 := by kernel_rfl
 c173 := by kernel_rfl
 c175 := by kernel_rfl
 c210 := by kernel_rfl
 c212 := by kernel_rfl
 c213 := by kernel_rfl
 c232 := by kernel_rfl
 c233 := by kernel_rfl }
open Go.RowKit in
theorem Tryz.strconv_Atoi_ok (s : ByteArray) (hmax : s.size ≤ 9223372036854775806) (v : Int) (h : Lib.atoiAll s.data.toList = .ok v) (w : World) :
  Calls Tryz.prog 141 #[.string s] w fun e w' => e = .returned (.tuple #[.int .i64 v,.nilIface]) ∧ (w' = w ∨ ∃ t,w' = Lib.bytesWorld w 5 t) := Any.strconv_Atoi_ok Tryz.laysC172 s hmax v h w
def Tryz.lays102_ren : Go.Shelf.Ren := ⟨fun | 102 => 146 | 209 => 156 | 207 => 174 | n => n,fun | 9 => 9 | 4 => 4 | 3 => 3 | n => n,fun | n => n⟩
theorem Tryz.lays102 : Go.Proofs.Lays.n102 Tryz.prog Tryz.lays102_ren := {
 mixed := by kernel_rfl
 f102 := Tryz.func146.trans (congrArg some (by kernel_rfl))
 f207 := Tryz.func174.trans (congrArg some (by kernel_rfl))
 f209 := Tryz.func156.trans (congrArg some (by kernel_rfl))
 t3 := Tryz.underlying3
 a3 := Tryz.isAgg3
 z3 := Tryz.sizeOf3
 v3 := Tryz.zeroValue3
 t4 := Tryz.underlying4
 a4 := Tryz.isAgg4
 z4 := Tryz.sizeOf4
 v4 := Tryz.zeroValue4
 t9 := Tryz.underlying9
 a9 := Tryz.isAgg9
 z9 := Tryz.sizeOf9
 v9 := Tryz.zeroValue9 }
open Go.RowKit Go.Lib in
theorem Tryz.strings_TrimSuffix (s p : ByteArray) (w : World) (hs : s.size ≤ 9223372036854775807) :
  Calls Tryz.prog 146 #[.string s,.string p] w fun e w' => e = .returned (.string ⟨(Lib.trimSuffix s.data.toList p.data.toList).toArray⟩) ∧ w' = w := Any.strings_TrimSuffix Tryz.lays102 s p w hs
def Tryz.lays105_ren : Go.Shelf.Ren := ⟨fun | 105 => 151 | 212 => 164 | 99 => 165 | 165 => 166 | 166 => 167 | 170 => 168 | 169 => 150 | 263 => 180 | 264 => 181 | 206 => 182 | 240 => 162 | 241 => 183 | 276 => 178 | 277 => 188 | n => n,fun | 9 => 9 | 3 => 3 | 4 => 4 | 20 => 20 | 0 => 0 | 46 => 49 | 109 => 200 | 5 => 5 | 72 => 182 | 76 => 170 | 51 => 205 | 146 => 216 | 53 => 187 | 148 => 218 | 70 => 179 | 37 => 180 | 75 => 169 | 127 => 199 | 164 => 214 | 80 => 184 | n => n,fun | n => n⟩
theorem Tryz.lays105 : Go.Proofs.Lays.n105 Tryz.prog Tryz.lays105_ren := {
 mixed := by kernel_rfl
 f99 := Tryz.func165.trans (congrArg some (by kernel_rfl))
 f105 := Tryz.func151.trans (congrArg some (by kernel_rfl))
 f165 := Tryz.func166.trans (congrArg some (by kernel_rfl))
 f166 := Tryz.func167.trans (congrArg some (by kernel_rfl))
 f169 := Tryz.func150.trans (congrArg some (by kernel_rfl))
 f170 := Tryz.func168.trans (congrArg some (by kernel_rfl))
 f206 := Tryz.func182.trans (congrArg some (by kernel_rfl))
 f212 := Tryz.func164.trans (congrArg some (by kernel_rfl))
 f240 := Tryz.func162.trans (congrArg some (by kernel_rfl))
 f241 := Tryz.func183.trans (congrArg some (by kernel_rfl))
 f263 := Tryz.func180.trans (congrArg some (by kernel_rfl))
 f264 := Tryz.func181.trans (congrArg some (by kernel_rfl))
 f276 := Tryz.func178.trans (congrArg some (by kernel_rfl))
 f277 := Tryz.func188.trans (congrArg some (by kernel_rfl))
 t0 := Tryz.underlying0
 a0 := Tryz.isAgg0
 z0 := Tryz.sizeOf0
 v0 := Tryz.zeroValue0
 t3 := Tryz.underlying3
 a3 := Tryz.isAgg3
 z3 := Tryz.sizeOf3
 v3 := Tryz.zeroValue3
 t4 := Tryz.underlying4
 a4 := Tryz.isAgg4
 z4 := Tryz.sizeOf4
 v4 := Tryz.zeroValue4
 t5 := Tryz.underlying5
 a5 := Tryz.isAgg5
 z5 := Tryz.sizeOf5
 v5 := Tryz.zeroValue5
 t9 := Tryz.underlying9
 a9 := Tryz.isAgg9
 z9 := Tryz.sizeOf9
 v9 := Tryz.zeroValue9
 t20 := Tryz.underlying20
 a20 := Tryz.isAgg20
 z20 := Tryz.sizeOf20
 v20 := Tryz.zeroValue20
 t37 := Tryz.underlying180
 a37 := Tryz.isAgg180
 z37 := Tryz.sizeOf180
 v37 := Tryz.zeroValue180
 t46 := Tryz.underlying49
 a46 := Tryz.isAgg49
 z46 := Tryz.sizeOf49
 v46 := Tryz.zeroValue49
 t51 := Tryz.underlying205
 a51 := Tryz.isAgg205
 z51 := Tryz.sizeOf205
 v51 := Tryz.zeroValue205
 t53 := Tryz.underlying187
 a53 := Tryz.isAgg187
 z53 := Tryz.sizeOf187
 v53 := Tryz.zeroValue187
 t70 := Tryz.underlying179
 a70 := Tryz.isAgg179
 z70 := Tryz.sizeOf179
 v70 := Tryz.zeroValue179
 t72 := Tryz.underlying182
 a72 := Tryz.isAgg182
 z72 := Tryz.sizeOf182
 v72 := Tryz.zeroValue182
 t75 := Tryz.underlying169
 a75 := Tryz.isAgg169
 z75 := Tryz.sizeOf169
 v75 := Tryz.zeroValue169
 t76 := Tryz.underlying170
 a76 := Tryz.isAgg170
 z76 := Tryz.sizeOf170
 v76 := Tryz.zeroValue170
 t109 := Tryz.underlying200
 a109 := Tryz.isAgg200
 z109 := Tryz.sizeOf200
 v109 := Tryz.zeroValue200
 t127 := Tryz.underlying199
 a127 := Tryz.isAgg199
 z127 := Tryz.sizeOf199
 v127 := Tryz.zeroValue199
 t146 := Tryz.underlying216
 a146 := Tryz.isAgg216
 z146 := Tryz.sizeOf216
 v146 := Tryz.zeroValue216
 t148 := Tryz.underlying218
 a148 := Tryz.isAgg218
 z148 := Tryz.sizeOf218
 v148 := Tryz.zeroValue218
 t164 := Tryz.underlying214
 a164 := Tryz.isAgg214
 z164 := Tryz.sizeOf214
 v164 := Tryz.zeroValue214 }
theorem Tryz.Builder_Extra_105 : Builder.Extra Tryz.prog Tryz.lays105_ren := {
 sizeBuilder := by kernel_rfl
 liesBuilder := by kernel_rfl
 t5 := Tryz.underlying5
 a5 := Tryz.isAgg5
 z5 := Tryz.sizeOf5
 v5 := Tryz.zeroValue5
 infoByte := by kernel_rfl
 cellsByte := by kernel_rfl
 sizeByte := by kernel_rfl
 neB5 := by decide }
open Go.RowKit Go.Lib in
theorem Tryz.strings_Repeat (s : ByteArray) (c : Nat) (w : World) (hc : c ≤ 9223372036854775807) (hlen : s.size * c ≤ 140737488355328) :
  Calls Tryz.prog 151 #[.string s,.int .i64 c] w fun e w' => e = .returned (.string ⟨(Lib.repeatL s.data.toList c).toArray⟩) ∧ Below w.heap.size w w' := Any.strings_Repeat Tryz.lays105 Tryz.Builder_Extra_105 s c w hc hlen
end Go.Proofs
namespace Go.Proofs.YtpbhcdbkmmjimaaGreatDoor
open Go Go.LX
set_option maxRecDepth 100000
set_option linter.unusedVariables false
set_option linter.unusedSimpArgs false
set_option maxHeartbeats 32000000
theorem dec_at (l : List UInt8) (hl : ∀ c ∈ l,c.toNat < 128) (i : Nat) (c : UInt8) (h : l[i]? = some c) : Utf8.decode ⟨l.toArray⟩ i = (c.toNat,1) := by
 have hi := (List.getElem?_eq_some_iff.1 h).1
 have hc : l[i] = c := (List.getElem?_eq_some_iff.1 h).2
 have hsz : i < (ByteArray.mk l.toArray).size := by show i < l.toArray.size; simpa using hi
 have hg : (ByteArray.mk l.toArray)[i]'hsz = c := by show l.toArray[i]'_ = c; simpa using hc
 have := decode_ascii ⟨l.toArray⟩ i hsz (by rw [hg]; exact hl c (List.mem_of_getElem? h))
 rw [this,hg]
def wordsOf (c : Int) : Int := if c = 0 then 4 else if c = 1 then 8 else if c = 2 then 16 else if c = 3 then 32 else 0
def slotsOf (c : Int) : Nat := if c = 0 then 8 else if c = 1 then 4 else if c = 2 then 2 else if c = 3 then 1 else 0
theorem words_lx (c w : Int) (hw : w = wordsOf c) : CallF (fun _ => Tryz.prog) 78 [i6 c] [] 0 (fun r h n => r = .p (.int .i64 (.sym w)) ∧ h = [] ∧ n = 0) := by
 obtain ⟨Z,hZ⟩ : ∃ Z : List UInt8,Z = [4,8,16,32] := ⟨_,rfl⟩
 refine callF_of_body tok Tryz.func78 (by kernel_rfl) rfl rfl rfl ?_; conv => cbv
 refine LoopF.mk (fun k s => ∃ pos : Int,s = ⟨.p (.int .i64 (.sym c)) :: .undef :: .undef :: .undef :: .undef :: .ptr 0 (.lit 0) :: undefs 9,[(0,.iter (fun _ => ⟨#[4,8,16,32]⟩) (.sym pos))],1⟩ ∧ 0 ≤ pos ∧ pos ≤ 4 ∧ (c < 0 ∨ pos ≤ c) ∧ k = (4 - pos).toNat) 4 _
  (Re.at [(0,0)] []) ⟨0,rfl,by omega,by omega,by omega,by omega⟩ ?_
 rintro k s ⟨pos,rfl,h0,h4,hno,hk⟩
 conv => cbv
 by_cases hend : pos = 4
 ·have hw0 : w = 0 := by
   rw [hw,wordsOf,if_neg (by omega),if_neg (by omega),if_neg (by omega),if_neg (by omega)]
  refine NextS.over (by show (4 : Int) ≤ pos; omega) ?_
  conv => cbv
  refine RetF.mk [i6 w] [] 0 (Re.at [] []) rfl ⟨rfl,rfl,rfl⟩
 ·obtain ⟨x,hx⟩ : ∃ x,([4,8,16,32] : List UInt8)[pos.toNat]? = some x := ⟨_,List.getElem?_eq_getElem (by simp; omega)⟩
  have hd := dec_at [4,8,16,32] (by decide) pos.toNat x hx
  have hxw : c = pos → (x.toNat : Int) = w := by
   intro e
   have : pos = 0 ∨ pos = 1 ∨ pos = 2 ∨ pos = 3 := by omega
   rcases this with e2 | e2 | e2 | e2 <;> (rw [e2] at hx; rw [hw,e,e2]; have hx := Option.some.inj hx; rw [← hx]; decide)
  refine NextS.more (by show pos < (4 : Int); omega) ?_
  intro r p' hr hp
  have hr : r = (x.toNat : Int) := by
   have : r = ((Utf8.decode ⟨#[4,8,16,32]⟩ pos.toNat).1 : Int) := hr
   rw [this,hd]
  have hp : p' = pos + 1 := by
   have : p' = pos + ((Utf8.decode ⟨#[4,8,16,32]⟩ pos.toNat).2 : Int) := hp
   rw [this,hd]; rfl
  have hx256 : x.toNat < 256 := x.toNat_lt
  obtain ⟨k',rfl⟩ : ∃ k',k = k' + 1 := ⟨k - 1,by omega⟩
  conv => cbv
  refine Br.mk (fun g => ?_) (fun g => ?_)
  ·have g : pos = c := g
   conv => cbv
   refine Fit.mk (by show (-9223372036854775808 : Int) ≤ r; omega) (by show r ≤ 9223372036854775807; omega) fun q hq => ?_
   have hq : q = r := hq
   have hqw : q = w := by rw [hq,hr]; exact hxw g.symm
   conv => cbv
   refine RetF.mk [i6 w] [] 0 (Re.at [] []) rfl ⟨rfl,rfl,rfl⟩
  ·have g : ¬ pos = c := g
   conv => cbv
   refine Again.mk k' _ (Nat.lt_succ_self _) (Re.at [(0,0)] []) ⟨p',rfl,by omega,by omega,by omega,by omega⟩
def mkB (l : List Bool) : List UInt8 := l.map fun b => if b then 120 else 46
theorem mkB_low (l : List Bool) : ∀ c ∈ mkB l,c.toNat < 128 := by
 intro c hc
 obtain ⟨b,_,rfl⟩ := List.mem_map.1 hc
 cases b <;> decide
theorem mk_size (l : List UInt8) : (ByteArray.mk l.toArray).size = l.length := by show l.toArray.size = _; simp
theorem mkB_length (l : List Bool) : (mkB l).length = l.length := List.length_map _
theorem firstUnused_lx (l : List Bool) (z : ByteArray) (hz : z = ⟨(mkB l).toArray⟩) (hl : l.length ≤ 100) : CallF (fun _ => Tryz.prog) 144 [.p (.str fun _ => z)] [] 0
  (fun r h n => (∃ (v : Int) (b : Bool),r = .tup [i6 v,.p (.bool b)] ∧ ((b = true ∧ ∃ i : Nat,v = i ∧ l[i]? = some false ∧ ∀ j,j < i → l[j]? = some true) ∨ (b = false ∧ v = 0 ∧ false ∉ l))) ∧ h = [] ∧ n = 0) := by
 refine callF_of_body tok Tryz.func144 (by kernel_rfl) rfl rfl rfl ?_; conv => cbv
 obtain ⟨N,hN⟩ : ∃ N : Int,N = l.length := ⟨_,rfl⟩
 refine LoopF.mk (fun k s => ∃ (pos : Int),s = ⟨.p (.str fun _ => z) :: .undef :: .undef :: .undef :: .undef :: .undef :: .undef :: .ptr 0 (.lit 0) :: undefs 7,[(0,.iter (fun _ => z) (.sym pos))],1⟩ ∧ 0 ≤ pos ∧ pos ≤ N ∧ (∀ j : Nat,(j : Int) < pos → l[j]? = some true) ∧ k = (N - pos).toNat) N.toNat _
  (Re.at [(0,0)] []) ⟨0,rfl,by omega,by omega,fun j hj => absurd hj (by omega),by omega⟩ ?_
 rintro k s ⟨pos,rfl,h0,h1,hinv,hk⟩
 have hzs : (z.size : Int) = N := by rw [hz,mk_size,mkB_length,hN]
 conv => cbv
 by_cases hend : pos = N
 ·refine NextS.over (by show (z.size : Int) ≤ pos; omega) ?_
  conv => cbv
  refine RetF.mk [i6 0,.p (.bool false)] [] 0 (Re.at [] []) rfl ⟨⟨0,false,rfl,.inr ⟨rfl,rfl,fun h => ?_⟩⟩,rfl,rfl⟩
  obtain ⟨j,hj⟩ := List.getElem?_of_mem h
  have := (List.getElem?_eq_some_iff.1 hj).1
  rw [hinv j (by omega)] at hj
  cases hj
 ·obtain ⟨b,hb⟩ : ∃ b,l[pos.toNat]? = some b := ⟨_,List.getElem?_eq_getElem (by omega)⟩
  have hx : (mkB l)[pos.toNat]? = some (if b then 120 else 46) := by rw [mkB,List.getElem?_map,hb]; rfl
  have hd := dec_at (mkB l) (mkB_low l) pos.toNat _ hx
  rw [← hz] at hd
  refine NextS.more (by show pos < (z.size : Int); omega) ?_
  intro r p' hr hp
  have hr : r = (if b then 120 else 46) := by
   have : r = ((Utf8.decode z pos.toNat).1 : Int) := hr
   rw [this,hd]; cases b <;> rfl
  have hp : p' = pos + 1 := by
   have : p' = pos + ((Utf8.decode z pos.toNat).2 : Int) := hp
   rw [this,hd]; rfl
  obtain ⟨k',rfl⟩ : ∃ k',k = k' + 1 := ⟨k - 1,by omega⟩
  conv => cbv
  refine Br.mk (fun g => ?_) (fun g => ?_)
  ·have g : r = 46 := g
   have hbf : b = false := by
    cases b with
    | false => rfl
    | true => simp at hr; omega
   conv => cbv
   refine RetF.mk [i6 pos,.p (.bool true)] [] 0 (Re.at [] []) rfl ⟨⟨pos,true,rfl,.inl ⟨rfl,pos.toNat,(Int.toNat_of_nonneg h0).symm,by rw [hb,hbf],fun j hj => hinv j (by omega)⟩⟩,rfl,rfl⟩
  ·have g : ¬ r = 46 := g
   have hbt : b = true := by
    cases b with
    | true => rfl
    | false => simp at hr; omega
   have hinv2 : ∀ j : Nat,(j : Int) < p' → l[j]? = some true := fun j hj => by
    by_cases e : (j : Int) = pos
    ·rw [show j = pos.toNat by omega,hb,hbt]
    ·exact hinv j (by omega)
   conv => cbv
   refine Again.mk k' _ (Nat.lt_succ_self _) (Re.at [(0,0)] []) ⟨p',rfl,by omega,by omega,hinv2,by omega⟩
theorem countUsed_lx (l : List Bool) (z : ByteArray) (hz : z = ⟨(mkB l).toArray⟩) (hl : l.length ≤ 100) : CallF (fun _ => Tryz.prog) 105 [.p (.str fun _ => z)] [] 0
  (fun r h n => (∃ v : Int,r = .p (.int .i64 (.sym v)) ∧ v = l.count true) ∧ h = [] ∧ n = 0) := by
 refine callF_of_body tok Tryz.func105 (by kernel_rfl) rfl rfl rfl ?_; conv => cbv
 obtain ⟨N,hN⟩ : ∃ N : Int,N = l.length := ⟨_,rfl⟩
 refine LoopF.mk (fun k s => ∃ (pos cnt : Int),s = ⟨.p (.str fun _ => z) :: .undef :: .undef :: .p (.int .i64 (.sym cnt)) :: .undef :: .undef :: .undef :: .ptr 0 (.lit 0) :: undefs 8,[(0,.iter (fun _ => z) (.sym pos))],1⟩ ∧ 0 ≤ pos ∧ pos ≤ N ∧ cnt = (l.take pos.toNat).count true ∧ k = (N - pos).toNat) N.toNat _
  (Re.at [(0,0)] []) ⟨0,0,rfl,by omega,by omega,by simp,by omega⟩ ?_
 rintro k s ⟨pos,cnt,rfl,h0,h1,hinv,hk⟩
 have hzs : (z.size : Int) = N := by rw [hz,mk_size,mkB_length,hN]
 conv => cbv
 by_cases hend : pos = N
 ·refine NextS.over (by show (z.size : Int) ≤ pos; omega) ?_
  conv => cbv
  refine RetF.mk [i6 cnt] [] 0 (Re.at [] []) rfl ⟨⟨cnt,rfl,?_⟩,rfl,rfl⟩
  rw [hinv,List.take_of_length_le (by omega)]
 ·obtain ⟨b,hb⟩ : ∃ b,l[pos.toNat]? = some b := ⟨_,List.getElem?_eq_getElem (by omega)⟩
  have hx : (mkB l)[pos.toNat]? = some (if b then 120 else 46) := by rw [mkB,List.getElem?_map,hb]; rfl
  have hd := dec_at (mkB l) (mkB_low l) pos.toNat _ hx
  rw [← hz] at hd
  refine NextS.more (by show pos < (z.size : Int); omega) ?_
  intro r p' hr hp
  have hr : r = (if b then 120 else 46) := by
   have : r = ((Utf8.decode z pos.toNat).1 : Int) := hr
   rw [this,hd]; cases b <;> rfl
  have hp : p' = pos + 1 := by
   have : p' = pos + ((Utf8.decode z pos.toNat).2 : Int) := hp
   rw [this,hd]; rfl
  obtain ⟨k',rfl⟩ : ∃ k',k = k' + 1 := ⟨k - 1,by omega⟩
  conv => cbv
  refine Br.mk (fun g => ?_) (fun g => ?_)
  ·have g : r = 120 := g
   have hbt : b = true := by
    cases b with
    | true => rfl
    | false => simp at hr; omega
   have hcl := List.count_le_length (a := true) (l := l.take pos.toNat)
   have htl : (l.take pos.toNat).length ≤ 100 := by rw [List.length_take]; omega
   conv => cbv
   refine Fit.mk (by show (-9223372036854775808 : Int) ≤ cnt + 1; omega) (by show cnt + 1 ≤ 9223372036854775807; omega) fun c2 hc2 => ?_
   have hc2 : c2 = cnt + 1 := hc2
   have q : c2 = (l.take p'.toNat).count true := by
    rw [show p'.toNat = pos.toNat + 1 by omega,List.take_add_one,hb,hbt,List.count_append,hc2,hinv]; simp
   conv => cbv
   refine Again.mk k' _ (Nat.lt_succ_self _) (Re.at [(0,0)] []) ⟨p',c2,rfl,by omega,by omega,q,by omega⟩
  ·have g : ¬ r = 120 := g
   have hbf : b = false := by
    cases b with
    | false => rfl
    | true => simp at hr; omega
   have q : cnt = (l.take p'.toNat).count true := by
    rw [show p'.toNat = pos.toNat + 1 by omega,List.take_add_one,hb,hbf,List.count_append,hinv]; simp
   conv => cbv
   refine Again.mk k' _ (Nat.lt_succ_self _) (Re.at [(0,0)] []) ⟨p',cnt,rfl,by omega,by omega,q,by omega⟩
theorem slots_lx (c k : Int) (hk : k = slotsOf c) : CallF (fun _ => Tryz.prog) 76 [i6 c] [] 0 (fun r h n => r = .p (.int .i64 (.sym k)) ∧ h = [] ∧ n = 0) := by
 obtain ⟨w,hw⟩ : ∃ w,w = wordsOf c := ⟨_,rfl⟩
 refine callF_of_body tok Tryz.func76 (by kernel_rfl) rfl rfl rfl ?_; conv => cbv
 refine callF_frame (words_lx c w hw) [] rfl trivial rfl rfl (fun r h' n' ⟨e1,e2,e3⟩ => ?_)
 subst e1 e2 e3
 conv => cbv
 have hk2 : k = (if w = 0 then 0 else (32 : Int).tdiv w) := by
  rw [hk,hw,slotsOf,wordsOf]
  by_cases h0 : c = 0
  ·rw [if_pos h0,if_pos h0]; rfl
  ·by_cases h1 : c = 1
   ·rw [if_neg h0,if_pos h1,if_neg h0,if_pos h1]; rfl
   ·by_cases h2 : c = 2
    ·rw [if_neg h0,if_neg h1,if_pos h2,if_neg h0,if_neg h1,if_pos h2]; rfl
    ·by_cases h3 : c = 3
     ·rw [if_neg h0,if_neg h1,if_neg h2,if_pos h3,if_neg h0,if_neg h1,if_neg h2,if_pos h3]; rfl
     ·rw [if_neg h0,if_neg h1,if_neg h2,if_neg h3,if_neg h0,if_neg h1,if_neg h2,if_neg h3]; rfl
 have hk8 : 0 ≤ k ∧ k ≤ 8 := by
  rw [hk]; unfold slotsOf; split
  ·omega
  ·split
   ·omega
   ·split
    ·omega
    ·split <;> omega
 refine Br.mk (fun g => ?_) (fun g => ?_)
 ·have g : w = 0 := g
  rw [if_pos g] at hk2
  conv => cbv
  refine RetF.mk [i6 k] [] 0 (Re.at [] []) rfl ⟨rfl,rfl,rfl⟩
 ·have g : ¬ w = 0 := g
  rw [if_neg g] at hk2
  conv => cbv
  refine Need.mk (show w ≠ 0 from g) ?_
  conv => cbv
  refine Fit.mk (by show (-9223372036854775808 : Int) ≤ Int.tdiv 32 w; omega) (by show Int.tdiv 32 w ≤ 9223372036854775807; omega) fun q hq => ?_
  have hq : q = Int.tdiv 32 w := hq
  have hqk : q = k := by rw [hq,hk2]
  conv => cbv
  refine RetF.mk [i6 k] [] 0 (Re.at [] []) rfl ⟨rfl,rfl,rfl⟩
end Go.Proofs.YtpbhcdbkmmjimaaGreatDoor
