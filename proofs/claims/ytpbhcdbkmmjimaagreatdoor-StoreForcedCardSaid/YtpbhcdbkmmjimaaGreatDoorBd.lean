/-
  The ground of the proof, part 4: the calculus and what is proved with it.
-/
import Derived.Test.YtpbhcdbkmmjimaaGreatDoorBc
import Derived.Test.YtpbhcdbkmmjimaaGreatDoorRows
import Derived.Shelf.Strings.BuilderK
import Derived.Shelf.Lay
import Derived.WalkKit
import Derived.ProofKit
import Derived.Handy
import Derived.Outline
import Derived.WalkSpells
import Derived.WalkSmall
import Derived.OneCell
import Derived.Shelf.Strings.Builder1
import Derived.Shelf.Strings.Builder2
import Derived.Shelf.Strings.BuilderF
import Derived.Shelf.LaysM
import Derived.Shelf.Strconv.Itoa3
import Derived.Shelf.LaysC
import Derived.Shelf.Strconv.AtoiAll
import Derived.Shelf.Strings.Prefix
import Derived.Shelf.Strings.Repeat
import Derived.Ground.Names2Prog
import Derived.Shelf.Slices.Clone
import Derived.Test.YtpbhcdbkmmjimaaGreatDoorProg
import Derived.Laws.RangeAny
import Derived.Lib.Repeat
namespace Go.LX
open Go
set_option maxHeartbeats 32000000
def lmem (n : Nat) : List Nat → Bool
 | [] => false
 | m :: l => match Nat.beq n m with
  | true => true
  | false => lmem n l
inductive Joined (J : LS → Prop) (n0 : Nat) (s' : LS) : Prop
 | mk (s'' : LS) (hr : Re n0 s' s'') (hj : J s'')
def JoinK (J : LS → Prop) (n0 : Nat) (K : Exit → LS → Prop) : Exit → LS → Prop
 | .normal,s' => Joined J n0 s'
 | .exit j,s' => K (.exit j) s'
 | .ret,s' => K .ret s'
 | .goto j,s' => K (.goto j) s'
 | .panic c,s' => K (.panic c) s'
 | .outgrown,s' => K .outgrown s'
inductive JoinF (n0 : Nat) (B : Unit → (Exit → LS → Prop) → Prop) (K : Exit → LS → Prop) : Prop
 | mk (J : LS → Prop) (hx : B () (JoinK J n0 K)) (hy : ∀ s,J s → K .normal s)
def headReg : Code → Nat
 | .region r _ _ => r
 | _ => 1000000
def seqK (N : LS → Prop) (K : Exit → LS → Prop) : Exit → LS → Prop
 | .normal,s' => N s'
 | .exit j,s' => K (.exit j) s'
 | .ret,s' => K .ret s'
 | .goto _,_ => False
 | .panic _,_ => False
 | .outgrown,_ => False
def blockK (id : Nat) (K : Exit → LS → Prop) (e : Exit) (s' : LS) : Prop := match e with
 | .exit j => match Nat.beq j id with
  | true => K .normal s'
  | false => K (.exit j) s'
 | .normal => K .normal s'
 | .ret => K .ret s'
 | .goto _ => False
 | .panic _ => False
 | .outgrown => False
def lcodeB (P : Unit → Program) (T : Unit → TT) (n0 : Nat) (bs : List Nat) : Code → LS → (Exit → LS → Prop) → Prop
 | .skip,s,K => K .normal s
 | .label _,s,K => K .normal s
 | .region _ ops d,s,K => match d with
  | false => lops P T ops.toList ops.toList s fun s' => K .normal s'
  | true => DrawF P (fun _ => ops) s fun s' => K .normal s'
 | .seq a b,s,K => match lmem (headReg a) bs with
  | true => JoinF n0 (fun _ K => lcodeB P T n0 bs a s (seqK (fun s' => lcodeB P T n0 bs b s' K) K)) K
  | false => lcodeB P T n0 bs a s (seqK (fun s' => lcodeB P T n0 bs b s' K) K)
 | .cond c a b,s,K => match ev s c with
  | .p (.bool c) => match c with
   | true => lcodeB P T n0 bs a s K
   | false => lcodeB P T n0 bs b s K
  | _ => False
 | .block id c,s,K => lcodeB P T n0 bs c s (blockK id K)
 | .loop c,s,K => LoopF n0 (fun _ s K => lcodeB P T n0 bs c s K) s K
 | .exit id,s,K => K (.exit id) s
 | .ret,s,K => K .ret s
 | _,_,_ => False
def lbodyB (P : Unit → Program) (T : Unit → TT) (bs : List Nat) (cd : Code) (rs : List ResultVar) (nt : Nat) (args : List LV) (h : LH) (n : Nat) (K : LV → LH → Nat → Prop) : Prop :=
 lcodeB P T n bs cd ⟨args ++ undefs (nt - llen args),h,n⟩ fun e s' => match e with
  | .normal => lres T s' rs fun vs => RetF n vs s'.h s'.n K
  | .ret => lres T s' rs fun vs => RetF n vs s'.h s'.n K
  | .exit _ => False
  | .goto _ => False
  | .panic _ => False
  | .outgrown => False
section
variable {P : Program} {T : TT} {c : Ctx} {a : Act} {w w' : World}
theorem lcodeB_sound (hT : TOK P T) {c0 : Ctx} {w0 : World} (n0 : Nat) (hn0 : c0.N = n0) (bs : List Nat) : ∀ (cd : Code) {s : LS} {K : Exit → LS → Prop} {c : Ctx} {a : Act} {w : World},Ext c0 w0 c w → St c s a w → lcodeB (fun _ => P) (fun _ => T) n0 bs cd s K → cd.wp P (PostE K c0 w0) a w
 | .skip,s,K,c,a,w,he,hs,h => wp_skip ⟨c,s,h,hs,he⟩
 | .label _,s,K,c,a,w,he,hs,h => wp_label ⟨c,s,h,hs,he⟩
 | .exit _,s,K,c,a,w,he,hs,h => wp_exit ⟨c,s,h,hs,he⟩
 | .ret,s,K,c,a,w,he,hs,h => wp_ret ⟨c,s,h,hs,he⟩
 | .region _ ops d,s,K,c,a,w,he,hs,h => by
  cases d with
  | false =>
   refine wp_region ?_
   rw [List.range_eq_range']
   refine lops_sound hT (c0 := c0) (w0 := w0) (K := fun s' => K .normal s') (fun a' w' hp => ?_) ops.size 0 (by omega) he hs (by rw [List.drop_zero]; exact h)
   obtain ⟨c',s',hK,hs',he'⟩ := hp
   exact ⟨c',s',hK,hs',he'⟩
  | true =>
   refine wp_region_draw fun t => ?_
   obtain ⟨e1,r1⟩ := hs.hr.same (w' := { w with drawn := w.drawn + 1 }) rfl rfl rfl rfl
   have hs1 : St c s a { w with drawn := w.drawn + 1 } := ⟨hs.tl,fun i u hu => (hs.tr i u hu).ext hs.hr.fresh e1,hs.df,r1,hs.nn⟩
   cases h with
   | mk h =>
    refine h c a _ t _ hs1 (fun a' w' hp => ?_)
    obtain ⟨c',s',hK,hs',he'⟩ := hp
    exact ⟨c',s',hK,hs',he.trans (e1.trans he')⟩
 | .seq x y,s,K,c,a,w,he,hs,h => by
  rw [lcodeB] at h
  have key : ∀ (K : Exit → LS → Prop),lcodeB (fun _ => P) (fun _ => T) n0 bs x s (seqK (fun s' => lcodeB (fun _ => P) (fun _ => T) n0 bs y s' K) K) → (Code.seq x y).wp P (PostE K c0 w0) a w := by
   intro K h
   refine wp_seq (wp_mono (lcodeB_sound hT n0 hn0 bs x he hs h) fun e a' w' hp => ?_)
   obtain ⟨c',s',hK,hs',he'⟩ := hp
   cases e with
   | normal => exact lcodeB_sound hT n0 hn0 bs y he' hs' hK
   | exit j => exact ⟨c',s',hK,hs',he'⟩
   | ret => exact ⟨c',s',hK,hs',he'⟩
   | goto l => exact hK.elim
   | panic ch => exact hK.elim
   | outgrown => exact hK.elim
  split at h
  ·cases h with
   | mk J hx hy =>
    refine wp_mono (key _ hx) fun e a' w' hp => ?_
    obtain ⟨c2,s2,hK,hs2,he2⟩ := hp
    cases e with
    | normal =>
     obtain ⟨s3,hre,hj⟩ := hK
     obtain ⟨hre⟩ := hre
     obtain ⟨c3,he3,hs3⟩ := hre c0 w0 c2 a' w' hn0 he2 hs2
     exact ⟨c3,s3,hy s3 hj,hs3,he3⟩
    | exit j => exact ⟨c2,s2,hK,hs2,he2⟩
    | ret => exact ⟨c2,s2,hK,hs2,he2⟩
    | goto l => exact ⟨c2,s2,hK,hs2,he2⟩
    | panic ch => exact ⟨c2,s2,hK,hs2,he2⟩
    | outgrown => exact ⟨c2,s2,hK,hs2,he2⟩
  ·exact key _ h
 | .cond co x y,s,K,c,a,w,he,hs,h => by
  rw [lcodeB] at h
  split at h
  ·rename_i b hb
   have hv : a.eval co = .bool b := LR.inv_bool (hb ▸ hs.ev co)
   cases b with
   | true => exact wp_cond_true hv (lcodeB_sound hT n0 hn0 bs x he hs h)
   | false => exact wp_cond_false hv (lcodeB_sound hT n0 hn0 bs y he hs h)
  ·exact h.elim
 | .block id x,s,K,c,a,w,he,hs,h => by
  refine wp_block (wp_mono (lcodeB_sound hT n0 hn0 bs x he hs h) fun e a' w' hp => ?_)
  obtain ⟨c',s',hK,hs',he'⟩ := hp
  cases e with
  | normal => exact ⟨c',s',hK,hs',he'⟩
  | exit j =>
   show if j = id then _ else _
   unfold blockK at hK
   dsimp only at hK
   by_cases hj : j = id
   ·rw [if_pos hj]
    subst hj
    rw [Nat.beq_refl] at hK
    exact ⟨c',s',hK,hs',he'⟩
   ·rw [if_neg hj]
    rw [nbeq hj] at hK
    exact ⟨c',s',hK,hs',he'⟩
  | ret => exact ⟨c',s',hK,hs',he'⟩
  | goto l => exact hK.elim
  | panic ch => exact hK.elim
  | outgrown => exact hK.elim
 | .loop x,s,K,c,a,w,he,hs,h => by
  cases h with
  | mk V k0 s0 h0 hv hr =>
   obtain ⟨h0⟩ := h0
   obtain ⟨c',he',hs'⟩ := h0 c0 w0 c a w hn0 he hs
   refine wp_loop_ghost (fun n a w => ∃ s c,V n s ∧ Ext c0 w0 c w ∧ St c s a w) k0 ⟨s0,c',hv,he',hs'⟩ fun n a w hI => ?_
   obtain ⟨s1,c1,hv1,he1,hs1⟩ := hI
   refine wp_mono (lcodeB_sound hT n0 hn0 bs x he1 hs1 (hr n s1 hv1)) fun e a' w' hp => ?_
   obtain ⟨c2,s2,hK,hs2,he2⟩ := hp
   cases e with
   | normal =>
    obtain ⟨k3,s3,hm3,hre,hv3⟩ := hK
    obtain ⟨hre⟩ := hre
    obtain ⟨c3,he3,hs3⟩ := hre c0 w0 c2 a' w' hn0 he2 hs2
    exact ⟨k3,hm3,s3,c3,hv3,he3,hs3⟩
   | exit j => exact ⟨c2,s2,hK,hs2,he2⟩
   | ret => exact ⟨c2,s2,hK,hs2,he2⟩
   | goto l => exact ⟨c2,s2,hK,hs2,he2⟩
   | panic ch => exact ⟨c2,s2,hK,hs2,he2⟩
   | outgrown => exact ⟨c2,s2,hK,hs2,he2⟩
  | rounds m h =>
   refine wp_loop_rounds m ?_
   induction m generalizing s c a w with
   | zero => exact h.elim
   | succ m ih =>
    refine wp_mono (lcodeB_sound hT n0 hn0 bs x he hs h) fun e a' w' hp => ?_
    obtain ⟨c',s',hK,hs',he'⟩ := hp
    cases e with
    | normal => exact ih s' c' a' w' he' hs' hK
    | exit j => exact ⟨c',s',hK,hs',he'⟩
    | ret => exact ⟨c',s',hK,hs',he'⟩
    | goto l => exact ⟨c',s',hK,hs',he'⟩
    | panic ch => exact ⟨c',s',hK,hs',he'⟩
    | outgrown => exact ⟨c',s',hK,hs',he'⟩
 | .rangeFunc _ _ _ _,s,K,c,a,w,he,hs,h => h.elim
 | .scope _,s,K,c,a,w,he,hs,h => h.elim
 | .goto _,s,K,c,a,w,he,hs,h => h.elim
 | .refuse _,s,K,c,a,w,he,hs,h => h.elim
theorem callF_of_bodyB (hT : TOK P T) {f : Nat} {fn : Func} {cd : Code} {args : List LV} {h : LH} {n : Nat} {K : LV → LH → Nat → Prop} (hf : P.funcs[f]? = some fn) (hname : (fn.name == "runtime.NumGoroutine") = false) (hb : fn.body = some cd)
  {rs : List ResultVar} {nt : Nat} (hrs : fn.results.toList = rs) (hnt : fn.ntmps = nt) (bs : List Nat) (hbody : lbodyB (fun _ => P) (fun _ => T) bs cd rs nt args h n K) : CallF (fun _ => P) f args h n K := by
 refine .mk ⟨fn,cd,hf,hname,hb⟩ fun c w xs hr hN hl hrel => ?_
 refine calls_of_wp hf hb ?_
 subst hrs hnt
 unfold lbodyB at hbody
 have hs : St c ⟨args ++ undefs (fn.ntmps - llen args),h,n⟩ { tmps := xs ++ Array.replicate (fn.ntmps - xs.size) undef,defers := [] } w := by
  refine ⟨by simp [undefs_length,llen_eq,hl],fun i u hu => ?_,rfl,hr,hN⟩
  dsimp only at hu ⊢
  by_cases hi : i < args.length
  ·rw [List.getElem?_append_left hi] at hu
   have := hrel i u hu
   rw [Array.getD_eq_getD_getElem?] at this ⊢
   rw [Array.getElem?_append_left (by omega)]
   exact this
  ·rw [List.getElem?_append_right (by omega)] at hu
   rw [undefs_get _ _ _ hu]; exact .undef _
 refine wp_mono (lcodeB_sound hT n hN bs cd (Ext.refl hr) hs hbody) fun e a' w' hp => ?_
 obtain ⟨c',s',hK,hs',he'⟩ := hp
 have fin : lres (fun _ => T) s' fn.results.toList (fun rs => RetF n rs s'.h s'.n K) → a'.defers = [] ∧ ∃ v,(results fn a'.tmps).run P w' = .ok v w' ∧
   (fun (e : Ending) w' => ∃ (c' : Ctx) (r : LV) (v : Value) (h' : LH) (n' : Nat),e = .returned v ∧ K r h' n' ∧ HR c' w' h' ∧ c'.N = n' ∧ LR c' w' r v ∧ Ext c w c' w') (.returned v) w' := by
  intro hres
  refine ⟨hs'.df,?_⟩
  obtain ⟨us,vs,h1,h2,h3⟩ := lres_sound hT hs' _ hres
  obtain ⟨rs',h',n',⟨hre⟩,hlr,hk⟩ := h3
  have hs2 : St c' ⟨us,s'.h,s'.n⟩ { tmps := vs.toArray,defers := [] } w' := ⟨by simpa using h2.1,fun i u hu => (Rel2.getD (x := vs.toArray) (by simpa using h2)).2 i u hu,rfl,hs'.hr,hs'.nn⟩
  obtain ⟨c2,he2,hs3⟩ := hre c w c' _ w' hN he' hs2
  refine ⟨if h : vs.toArray.size = 1 then vs.toArray[0] else .tuple vs.toArray,?_,c2,one rs',_,h',n',rfl,hk,hs3.hr,hs3.nn,?_,he2⟩
  ·rw [results_eq,Sem.run_bind,Array.mapM_eq_mapM_toList,Sem.run_map,h1]
   rfl
  ·have hr3 : Rel2 c2 w' rs' vs := by
    have := Rel2.ofD hs3.tl hs3.tr
    simpa using this
   cases rs' with
   | nil =>
    have : vs = [] := List.eq_nil_of_length_eq_zero hr3.1.symm
    subst this
    exact .tup [] #[] rfl (fun j u hu => by simp at hu)
   | cons u rs =>
    obtain ⟨y,ys,rfl,h5,h6⟩ := hr3.head
    cases rs with
    | nil =>
     have : ys = [] := List.eq_nil_of_length_eq_zero h6.1.symm
     subst this
     simpa [one] using h5
    | cons u2 rs =>
     have hne : ¬ (y :: ys).toArray.size = 1 := by
      have := h6.1
      simp at this ⊢
      intro h; rw [h] at this; simp at this
     rw [dif_neg hne]
     exact .tup _ _ (by simpa using hr3.1) (Rel2.getD (x := (y :: ys).toArray) (by simpa using hr3)).2
 cases e with
 | normal => exact fin hK
 | ret => exact fin hK
 | exit j => exact hK.elim
 | goto l => exact hK.elim
 | panic ch => exact hK.elim
 | outgrown => exact hK.elim
end
theorem Br.yes {p : Unit → Prop} {K : Bool → Prop} (h : p ()) (hk : K true) : Br p K := .mk (fun _ => hk) (fun n => absurd h n)
theorem Br.no {p : Unit → Prop} {K : Bool → Prop} (h : ¬ p ()) (hk : K false) : Br p K := .mk (fun y => absurd y h) (fun _ => hk)
end Go.LX
namespace Go.LX
open Go
set_option linter.unusedVariables false
set_option maxHeartbeats 32000000
def isFix : LB → Bool
 | .fix _ _ => true
 | _ => false
def flatN (n0 : Nat) : LH → Prop
 | [] => True
 | (b,B) :: l => (match Nat.blt b n0 with
  | true => True
  | false => flatB B) ∧ flatN n0 l
def fixOn (h : LH) : LH → List (Nat × Nat) → Prop
 | _,[] => True
 | h0,(a,b) :: ρ => (match hget h0 a,hget h b with
  | some (.fix g o),some (.fix g' o') => g = g' ∧ o = o'
  | _,_ => False) ∧ fixOn h h0 ρ
def allFix (ρ : List (Nat × Nat)) : LH → Bool
 | [] => true
 | (a,B) :: l => isFix B && (nget ρ a).isSome && allFix ρ l
section
variable {c c0 : Ctx} {w w' : World} {n n0 : Nat} {h h0 : LH} {ρ : List (Nat × Nat)}
theorem fixOn_get : ∀ {ρ : List (Nat × Nat)},fixOn h h0 ρ → ∀ a b,nget ρ a = some b → ∃ g o,hget h0 a = some (.fix g o) ∧ hget h b = some (.fix g o)
 | [],_,a,b,e => by simp [nget] at e
 | (x,y) :: ρ,hf,a,b,e => by
  rw [nget_cons] at e
  by_cases e1 : x = a
  ·rw [if_pos e1] at e; cases e
   subst e1
   have h1 := hf.1
   split at h1
   ·rename_i g o g' o' e2 e3
    obtain ⟨rfl,rfl⟩ := h1
    exact ⟨g,o,e2,e3⟩
   ·exact h1.elim
  ·rw [if_neg e1] at e; exact fixOn_get hf.2 a b e
theorem allFix_get : ∀ {l : LH},allFix ρ l = true → ∀ a A,hget l a = some A → (∃ b,nget ρ a = some b) ∧ isFix A = true
 | [],_,a,A,e => by cases e
 | (x,B) :: l,hf,a,A,e => by
  simp only [allFix,Bool.and_eq_true] at hf
  rw [hget_cons] at e
  by_cases e1 : x = a
  ·rw [if_pos e1] at e; cases e
   subst e1
   exact ⟨Option.isSome_iff_exists.1 hf.1.2,hf.1.1⟩
  ·rw [if_neg e1] at e; exact allFix_get hf.2 a A e
theorem flatN_get : ∀ {l : LH},flatN n0 l → ∀ b B,n0 ≤ b → hget l b = some B → flatB B
 | [],_,b,B,_,hb => by cases hb
 | (a,A) :: l,h,b,B,hn,hb => by
  rw [hget_cons] at hb
  by_cases e : a = b
  ·rw [if_pos e] at hb; cases hb
   subst e
   have h1 := h.1
   have : Nat.blt a n0 = false := by
    cases e3 : Nat.blt a n0 with
    | false => rfl
    | true =>
         have : a < n0 := by simpa using e3
         omega
   rw [this] at h1; exact h1
  ·rw [if_neg e] at hb; exact flatN_get h.2 b B hn hb
def Ctx.lendF (c : Ctx) (L : List Nat) (ρ : List (Nat × Nat)) (n0 : Nat) : Ctx := { m := fun a => match nget ρ a with | some b => c.m b | none => none,X := fun r => c.mut r ∧ ∀ b ∈ L,c.m b ≠ some (some r),N := n0 }
theorem rn_nil {a b : Nat} (h : rn [] n0 n a = some b) : n0 ≤ a := by
 unfold rn at h
 simp only [nget] at h
 rcases Nat.lt_or_ge a n0 with h1 | h1
 ·have : Nat.blt a n0 = true := by simpa using h1
  rw [this] at h; cases h
 ·exact h1
theorem callF_lendF {P : Unit → Program} {f : Nat} {args0 args : List LV} {K0 K : LV → LH → Nat → Prop} (hc : CallF P f args0 h0 n0 K0) (ρ : List (Nat × Nat)) (hF : fok n0 n ρ = true) (hfx : fixOn h h0 ρ) (hal : allFix ρ h0 = true) (hle : lends h args args0) (hfl : ∀ r h' n',K0 r h' n' → flatV r ∧ flatN n0 h')
  (hK : ∀ r h' n',K0 r h' n' → K (renV [] n0 n r) (frameH [] n0 n h h') (n + (n' - n0))) : CallF P f args h n K := by
 have hF := fok_ok hF
 have hF0 : FOK n0 n [] := fok_ok rfl
 cases hc with
 | mk h1 h2 =>
  refine .mk h1 fun c w xs hr hN hl hrel => ?_
  obtain ⟨g1,g2⟩ := lends_get hle
  have dom : ∀ a b,nget ρ a = some b → c.m b = some none ∧ ∃ g o,hget h0 a = some (.fix g o) ∧ w.heap[g]? = some (o ()) ∧ ¬ c.mut g := by
   intro a b hab
   obtain ⟨g,o,e1,e2⟩ := fixOn_get hfx a b hab
   obtain ⟨m,e3,e4⟩ := hr.live b _ e2
   cases m with
   | some r => exact e4.elim
   | none => exact ⟨e3,g,o,e1,e4.1,e4.2⟩
  have inm : ∀ {a b},nget ρ a = some b → (c.lendF (lent h args) ρ n0).m a = some none := by
   intro a b hab
   show (match nget ρ a with | some b => c.m b | none => none) = _
   rw [hab]; exact (dom a b hab).1
  have inm0 : ∀ {a},nget ρ a = none → (c.lendF (lent h args) ρ n0).m a = none := by
   intro a ha
   show (match nget ρ a with | some b => c.m b | none => none) = _
   rw [ha]
  have inown : ∀ r,¬ (c.lendF (lent h args) ρ n0).own r := by
   rintro r ⟨a,ha⟩
   cases e : nget ρ a with
   | some b => rw [inm e] at ha; cases ha
   | none => rw [inm0 e] at ha; cases ha
  have inmut : ∀ r,(c.lendF (lent h args) ρ n0).mut r → (c.lend (lent h args)).mut r := by
   rintro r (hx | ho)
   ·exact .inl hx
   ·exact (inown r ho).elim
  have hri : HR (c.lendF (lent h args) ρ n0) w h0 := by
   refine ⟨fun a A ha => ?_,fun a ha => ?_,fun a a' r e1 e2 => (inown r ⟨a,e1⟩).elim,fun a r e1 => (inown r ⟨a,e1⟩).elim,fun r hx => ?_,fun a r e1 => (inown r ⟨a,e1⟩).elim⟩
   ·obtain ⟨⟨b,hb⟩,_⟩ := allFix_get hal a A ha
    obtain ⟨_,g,o,e1,e2,e3⟩ := dom a b hb
    rw [ha] at e1; cases e1
    exact ⟨none,inm hb,e2,fun hm => e3 (lend_mut _ _ (inmut g hm))⟩
   ·have ha : n0 ≤ a := ha
    cases e : nget ρ a with
    | none => exact inm0 e
    | some b => have := hF.lo a b e; omega
   ·rcases hx.1 with hx | ⟨b,hb⟩
    ·exact hr.ltX r hx
    ·exact hr.lt b r hb
  refine (h2 (c.lendF (lent h args) ρ n0) w xs hri rfl (g1.symm.trans hl) fun i u hu => ?_).mono fun e w' hh => ?_
  ·obtain ⟨v,k1,k2,k3⟩ := g2 i u hu
   have hv := (hrel i v k1).lendL hr _ k2 k3
   have hp : ∃ p,u = .p p := by
    unfold lendV at k2
    split at k2
    ·exact ⟨_,rfl⟩
    ·exact ⟨_,rfl⟩
    ·exact k2.elim
   obtain ⟨p,rfl⟩ := hp
   cases hv with
   | p _ _ hp => exact .p _ _ (hp.anti inmut)
  obtain ⟨c0,r,v,h0',n0',rfl,hKr,hr0,hn0',hv,he⟩ := hh
  obtain ⟨f1,f2⟩ := hfl _ _ _ hKr
  have hn0 : n0 ≤ c0.N := he.N
  have old : ∀ r,r < w.heap.size → w'.heap[r]? = w.heap[r]? := fun r hlt => he.same r hlt (inown r)
  have newr : ∀ a r,c0.m a = some (some r) → w.heap.size ≤ r := fun a r h => by
   rcases Nat.lt_or_ge a n0 with h3 | h3
   ·rcases he.old a h3 with e | e
    ·exact (inown r ⟨a,e ▸ h⟩).elim
    ·rw [e] at h; cases h
   ·rcases he.new a r h3 h with g | g
    ·exact g
    ·exact (inown r g).elim
  have hext : Ext c w (c.outer c0 [] n0 n) w' := by
   refine ⟨he.os,he.tape,he.output,he.size,rfl,by show c.N ≤ n + (c0.N - n0); omega,fun b hb => .inl (outer_old hF0 rfl (by omega)),fun b r hb hbm => ?_,fun r hlt _ => old r hlt,fun b r hb hbm => ?_⟩
   ·rcases outer_cases (c := c) (c0 := c0) hF0 b with ⟨a,k1,k2⟩ | ⟨k1,k2,k3⟩
    ·rw [k2] at hbm; exact .inl (newr a r hbm)
    ·omega
   ·rw [outer_old hF0 rfl (by omega)] at hbm
    simp only [World.shape?,old r (hr.lt b r hbm)]
  refine ⟨c.outer c0 [] n0 n,_,v,_,_,rfl,hK r h0' n0' hKr,⟨fun b B hb => ?_,fun b hb => ?_,fun b b' r e1 e2 => ?_,fun b r e1 hx => ?_,fun r hx => ?_,fun b r e1 => ?_⟩,by show n + (c0.N - n0) = _; rw [hn0'],hv.outofL hF0 f1,hext⟩
  ·rw [frameH,hget_happ] at hb
   cases e : hget (renH [] n0 n h0') b with
   | some B' =>
    rw [e] at hb; cases hb
    obtain ⟨a,A,k1,k2,rfl⟩ := hget_renH hF0 h0' b _ e
    obtain ⟨m,k3,k4⟩ := hr0.live a A k2
    exact ⟨m,(outer_rn hF0 k1).trans k3,k4.outofL hF0 (flatN_get f2 a A (rn_nil k1) k2)⟩
   | none =>
    rw [e] at hb
    obtain ⟨m,k3,k4⟩ := hr.live b B hb
    exact ⟨m,(outer_old hF0 rfl (by have := live_lt hr.fresh k3; omega)).trans k3,k4.ext hr.fresh hext fun r hmr => old r (hr.lt b r (by rw [k3,hmr]))⟩
  ·have hb : n + (c0.N - n0) ≤ b := hb
   rcases outer_cases (c := c) (c0 := c0) hF0 b with ⟨a,k1,k2⟩ | ⟨k1,k2,k3⟩
   ·rw [k2]
    refine hr0.fresh a ?_
    rcases Nat.lt_or_ge a c0.N with g | g
    ·have := rn_lt hF0 k1 g; omega
    ·exact g
   ·omega
  ·rcases outer_cases (c := c) (c0 := c0) hF0 b with ⟨a,k1,k2⟩ | ⟨k1,k2,k3⟩ <;> rcases outer_cases (c := c) (c0 := c0) hF0 b' with ⟨a',g1,g2⟩ | ⟨g1,g2,g3⟩
   ·rw [k2] at e1; rw [g2] at e2
    have := hr0.inj a a' r e1 e2
    subst this
    rw [k1] at g1; cases g1; rfl
   ·rw [k2] at e1; rw [g3] at e2
    have := newr a r e1; have := hr.lt b' r e2; omega
   ·rw [k3] at e1; rw [g2] at e2
    have := newr a' r e2; have := hr.lt b r e1; omega
   ·rw [k3] at e1; rw [g3] at e2
    exact hr.inj b b' r e1 e2
  ·have hx : c.X r := hx
   rcases outer_cases (c := c) (c0 := c0) hF0 b with ⟨a,k1,k2⟩ | ⟨k1,k2,k3⟩
   ·rw [k2] at e1
    have := newr a r e1; have := hr.ltX r hx; omega
   ·rw [k3] at e1
    exact hr.noX b r e1 hx
  ·exact Nat.lt_of_lt_of_le (hr.ltX r hx) he.size
  ·rcases outer_cases (c := c) (c0 := c0) hF0 b with ⟨a,k1,k2⟩ | ⟨k1,k2,k3⟩
   ·rw [k2] at e1; exact hr0.lt a r e1
   ·rw [k3] at e1; exact Nat.lt_of_lt_of_le (hr.lt b r e1) he.size
def fixL : Nat → List (Nat × (Unit → Obj)) → LH
 | _,[] => []
 | n,(g,o) :: l => (n,.fix g o) :: fixL (n + 1) l
theorem fixL_get : ∀ (l : List (Nat × (Unit → Obj))) (n b : Nat) (B : LB),hget (fixL n l) b = some B → n ≤ b ∧ b < n + l.length ∧ ∃ g o,(g,o) ∈ l ∧ B = .fix g o
 | [],n,b,B,h => by cases h
 | (g,o) :: l,n,b,B,h => by
  rw [fixL,hget_cons] at h
  by_cases e : n = b
  ·rw [if_pos e] at h; cases h
   exact ⟨by omega,by simp; omega,g,o,List.mem_cons_self,rfl⟩
  ·rw [if_neg e] at h
   obtain ⟨h1,h2,g',o',h3,h4⟩ := fixL_get l (n + 1) b B h
   exact ⟨by omega,by simp; omega,g',o',List.mem_cons_of_mem _ h3,h4⟩
def Ctx.laid (k : Nat) : Ctx := ⟨fun b => if b < k then some none else none,fun _ => False,k⟩
theorem laid_mut (k r : Nat) : ¬ (Ctx.laid k).mut r := by
 rintro (h | ⟨b,hb⟩)
 ·exact h
 ·have hb : (if b < k then some none else none) = some (some r) := hb
  split at hb <;> cases hb
theorem law_laid {P : Program} {f : Nat} {args : List LV} {b : Bool} (l : List (Nat × (Unit → Obj))) (h : CallF (fun _ => P) f args (fixL 0 l) l.length fun r _ _ => r = .p (.bool b)) {w : World} {xs : Array Value} (hl : ∀ g o,(g,o) ∈ l → w.heap[g]? = some (o ())) (hx : Rel2 (Ctx.laid l.length) w args xs.toList) :
  Calls P f xs w fun e w' => e = .returned (.bool b) ∧ Go.RowKit.Below w.heap.size w w' := by
 cases h with
 | mk h1 h2 =>
  have hno : ∀ b r,(Ctx.laid l.length).m b ≠ some (some r) := fun b r h => laid_mut l.length r (.inr ⟨b,h⟩)
  refine (h2 (Ctx.laid l.length) w xs ⟨fun b B hb => ?_,fun b hb => ?_,fun b b' r e => (hno b r e).elim,fun b r e => (hno b r e).elim,fun r hx => hx.elim,fun b r e => (hno b r e).elim⟩ rfl hx.getD.1 hx.getD.2).mono fun e w' ⟨c',r,v,h',n',g1,g2,g3,g4,g5,g6⟩ => ?_
  ·obtain ⟨_,k1,g,o,k2,rfl⟩ := fixL_get l 0 b B hb
   exact ⟨none,if_pos (by omega),hl g o k2,laid_mut _ g⟩
  ·exact if_neg (by have hb : l.length ≤ b := hb; omega)
  ·subst g2
   rw [g5.inv_bool] at g1
   refine ⟨g1,⟨g6.os,g6.tape,g6.output,g6.size,fun k hk => g6.same k hk ?_⟩⟩
   exact fun h => laid_mut l.length k (.inr h)
theorem callF_calls {P : Program} {f : Nat} {args : List LV} {K : LV → Prop} (hc : callable P f) (H : ∀ (c : Ctx) (w : World) (xs : Array Value),HR c w h → c.N = n → args.length = xs.size → (∀ (i : Nat) (u : LV),args[i]? = some u → LR c w u (xs.getD i Go.undef)) →
  Calls P f xs w fun e w' => ∃ v r,e = .returned v ∧ K r ∧ Go.RowKit.Below w.heap.size w w' ∧ ∀ c',LR c' w' r v) : CallF (fun _ => P) f args h n fun r h' n' => K r ∧ h' = h ∧ n' = n := by
 refine .mk hc fun c w xs hr hN hl hrel => (H c w xs hr hN hl hrel).mono fun e w' ⟨v,r,h1,h2,h3,h4⟩ => ?_
 have he : Ext c w c w' := ⟨h3.os,h3.tape,h3.output,h3.size,rfl,Nat.le_refl _,fun _ _ => .inl rfl,fun b r hb e => (by rw [hr.fresh b hb] at e; cases e),fun r hlt _ => h3.block r hlt,fun b r _ e => by simp only [World.shape?,h3.block r (hr.lt b r e)]⟩
 exact ⟨c,r,v,h,n,h1,⟨h2,rfl,rfl⟩,hr.step he (.inl rfl) hr.fresh (fun _ => .inl rfl) (fun d C hd => .inl ⟨hd,rfl,fun k hk => h3.block k (hr.lt d k hk)⟩),hN,h4 c,he⟩
end
end Go.LX
namespace Go.LX
open Go
set_option linter.unusedVariables false
set_option maxHeartbeats 32000000
def addE (ops : Array Oper) (p q : Nat) : Array Oper := ops.modify q fun o => { o with after := o.after.push ⟨p,.data⟩ }
section
variable {P : Program} {Q : Exit → Act → World → Prop} {ops : Array Oper} {K K1 K2 : Act → World → Prop} {a : Act} {w : World} {p q i : Nat}
theorem addE_get (ops : Array Oper) (p q i : Nat) : (addE ops p q)[i]? = (ops[i]?).map fun o => if q = i then { o with after := o.after.push ⟨p,.data⟩ } else o := by
 unfold addE
 rw [Array.getElem?_modify]
 by_cases h : q = i
 ·simp [h]
 ·simp [h]
theorem addE_size : (addE ops p q).size = ops.size := by unfold addE; exact Array.size_modify
theorem addE_yielded (t : Array Value) : yielded (addE ops p q) t = yielded ops t := by
 funext j
 unfold yielded
 have : ((addE ops p q)[j]?).bind (·.dst) = (ops[j]?).bind (·.dst) := by
  rw [addE_get]
  cases ops[j]? with
  | none => rfl
  | some o => simp only [Option.map_some,Option.bind_some]; split <;> rfl
 rw [this]
theorem wpOp_addE (h : wpOp P (addE ops p q) Q i K a w) : wpOp P ops Q i K a w := by
 unfold wpOp at h ⊢
 rw [addE_get,addE_yielded] at h
 cases ho : ops[i]? with
 | none => rw [ho] at h; exact h
 | some o =>
  rw [ho] at h
  simp only [Option.map_some] at h ⊢
  by_cases e : q = i
  ·rw [if_pos e] at h
   exact h
  ·rw [if_neg e] at h; exact h
def NoE (P : Program) (s : Sem Next) : Prop := ∀ w,(∀ f args w',s.run P w ≠ .ok (.enter f args) w') ∧ ∀ r args w',s.run P w ≠ .ok (.row r args) w'
theorem NoE.v (s : Sem Value) : NoE P (do pure (Next.value (← s))) := fun w => by
 rw [Sem.run_bind]
 cases s.run P w <;> exact ⟨fun _ _ _ h => (by cases h),fun _ _ _ h => (by cases h)⟩
theorem NoE.u (s : Sem Unit) : NoE P (do s; pure Next.skip) := fun w => by
 rw [Sem.run_bind]
 cases s.run P w <;> exact ⟨fun _ _ _ h => (by cases h),fun _ _ _ h => (by cases h)⟩
theorem NoE.pu (x : Value) : NoE P (pure (Next.value x)) := fun w => ⟨fun _ _ _ h => (by cases h),fun _ _ _ h => (by cases h)⟩
theorem NoE.bind {α : Type} {s : Sem α} {f : α → Sem Next} (h : ∀ x,NoE P (f x)) : NoE P (s >>= f) := fun w => by
 rw [Sem.run_bind]
 cases s.run P w with
 | ok v w' => exact h v w'
 | halt x w' => exact ⟨fun _ _ _ h => (by cases h),fun _ _ _ h => (by cases h)⟩
theorem NoE.halt (x : Halt) : NoE P (Sem.halt x) := fun w => ⟨fun _ _ _ h => (by cases h),fun _ _ _ h => (by cases h)⟩
theorem NoE.deref : NoE P (runtimePanic .nilDeref : Sem Next) := by
 unfold runtimePanic
 exact NoE.bind fun p => NoE.halt _
theorem nilCheck_ne (x : Operand) (dst : Option Nat) (ty : TypeId) (pos : String) (after : Array Edge) (guard : Option (Nat × Bool)) (ρ : Operand → Value) : NoE P (execOp ρ ⟨dst,.nilCheck x,ty,pos,after,guard⟩) := by
 unfold execOp
 dsimp only
 repeat' (first | exact NoE.deref | exact NoE.pu _ | exact NoE.halt _ | split | (refine NoE.bind fun _ => ?_))
def simpleOp (o : Oper) : Bool :=
 match o.op with
 | .move _ => true
 | .assign _ => true
 | .alloc _ => true
 | .box _ _ => true
 | .build _ _ => true
 | .buildSlice _ _ _ => true
 | .load _ _ => true
 | .nilCheck _ => true
 | .store _ _ _ => true
 | .binOp _ _ _ _ _ => true
 | .unOp _ _ _ => true
 | .convert _ _ _ => true
 | .makeInterface _ _ => true
 | .slice _ _ _ _ _ => true
 | .fieldAddr _ _ _ => true
 | .field _ _ _ => true
 | .indexAddr _ _ _ => true
 | .index _ _ _ => true
 | .extract _ _ => true
 | .call c => match c.callee with
  | .builtin b => match b with
   | .append => true
   | _ => false
  | _ => false
 | _ => false
theorem append_ne {c : Call} (hc : c.callee = .builtin .append) (dst : Option Nat) (ty : TypeId) (pos : String) (after : Array Edge) (guard : Option (Nat × Bool)) (ρ : Operand → Value) : NoE P (execOp ρ ⟨dst,.call c,ty,pos,after,guard⟩) := by
 intro w
 have key : ∃ cs,(execOp ρ ⟨dst,.call c,ty,pos,after,guard⟩).run P w = (builtin .append c.argTypes ty cs (c.args.map ρ)).run P w := by
  unfold execOp
  simp [resolve,hc,invoke]
  exact ⟨_,rfl⟩
 obtain ⟨cs,key⟩ := key
 rw [key]
 exact NoE.v _ w
theorem simple_ne {o : Oper} (h : simpleOp o = true) (ρ : Operand → Value) : NoE P (execOp ρ o) := by
 obtain ⟨dst,op,ty,pos,after,guard⟩ := o
 cases op
 case call c =>
  simp only [simpleOp] at h
  split at h
  ·rename_i b hc
   split at h
   ·exact append_ne hc _ _ _ _ _ _
   ·cases h
  ·cases h
 case nilCheck x => exact nilCheck_ne x _ _ _ _ _ _
 all_goals simp only [simpleOp,Bool.false_eq_true] at h
 all_goals (unfold execOp; first | exact NoE.pu _ | exact NoE.v _ | exact NoE.u _)
theorem wp_and {o : Oper} (hne : NoE P (execOp a.eval o)) (h1 : o.wp P a w K1 Q) (h2 : o.wp P a w K2 Q) : o.wp P a w (fun a w => K1 a w ∧ K2 a w) Q := by
 unfold Oper.wp at *
 have hn := hne w
 generalize (execOp a.eval o).run P w = r at *
 cases r with
 | ok n w' =>
  cases n <;> simp only [Oper.upon] at h1 h2 ⊢ <;> first | exact ⟨h1,h2⟩ | exact absurd rfl (hn.1 _ _ _) | exact absurd rfl (hn.2 _ _ _) | exact h1
 | halt x w' => cases x <;> simp only [Oper.upon] at h1 ⊢ <;> exact h1
theorem wpOp_and (hne : ∀ o,ops[i]? = some o → simpleOp o = true) (h1 : wpOp P ops Q i K1 a w) (h2 : wpOp P ops Q i K2 a w) : wpOp P ops Q i (fun a w => K1 a w ∧ K2 a w) a w := by
 unfold wpOp at *
 cases ho : ops[i]? with
 | none => rw [ho] at h1 h2; exact ⟨h1,h2⟩
 | some o =>
  rw [ho] at h1 h2
  dsimp only at h1 h2 ⊢
  split
  ·rename_i hw
   rw [if_pos hw] at h1 h2
   rcases h1 with h1 | h1
   ·rcases h2 with h2 | h2
    ·exact .inl (wp_and (simple_ne (hne o ho) _) h1 h2)
    ·exact .inr h2
   ·exact .inr h1
  ·rename_i hw
   rw [if_neg hw] at h1 h2
   exact ⟨h1,h2⟩
theorem ready_sub {listed : Array Bool} (h : i ∈ Region.ready .any (addE ops p q) listed) : i ∈ Region.ready .any ops listed := by
 obtain ⟨h1,o,ho,h2⟩ := mem_ready.1 h
 rw [addE_get] at ho
 cases e : ops[i]? with
 | none => rw [e] at ho; cases ho
 | some o' =>
  rw [e] at ho
  simp only [Option.map_some,Option.some.injEq] at ho
  refine mem_ready.2 ⟨h1,o',e,fun ed hed hb => h2 ed ?_ hb⟩
  rw [← ho]
  split
  ·exact Array.mem_push.2 (.inl hed)
  ·exact hed
theorem ready_sup {listed : Array Bool} (h : i ∈ Region.ready .any ops listed) (hp : i = q → listed.getD p false = true) : i ∈ Region.ready .any (addE ops p q) listed := by
 obtain ⟨h1,o,ho,h2⟩ := mem_ready.1 h
 refine mem_ready.2 ⟨h1,_,by rw [addE_get,ho]; rfl,fun ed hed hb => ?_⟩
 split at hed
 ·rename_i hq
  rcases Array.mem_push.1 hed with hed | hed
  ·exact h2 ed hed hb
  ·rw [hed]; exact hp hq.symm
 ·exact h2 ed hed hb
theorem getD_keep {listed : Array Bool} (h : listed.getD p false = true) : (listed.setIfInBounds i true).getD p false = true := by
 rw [Array.getD_eq_getD_getElem?,Array.getElem?_setIfInBounds]
 rw [Array.getD_eq_getD_getElem?] at h
 split
 ·rename_i e
  split
  ·rfl
  ·rename_i hlt
   subst e
   rw [Array.getElem?_eq_none (by omega)] at h; cases h
 ·exact h
theorem any_done : ∀ (fuel : Nat) (listed : Array Bool) (a : Act) (w : World),listed.getD p false = true → wpAny P .any (addE ops p q) Q fuel listed a w → wpAny P .any ops Q fuel listed a w := by
 intro fuel
 induction fuel with
 | zero =>
  intro listed a w hp h
  refine ⟨List.eq_nil_iff_forall_not_mem.2 fun j hj => ?_,h.2⟩
  have := ready_sup (p := p) (q := q) hj (fun _ => hp)
  rw [h.1] at this; cases this
 | succ fuel ih =>
  intro listed a w hp h
  refine ⟨fun hr => h.1 (List.eq_nil_iff_forall_not_mem.2 fun j hj => ?_),fun i hi => ?_⟩
  ·have := ready_sub hj
   rw [hr] at this; cases this
  ·exact wpOp_mono (fun a w h => ih _ a w (getD_keep hp) h) (wpOp_addE (h.2 i (ready_sup hi fun _ => hp)))
def splitOK (ops : Array Oper) (p q : Nat) : Bool :=
 p != q && Nat.blt p ops.size && Nat.blt q ops.size && (List.range ops.size).all fun i => i == p || i == q || simpleOp (opAt ops i) || reach ops ops.size p i || reach ops ops.size q i
theorem any_split (hs : splitOK ops p q = true) : ∀ (fuel : Nat) (listed : Array Bool) (a : Act) (w : World),listed.size = ops.size → Closed ops listed → listed.getD p true = false → listed.getD q true = false →
  wpAny P .any (addE ops p q) Q fuel listed a w → wpAny P .any (addE ops q p) Q fuel listed a w → wpAny P .any ops Q fuel listed a w := by
 simp only [splitOK,Bool.and_eq_true,bne_iff_ne,ne_eq,List.all_eq_true,List.mem_range,Bool.or_eq_true,beq_iff_eq] at hs
 obtain ⟨⟨⟨hpq,hp⟩,hq⟩,hall⟩ := hs
 have hp : p < ops.size := Nat.le_of_ble_eq_true hp
 have hq : q < ops.size := Nat.le_of_ble_eq_true hq
 intro fuel
 induction fuel with
 | zero =>
  intro listed a w hsz hcl hlp hlq h1 h2
  refine ⟨List.eq_nil_iff_forall_not_mem.2 fun j hj => ?_,h1.2⟩
  by_cases e : j = q
  ·have := ready_sup (p := q) (q := p) hj (fun e2 => absurd (e2.symm.trans e) hpq)
   rw [h2.1] at this; cases this
  ·have := ready_sup (p := p) (q := q) hj (fun e2 => absurd e2 e)
   rw [h1.1] at this; cases this
 | succ fuel ih =>
  intro listed a w hsz hcl hlp hlq h1 h2
  refine ⟨fun hr => h1.1 (List.eq_nil_iff_forall_not_mem.2 fun j hj => ?_),fun i hi => ?_⟩
  ·have := ready_sub hj
   rw [hr] at this; cases this
  ·obtain ⟨hun,o,ho,haft⟩ := mem_ready.1 hi
   have hlt : i < ops.size := (Array.getElem?_eq_some_iff.1 ho).1
   have hset : ∀ {k : Nat},k < ops.size → (listed.setIfInBounds k true).getD k false = true := by
    intro k hk
    rw [Array.getD_eq_getD_getElem?,Array.getElem?_setIfInBounds_self_of_lt (by omega)]; rfl
   by_cases e1 : i = p
   ·subst e1
    exact wpOp_mono (fun a w h => any_done _ _ a w (hset hp) h) (wpOp_addE (h1.2 i (ready_sup hi fun e => absurd e hpq)))
   ·by_cases e2 : i = q
    ·subst e2
     exact wpOp_mono (fun a w h => any_done _ _ a w (hset hq) h) (wpOp_addE (h2.2 i (ready_sup hi fun e => absurd e e1)))
    ·have hsim : simpleOp o = true := by
      have hat : opAt ops i = o := by simp [opAt,ho]
      rcases hall i hlt with (((h | h) | h) | h) | h
      ·exact absurd h e1
      ·exact absurd h e2
      ·rw [hat] at h; exact h
      ·have := reach_listed hcl _ i o ho h haft
       rw [getD_tf (by rw [hsz]; exact hp) true false,this] at hlp; cases hlp
      ·have := reach_listed hcl _ i o ho h haft
       rw [getD_tf (by rw [hsz]; exact hq) true false,this] at hlq; cases hlq
     have hcl' : Closed ops (listed.setIfInBounds i true) := by
      intro j oj hoj hj e hee hb
      by_cases hji : i = j
      ·subst hji
       rw [ho] at hoj; cases hoj
       exact getD_set_true (haft e hee hb)
      ·rw [getD_set_ne _ hji] at hj
       exact getD_set_true (hcl j oj hoj hj e hee hb)
     refine wpOp_mono (fun a w h => ?_) (wpOp_and (fun o' ho' => by rw [ho] at ho'; cases ho'; exact hsim) (wpOp_addE (h1.2 i (ready_sup hi fun e => absurd e e2))) (wpOp_addE (h2.2 i (ready_sup hi fun e => absurd e e1))))
     exact ih _ a w (by simp [hsz]) hcl' (by rw [getD_set_ne _ e1]; exact hlp) (by rw [getD_set_ne _ e2]; exact hlq) h.1 h.2
end
end Go.LX
namespace Go.LX
open Go
set_option maxHeartbeats 32000000
section
variable {P : Program} {T : TT} {K : LS → Prop}
def DrawAny (P : Program) (ops : Array Oper) (s : LS) (K : LS → Prop) : Prop :=
 ∀ c a w Q,St c s a w → (∀ a' w',Post K c w a' w' → Q Exit.normal a' w') → wpAny P .any ops Q ops.size (Array.replicate ops.size false) a w
theorem rep_get (n i : Nat) : (Array.replicate n false).getD i false = false := by
 rw [Array.getD_eq_getD_getElem?,Array.getElem?_replicate]
 split <;> rfl
theorem rep_get' {n i : Nat} (h : i < n) : (Array.replicate n false).getD i true = false := by
 rw [Array.getD_eq_getD_getElem?,Array.getElem?_replicate,if_pos h]; rfl
theorem drawF_of_any (hm : P.follows .mixedOrders = true) {ops : Unit → Array Oper} {s : LS} (h : DrawAny P (ops ()) s K) : DrawF (fun _ => P) ops s K := by
 refine .mk fun c a w t Q hs hQ => ?_
 simp only [Region.schedule,hm,Bool.true_or,if_true]
 exact wpAny_sound (ops ()).size t _ a w (h c a w Q hs fun a' w' hp => hQ a' w' (let ⟨c',s',hK,hs',he⟩ := hp; ⟨c',s',hK,hs',he⟩))
theorem any_of_drawn (hT : TOK P T) (F : List (Nat × List Nat)) (order : List Nat) {ops : Array Oper} {s : LS} (hd : drawnOK ops F order = true) (h : lopsG (fun _ => P) (fun _ => T) ops F order s K) : DrawAny P ops s K := by
 intro c a w Q hs hQ
 have hd' := hd
 simp only [drawnOK,Bool.and_eq_true] at hd'
 obtain ⟨hpw,_,hed⟩ := orderOK_spec hd'.1
 have hlt : ∀ j ∈ order,j < ops.size := fun j hj => by
  obtain ⟨l1,l2,e⟩ := List.append_of_mem hj
  obtain ⟨o,ho,_⟩ := hed l1 j l2 e
  exact (Array.getElem?_eq_some_iff.1 ho).1
 have hun : unlO order (Array.replicate ops.size false) = order := by
  unfold unlO
  rw [List.filter_eq_self]
  intro j hj
  rw [rep_get' (hlt j hj)]; rfl
 have hnd : order.Nodup := hpw.imp fun h => h.1
 have hlen : order.length = ops.size := by
  have h1 : order.Perm (List.range ops.size) := by
   rw [List.perm_ext_iff_of_nodup hnd List.nodup_range]
   intro j
   rw [List.mem_range]
   exact ⟨hlt j,fun hj => by have := List.all_eq_true.1 hd'.2 j (List.mem_range.2 hj); simpa using this⟩
  simpa using h1.length_eq
 refine anyO_sound (K := K) hT hd (c0 := c) (w0 := w) (fun a' w' hp => hQ a' w' hp) ops.size _ (by simp) ?_ (by rw [hun]; exact hlen) (Ext.refl hs.hr) hs ?_
 ·intro q o _ hq
  rw [rep_get] at hq; cases hq
 ·rw [hun]; exact h
theorem drawAny_split (p q : Nat) {ops : Array Oper} {s : LS} (hs : splitOK ops p q = true) (h1 : DrawAny P (addE ops p q) s K) (h2 : DrawAny P (addE ops q p) s K) : DrawAny P ops s K := by
 intro c a w Q hst hQ
 have hb : p < ops.size ∧ q < ops.size := by
  simp only [splitOK,Bool.and_eq_true] at hs
  exact ⟨Nat.le_of_ble_eq_true hs.1.1.2,Nat.le_of_ble_eq_true hs.1.2⟩
 have e1 := h1 c a w Q hst hQ
 have e2 := h2 c a w Q hst hQ
 rw [addE_size] at e1 e2
 refine any_split hs ops.size _ a w (by simp) (fun k o _ hk => ?_) (rep_get' hb.1) (rep_get' hb.2) e1 e2
 rw [rep_get] at hk; cases hk
theorem split_sound (hT : TOK P T) (hm : P.follows .mixedOrders = true) (p q : Nat) (F1 : List (Nat × List Nat)) (o1 : List Nat) (F2 : List (Nat × List Nat)) (o2 : List Nat) {ops : Unit → Array Oper} {s : LS} (hs : splitOK (ops ()) p q = true)
  (hd1 : drawnOK (addE (ops ()) p q) F1 o1 = true) (hd2 : drawnOK (addE (ops ()) q p) F2 o2 = true)
  (h1 : lopsG (fun _ => P) (fun _ => T) (addE (ops ()) p q) F1 o1 s K) (h2 : lopsG (fun _ => P) (fun _ => T) (addE (ops ()) q p) F2 o2 s K) : DrawF (fun _ => P) ops s K :=
 drawF_of_any hm (drawAny_split p q hs (any_of_drawn hT F1 o1 hd1 h1) (any_of_drawn hT F2 o2 hd2 h2))
end
end Go.LX
namespace Go.LX
open Go
set_option linter.unusedVariables false
set_option maxHeartbeats 32000000
def veq : Value → PV → Bool
 | .int k n,.int k' e => (k == k') && (n == e.val)
 | .bool b,.bool b' => b == b'
 | .string s,.str s' => s.data.toList.isEmpty && (s' ()).data.toList.isEmpty
 | .pointer none,.nilp => true
 | .slice none 0 0,.nils => true
 | .nilIface,.nilif => true
 | .nilFunc,.nilfn => true
 | .map none,.nilm => true
 | _,_ => false
def veqs : List Value → List PV → Bool
 | [],[] => true
 | x :: l,y :: m => veq x y && veqs l m
 | _,_ => false
def keq (P : Program) : TK → TypeDesc → Bool
 | .int k,.int k' => k == k'
 | .bool,.bool => true
 | .str,.string => true
 | .ptr e,.pointer e' => e == e'
 | .slice e,.slice e' => e == e'
 | .struct fs,.struct fs' => (fs == fs'.toList.map fun f => (f.offset,f.type)) && (fs'.toList.mapM fun f => (P.info? f.type).map fun i => (f.offset,i.size)).isSome
 | .arr n e,.array n' e' => (n == n') && (e == e') && (P.info? e).isSome
 | .iface,.interface _ => true
 | .func,.func _ _ _ => true
 | .map k e,.map k' e' => k == k' && e == e'
 | _,_ => false
def shape : TK → Value → Bool
 | k,.agg _ => k.agg
 | k,.tuple _ => false
 | k,_ => !k.agg
def teq (P : Program) (t : Nat) (ti : TI) : Bool :=
 match P.info? t,P.underlying t with
 | some i,some d => (i.size == ti.size) && (i.bytes == ti.bytes) && (match i.zero with
  | some z => veqs z.cells.toList ti.zero && shape ti.kind z
  | none => false) && keq P ti.kind d
 | _,_ => false
def teqs (P : Program) : TT → Bool
 | [] => true
 | (t,ti) :: l => teq P t ti && teqs P l
theorem veq_ok {x : Value} {y : PV} (h : veq x y = true) : x = y.toV ∧ zok y = true := by
 unfold veq at h
 split at h
 ·rename_i k n k' e
  simp only [Bool.and_eq_true,beq_iff_eq] at h
  obtain ⟨rfl,rfl⟩ := h
  exact ⟨rfl,rfl⟩
 ·have h := beq_iff_eq.1 h; subst h; exact ⟨rfl,rfl⟩
 ·rename_i s s'
  simp only [Bool.and_eq_true,List.isEmpty_iff] at h
  have : s = s' () := by
   apply Go.WideShapes.bytes_inj
   rw [h.1,h.2]
  subst this; exact ⟨rfl,rfl⟩
 ·exact ⟨rfl,rfl⟩
 ·exact ⟨rfl,rfl⟩
 ·exact ⟨rfl,rfl⟩
 ·exact ⟨rfl,rfl⟩
 ·exact ⟨rfl,rfl⟩
 ·cases h
theorem veqs_ok : ∀ {l : List Value} {m : List PV},veqs l m = true → l = m.map PV.toV ∧ m.all zok = true
 | [],[],_ => ⟨rfl,rfl⟩
 | x :: l,y :: m,h => by
  simp only [veqs,Bool.and_eq_true] at h
  obtain ⟨h1,h2⟩ := veq_ok h.1
  obtain ⟨h3,h4⟩ := veqs_ok h.2
  exact ⟨by rw [List.map_cons,← h1,← h3],by simp only [List.all_cons,h2,h4,Bool.and_self]⟩
 | [],_ :: _,h => by cases h
 | _ :: _,[],h => by cases h
theorem keq_ok {P : Program} {k : TK} {d : TypeDesc} (h : keq P k d = true) : kindOk P k d := by
 unfold keq at h
 split at h
 ·exact beq_iff_eq.1 h
 ·trivial
 ·trivial
 ·exact beq_iff_eq.1 h
 ·exact beq_iff_eq.1 h
 ·simp only [Bool.and_eq_true,beq_iff_eq] at h; exact h
 ·simp only [Bool.and_eq_true,beq_iff_eq] at h; exact ⟨h.1.1,h.1.2,h.2⟩
 ·trivial
 ·trivial
 ·simp only [Bool.and_eq_true,beq_iff_eq] at h; exact h
 ·cases h
theorem teq_ok {P : Program} {t : Nat} {ti : TI} (h : teq P t ti = true) : TIok P t ti := by
 unfold teq at h
 split at h
 ·rename_i i d hi hd
  simp only [Bool.and_eq_true,beq_iff_eq] at h
  obtain ⟨⟨⟨h1,h2⟩,h3⟩,h4⟩ := h
  split at h3
  ·rename_i z hz
   simp only [Bool.and_eq_true] at h3
   obtain ⟨h5,h6⟩ := veqs_ok h3.1
   refine ⟨⟨i,z,d,hi,h1,h2,hz,h5,hd,keq_ok h4,fun hk => ?_,fun hk => ?_⟩,h6⟩
   ·have := h3.2
    cases z <;> simp [shape,hk] at this
    rfl
   ·have := h3.2
    cases z <;> simp [shape,hk] at this <;> rfl
  ·cases h3
 ·cases h
theorem teqs_ok {P : Program} : ∀ {T : TT},teqs P T = true → TOK P T
 | [],_ => tok_nil P
 | (t,ti) :: l,h => by
  simp only [teqs,Bool.and_eq_true] at h
  exact tok_cons (teq_ok h.1) (teqs_ok h.2)
end Go.LX
namespace Go.LX
open Go
set_option linter.unusedVariables false
set_option maxHeartbeats 32000000
section
variable (P : Unit → Program) (K : LS → Prop) (KE : Exit → LS → Prop) (KV : LV → Prop) (KI : I → Prop) (KB : Bool → Prop) (KL : LV → LH → Nat → Prop) (KP : Bool → List PV → I → Prop) (KLB : LB → Prop) (x : Int) (V : Nat → LS → Prop) (s : LS) (KVS : List LV → Prop) (KPV : PV → Prop) (KBL : Bool → List PV → Prop)
def T0 : TT := [(3,⟨1,8,[.int .i64 (.lit 0)],.int .i64⟩),(4,⟨1,1,[.bool false],.bool⟩),(5,⟨1,24,[.nils],.slice 3⟩),(6,⟨1,16,[.str fun _ => ⟨#[]⟩],.str⟩),(7,⟨2,24,[.int .i64 (.lit 0),.str fun _ => ⟨#[]⟩],.struct [(0,3),(1,6)]⟩),(8,⟨1,8,[.nilp],.ptr 7⟩),(9,⟨2,16,[.int .i64 (.lit 0),.int .i64 (.lit 0)],.arr 2 3⟩),(10,⟨1,16,[.nilif],.iface⟩),(16,⟨1,1,[.int .u8 (.lit 0)],.int .u8⟩),(17,⟨1,24,[.nils],.slice 16⟩)]
def S0 : LS := ⟨[i6 x,.p (.int .i64 (.lit 3)),.p (.bool true),.ptr 0 (.lit 0),.p (.vsl (.lit 1) false [.int .i64 (.lit 1)]),.sl 1 3 1 (.lit 0) (.lit 1),.p (.str fun _ => ⟨#[97]⟩),.agg [.p (.int .i64 (.lit 1)),.p (.str fun _ => ⟨#[]⟩)],.tup [.p (.int .i64 (.lit 1)),.p (.str fun _ => ⟨#[]⟩)],.iface 3 (.p (.int .i64 (.lit 1))),.ptr 2 (.lit 0),.p .nils,.undef,.p .nilp,.fn 3 [.p (.int .i64 (.lit 1))],.sl 3 3 1 (.lit 0) (.sym x),.p (.vsl (.sym x) true [])],[(0,.pure false [.int .i64 (.lit 1),.str fun _ => ⟨#[]⟩]),(1,.pure false [.int .i64 (.lit 1)]),(2,.iter (fun _ => ⟨#[97]⟩) (.lit 0)),(3,.pure true [.int .i64 (.lit 1)]),(4,.mix [.p (.int .i64 (.lit 1)),.ptr 0 (.lit 0)])],5⟩
def op (o : Op) : Oper := ⟨some 12,o,3, "",#[],none⟩
def warmed (p : Prop) : Prop := True
theorem wm (p : Prop) : warmed p := trivial
def runs (o : Op) : Prop := lop P (fun _ => T0) (op o) (S0 x) K
def all (l : List Op) : Prop := match l with
 | [] => True
 | o :: l => And (runs P K x o) (all l)
theorem w2 (h : all P K x [.move (.tmp 0),.assign (.const (.int .i64 3)),.pick (.tmp 2) (.tmp 0) (.tmp 1),.binOp .add 3 (.tmp 0) (.tmp 1) 3,.binOp .add 3 (.tmp 1) (.tmp 1) 3,.binOp .lss 3 (.tmp 1) (.tmp 1) 3,.binOp .lss 3 (.tmp 0) (.tmp 1) 3,
  .binOp .sub 3 (.tmp 0) (.tmp 1) 3,.binOp .mul 3 (.tmp 0) (.tmp 1) 3,.binOp .quo 3 (.tmp 0) (.tmp 1) 3,.binOp .rem 3 (.tmp 0) (.tmp 1) 3,.binOp .rem 3 (.tmp 1) (.tmp 1) 3,.binOp .and 3 (.tmp 0) (.tmp 1) 3,.binOp .leq 3 (.tmp 0) (.tmp 1) 3,.binOp .gtr 3 (.tmp 0) (.tmp 1) 3,.binOp .geq 3 (.tmp 0) (.tmp 1) 3,.binOp .eql 3 (.tmp 0) (.tmp 1) 3,.binOp .neq 3 (.tmp 0) (.tmp 1) 3,
  .binOp .eql 6 (.tmp 6) (.tmp 6) 6,.binOp .add 6 (.tmp 6) (.tmp 6) 6,.binOp .eql 4 (.tmp 2) (.tmp 2) 4,.binOp .eql 8 (.tmp 3) (.tmp 13) 8,.unOp .not 4 (.tmp 2),.unOp .neg 3 (.tmp 0),.nilCheck (.tmp 3),.alloc 7,.box 7 (.tmp 7),.build 7 #[(0,.tmp 1)],.buildSlice 5 2 #[(0,.tmp 0),(1,.tmp 1)],.load 7 (.tmp 3),.load 3 (.tmp 3),.store 3 (.tmp 3) (.tmp 0),
  .fieldAddr 7 (.tmp 3) 1,.field 7 (.tmp 7) 1,.indexAddr 5 (.tmp 4) (.tmp 1),.indexAddr 5 (.tmp 5) (.tmp 0),.index 6 (.tmp 6) (.tmp 0),.slice 6 (.tmp 6) (some (.tmp 0)) none none,.slice 5 (.tmp 4) (some (.tmp 0)) (some (.tmp 1)) none,.slice 5 (.tmp 5) none (some (.tmp 1)) none,.binOp .eql 7 (.tmp 7) (.tmp 7) 7,.binOp .neq 7 (.tmp 7) (.tmp 7) 7,.slice 6 (.tmp 6) (some (.tmp 0)) (some (.tmp 1)) none,.convert 3 3 (.tmp 0),.convert 3 6 (.tmp 0),.makeInterface 3 (.tmp 0),.typeAssert (.tmp 9) 10 3 true,.typeAssert (.tmp 9) 10 7 true,.extract (.tmp 8) 1,
  .range 6 (.tmp 6),.next (.tmp 10) true,.makeFunc (.func 3) #[] #[.tmp 1],.call { callee := .value (.func 3),args := #[.tmp 0],argTypes := #[3] },.call { callee := .value (.tmp 14),args := #[.tmp 0],argTypes := #[3] },.call { callee := .builtin .len,args := #[.tmp 4],argTypes := #[5] },.call { callee := .builtin .len,args := #[.tmp 5],argTypes := #[5] },.call { callee := .builtin .len,args := #[.tmp 6],argTypes := #[6] },
  .call { callee := .builtin .append,args := #[.tmp 11,.tmp 4],argTypes := #[5,5] },.call { callee := .builtin .append,args := #[.tmp 15,.tmp 5],argTypes := #[5,5] },.makeSlice 5 (.tmp 0) (.tmp 1),.makeSlice 5 (.tmp 0) (.tmp 0),.call { callee := .builtin .cap,args := #[.tmp 15],argTypes := #[5] },.convert 17 6 (.tmp 16),.call { callee := .builtin .min,args := #[.tmp 0,.tmp 1],argTypes := #[3,3] },.call { callee := .builtin .max,args := #[.tmp 0,.tmp 1],argTypes := #[3,3] }]) : warmed (all P K x [.move (.tmp 0)]) := by
 revert h
 conv => lhs; cbv
 intro h
 trivial
def codes : Prop := lcode P (fun _ => T0) 0 (.seq (.region 0 #[op (.move (.tmp 0))] false) (.block 3 (.seq (.cond (.tmp 2) .skip (.exit 3)) (.seq (.cond (.const (.bool false)) .skip (.seq (.label 1) (.exit 3))) .ret)))) (S0 x) KE
theorem w3 (h : codes P KE x) : warmed (codes P KE x) := by
 revert h
 conv => lhs; cbv
 intro h
 trivial
def loops : Prop := And (LoopK V 0 KE 1 .normal s) (And (LoopK V 0 KE 1 .ret s) (And (LoopK V 0 KE 1 (.exit 2) s) (And (lcode P (fun _ => T0) 0 (.loop .skip) s KE) (lcode P (fun _ => T0) 0 (.region 0 #[] true) s KE))))
theorem w4 (h : loops P KE V s) : True := by
 revert h
 conv => lhs; cbv
 intro h
 trivial
def bodies : Prop := lbody P (fun _ => T0) (.seq (.region 0 #[⟨some 1,.move (.tmp 0),3, "",#[],none⟩,⟨some 0,.move (.tmp 1),3, "",#[],some (0,true)⟩] false) .ret) [.tmp 1] 2 [.p (.bool true)] [] 0 KL
theorem w5 (h : bodies P KL) : True := by
 revert h
 conv => lhs; cbv
 intro h
 trivial
def names : Prop := And (lvles [(0,0),(1,2)] [3] (S0 x).h (S0 x).t (S0 x).t) (And (lhle [(0,0)] [3] (S0 x).h (S0 x).h) (And (rok 0 3 [] [(0,0),(1,2)] = true) (vok 0 3 [1] = true)))
theorem w6 (h : names x) : True := by
 revert h
 conv => lhs; cbv
 intro h
 trivial
end
end Go.LX
namespace Go.Proofs.YtpbhcdbkmmjimaaGreatDoor
open Go.LX
set_option maxHeartbeats 32000000
def T : TT := [
 (2,⟨1,8,[.int .i64 (.lit 0)],.int .i64⟩),
 (3,⟨1,8,[.int .i64 (.lit 0)],.int .i64⟩),
 (4,⟨1,1,[.bool false],.bool⟩),
 (5,⟨1,1,[.int .u8 (.lit 0)],.int .u8⟩),
 (7,⟨4,24,[.int .i64 (.lit 0),.int .i64 (.lit 0),.bool false,.int .u8 (.lit 0)],.struct [(0,2),(1,3),(2,4),(3,6)]⟩),
 (9,⟨1,16,[.str fun _ => ⟨#[]⟩],.str⟩),
 (12,⟨1,8,[.int .u64 (.lit 0)],.int .u64⟩),
 (13,⟨2,24,[.str fun _ => ⟨#[]⟩,.int .u64 (.lit 0)],.struct [(0,9),(1,12)]⟩),
 (15,⟨1,8,[.nilp],.ptr 230⟩),
 (16,⟨1,8,[.nilp],.ptr 233⟩),
 (17,⟨1,8,[.nilp],.ptr 240⟩),
 (18,⟨1,8,[.nilp],.struct [(0,17)]⟩),
 (20,⟨1,16,[.nilif],.iface⟩),
 (21,⟨1,4,[.int .i32 (.lit 0)],.int .i32⟩),
 (22,⟨3,24,[.int .i64 (.lit 0),.int .i64 (.lit 0),.int .i64 (.lit 0)],.struct [(0,3),(1,3),(2,3)]⟩),
 (23,⟨3,24,[.int .i64 (.lit 0),.int .i64 (.lit 0),.int .i64 (.lit 0)],.struct [(0,3),(1,3),(2,3)]⟩),
 (24,⟨1,24,[.nils],.slice 37⟩),
 (26,⟨1,8,[.nilp],.ptr 84⟩),
 (27,⟨1,8,[.int .i64 (.lit 0)],.int .i64⟩),
 (30,⟨1,8,[.nilp],.ptr 47⟩),
 (34,⟨1,24,[.nils],.slice 3⟩),
 (35,⟨1,24,[.nils],.slice 64⟩),
 (36,⟨5,56,[.int .i64 (.lit 0),.int .i64 (.lit 0),.int .i64 (.lit 0),.int .i64 (.lit 0),.nils],.struct [(0,3),(1,3),(2,3),(3,3),(4,35)]⟩),
 (37,⟨5,56,[.int .i64 (.lit 0),.int .i64 (.lit 0),.int .i64 (.lit 0),.int .i64 (.lit 0),.nils],.struct [(0,3),(1,3),(2,3),(3,3),(4,35)]⟩),
 (39,⟨4,48,[.int .i64 (.lit 0),.int .i64 (.lit 0),.nils,.bool false],.struct [(0,3),(1,3),(2,34),(3,4)]⟩),
 (40,⟨4,48,[.int .i64 (.lit 0),.int .i64 (.lit 0),.nils,.bool false],.struct [(0,3),(1,3),(2,34),(3,4)]⟩),
 (41,⟨1,24,[.nils],.slice 40⟩),
 (45,⟨1,8,[.nilp],.ptr 92⟩),
 (46,⟨4,32,[.nilp,.int .i64 (.lit 0),.int .i64 (.lit 0),.int .i64 (.lit 0)],.struct [(0,45),(1,23)]⟩),
 (47,⟨4,32,[.nilp,.int .i64 (.lit 0),.int .i64 (.lit 0),.int .i64 (.lit 0)],.struct [(0,45),(1,23)]⟩),
 (49,⟨1,8,[.int .u64 (.lit 0)],.int .u64⟩),
 (50,⟨1,8,[.nilp],.ptr 109⟩),
 (59,⟨1,24,[.nils],.slice 4⟩),
 (63,⟨2,16,[.int .i64 (.lit 0),.int .i64 (.lit 0)],.struct [(0,3),(1,3)]⟩),
 (64,⟨2,16,[.int .i64 (.lit 0),.int .i64 (.lit 0)],.struct [(0,3),(1,3)]⟩),
 (66,⟨1,8,[.nilp],.ptr 112⟩),
 (83,⟨3,24,[.nilp,.int .i64 (.lit 0),.int .i64 (.lit 0)],.struct [(0,50),(1,3),(2,3)]⟩),
 (84,⟨3,24,[.nilp,.int .i64 (.lit 0),.int .i64 (.lit 0)],.struct [(0,50),(1,3),(2,3)]⟩),
 (89,⟨1,8,[.nilp],.ptr 102⟩),
 (90,⟨1,8,[.nilp],.ptr 123⟩),
 (91,⟨6,64,[.nilp,.nils,.nilp,.int .i64 (.lit 0),.int .i64 (.lit 0),.int .i64 (.lit 0)],.struct [(0,89),(1,34),(2,90),(3,3),(4,3),(5,3)]⟩),
 (92,⟨6,64,[.nilp,.nils,.nilp,.int .i64 (.lit 0),.int .i64 (.lit 0),.int .i64 (.lit 0)],.struct [(0,89),(1,34),(2,90),(3,3),(4,3),(5,3)]⟩),
 (100,⟨1,8,[.nilp],.ptr 130⟩),
 (101,⟨2,32,[.nilp,.nils],.struct [(0,100),(1,34)]⟩),
 (102,⟨2,32,[.nilp,.nils],.struct [(0,100),(1,34)]⟩),
 (105,⟨1,24,[.nils],.slice 9⟩),
 (107,⟨1,8,[.nilp],.ptr 146⟩),
 (108,⟨6,64,[.nilp,.nilp,.nils,.int .i64 (.lit 0),.int .i64 (.lit 0),.int .i64 (.lit 0)],.struct [(0,66),(1,107),(2,34),(3,3),(4,3),(5,3)]⟩),
 (109,⟨6,64,[.nilp,.nilp,.nils,.int .i64 (.lit 0),.int .i64 (.lit 0),.int .i64 (.lit 0)],.struct [(0,66),(1,107),(2,34),(3,3),(4,3),(5,3)]⟩),
 (110,⟨1,8,[.nilp],.ptr 135⟩),
 (111,⟨2,32,[.nilp,.nils],.struct [(0,110),(1,34)]⟩),
 (112,⟨2,32,[.nilp,.nils],.struct [(0,110),(1,34)]⟩),
 (113,⟨2,16,[.int .i64 (.lit 0),.int .i64 (.lit 0)],.struct [(0,3),(1,3)]⟩),
 (114,⟨2,16,[.int .i64 (.lit 0),.int .i64 (.lit 0)],.struct [(0,3),(1,3)]⟩),
 (122,⟨2,32,[.nils,.bool false],.struct [(0,34),(1,4)]⟩),
 (123,⟨2,32,[.nils,.bool false],.struct [(0,34),(1,4)]⟩),
 (128,⟨1,24,[.nils],.slice 131⟩),
 (129,⟨2,48,[.nils,.nils],.struct [(0,34),(1,128)]⟩),
 (130,⟨2,48,[.nils,.nils],.struct [(0,34),(1,128)]⟩),
 (131,⟨8,8,[.bool false,.bool false,.bool false,.bool false,.bool false,.bool false,.bool false,.bool false],.arr 8 4⟩),
 (133,⟨1,24,[.nils],.slice 137⟩),
 (134,⟨1,24,[.nils],.struct [(0,133)]⟩),
 (135,⟨1,24,[.nils],.struct [(0,133)]⟩),
 (136,⟨2,24,[.int .i64 (.lit 0),.str fun _ => ⟨#[]⟩],.struct [(0,3),(1,9)]⟩),
 (137,⟨2,24,[.int .i64 (.lit 0),.str fun _ => ⟨#[]⟩],.struct [(0,3),(1,9)]⟩),
 (141,⟨0,0,[],.struct []⟩),
 (142,⟨0,0,[],.struct []⟩),
 (145,⟨2,24,[.str fun _ => ⟨#[]⟩,.bool false],.struct [(0,9),(1,4)]⟩),
 (146,⟨2,24,[.str fun _ => ⟨#[]⟩,.bool false],.struct [(0,9),(1,4)]⟩),
 (150,⟨2,16,[.int .i64 (.lit 0),.int .i64 (.lit 0)],.struct [(0,3),(1,3)]⟩),
 (151,⟨2,16,[.int .i64 (.lit 0),.int .i64 (.lit 0)],.struct [(0,3),(1,3)]⟩),
 (156,⟨1,8,[.int .i64 (.lit 0)],.int .i64⟩),
 (160,⟨1,8,[.int .i64 (.lit 0)],.struct [(0,3)]⟩),
 (161,⟨1,8,[.int .i64 (.lit 0)],.struct [(0,3)]⟩),
 (164,⟨1,8,[.int .i64 (.lit 0)],.int .i64⟩),
 (165,⟨0,0,[],.struct []⟩),
 (168,⟨1,16,[.nilif],.iface⟩),
 (169,⟨1,16,[.nilif],.iface⟩),
 (172,⟨0,0,[],.struct []⟩),
 (179,⟨1,8,[.nilp],.ptr 182⟩),
 (180,⟨1,24,[.nils],.slice 5⟩),
 (181,⟨2,32,[.nilp,.nils],.struct [(0,179),(1,180)]⟩),
 (182,⟨2,32,[.nilp,.nils],.struct [(0,179),(1,180)]⟩),
 (186,⟨24,24,[.int .u8 (.lit 0),.int .u8 (.lit 0),.int .u8 (.lit 0),.int .u8 (.lit 0),.int .u8 (.lit 0),.int .u8 (.lit 0),.int .u8 (.lit 0),.int .u8 (.lit 0),.int .u8 (.lit 0),.int .u8 (.lit 0),.int .u8 (.lit 0),.int .u8 (.lit 0),.int .u8 (.lit 0),.int .u8 (.lit 0),.int .u8 (.lit 0),.int .u8 (.lit 0),.int .u8 (.lit 0),.int .u8 (.lit 0),.int .u8 (.lit 0),.int .u8 (.lit 0),.int .u8 (.lit 0),.int .u8 (.lit 0),.int .u8 (.lit 0),.int .u8 (.lit 0)],.arr 24 5⟩),
 (187,⟨1,8,[.int .u64 (.lit 0)],.int .u64⟩),
 (195,⟨1,8,[.nilp],.ptr 212⟩),
 (199,⟨1,8,[.nilp],.ptr 5⟩),
 (204,⟨20,160,[.int .u64 (.lit 0),.int .u64 (.lit 0),.int .u64 (.lit 0),.int .u64 (.lit 0),.int .u64 (.lit 0),.int .u64 (.lit 0),.int .u64 (.lit 0),.int .u64 (.lit 0),.int .u64 (.lit 0),.int .u64 (.lit 0),.int .u64 (.lit 0),.int .u64 (.lit 0),.int .u64 (.lit 0),.int .u64 (.lit 0),.int .u64 (.lit 0),.int .u64 (.lit 0),.int .u64 (.lit 0),.int .u64 (.lit 0),.int .u64 (.lit 0),.int .u64 (.lit 0)],.arr 20 187⟩),
 (205,⟨1,4,[.int .u32 (.lit 0)],.int .u32⟩),
 (206,⟨65,65,[.int .u8 (.lit 0),.int .u8 (.lit 0),.int .u8 (.lit 0),.int .u8 (.lit 0),.int .u8 (.lit 0),.int .u8 (.lit 0),.int .u8 (.lit 0),.int .u8 (.lit 0),.int .u8 (.lit 0),.int .u8 (.lit 0),.int .u8 (.lit 0),.int .u8 (.lit 0),.int .u8 (.lit 0),.int .u8 (.lit 0),.int .u8 (.lit 0),.int .u8 (.lit 0),.int .u8 (.lit 0),.int .u8 (.lit 0),.int .u8 (.lit 0),.int .u8 (.lit 0),.int .u8 (.lit 0),.int .u8 (.lit 0),.int .u8 (.lit 0),.int .u8 (.lit 0),.int .u8 (.lit 0),.int .u8 (.lit 0),.int .u8 (.lit 0),.int .u8 (.lit 0),.int .u8 (.lit 0),.int .u8 (.lit 0),.int .u8 (.lit 0),.int .u8 (.lit 0),.int .u8 (.lit 0),.int .u8 (.lit 0),.int .u8 (.lit 0),.int .u8 (.lit 0),.int .u8 (.lit 0),.int .u8 (.lit 0),.int .u8 (.lit 0),.int .u8 (.lit 0),.int .u8 (.lit 0),.int .u8 (.lit 0),.int .u8 (.lit 0),.int .u8 (.lit 0),.int .u8 (.lit 0),.int .u8 (.lit 0),.int .u8 (.lit 0),.int .u8 (.lit 0),.int .u8 (.lit 0),.int .u8 (.lit 0),.int .u8 (.lit 0),.int .u8 (.lit 0),.int .u8 (.lit 0),.int .u8 (.lit 0),.int .u8 (.lit 0),.int .u8 (.lit 0),.int .u8 (.lit 0),.int .u8 (.lit 0),.int .u8 (.lit 0),.int .u8 (.lit 0),.int .u8 (.lit 0),.int .u8 (.lit 0),.int .u8 (.lit 0),.int .u8 (.lit 0),.int .u8 (.lit 0)],.arr 65 5⟩),
 (211,⟨3,48,[.str fun _ => ⟨#[]⟩,.str fun _ => ⟨#[]⟩,.nilif],.struct [(0,9),(1,9),(2,169)]⟩),
 (212,⟨3,48,[.str fun _ => ⟨#[]⟩,.str fun _ => ⟨#[]⟩,.nilif],.struct [(0,9),(1,9),(2,169)]⟩),
 (223,⟨1,8,[.nilp],.ptr 225⟩),
 (224,⟨1,16,[.str fun _ => ⟨#[]⟩],.struct [(0,9)]⟩),
 (225,⟨1,16,[.str fun _ => ⟨#[]⟩],.struct [(0,9)]⟩),
 (227,⟨32,32,[.int .u8 (.lit 0),.int .u8 (.lit 0),.int .u8 (.lit 0),.int .u8 (.lit 0),.int .u8 (.lit 0),.int .u8 (.lit 0),.int .u8 (.lit 0),.int .u8 (.lit 0),.int .u8 (.lit 0),.int .u8 (.lit 0),.int .u8 (.lit 0),.int .u8 (.lit 0),.int .u8 (.lit 0),.int .u8 (.lit 0),.int .u8 (.lit 0),.int .u8 (.lit 0),.int .u8 (.lit 0),.int .u8 (.lit 0),.int .u8 (.lit 0),.int .u8 (.lit 0),.int .u8 (.lit 0),.int .u8 (.lit 0),.int .u8 (.lit 0),.int .u8 (.lit 0),.int .u8 (.lit 0),.int .u8 (.lit 0),.int .u8 (.lit 0),.int .u8 (.lit 0),.int .u8 (.lit 0),.int .u8 (.lit 0),.int .u8 (.lit 0),.int .u8 (.lit 0)],.arr 32 5⟩),
 (228,⟨64,64,[.int .u8 (.lit 0),.int .u8 (.lit 0),.int .u8 (.lit 0),.int .u8 (.lit 0),.int .u8 (.lit 0),.int .u8 (.lit 0),.int .u8 (.lit 0),.int .u8 (.lit 0),.int .u8 (.lit 0),.int .u8 (.lit 0),.int .u8 (.lit 0),.int .u8 (.lit 0),.int .u8 (.lit 0),.int .u8 (.lit 0),.int .u8 (.lit 0),.int .u8 (.lit 0),.int .u8 (.lit 0),.int .u8 (.lit 0),.int .u8 (.lit 0),.int .u8 (.lit 0),.int .u8 (.lit 0),.int .u8 (.lit 0),.int .u8 (.lit 0),.int .u8 (.lit 0),.int .u8 (.lit 0),.int .u8 (.lit 0),.int .u8 (.lit 0),.int .u8 (.lit 0),.int .u8 (.lit 0),.int .u8 (.lit 0),.int .u8 (.lit 0),.int .u8 (.lit 0),.int .u8 (.lit 0),.int .u8 (.lit 0),.int .u8 (.lit 0),.int .u8 (.lit 0),.int .u8 (.lit 0),.int .u8 (.lit 0),.int .u8 (.lit 0),.int .u8 (.lit 0),.int .u8 (.lit 0),.int .u8 (.lit 0),.int .u8 (.lit 0),.int .u8 (.lit 0),.int .u8 (.lit 0),.int .u8 (.lit 0),.int .u8 (.lit 0),.int .u8 (.lit 0),.int .u8 (.lit 0),.int .u8 (.lit 0),.int .u8 (.lit 0),.int .u8 (.lit 0),.int .u8 (.lit 0),.int .u8 (.lit 0),.int .u8 (.lit 0),.int .u8 (.lit 0),.int .u8 (.lit 0),.int .u8 (.lit 0),.int .u8 (.lit 0),.int .u8 (.lit 0),.int .u8 (.lit 0),.int .u8 (.lit 0),.int .u8 (.lit 0),.int .u8 (.lit 0)],.arr 64 5⟩),
 (229,⟨4,40,[.nilp,.nilp,.nilp,.str fun _ => ⟨#[]⟩],.struct [(0,17),(1,17),(2,17),(3,9)]⟩),
 (231,⟨0,0,[],.arr 0 16⟩),
 (232,⟨0,0,[],.struct [(0,231)]⟩),
 (239,⟨11,48,[.int .u64 (.lit 0),.int .u64 (.lit 0),.int .u32 (.lit 0),.int .u8 (.lit 0),.int .u8 (.lit 0),.int .u8 (.lit 0),.int .u8 (.lit 0),.nilfn,.nilp,.int .i32 (.lit 0),.int .i32 (.lit 0)],.struct [(0,12),(1,12),(2,205),(3,234),(4,5),(5,5),(6,235),(7,236),(8,199),(9,237),(10,238)]⟩)]
theorem tok : TOK Tryz.prog T := teqs_ok (by kernel_rfl)
end Go.Proofs.YtpbhcdbkmmjimaaGreatDoor
namespace Go.Proofs.YtpbhcdbkmmjimaaGreatDoor
open Go.RowKit
open Go Go.LX
set_option maxRecDepth 100000
set_option linter.unusedVariables false
set_option linter.unusedSimpArgs false
set_option maxHeartbeats 32000000
theorem bd_size : (Tryz.prog.info? 182).map (·.size) = some 2 := by kernel_rfl
theorem bd_lies : liesAt Tryz.prog Tryz.prog.depth 182 (2 / Tryz.prog.cellsOf 182) 0 182 1 = true := by kernel_rfl
theorem bd_byte : Tryz.prog.cellsOf 5 = 1 := by kernel_rfl
theorem copyCheck_fresh (b : Nat) (w : World) (h0 : w.cell? ⟨b,0,none⟩ = some (.pointer none)) (hsh : w.shape? b = some (182,2)) (hfz : w.frozen? ⟨b,0,none⟩ = false) :
  Calls Tryz.prog 162 #[.pointer (some ⟨b,0,none⟩)] w fun e w' => e = .returned (.tuple #[]) ∧ w' = w.setCell ⟨b,0,none⟩ (.pointer (some ⟨b,0,none⟩)) := by
 obtain ⟨j,hj,hjs⟩ := Option.map_eq_some_iff.1 bd_size
 go_enter Tryz.func162,Tryz.ntmps162
 go_wp2
 rw [Lib.run_to_unsafe w ⟨b,0,none⟩ Tryz.underlying179 Tryz.underlying214 hj (by rw [hjs]; decide) hsh (Nat.zero_lt_succ 1)]
 simp only [Result.andThen]
 rw [Oper.upon_value]
 go_wp2
 rw [run_callFunc_extern Tryz.func178 (by kernel_rfl) (by kernel_rfl) (by kernel_rfl) (e := Extern.AbiNoEscape.same) (by kernel_rfl)]
 rw [Lib.run_noEscape]
 simp only [Result.andThen]
 rw [Oper.upon_value]
 go_wp2
 rw [Lib.run_from_unsafe w ⟨b,0,none⟩ Tryz.underlying214 Tryz.underlying179 hj hsh bd_lies]
 simp only [Result.andThen]
 rw [Oper.upon_value]
 go_wp2
 go_end0
 exact ⟨rfl,rfl⟩
theorem copyCheck_used (b : Nat) (w : World) (h0 : w.cell? ⟨b,0,none⟩ = some (.pointer (some ⟨b,0,none⟩))) :
  Calls Tryz.prog 162 #[.pointer (some ⟨b,0,none⟩)] w fun e w' => e = .returned (.tuple #[]) ∧ w' = w := by
 obtain ⟨j,hj,_⟩ := Option.map_eq_some_iff.1 bd_size
 go_enter Tryz.func162,Tryz.ntmps162
 go_wp2
 rw [Lib.run_neq_ptr_same w _ Tryz.underlying179 hj]
 go_wp2
 go_end0
 exact ⟨rfl,rfl⟩
theorem arg1 {c : Ctx} {w : World} {u : LV} {xs : Array Value} (hl : [u].length = xs.size) (hrel : ∀ (i : Nat) (v : LV),[u][i]? = some v → LR c w v (xs.getD i Go.undef)) : ∃ x,xs = #[x] ∧ LR c w u x := by
 have h0 := hrel 0 u rfl
 rcases xs with ⟨l⟩
 match l,hl with
 | [x],_ => exact ⟨x,rfl,h0⟩
theorem ptr_live {c : Ctx} {w : World} {b : Nat} {m : Nat} {x : Value} (hm : c.m b = some (some m)) (hx : LR c w (.ptr b (.lit 0)) x) : x = .pointer (some ⟨m,0,none⟩) := by
 cases hx with
 | ptr _ _ r k hm' ho =>
  rw [hm] at hm'; cases hm'
  have : k = 0 := by simp only [I.val] at ho; omega
  rw [this]
 | goneP _ _ _ hm' _ => rw [hm] at hm'; cases hm'
theorem copyCheck_lx (v : LV) (B : LB) : CallF (fun _ => Tryz.prog) 162 [.ptr 0 (.lit 0)] [(0,.bld 182 [v]),(1,B)] 2 (fun r h n => r = .tup [] ∧ h = [(0,.bld 182 [v]),(1,B)] ∧ n = 2) := by
 refine .mk ⟨_,_,Tryz.func162,by kernel_rfl,rfl⟩ fun c w xs hr hN hl hrel => ?_
 obtain ⟨x,rfl,hx⟩ := arg1 hl hrel
 obtain ⟨m,hm,hB⟩ := hr.live 0 _ rfl
 cases m with
 | none => exact hB.elim
 | some r =>
  have hx := ptr_live hm hx
  subst hx
  have hB0 := hB
  obtain ⟨cur,hg,hsz,h0,hc⟩ := hB
  have hsz : cur.size = 2 := hsz
  have hc0 : w.cell? ⟨r,0,none⟩ = some (cur.getD 0 Go.undef) := by
   simp only [World.cell?,hg]
   rw [Array.getD_eq_getD_getElem?,Array.getElem?_eq_getElem (by omega : 0 < cur.size)]; rfl
  rcases h0 with h0 | h0
  ·rw [h0] at hc0
   refine (copyCheck_fresh r w hc0 (by simp only [World.shape?,hg,hsz]) (by simp [World.frozen?,hg])).mono ?_
   rintro e w' ⟨rfl,rfl⟩
   have hg' : (w.setCell ⟨r,0,none⟩ (.pointer (some ⟨r,0,none⟩))).heap[r]? = some (.cells (cur.setIfInBounds 0 (.pointer (some ⟨r,0,none⟩))) 182 (0,0)) := by
    simp [World.setCell,Array.getElem?_modify,hg]
   have ht : Turn w (w.setCell ⟨r,0,none⟩ (.pointer (some ⟨r,0,none⟩))) r := by
    refine ⟨rfl,rfl,rfl,by simp [World.setCell],fun k hk => ?_,?_⟩
    ·have hk' : ¬ r = k := fun h => hk h.symm
     simp [World.setCell,Array.getElem?_modify,hk']
    ·simp only [World.shape?,hg,hg',Array.size_setIfInBounds]
   have hB' : BR c (w.setCell ⟨r,0,none⟩ (.pointer (some ⟨r,0,none⟩))) (.bld 182 [v]) (some r) := by
    refine ⟨_,hg',by rw [Array.size_setIfInBounds]; exact hsz,.inr ?_,fun j u hu => ?_⟩
    ·simp [Array.getD_eq_getD_getElem?,hsz]
    ·have := (hc j u hu).ext hr.fresh (Ext.turn hr hm ht)
     rw [Array.getD_eq_getD_getElem?,Array.getElem?_setIfInBounds,if_neg (by omega),← Array.getD_eq_getD_getElem?]
     exact this
   exact ⟨c,.tup [],_,_,_,rfl,⟨rfl,rfl,rfl⟩,hr.turn rfl hm ht hB',hN,.tup _ _ rfl (fun j u hu => by simp at hu),Ext.turn hr hm ht⟩
  ·rw [h0] at hc0
   refine (copyCheck_used r w hc0).mono ?_
   rintro e w' ⟨rfl,rfl⟩
   exact ⟨c,.tup [],_,_,_,rfl,⟨rfl,rfl,rfl⟩,hr,hN,.tup _ _ rfl (fun j u hu => by simp at hu),Ext.refl hr⟩
theorem bd_mixed : Tryz.prog.follows .mixedOrders = true := by kernel_rfl
theorem string_some (b g cap : Nat) (p : Value) (cur : Array Value) (l : List UInt8) (w : World) (h0 : l ≠ []) (hbk : w.heap[b]? = some (.cells #[p,.slice (some ⟨g,0,none⟩) l.length cap] 182 (0,0)))
  (hg : w.heap[g]? = some (.cells cur 5 (0,0))) (hn : l.length ≤ cap) (hcm : cap ≤ maxLen) (hcs : cap ≤ cur.size) (hcell : ∀ j x,l[j]? = some x → w.cell? ((⟨g,0,none⟩ : Addr).add j) = some (.int .u8 x.toNat)) :
  Calls Tryz.prog 150 #[.pointer (some ⟨b,0,none⟩)] w fun e w' => e = .returned (.string ⟨l.toArray⟩) ∧ w' = w.drew.freeze ⟨g,0,none⟩ l.length := by
 have hl0 : l.length ≠ 0 := by simpa using h0
 have c1 : w.drew.cell? ⟨b,1,none⟩ = some (.slice (some ⟨g,0,none⟩) l.length cap) := by
  have : w.drew.heap[b]? = some (.cells #[p,.slice (some ⟨g,0,none⟩) l.length cap] 182 (0,0)) := hbk
  rw [Lib.cell_of_heap this]; rfl
 have hSD : (Builtin.unsafeSliceData_ #[180] 199 #[.slice (some ⟨g,0,none⟩) l.length cap]).run Tryz.prog w.drew = .ok (.pointer (some ⟨g,0,none⟩)) w.drew :=
  Lib.run_unsafeSliceData_row _ _ _ _ _ _ (by omega)
 have hUS : (Builtin.unsafeString_ #[199,3] 9 #[.pointer (some ⟨g,0,none⟩),.int .i64 l.length]).run Tryz.prog w.drew = .ok (.string ⟨l.toArray⟩) (w.drew.freeze ⟨g,0,none⟩ l.length) := by
  refine Lib.run_unsafeString_row w.drew 199 3 9 5 Tryz.underlying199 bd_byte g cur.size (by have hg' : w.drew.heap[g]? = some (.cells cur 5 (0,0)) := hg; simp [World.shape?,hg']) l h0 (by omega) (by unfold maxLen at hcm; omega) ?_
  intro j x hx
  exact hcell j x hx
 have mixed := bd_mixed
 go_enter Tryz.func150,Tryz.ntmps150
 go_wp2
 go_region_o
 all_goals (go_wp2; go_ret; exact ⟨rfl,rfl⟩)
theorem string_us (W : World) (q : Option Addr) : (Builtin.unsafeString_ #[199,3] 9 #[.pointer q,.int .i64 0]).run Tryz.prog W = .ok (.string .empty) W :=
 Lib.run_unsafeString_none W _ _ _ q
theorem string_nil (b : Nat) (p : Value) (w : World) (hbk : w.heap[b]? = some (.cells #[p,.slice none 0 0] 182 (0,0))) :
  Calls Tryz.prog 150 #[.pointer (some ⟨b,0,none⟩)] w fun e w' => e = .returned (.string ⟨#[]⟩) ∧ w' = w.drew := by
 have hUS := string_us
 have c1 : w.drew.cell? ⟨b,1,none⟩ = some (.slice none 0 0) := by
  have : w.drew.heap[b]? = some (.cells #[p,.slice none 0 0] 182 (0,0)) := hbk
  rw [Lib.cell_of_heap this]; rfl
 have hSD : (Builtin.unsafeSliceData_ #[180] 199 #[.slice none 0 0]).run Tryz.prog w.drew = .ok (.pointer none) w.drew := rfl
 have mixed := bd_mixed
 go_enter Tryz.func150,Tryz.ntmps150
 go_wp2
 go_region_o
 all_goals (go_wp2; go_ret; exact ⟨rfl,rfl⟩)
theorem string_room (b g cap : Nat) (p : Value) (w : World) (hc0 : cap ≠ 0) (hbk : w.heap[b]? = some (.cells #[p,.slice (some ⟨g,0,none⟩) 0 cap] 182 (0,0))) :
  Calls Tryz.prog 150 #[.pointer (some ⟨b,0,none⟩)] w fun e w' => e = .returned (.string ⟨#[]⟩) ∧ w' = w.drew := by
 have hUS := string_us
 have c1 : w.drew.cell? ⟨b,1,none⟩ = some (.slice (some ⟨g,0,none⟩) 0 cap) := by
  have : w.drew.heap[b]? = some (.cells #[p,.slice (some ⟨g,0,none⟩) 0 cap] 182 (0,0)) := hbk
  rw [Lib.cell_of_heap this]; rfl
 have hSD : (Builtin.unsafeSliceData_ #[180] 199 #[.slice (some ⟨g,0,none⟩) 0 cap]).run Tryz.prog w.drew = .ok (.pointer (some ⟨g,0,none⟩)) w.drew :=
  Lib.run_unsafeSliceData_row _ _ _ _ _ _ hc0
 clear hc0
 have mixed := bd_mixed
 go_enter Tryz.func150,Tryz.ntmps150
 go_wp2
 go_region_o
 all_goals (go_wp2; go_ret; exact ⟨rfl,rfl⟩)
theorem string_noroom (b g : Nat) (p : Value) (cur : Array Value) (w : World) (hbk : w.heap[b]? = some (.cells #[p,.slice (some ⟨g,0,none⟩) 0 0] 182 (0,0))) (hg : w.heap[g]? = some (.cells cur 5 (0,0))) :
  Calls Tryz.prog 150 #[.pointer (some ⟨b,0,none⟩)] w fun e w' => e = .returned (.string ⟨#[]⟩) ∧ w' = w.drew.alloc (.view ⟨g,0,none⟩ 5) := by
 have hUS := string_us
 have hlt : b < w.heap.size := by
  rcases Nat.lt_or_ge b w.heap.size with h' | h'
  ·exact h'
  ·simp [Array.getElem?_eq_none h'] at hbk
 have c1 : w.drew.cell? ⟨b,1,none⟩ = some (.slice (some ⟨g,0,none⟩) 0 0) := by
  have : w.drew.heap[b]? = some (.cells #[p,.slice (some ⟨g,0,none⟩) 0 0] 182 (0,0)) := hbk
  rw [Lib.cell_of_heap this]; rfl
 have hSD : (Builtin.unsafeSliceData_ #[180] 199 #[.slice (some ⟨g,0,none⟩) 0 0]).run Tryz.prog w.drew = .ok (.pointer (some ⟨w.drew.heap.size,0,none⟩)) (w.drew.alloc (.view ⟨g,0,none⟩ 5)) :=
  Lib.run_unsafeSliceData_zero w.drew _ _ 5 Tryz.underlying199 ⟨g,0,none⟩ 0 (5,cur.size) (by have hg' : w.drew.heap[g]? = some (.cells cur 5 (0,0)) := hg; simp [World.shape?,hg'])
 have c2 : (w.drew.alloc (.view ⟨g,0,none⟩ 5)).cell? ⟨b,1,none⟩ = some (.slice (some ⟨g,0,none⟩) 0 0) := by
  have : (w.drew.alloc (.view ⟨g,0,none⟩ 5)).heap[b]? = _ := (Lib.alloc_old w.drew _ b hlt).trans hbk
  rw [Lib.cell_of_heap this]; rfl
 have c3 : w.cell? ⟨b,1,none⟩ = some (.slice (some ⟨g,0,none⟩) 0 0) := by rw [Lib.cell_of_heap hbk]; rfl
 have mixed := bd_mixed
 go_enter Tryz.func150,Tryz.ntmps150
 go_wp2
 go_region_o
 all_goals (go_wp2; go_ret; exact ⟨rfl,rfl⟩)
theorem string_lx (j : Int) (L : List PV) (z : ByteArray) (hL : L = bytesPV z) (hj : j = z.size) :
  CallF (fun _ => Tryz.prog) 150 [.ptr 0 (.lit 0)] [(0,.bld 182 [.sl 1 5 1 (.lit 0) (.sym j)]),hpP 1 L] 2
   (fun r h n => r = .p (.str fun _ => z) ∧ h = [(0,.bld 182 [.p (.vsl (.sym j) true L)])] ∧ n = 2) := by
 refine .mk ⟨_,_,Tryz.func150,by kernel_rfl,rfl⟩ fun c w xs hr hN hl hrel => ?_
 obtain ⟨x,rfl,hx⟩ := arg1 hl hrel
 obtain ⟨m,hm,hB⟩ := hr.live 0 _ rfl
 obtain ⟨m1,hm1,hB1⟩ := hr.live 1 _ rfl
 cases m with
 | none => exact hB.elim
 | some r =>
  have hx := ptr_live hm hx
  subst hx
  obtain ⟨cur,hg,hsz,h0,hc⟩ := hB
  have hsz : cur.size = 2 := hsz
  have hc1 := hc 0 _ rfl
  obtain ⟨p,v,rfl⟩ : ∃ p v,cur = #[p,v] := by
   rcases cur with ⟨l⟩
   match l,hsz with
   | [p,v],_ => exact ⟨p,v,rfl⟩
  have hc1 : LR c w (.sl 1 5 1 (.lit 0) (.sym j)) v := hc1
  have hlen : L.length = z.size := by rw [hL,bytesPV,List.length_map,Array.length_toList]; rfl
  have fin : ∀ (w' : World),Ext c w (c.drop 1) w' → (w'.heap[r]? = w.heap[r]?) → LR (c.drop 1) w' (.p (.vsl (.sym j) true L)) v →
    ∃ (c' : Ctx) (rv : LV) (vv : Value) (h' : LH) (n' : Nat),Ending.returned (Value.string z) = .returned vv ∧ (rv = .p (.str fun _ => z) ∧ h' = [(0,LB.bld 182 [.p (.vsl (.sym j) true L)])] ∧ n' = 2) ∧ HR c' w' h' ∧ c'.N = n' ∧ LR c' w' rv vv ∧ Ext c w c' w' := by
   intro w' he hh hv
   have hd := hr.drop 1
   have e0 : ∀ b,b ≠ 1 → (c.drop 1).m b = c.m b := fun b hb => if_neg hb
   have e1 : (c.drop 1).m 1 = none := by simp [Ctx.drop]
   refine ⟨c.drop 1,.p (.str fun _ => z),.string z,_,2,rfl,⟨rfl,rfl,rfl⟩,?_,hN,.p _ _ (.str _),he⟩
   refine hr.step he (.inl rfl) (fun b hb => ?_) (fun b => ?_) (fun b B hb => .inr ?_)
   ·by_cases e : b = 1
    ·rw [e]; exact e1
    ·rw [e0 b e]; exact hr.fresh b hb
   ·by_cases e : b = 1
    ·exact .inr (.inl (by rw [e]; exact e1))
    ·exact .inl (e0 b e)
   ·rw [hget_cons] at hb
    by_cases e : 0 = b
    ·rw [if_pos e] at hb; cases hb
     subst e
     refine ⟨some r,(e0 0 (by decide)).trans hm,_,hh.trans hg,rfl,h0,fun j u hu => ?_⟩
     rcases j with _ | j
     ·simp at hu; subst hu; exact hv
     ·simp at hu
    ·rw [if_neg e] at hb; cases hb
  have drewE : Ext c w (c.drop 1) w.drew := (Ext.drop hr 1).trans (hr.drop 1 |>.same (w' := w.drew) rfl rfl rfl rfl).1
  have empty : z.size = 0 → z = ⟨#[]⟩ := fun h => by
   cases z with | mk d => have : d = #[] := Array.eq_empty_of_size_eq_zero h; rw [this]
  have hnM : ∀ r1,c.m 1 = some (some r1) → ¬ (c.drop 1).mut r1 := by
   rintro r1 h1 (hX | ⟨b,hb⟩)
   ·exact hr.noX 1 r1 h1 hX
   ·by_cases e : b = 1
    ·rw [e] at hb; have : (c.drop 1).m 1 = none := by simp [Ctx.drop]
     rw [this] at hb; cases hb
    ·have e0 : (c.drop 1).m b = c.m b := if_neg e
     rw [e0] at hb
     exact e (hr.inj b 1 r1 hb h1)
  cases hc1 with
  | goneS _ _ _ _ _ _ _ _ hm' _ => rw [hm1] at hm'; cases hm'
  | slz _ _ _ _ _ _ _ _ _ ho' _ _ h0' => exfalso; simp only [I.val] at ho'; omega
  | slv _ _ _ _ _ hm' ho' hn' =>
   simp only [I.val] at hn'
   have hz := empty (by omega)
   refine (string_nil r p w hg).mono ?_
   rintro e w' ⟨rfl,rfl⟩
   rw [← hz]
   exact fin _ drewE rfl (.p _ _ (.vsl0 _ _ _ _ _ hn' (Nat.zero_le _)))
  | sl _ _ _ _ _ g o k cp tot hm' ho' hn' hk' hcp hs' ht' =>
   rw [hm1] at hm'; cases hm'
   obtain ⟨cur,ty,hgg,hle,hrel⟩ := hB1
   simp only [I.val] at ho' hn'
   have ho0 : o = 0 := by omega
   subst ho0
   have hsh : ty = 5 ∧ cur.size = tot := by
    rw [World.shape?,hgg] at hs'
    cases hs'; exact ⟨rfl,rfl⟩
   obtain ⟨rfl,rfl⟩ := hsh
   have hkz : k = z.size := by omega
   have hgr : r ≠ g := fun e => by
    rw [e] at hm
    have := hr.inj 0 1 g hm hm1
    cases this
   by_cases hk0 : k = 0
   ·subst hk0
    have hz := empty (by omega)
    by_cases hcp0 : cp = 0
    ·subst hcp0
     refine (string_noroom r g p cur w hg hgg).mono ?_
     rintro e w' ⟨rfl,rfl⟩
     rw [← hz]
     have hlt : r < w.heap.size := hr.lt 0 r hm
     have he : Ext c w (c.drop 1) (w.drew.alloc (.view ⟨g,0,none⟩ 5)) := by
      refine ⟨rfl,rfl,rfl,by simp,rfl,Nat.le_refl _,drewE.old,fun b r hb h => ?_,fun r hr' _ => heap_alloc_old w.drew _ hr',fun b r' hb h => ?_⟩
      ·rcases drewE.new b r hb h with h1 | h1
       ·exact .inl h1
       ·exact .inr h1
      ·have h2 : c.m b = some (some r') := by
        rcases drewE.old b hb with e | e
        ·rw [← e]; exact h
        ·rw [e] at h; cases h
       simp only [World.shape?]
       rw [heap_alloc_old w.drew _ (hr.lt b r' h2)]; rfl
     exact fin _ he (heap_alloc_old w.drew _ hlt) (.p _ _ (.vsl0 _ _ _ _ _ hn' (Nat.zero_le _)))
    ·refine (string_room r g cp p w hcp0 hg).mono ?_
     rintro e w' ⟨rfl,rfl⟩
     rw [← hz]
     exact fin _ drewE rfl (.p _ _ (.vsl0 _ _ _ _ _ hn' hcp))
   ·have hll : z.data.toList.length = k := by rw [Array.length_toList]; exact hkz.symm
    have hcur : ∀ (j : Nat) (x : UInt8),z.data.toList[j]? = some x → cur[j]? = some (Value.int .u8 x.toNat) := by
     intro j x hx
     have hLj : L[j]? = some (.int .u8 (.sym x.toNat)) := by rw [hL,bytesPV,List.getElem?_map,hx]; rfl
     have h1 := hrel j _ hLj
     have hjl : j < L.length := (List.getElem?_eq_some_iff.1 hLj).1
     rw [Array.getD_eq_getD_getElem?,Array.getElem?_eq_getElem (by omega : j < cur.size)] at h1
     rw [Array.getElem?_eq_getElem (by omega : j < cur.size)]
     generalize cur[j] = q at h1
     have h1 : PR c.mut w (.int .u8 (.sym x.toNat)) q := h1
     cases h1 with | int _ _ m hm => rw [← hm]; rfl
    have hs1 := string_some r g cp p cur z.data.toList w (by intro h; rw [h] at hll; simp at hll; omega) (by rw [hll]; exact hg) hgg (by omega) hcp (by omega) (fun j x hx => by
     rw [add_lit]
     simp only [World.cell?,hgg,Nat.zero_add]
     simpa using hcur j x hx)
    refine hs1.mono ?_
    rintro e w' ⟨rfl,rfl⟩
    have hfg : (w.drew.freeze ⟨g,0,none⟩ z.data.toList.length).heap[g]? = some (.cells cur 5 (0,k)) := by
     have hgg' : w.drew.heap[g]? = some (.cells cur 5 (0,0)) := hgg
     rw [hll]; simp [World.freeze,hk0,Array.getElem?_modify,hgg']
    have hfo : ∀ i,i ≠ g → (w.drew.freeze ⟨g,0,none⟩ z.data.toList.length).heap[i]? = w.heap[i]? := by
     intro i hi
     have hi' : ¬ g = i := fun h => hi h.symm
     rw [hll]; simp [World.freeze,hk0,Array.getElem?_modify,hi']; rfl
    have hfs : (w.drew.freeze ⟨g,0,none⟩ z.data.toList.length).heap.size = w.heap.size := by rw [hll]; simp [World.freeze,hk0]
    have he : Ext c w (c.drop 1) (w.drew.freeze ⟨g,0,none⟩ z.data.toList.length) := by
     refine ⟨by rw [hll]; simp [World.freeze,hk0] <;> rfl,by rw [hll]; simp [World.freeze,hk0] <;> rfl,by rw [hll]; simp [World.freeze,hk0] <;> rfl,by rw [hfs]; exact Nat.le_refl _,rfl,Nat.le_refl _,drewE.old,drewE.new,fun i hi ho => hfo i fun e => ho (by rw [e]; exact ⟨1,hm1⟩),fun b r' hb h => ?_⟩
     have hrg : r' ≠ g := fun e => by
      rw [e] at h
      exact hnM g hm1 (.inr ⟨b,h⟩)
     simp only [World.shape?,hfo r' hrg]
    refine fin _ he (hfo r hgr) (.p _ _ (.vsl _ _ _ ⟨g,0,none⟩ k cp (fun j => cur.getD j Go.undef) hn' rfl (hnM g hm1) (by rw [hfs]; exact hr.lt 1 g hm1) hk' hcp (fun j u hu => ?_) (fun j u hu => (hrel j u hu).ext hr.fresh he)))
    have hjl : j < L.length := (List.getElem?_eq_some_iff.1 hu).1
    rw [add_lit]
    simp only [World.cell?,hfg,Nat.zero_add]
    rw [Array.getD_eq_getD_getElem?,Array.getElem?_eq_getElem (by omega : j < cur.size)]; rfl
end Go.Proofs.YtpbhcdbkmmjimaaGreatDoor
namespace Go.Proofs.YtpbhcdbkmmjimaaGreatDoor
open Go Go.LX
set_option maxRecDepth 100000
set_option linter.unusedVariables false
set_option maxHeartbeats 32000000
theorem bytesPV_append (a b : ByteArray) : bytesPV (a ++ b) = bytesPV a ++ bytesPV b := by
 have : (a ++ b).data.toList = a.data.toList ++ b.data.toList := by rw [ByteArray.data_append,Array.toList_append]
 rw [bytesPV,bytesPV,bytesPV,this,List.map_append]
theorem bytesPV_length (a : ByteArray) : (bytesPV a).length = a.size := by rw [bytesPV,List.length_map,Array.length_toList]; rfl
end Go.Proofs.YtpbhcdbkmmjimaaGreatDoor
namespace Go.Proofs.YtpbhcdbkmmjimaaGreatDoor
open Go Go.LX
set_option maxRecDepth 100000
set_option linter.unusedVariables false
set_option maxHeartbeats 32000000
theorem appendRune_lx (j cc : Int) (L : List PV) (z : ByteArray) (hL : L = bytesPV z) (hj : j = z.size) (h0 : 0 ≤ cc) (h1 : cc ≤ 127) (hm : z.size + 1 ≤ 140737488355328) :
  CallF (fun _ => Tryz.prog) 163 [.sl 0 5 1 (.lit 0) (.sym j),.p (.int .i32 (.sym cc))] [hpP 0 L] 1
   (fun r h n => ∃ (k : Int) (L' : List PV),r = .sl 1 5 1 (.lit 0) (.sym k) ∧ h = [hpP 1 L'] ∧ n = 2 ∧ L' = bytesPV (z ++ ⟨#[cc.toNat.toUInt8]⟩) ∧ k = (z.size : Int) + 1) := by
 refine callF_of_body tok Tryz.func163 (by kernel_rfl) rfl rfl rfl ?_; conv => cbv
 refine Fit.mk (show (0 : Int) ≤ cc by omega) (show cc ≤ 4294967295 by omega) fun u hu => ?_
 have hu : u = cc := hu
 conv => cbv
 refine Br.mk (fun _ => ?_) (fun hc => absurd (show u ≤ 127 by omega) hc)
 conv => cbv
 refine Fit.mk (show (0 : Int) ≤ cc by omega) (show cc ≤ 255 by omega) fun v hv => ?_
 have hv : v = cc := hv
 conv => cbv
 refine Room.new rfl ?_
 conv => cbv
 refine Room.new ⟨by rw [hL,bytesPV_length]; show ((z.size : Nat) : Int) = j * 1; omega,by show (j + 1) * 1 ≤ 140737488355328; omega,by show j + 1 ≤ 9223372036854775807; omega⟩ ?_
 conv => cbv
 refine Upd.mk fun L2 hL2 => ?_
 have hL2 : L2 = L ++ [.int .u8 (.sym v)] := hL2
 conv => cbv
 refine Sum.mk fun k hk => ?_
 have hk : k = j + 1 := hk
 have hk2 : k = (z.size : Int) + 1 := by rw [hk,hj]
 conv => cbv
 refine RetF.mk [.sl 1 5 1 (.lit 0) (.sym k)] [hpP 1 L2] 2 (Re.at [(2,1)] []) rfl ⟨k,L2,rfl,rfl,rfl,?_,hk2⟩
 have hb : ((cc.toNat.toUInt8).toNat : Int) = v := by
  have : cc.toNat.toUInt8.toNat = cc.toNat := by rw [Nat.toUInt8,UInt8.toNat_ofNat']; omega
  omega
 rw [hL2,hL,bytesPV_append]
 show _ = bytesPV z ++ [PV.int .u8 (.sym ((cc.toNat.toUInt8).toNat : Int))]
 rw [hb]
theorem writeRune_lx (j cc : Int) (L : List PV) (z : ByteArray) (hL : L = bytesPV z) (hj : j = z.size) (h0 : 0 ≤ cc) (h1 : cc ≤ 127) (hm : z.size + 1 ≤ 140737488355328) :
  CallF (fun _ => Tryz.prog) 149 [.ptr 0 (.lit 0),.p (.int .i32 (.sym cc))] [(0,.bld 182 [.sl 1 5 1 (.lit 0) (.sym j)]),hpP 1 L] 2
   (fun r h n => ∃ (m k : Int) (L' : List PV),r = .tup [i6 m,.p .nilif] ∧ h = [hpP 2 L',(0,.bld 182 [.sl 2 5 1 (.lit 0) (.sym k)])] ∧ n = 3 ∧ L' = bytesPV (z ++ ⟨#[cc.toNat.toUInt8]⟩) ∧ k = (z ++ ⟨#[cc.toNat.toUInt8]⟩).size) := by
 refine callF_of_body tok Tryz.func149 (by kernel_rfl) rfl rfl rfl ?_; conv => cbv
 refine cfr (copyCheck_lx (.sl 1 5 1 (.lit 0) (.sym j)) (.pure true L)) [(0,0),(1,1)] (fun r h' n' ⟨e1,e2,e3⟩ => ?_)
 subst e1 e2 e3
 conv => cbv
 refine callF_frame (appendRune_lx j cc L z hL hj h0 h1 hm) [(0,1)] rfl (by simp [hmapOk,nget,hget,renB,okB]) rfl rfl (fun r h' n' ⟨k,L2,e1,e2,e3,hL2,hk⟩ => ?_)
 subst e1 e2 e3
 conv => cbv
 refine Fit.mk (show (-9223372036854775808 : Int) ≤ k - j by omega) (show k - j ≤ 9223372036854775807 by omega) fun m hm2 => ?_
 conv => cbv
 have hk2 : k = (z ++ ⟨#[cc.toNat.toUInt8]⟩ : ByteArray).size := by rw [ByteArray.size_append,hk]; rfl
 refine RetF.mk [i6 m,.p .nilif] [hpP 2 L2,(0,.bld 182 [.sl 2 5 1 (.lit 0) (.sym k)])] 3 (Re.at [(0,0),(2,2)] []) rfl ⟨m,k,L2,rfl,rfl,rfl,hL2,hk2⟩
end Go.Proofs.YtpbhcdbkmmjimaaGreatDoor
namespace Go.Proofs
open Go.Shelf
set_option maxHeartbeats 32000000
def Tryz.laysM171_ren : Go.Shelf.Ren := ⟨fun | 171 => 128 | 243 => 139 | 246 => 145 | 283 => 152 | 284 => 153 | 285 => 154 | 286 => 155 | 129 => 170 | 317 => 169 | 318 => 171 | 319 => 172 | 320 => 173 | 337 => 184 | 338 => 185 | n => n,fun | 3 => 3 | 9 => 9 | 2 => 2 | 4 => 4 | 171 => 186 | 0 => 0 | 53 => 187 | 37 => 180 | 5 => 5 | 173 => 190 | 212 => 204 | 51 => 205 | 20 => 20 | 213 => 206 | 46 => 49 | 232 => 227 | 233 => 228 | n => n,fun | 17 => 0 | 18 => 3 | 19 => 4 | n => n⟩
theorem Tryz.laysM171 : Go.Proofs.LaysM.n171 Tryz.prog Tryz.laysM171_ren := {
 mixed := by kernel_rfl
 f129 := Tryz.func170.trans (congrArg some (by kernel_rfl))
 f171 := Tryz.func128.trans (congrArg some (by kernel_rfl))
 f243 := Tryz.func139.trans (congrArg some (by kernel_rfl))
 f246 := Tryz.func145.trans (congrArg some (by kernel_rfl))
 f283 := Tryz.func152.trans (congrArg some (by kernel_rfl))
 f284 := Tryz.func153.trans (congrArg some (by kernel_rfl))
 f285 := Tryz.func154.trans (congrArg some (by kernel_rfl))
 f286 := Tryz.func155.trans (congrArg some (by kernel_rfl))
 f317 := Tryz.func169.trans (congrArg some (by kernel_rfl))
 f318 := Tryz.func171.trans (congrArg some (by kernel_rfl))
 f319 := Tryz.func172.trans (congrArg some (by kernel_rfl))
 f320 := Tryz.func173.trans (congrArg some (by kernel_rfl))
 f337 := Tryz.func184.trans (congrArg some (by kernel_rfl))
 f338 := Tryz.func185.trans (congrArg some (by kernel_rfl))
 t0 := Tryz.underlying0
 a0 := Tryz.isAgg0
 z0 := Tryz.sizeOf0
 v0 := Tryz.zeroValue0
 t2 := Tryz.underlying2
 a2 := Tryz.isAgg2
 z2 := Tryz.sizeOf2
 v2 := Tryz.zeroValue2
 t3 := Tryz.underlying3
 a3 := Tryz.isAgg3
 z3 := Tryz.sizeOf3
 v3 := Tryz.zeroValue3
 t4 := Tryz.underlying4
 a4 := Tryz.isAgg4
 z4 := Tryz.sizeOf4
 v4 := Tryz.zeroValue4
 t5 := Tryz.underlying5
 a5 := Tryz.isAgg5
 z5 := Tryz.sizeOf5
 v5 := Tryz.zeroValue5
 t9 := Tryz.underlying9
 a9 := Tryz.isAgg9
 z9 := Tryz.sizeOf9
 v9 := Tryz.zeroValue9
 t20 := Tryz.underlying20
 a20 := Tryz.isAgg20
 z20 := Tryz.sizeOf20
 v20 := Tryz.zeroValue20
 t37 := Tryz.underlying180
 a37 := Tryz.isAgg180
 z37 := Tryz.sizeOf180
 v37 := Tryz.zeroValue180
 t46 := Tryz.underlying49
 a46 := Tryz.isAgg49
 z46 := Tryz.sizeOf49
 v46 := Tryz.zeroValue49
 t51 := Tryz.underlying205
 a51 := Tryz.isAgg205
 z51 := Tryz.sizeOf205
 v51 := Tryz.zeroValue205
 t53 := Tryz.underlying187
 a53 := Tryz.isAgg187
 z53 := Tryz.sizeOf187
 v53 := Tryz.zeroValue187
 t171 := Tryz.underlying186
 a171 := Tryz.isAgg186
 z171 := Tryz.sizeOf186
 v171 := Tryz.zeroValue186
 t173 := Tryz.underlying190
 a173 := Tryz.isAgg190
 z173 := Tryz.sizeOf190
 v173 := Tryz.zeroValue190
 t212 := Tryz.underlying204
 a212 := Tryz.isAgg204
 z212 := Tryz.sizeOf204
 v212 := Tryz.zeroValue204
 t213 := Tryz.underlying206
 a213 := Tryz.isAgg206
 z213 := Tryz.sizeOf206
 t232 := Tryz.underlying227
 a232 := Tryz.isAgg227
 z232 := Tryz.sizeOf227
 v232 := Tryz.zeroValue227
 t233 := Tryz.underlying228
 a233 := Tryz.isAgg228
 z233 := Tryz.sizeOf228
 v233 := Tryz.zeroValue228
 g17 := by kernel_rfl
 g18 := by kernel_rfl
 g19 := by kernel_rfl
 i0 := by kernel_rfl
 i2 := by kernel_rfl
 i3 := by kernel_rfl
 i4 := by kernel_rfl
 i5 := by kernel_rfl
 i9 := by kernel_rfl
 i20 := by kernel_rfl
 i37 := by kernel_rfl
 i46 := by kernel_rfl
 i51 := by kernel_rfl
 i53 := by kernel_rfl
 i171 := by kernel_rfl
 i173 := by kernel_rfl
 i212 := by kernel_rfl
 i232 := by kernel_rfl
 i233 := by kernel_rfl
 m17 := by kernel_rfl
 m18 := by kernel_rfl
 m19 := by kernel_rfl }
open Go.RowKit Go.Sort Go.Lib in
theorem Tryz.strconv_Itoa (n : Int) (h0 : -9223372036854775808 ≤ n) (h1 : n ≤ 9223372036854775807) (w : World) (htab : Lib.TabIs Tryz.prog w "internal/strconv.uint64pow10" .u64 Lib.pow10Tab) :
  Calls Tryz.prog 128 #[.int .i64 n] w fun e w' => e = .returned (.string ⟨(Lib.itoa n).toArray⟩) ∧ ∃ k os,w' = grow (w.drewN k) os := Any.strconv_Itoa Tryz.laysM171 n h0 h1 w htab
def Tryz.laysC172_ren : Go.Shelf.Ren := ⟨fun | 172 => 141 | 244 => 147 | 245 => 148 | 247 => 157 | 279 => 158 | 280 => 159 | 281 => 160 | 282 => 161 | 287 => 175 | 316 => 176 | 171 => 128 | 205 => 177 | 321 => 186 | 322 => 187 | 243 => 139 | 246 => 145 | 283 => 152 | 284 => 153 | 285 => 154 | 286 => 155 | 129 => 170 | 317 => 169 | 318 => 171 | 319 => 172 | 320 => 173 | 337 => 184 | 338 => 185 | n => n,fun | 9 => 9 | 3 => 3 | 75 => 169 | 76 => 170 | 4 => 4 | 5 => 5 | 167 => 192 | 37 => 180 | 0 => 0 | 85 => 193 | 2 => 2 | 168 => 195 | 53 => 187 | 175 => 208 | 46 => 49 | 210 => 212 | 127 => 199 | 145 => 225 | 143 => 223 | 21 => 21 | 171 => 186 | 173 => 190 | 212 => 204 | 51 => 205 | 20 => 20 | 213 => 206 | 232 => 227 | 233 => 228 | 80 => 184 | n => n,fun | 15 => 1 | 16 => 2 | 17 => 0 | 18 => 3 | 19 => 4 | n => n⟩
theorem Tryz.laysC172 : Go.Proofs.LaysC.n172 Tryz.prog Tryz.laysC172_ren := {
 mixed := by kernel_rfl
 f129 := Tryz.func170.trans (congrArg some (by kernel_rfl))
 f171 := Tryz.func128.trans (congrArg some (by kernel_rfl))
 f172 := Tryz.func141.trans (congrArg some (by kernel_rfl))
 f205 := Tryz.func177.trans (congrArg some (by kernel_rfl))
 f243 := Tryz.func139.trans (congrArg some (by kernel_rfl))
 f244 := Tryz.func147.trans (congrArg some (by kernel_rfl))
 f245 := Tryz.func148.trans (congrArg some (by kernel_rfl))
 f246 := Tryz.func145.trans (congrArg some (by kernel_rfl))
 f247 := Tryz.func157.trans (congrArg some (by kernel_rfl))
 f279 := Tryz.func158.trans (congrArg some (by kernel_rfl))
 f280 := Tryz.func159.trans (congrArg some (by kernel_rfl))
 f281 := Tryz.func160.trans (congrArg some (by kernel_rfl))
 f282 := Tryz.func161.trans (congrArg some (by kernel_rfl))
 f283 := Tryz.func152.trans (congrArg some (by kernel_rfl))
 f284 := Tryz.func153.trans (congrArg some (by kernel_rfl))
 f285 := Tryz.func154.trans (congrArg some (by kernel_rfl))
 f286 := Tryz.func155.trans (congrArg some (by kernel_rfl))
 f287 := Tryz.func175.trans (congrArg some (by kernel_rfl))
 f316 := Tryz.func176.trans (congrArg some (by kernel_rfl))
 f317 := Tryz.func169.trans (congrArg some (by kernel_rfl))
 f318 := Tryz.func171.trans (congrArg some (by kernel_rfl))
 f319 := Tryz.func172.trans (congrArg some (by kernel_rfl))
 f320 := Tryz.func173.trans (congrArg some (by kernel_rfl))
 f321 := Tryz.func186.trans (congrArg some (by kernel_rfl))
 f322 := Tryz.func187.trans (congrArg some (by kernel_rfl))
 f337 := Tryz.func184.trans (congrArg some (by kernel_rfl))
 f338 := Tryz.func185.trans (congrArg some (by kernel_rfl))
 t0 := Tryz.underlying0
 a0 := Tryz.isAgg0
 z0 := Tryz.sizeOf0
 v0 := Tryz.zeroValue0
 t2 := Tryz.underlying2
 a2 := Tryz.isAgg2
 z2 := Tryz.sizeOf2
 v2 := Tryz.zeroValue2
 t3 := Tryz.underlying3
 a3 := Tryz.isAgg3
 z3 := Tryz.sizeOf3
 v3 := Tryz.zeroValue3
 t4 := Tryz.underlying4
 a4 := Tryz.isAgg4
 z4 := Tryz.sizeOf4
 v4 := Tryz.zeroValue4
 t5 := Tryz.underlying5
 a5 := Tryz.isAgg5
 z5 := Tryz.sizeOf5
 v5 := Tryz.zeroValue5
 t9 := Tryz.underlying9
 a9 := Tryz.isAgg9
 z9 := Tryz.sizeOf9
 v9 := Tryz.zeroValue9
 t20 := Tryz.underlying20
 a20 := Tryz.isAgg20
 z20 := Tryz.sizeOf20
 v20 := Tryz.zeroValue20
 t21 := Tryz.underlying21
 a21 := Tryz.isAgg21
 z21 := Tryz.sizeOf21
 v21 := Tryz.zeroValue21
 t37 := Tryz.underlying180
 a37 := Tryz.isAgg180
 z37 := Tryz.sizeOf180
 v37 := Tryz.zeroValue180
 t46 := Tryz.underlying49
 a46 := Tryz.isAgg49
 z46 := Tryz.sizeOf49
 v46 := Tryz.zeroValue49
 t51 := Tryz.underlying205
 a51 := Tryz.isAgg205
 z51 := Tryz.sizeOf205
 v51 := Tryz.zeroValue205
 t53 := Tryz.underlying187
 a53 := Tryz.isAgg187
 z53 := Tryz.sizeOf187
 v53 := Tryz.zeroValue187
 t75 := Tryz.underlying169
 a75 := Tryz.isAgg169
 z75 := Tryz.sizeOf169
 v75 := Tryz.zeroValue169
 t76 := Tryz.underlying170
 a76 := Tryz.isAgg170
 z76 := Tryz.sizeOf170
 v76 := Tryz.zeroValue170
 t85 := Tryz.underlying193
 a85 := Tryz.isAgg193
 z85 := Tryz.sizeOf193
 v85 := Tryz.zeroValue193
 t127 := Tryz.underlying199
 a127 := Tryz.isAgg199
 z127 := Tryz.sizeOf199
 v127 := Tryz.zeroValue199
 t143 := Tryz.underlying223
 a143 := Tryz.isAgg223
 z143 := Tryz.sizeOf223
 v143 := Tryz.zeroValue223
 t145 := Tryz.underlying225
 a145 := Tryz.isAgg225
 z145 := Tryz.sizeOf225
 v145 := Tryz.zeroValue225
 t167 := Tryz.underlying192
 a167 := Tryz.isAgg192
 z167 := Tryz.sizeOf192
 v167 := Tryz.zeroValue192
 t168 := Tryz.underlying195
 a168 := Tryz.isAgg195
 z168 := Tryz.sizeOf195
 v168 := Tryz.zeroValue195
 t171 := Tryz.underlying186
 a171 := Tryz.isAgg186
 z171 := Tryz.sizeOf186
 v171 := Tryz.zeroValue186
 t173 := Tryz.underlying190
 a173 := Tryz.isAgg190
 z173 := Tryz.sizeOf190
 v173 := Tryz.zeroValue190
 t175 := Tryz.underlying208
 a175 := Tryz.isAgg208
 z175 := Tryz.sizeOf208
 v175 := Tryz.zeroValue208
 t210 := Tryz.underlying212
 a210 := Tryz.isAgg212
 z210 := Tryz.sizeOf212
 v210 := Tryz.zeroValue212
 t212 := Tryz.underlying204
 a212 := Tryz.isAgg204
 z212 := Tryz.sizeOf204
 v212 := Tryz.zeroValue204
 t213 := Tryz.underlying206
 a213 := Tryz.isAgg206
 z213 := Tryz.sizeOf206
 t232 := Tryz.underlying227
 a232 := Tryz.isAgg227
 z232 := Tryz.sizeOf227
 v232 := Tryz.zeroValue227
 t233 := Tryz.underlying228
 a233 := Tryz.isAgg228
 z233 := Tryz.sizeOf228
 v233 := Tryz.zeroValue228
 g15 := by kernel_rfl
 g16 := by kernel_rfl
 g17 := by kernel_rfl
 g18 := by kernel_rfl
 g19 := by kernel_rfl
 t80 := Tryz.underlying184
 a80 := Tryz.isAgg184
 z80 := Tryz.sizeOf184
 v80 := Tryz.zeroValue184
 i0 := by kernel_rfl
 i2 := by kernel_rfl
 i3 := by kernel_rfl
 i4 := by kernel_rfl
 i5 := by kernel_rfl
 i9 := by kernel_rfl
 i20 := by kernel_rfl
 i21 := by kernel_rfl
 i37 := by kernel_rfl
 i46 := by kernel_rfl
 i51 := by kernel_rfl
 i53 := by kernel_rfl
 i75 := by kernel_rfl
 i76 := by kernel_rfl
 i80 := by kernel_rfl
 i85 := by kernel_rfl
 i127 := by kernel_rfl
 i143 := by kernel_rfl
 i145 := by kernel_rfl
 i167 := by kernel_rfl
 i168 := by kernel_rfl
 i171 := by kernel_rfl
 i173 := by kernel_rfl
 i175 := by kernel_rfl
 i210 := by kernel_rfl
 i212 := by kernel_rfl
 i232 := by kernel_rfl
 i233 := by kernel_rfl
 m15 := by kernel_rfl
 m16 := by kernel_rfl
 m17 := by kernel_rfl
 m18 := by kernel_rfl
 m19 := by kernel_rfl
 c0 := by kernel_rfl
 c2 := by kernel_rfl
 c3 := by kernel_rfl
 c4 := by kernel_rfl
 c5 := by kernel_rfl
 c9 := by kernel_rfl
 c20 := by kernel_rfl
 c21 := by kernel_rfl
 c37 := by kernel_rfl
 c46 := by kernel_rfl
 c51 := by kernel_rfl
 c53 := by kernel_rfl
 c75 := by kernel_rfl
 c76 := by kernel_rfl
 c80 := by kernel_rfl
 c85 := by kernel_rfl
 c127 := by kernel_rfl
 c143 := by kernel_rfl
 c145 := by kernel_rfl
 c167 := by kernel_rfl
 c168 := by kernel_rfl
 c171 := by kernel_rfl
 c173 := by kernel_rfl
 c175 := by kernel_rfl
 c210 := by kernel_rfl
 c212 := by kernel_rfl
 c213 := by kernel_rfl
 c232 := by kernel_rfl
 c233 := by kernel_rfl }
open Go.RowKit in
theorem Tryz.strconv_Atoi_ok (s : ByteArray) (hmax : s.size ≤ 9223372036854775806) (v : Int) (h : Lib.atoiAll s.data.toList = .ok v) (w : World) :
  Calls Tryz.prog 141 #[.string s] w fun e w' => e = .returned (.tuple #[.int .i64 v,.nilIface]) ∧ (w' = w ∨ ∃ t,w' = Lib.bytesWorld w 5 t) := Any.strconv_Atoi_ok Tryz.laysC172 s hmax v h w
def Tryz.lays102_ren : Go.Shelf.Ren := ⟨fun | 102 => 146 | 209 => 156 | 207 => 174 | n => n,fun | 9 => 9 | 4 => 4 | 3 => 3 | n => n,fun | n => n⟩
theorem Tryz.lays102 : Go.Proofs.Lays.n102 Tryz.prog Tryz.lays102_ren := {
 mixed := by kernel_rfl
 f102 := Tryz.func146.trans (congrArg some (by kernel_rfl))
 f207 := Tryz.func174.trans (congrArg some (by kernel_rfl))
 f209 := Tryz.func156.trans (congrArg some (by kernel_rfl))
 t3 := Tryz.underlying3
 a3 := Tryz.isAgg3
 z3 := Tryz.sizeOf3
 v3 := Tryz.zeroValue3
 t4 := Tryz.underlying4
 a4 := Tryz.isAgg4
 z4 := Tryz.sizeOf4
 v4 := Tryz.zeroValue4
 t9 := Tryz.underlying9
 a9 := Tryz.isAgg9
 z9 := Tryz.sizeOf9
 v9 := Tryz.zeroValue9 }
open Go.RowKit Go.Lib in
theorem Tryz.strings_TrimSuffix (s p : ByteArray) (w : World) (hs : s.size ≤ 9223372036854775807) :
  Calls Tryz.prog 146 #[.string s,.string p] w fun e w' => e = .returned (.string ⟨(Lib.trimSuffix s.data.toList p.data.toList).toArray⟩) ∧ w' = w := Any.strings_TrimSuffix Tryz.lays102 s p w hs
def Tryz.lays105_ren : Go.Shelf.Ren := ⟨fun | 105 => 151 | 212 => 164 | 99 => 165 | 165 => 166 | 166 => 167 | 170 => 168 | 169 => 150 | 263 => 180 | 264 => 181 | 206 => 182 | 240 => 162 | 241 => 183 | 276 => 178 | 277 => 188 | n => n,fun | 9 => 9 | 3 => 3 | 4 => 4 | 20 => 20 | 0 => 0 | 46 => 49 | 109 => 200 | 5 => 5 | 72 => 182 | 76 => 170 | 51 => 205 | 146 => 216 | 53 => 187 | 148 => 218 | 70 => 179 | 37 => 180 | 75 => 169 | 127 => 199 | 164 => 214 | 80 => 184 | n => n,fun | n => n⟩
theorem Tryz.lays105 : Go.Proofs.Lays.n105 Tryz.prog Tryz.lays105_ren := {
 mixed := by kernel_rfl
 f99 := Tryz.func165.trans (congrArg some (by kernel_rfl))
 f105 := Tryz.func151.trans (congrArg some (by kernel_rfl))
 f165 := Tryz.func166.trans (congrArg some (by kernel_rfl))
 f166 := Tryz.func167.trans (congrArg some (by kernel_rfl))
 f169 := Tryz.func150.trans (congrArg some (by kernel_rfl))
 f170 := Tryz.func168.trans (congrArg some (by kernel_rfl))
 f206 := Tryz.func182.trans (congrArg some (by kernel_rfl))
 f212 := Tryz.func164.trans (congrArg some (by kernel_rfl))
 f240 := Tryz.func162.trans (congrArg some (by kernel_rfl))
 f241 := Tryz.func183.trans (congrArg some (by kernel_rfl))
 f263 := Tryz.func180.trans (congrArg some (by kernel_rfl))
 f264 := Tryz.func181.trans (congrArg some (by kernel_rfl))
 f276 := Tryz.func178.trans (congrArg some (by kernel_rfl))
 f277 := Tryz.func188.trans (congrArg some (by kernel_rfl))
 t0 := Tryz.underlying0
 a0 := Tryz.isAgg0
 z0 := Tryz.sizeOf0
 v0 := Tryz.zeroValue0
 t3 := Tryz.underlying3
 a3 := Tryz.isAgg3
 z3 := Tryz.sizeOf3
 v3 := Tryz.zeroValue3
 t4 := Tryz.underlying4
 a4 := Tryz.isAgg4
 z4 := Tryz.sizeOf4
 v4 := Tryz.zeroValue4
 t5 := Tryz.underlying5
 a5 := Tryz.isAgg5
 z5 := Tryz.sizeOf5
 v5 := Tryz.zeroValue5
 t9 := Tryz.underlying9
 a9 := Tryz.isAgg9
 z9 := Tryz.sizeOf9
 v9 := Tryz.zeroValue9
 t20 := Tryz.underlying20
 a20 := Tryz.isAgg20
 z20 := Tryz.sizeOf20
 v20 := Tryz.zeroValue20
 t37 := Tryz.underlying180
 a37 := Tryz.isAgg180
 z37 := Tryz.sizeOf180
 v37 := Tryz.zeroValue180
 t46 := Tryz.underlying49
 a46 := Tryz.isAgg49
 z46 := Tryz.sizeOf49
 v46 := Tryz.zeroValue49
 t51 := Tryz.underlying205
 a51 := Tryz.isAgg205
 z51 := Tryz.sizeOf205
 v51 := Tryz.zeroValue205
 t53 := Tryz.underlying187
 a53 := Tryz.isAgg187
 z53 := Tryz.sizeOf187
 v53 := Tryz.zeroValue187
 t70 := Tryz.underlying179
 a70 := Tryz.isAgg179
 z70 := Tryz.sizeOf179
 v70 := Tryz.zeroValue179
 t72 := Tryz.underlying182
 a72 := Tryz.isAgg182
 z72 := Tryz.sizeOf182
 v72 := Tryz.zeroValue182
 t75 := Tryz.underlying169
 a75 := Tryz.isAgg169
 z75 := Tryz.sizeOf169
 v75 := Tryz.zeroValue169
 t76 := Tryz.underlying170
 a76 := Tryz.isAgg170
 z76 := Tryz.sizeOf170
 v76 := Tryz.zeroValue170
 t109 := Tryz.underlying200
 a109 := Tryz.isAgg200
 z109 := Tryz.sizeOf200
 v109 := Tryz.zeroValue200
 t127 := Tryz.underlying199
 a127 := Tryz.isAgg199
 z127 := Tryz.sizeOf199
 v127 := Tryz.zeroValue199
 t146 := Tryz.underlying216
 a146 := Tryz.isAgg216
 z146 := Tryz.sizeOf216
 v146 := Tryz.zeroValue216
 t148 := Tryz.underlying218
 a148 := Tryz.isAgg218
 z148 := Tryz.sizeOf218
 v148 := Tryz.zeroValue218
 t164 := Tryz.underlying214
 a164 := Tryz.isAgg214
 z164 := Tryz.sizeOf214
 v164 := Tryz.zeroValue214 }
theorem Tryz.Builder_Extra_105 : Builder.Extra Tryz.prog Tryz.lays105_ren := {
 sizeBuilder := by kernel_rfl
 liesBuilder := by kernel_rfl
 t5 := Tryz.underlying5
 a5 := Tryz.isAgg5
 z5 := Tryz.sizeOf5
 v5 := Tryz.zeroValue5
 infoByte := by kernel_rfl
 cellsByte := by kernel_rfl
 sizeByte := by kernel_rfl
 neB5 := by decide }
open Go.RowKit Go.Lib in
theorem Tryz.strings_Repeat (s : ByteArray) (c : Nat) (w : World) (hc : c ≤ 9223372036854775807) (hlen : s.size * c ≤ 140737488355328) :
  Calls Tryz.prog 151 #[.string s,.int .i64 c] w fun e w' => e = .returned (.string ⟨(Lib.repeatL s.data.toList c).toArray⟩) ∧ Below w.heap.size w w' := Any.strings_Repeat Tryz.lays105 Tryz.Builder_Extra_105 s c w hc hlen
end Go.Proofs
namespace Go.Proofs.YtpbhcdbkmmjimaaGreatDoor
open Go Go.LX
set_option maxRecDepth 100000
set_option linter.unusedVariables false
set_option linter.unusedSimpArgs false
set_option maxHeartbeats 32000000
theorem dec_at (l : List UInt8) (hl : ∀ c ∈ l,c.toNat < 128) (i : Nat) (c : UInt8) (h : l[i]? = some c) : Utf8.decode ⟨l.toArray⟩ i = (c.toNat,1) := by
 have hi := (List.getElem?_eq_some_iff.1 h).1
 have hc : l[i] = c := (List.getElem?_eq_some_iff.1 h).2
 have hsz : i < (ByteArray.mk l.toArray).size := by show i < l.toArray.size; simpa using hi
 have hg : (ByteArray.mk l.toArray)[i]'hsz = c := by show l.toArray[i]'_ = c; simpa using hc
 have := decode_ascii ⟨l.toArray⟩ i hsz (by rw [hg]; exact hl c (List.mem_of_getElem? h))
 rw [this,hg]
def wordsOf (c : Int) : Int := if c = 0 then 4 else if c = 1 then 8 else if c = 2 then 16 else if c = 3 then 32 else 0
def slotsOf (c : Int) : Nat := if c = 0 then 8 else if c = 1 then 4 else if c = 2 then 2 else if c = 3 then 1 else 0
theorem words_lx (c w : Int) (hw : w = wordsOf c) : CallF (fun _ => Tryz.prog) 78 [i6 c] [] 0 (fun r h n => r = .p (.int .i64 (.sym w)) ∧ h = [] ∧ n = 0) := by
 obtain ⟨Z,hZ⟩ : ∃ Z : List UInt8,Z = [4,8,16,32] := ⟨_,rfl⟩
 refine callF_of_body tok Tryz.func78 (by kernel_rfl) rfl rfl rfl ?_; conv => cbv
 refine LoopF.mk (fun k s => ∃ pos : Int,s = ⟨.p (.int .i64 (.sym c)) :: .undef :: .undef :: .undef :: .undef :: .ptr 0 (.lit 0) :: undefs 9,[(0,.iter (fun _ => ⟨#[4,8,16,32]⟩) (.sym pos))],1⟩ ∧ 0 ≤ pos ∧ pos ≤ 4 ∧ (c < 0 ∨ pos ≤ c) ∧ k = (4 - pos).toNat) 4 _
  (Re.at [(0,0)] []) ⟨0,rfl,by omega,by omega,by omega,by omega⟩ ?_
 rintro k s ⟨pos,rfl,h0,h4,hno,hk⟩
 conv => cbv
 by_cases hend : pos = 4
 ·have hw0 : w = 0 := by
   rw [hw,wordsOf,if_neg (by omega),if_neg (by omega),if_neg (by omega),if_neg (by omega)]
  refine NextS.over (by show (4 : Int) ≤ pos; omega) ?_
  conv => cbv
  refine RetF.mk [i6 w] [] 0 (Re.at [] []) rfl ⟨rfl,rfl,rfl⟩
 ·obtain ⟨x,hx⟩ : ∃ x,([4,8,16,32] : List UInt8)[pos.toNat]? = some x := ⟨_,List.getElem?_eq_getElem (by simp; omega)⟩
  have hd := dec_at [4,8,16,32] (by decide) pos.toNat x hx
  have hxw : c = pos → (x.toNat : Int) = w := by
   intro e
   have : pos = 0 ∨ pos = 1 ∨ pos = 2 ∨ pos = 3 := by omega
   rcases this with e2 | e2 | e2 | e2 <;> (rw [e2] at hx; rw [hw,e,e2]; have hx := Option.some.inj hx; rw [← hx]; decide)
  refine NextS.more (by show pos < (4 : Int); omega) ?_
  intro r p' hr hp
  have hr : r = (x.toNat : Int) := by
   have : r = ((Utf8.decode ⟨#[4,8,16,32]⟩ pos.toNat).1 : Int) := hr
   rw [this,hd]
  have hp : p' = pos + 1 := by
   have : p' = pos + ((Utf8.decode ⟨#[4,8,16,32]⟩ pos.toNat).2 : Int) := hp
   rw [this,hd]; rfl
  have hx256 : x.toNat < 256 := x.toNat_lt
  obtain ⟨k',rfl⟩ : ∃ k',k = k' + 1 := ⟨k - 1,by omega⟩
  conv => cbv
  refine Br.mk (fun g => ?_) (fun g => ?_)
  ·have g : pos = c := g
   conv => cbv
   refine Fit.mk (by show (-9223372036854775808 : Int) ≤ r; omega) (by show r ≤ 9223372036854775807; omega) fun q hq => ?_
   have hq : q = r := hq
   have hqw : q = w := by rw [hq,hr]; exact hxw g.symm
   conv => cbv
   refine RetF.mk [i6 w] [] 0 (Re.at [] []) rfl ⟨rfl,rfl,rfl⟩
  ·have g : ¬ pos = c := g
   conv => cbv
   refine Again.mk k' _ (Nat.lt_succ_self _) (Re.at [(0,0)] []) ⟨p',rfl,by omega,by omega,by omega,by omega⟩
def mkB (l : List Bool) : List UInt8 := l.map fun b => if b then 120 else 46
theorem mkB_low (l : List Bool) : ∀ c ∈ mkB l,c.toNat < 128 := by
 intro c hc
 obtain ⟨b,_,rfl⟩ := List.mem_map.1 hc
 cases b <;> decide
theorem mk_size (l : List UInt8) : (ByteArray.mk l.toArray).size = l.length := by show l.toArray.size = _; simp
theorem mkB_length (l : List Bool) : (mkB l).length = l.length := List.length_map _
theorem firstUnused_lx (l : List Bool) (z : ByteArray) (hz : z = ⟨(mkB l).toArray⟩) (hl : l.length ≤ 100) : CallF (fun _ => Tryz.prog) 144 [.p (.str fun _ => z)] [] 0
  (fun r h n => (∃ (v : Int) (b : Bool),r = .tup [i6 v,.p (.bool b)] ∧ ((b = true ∧ ∃ i : Nat,v = i ∧ l[i]? = some false ∧ ∀ j,j < i → l[j]? = some true) ∨ (b = false ∧ v = 0 ∧ false ∉ l))) ∧ h = [] ∧ n = 0) := by
 refine callF_of_body tok Tryz.func144 (by kernel_rfl) rfl rfl rfl ?_; conv => cbv
 obtain ⟨N,hN⟩ : ∃ N : Int,N = l.length := ⟨_,rfl⟩
 refine LoopF.mk (fun k s => ∃ (pos : Int),s = ⟨.p (.str fun _ => z) :: .undef :: .undef :: .undef :: .undef :: .undef :: .undef :: .ptr 0 (.lit 0) :: undefs 7,[(0,.iter (fun _ => z) (.sym pos))],1⟩ ∧ 0 ≤ pos ∧ pos ≤ N ∧ (∀ j : Nat,(j : Int) < pos → l[j]? = some true) ∧ k = (N - pos).toNat) N.toNat _
  (Re.at [(0,0)] []) ⟨0,rfl,by omega,by omega,fun j hj => absurd hj (by omega),by omega⟩ ?_
 rintro k s ⟨pos,rfl,h0,h1,hinv,hk⟩
 have hzs : (z.size : Int) = N := by rw [hz,mk_size,mkB_length,hN]
 conv => cbv
 by_cases hend : pos = N
 ·refine NextS.over (by show (z.size : Int) ≤ pos; omega) ?_
  conv => cbv
  refine RetF.mk [i6 0,.p (.bool false)] [] 0 (Re.at [] []) rfl ⟨⟨0,false,rfl,.inr ⟨rfl,rfl,fun h => ?_⟩⟩,rfl,rfl⟩
  obtain ⟨j,hj⟩ := List.getElem?_of_mem h
  have := (List.getElem?_eq_some_iff.1 hj).1
  rw [hinv j (by omega)] at hj
  cases hj
 ·obtain ⟨b,hb⟩ : ∃ b,l[pos.toNat]? = some b := ⟨_,List.getElem?_eq_getElem (by omega)⟩
  have hx : (mkB l)[pos.toNat]? = some (if b then 120 else 46) := by rw [mkB,List.getElem?_map,hb]; rfl
  have hd := dec_at (mkB l) (mkB_low l) pos.toNat _ hx
  rw [← hz] at hd
  refine NextS.more (by show pos < (z.size : Int); omega) ?_
  intro r p' hr hp
  have hr : r = (if b then 120 else 46) := by
   have : r = ((Utf8.decode z pos.toNat).1 : Int) := hr
   rw [this,hd]; cases b <;> rfl
  have hp : p' = pos + 1 := by
   have : p' = pos + ((Utf8.decode z pos.toNat).2 : Int) := hp
   rw [this,hd]; rfl
  obtain ⟨k',rfl⟩ : ∃ k',k = k' + 1 := ⟨k - 1,by omega⟩
  conv => cbv
  refine Br.mk (fun g => ?_) (fun g => ?_)
  ·have g : r = 46 := g
   have hbf : b = false := by
    cases b with
    | false => rfl
    | true => simp at hr; omega
   conv => cbv
   refine RetF.mk [i6 pos,.p (.bool true)] [] 0 (Re.at [] []) rfl ⟨⟨pos,true,rfl,.inl ⟨rfl,pos.toNat,(Int.toNat_of_nonneg h0).symm,by rw [hb,hbf],fun j hj => hinv j (by omega)⟩⟩,rfl,rfl⟩
  ·have g : ¬ r = 46 := g
   have hbt : b = true := by
    cases b with
    | true => rfl
    | false => simp at hr; omega
   have hinv2 : ∀ j : Nat,(j : Int) < p' → l[j]? = some true := fun j hj => by
    by_cases e : (j : Int) = pos
    ·rw [show j = pos.toNat by omega,hb,hbt]
    ·exact hinv j (by omega)
   conv => cbv
   refine Again.mk k' _ (Nat.lt_succ_self _) (Re.at [(0,0)] []) ⟨p',rfl,by omega,by omega,hinv2,by omega⟩
theorem countUsed_lx (l : List Bool) (z : ByteArray) (hz : z = ⟨(mkB l).toArray⟩) (hl : l.length ≤ 100) : CallF (fun _ => Tryz.prog) 105 [.p (.str fun _ => z)] [] 0
  (fun r h n => (∃ v : Int,r = .p (.int .i64 (.sym v)) ∧ v = l.count true) ∧ h = [] ∧ n = 0) := by
 refine callF_of_body tok Tryz.func105 (by kernel_rfl) rfl rfl rfl ?_; conv => cbv
 obtain ⟨N,hN⟩ : ∃ N : Int,N = l.length := ⟨_,rfl⟩
 refine LoopF.mk (fun k s => ∃ (pos cnt : Int),s = ⟨.p (.str fun _ => z) :: .undef :: .undef :: .p (.int .i64 (.sym cnt)) :: .undef :: .undef :: .undef :: .ptr 0 (.lit 0) :: undefs 8,[(0,.iter (fun _ => z) (.sym pos))],1⟩ ∧ 0 ≤ pos ∧ pos ≤ N ∧ cnt = (l.take pos.toNat).count true ∧ k = (N - pos).toNat) N.toNat _
  (Re.at [(0,0)] []) ⟨0,0,rfl,by omega,by omega,by simp,by omega⟩ ?_
 rintro k s ⟨pos,cnt,rfl,h0,h1,hinv,hk⟩
 have hzs : (z.size : Int) = N := by rw [hz,mk_size,mkB_length,hN]
 conv => cbv
 by_cases hend : pos = N
 ·refine NextS.over (by show (z.size : Int) ≤ pos; omega) ?_
  conv => cbv
  refine RetF.mk [i6 cnt] [] 0 (Re.at [] []) rfl ⟨⟨cnt,rfl,?_⟩,rfl,rfl⟩
  rw [hinv,List.take_of_length_le (by omega)]
 ·obtain ⟨b,hb⟩ : ∃ b,l[pos.toNat]? = some b := ⟨_,List.getElem?_eq_getElem (by omega)⟩
  have hx : (mkB l)[pos.toNat]? = some (if b then 120 else 46) := by rw [mkB,List.getElem?_map,hb]; rfl
  have hd := dec_at (mkB l) (mkB_low l) pos.toNat _ hx
  rw [← hz] at hd
  refine NextS.more (by show pos < (z.size : Int); omega) ?_
  intro r p' hr hp
  have hr : r = (if b then 120 else 46) := by
   have : r = ((Utf8.decode z pos.toNat).1 : Int) := hr
   rw [this,hd]; cases b <;> rfl
  have hp : p' = pos + 1 := by
   have : p' = pos + ((Utf8.decode z pos.toNat).2 : Int) := hp
   rw [this,hd]; rfl
  obtain ⟨k',rfl⟩ : ∃ k',k = k' + 1 := ⟨k - 1,by omega⟩
  conv => cbv
  refine Br.mk (fun g => ?_) (fun g => ?_)
  ·have g : r = 120 := g
   have hbt : b = true := by
    cases b with
    | true => rfl
    | false => simp at hr; omega
   have hcl := List.count_le_length (a := true) (l := l.take pos.toNat)
   have htl : (l.take pos.toNat).length ≤ 100 := by rw [List.length_take]; omega
   conv => cbv
   refine Fit.mk (by show (-9223372036854775808 : Int) ≤ cnt + 1; omega) (by show cnt + 1 ≤ 9223372036854775807; omega) fun c2 hc2 => ?_
   have hc2 : c2 = cnt + 1 := hc2
   have q : c2 = (l.take p'.toNat).count true := by
    rw [show p'.toNat = pos.toNat + 1 by omega,List.take_add_one,hb,hbt,List.count_append,hc2,hinv]; simp
   conv => cbv
   refine Again.mk k' _ (Nat.lt_succ_self _) (Re.at [(0,0)] []) ⟨p',c2,rfl,by omega,by omega,q,by omega⟩
  ·have g : ¬ r = 120 := g
   have hbf : b = false := by
    cases b with
    | false => rfl
    | true => simp at hr; omega
   have q : cnt = (l.take p'.toNat).count true := by
    rw [show p'.toNat = pos.toNat + 1 by omega,List.take_add_one,hb,hbf,List.count_append,hinv]; simp
   conv => cbv
   refine Again.mk k' _ (Nat.lt_succ_self _) (Re.at [(0,0)] []) ⟨p',cnt,rfl,by omega,by omega,q,by omega⟩
theorem slots_lx (c k : Int) (hk : k = slotsOf c) : CallF (fun _ => Tryz.prog) 76 [i6 c] [] 0 (fun r h n => r = .p (.int .i64 (.sym k)) ∧ h = [] ∧ n = 0) := by
 obtain ⟨w,hw⟩ : ∃ w,w = wordsOf c := ⟨_,rfl⟩
 refine callF_of_body tok Tryz.func76 (by kernel_rfl) rfl rfl rfl ?_; conv => cbv
 refine callF_frame (words_lx c w hw) [] rfl trivial rfl rfl (fun r h' n' ⟨e1,e2,e3⟩ => ?_)
 subst e1 e2 e3
 conv => cbv
 have hk2 : k = (if w = 0 then 0 else (32 : Int).tdiv w) := by
  rw [hk,hw,slotsOf,wordsOf]
  by_cases h0 : c = 0
  ·rw [if_pos h0,if_pos h0]; rfl
  ·by_cases h1 : c = 1
   ·rw [if_neg h0,if_pos h1,if_neg h0,if_pos h1]; rfl
   ·by_cases h2 : c = 2
    ·rw [if_neg h0,if_neg h1,if_pos h2,if_neg h0,if_neg h1,if_pos h2]; rfl
    ·by_cases h3 : c = 3
     ·rw [if_neg h0,if_neg h1,if_neg h2,if_pos h3,if_neg h0,if_neg h1,if_neg h2,if_pos h3]; rfl
     ·rw [if_neg h0,if_neg h1,if_neg h2,if_neg h3,if_neg h0,if_neg h1,if_neg h2,if_neg h3]; rfl
 have hk8 : 0 ≤ k ∧ k ≤ 8 := by
  rw [hk]; unfold slotsOf; split
  ·omega
  ·split
   ·omega
   ·split
    ·omega
    ·split <;> omega
 refine Br.mk (fun g => ?_) (fun g => ?_)
 ·have g : w = 0 := g
  rw [if_pos g] at hk2
  conv => cbv
  refine RetF.mk [i6 k] [] 0 (Re.at [] []) rfl ⟨rfl,rfl,rfl⟩
 ·have g : ¬ w = 0 := g
  rw [if_neg g] at hk2
  conv => cbv
  refine Need.mk (show w ≠ 0 from g) ?_
  conv => cbv
  refine Fit.mk (by show (-9223372036854775808 : Int) ≤ Int.tdiv 32 w; omega) (by show Int.tdiv 32 w ≤ 9223372036854775807; omega) fun q hq => ?_
  have hq : q = Int.tdiv 32 w := hq
  have hqk : q = k := by rw [hq,hk2]
  conv => cbv
  refine RetF.mk [i6 k] [] 0 (Re.at [] []) rfl ⟨rfl,rfl,rfl⟩
end Go.Proofs.YtpbhcdbkmmjimaaGreatDoor
namespace Go.Proofs.YtpbhcdbkmmjimaaGreatDoor
open Go Go.LX
set_option maxRecDepth 100000
set_option linter.unusedVariables false
set_option linter.unusedSimpArgs false
set_option maxHeartbeats 32000000
abbrev Rw := Int × List Bool
def rpv : List Rw → List PV
 | [] => []
 | (c,l) :: R => .int .i64 (.sym c) :: .str (fun _ => ⟨(mkB l).toArray⟩) :: rpv R
theorem rpv_length : ∀ R : List Rw,(rpv R).length = 2 * R.length
 | [] => rfl
 | (c,l) :: R => by simp [rpv,rpv_length R]; omega
theorem rpv_get : ∀ (R : List Rw) (i : Nat) (e : Rw),R[i]? = some e → (rpv R)[2 * i]? = some (.int .i64 (.sym e.1)) ∧ (rpv R)[2 * i + 1]? = some (.str fun _ => ⟨(mkB e.2).toArray⟩)
 | [],i,e,h => by simp at h
 | (c,l) :: R,0,e,h => by simp at h; subst h; exact ⟨rfl,rfl⟩
 | (c,l) :: R,i + 1,e,h => by
  have := rpv_get R i e (by simpa using h)
  rw [show 2 * (i + 1) = 2 * i + 1 + 1 by omega]
  simpa [rpv] using this
theorem repeatL_dot : ∀ k,Lib.repeatL [46] k = mkB (List.replicate k false)
 | 0 => rfl
 | k + 1 => by rw [Lib.repeatL,repeatL_dot k,List.replicate_succ]; rfl
theorem repeat_lx (k : Nat) (z : ByteArray) (hz : z = ⟨(mkB (List.replicate k false)).toArray⟩) (hk : k ≤ 100) :
  CallF (fun _ => Tryz.prog) 151 [.p (.str fun _ => ⟨#[46]⟩),i6 k] [] 0 (fun r h n => r = .p (.str fun _ => z) ∧ h = [] ∧ n = 0) := by
 refine callF_calls (K := fun r => r = .p (.str fun _ => z)) ⟨_,_,Tryz.func151,by kernel_rfl,rfl⟩ fun c w xs hr hN hl hrel => ?_
 have h0 := hrel 0 _ rfl
 have h1 := hrel 1 _ rfl
 obtain ⟨x,y,rfl⟩ : ∃ x y,xs = #[x,y] := by
  rcases xs with ⟨l⟩
  match l,hl with
  | [x,y],_ => exact ⟨x,y,rfl⟩
 have hx : x = .string ⟨#[46]⟩ := LR.inv_str h0
 have hy : y = .int .i64 k := LR.inv_int h1
 subst hx hy
 refine (Tryz.strings_Repeat ⟨#[46]⟩ k w (by omega) (by show 1 * k ≤ _; omega)).mono fun e w' ⟨he,hw⟩ => ?_
 have hzz : (⟨(Lib.repeatL [46] k).toArray⟩ : ByteArray) = z := by rw [hz,repeatL_dot]
 have he : e = .returned (.string ⟨(Lib.repeatL [46] k).toArray⟩) := he
 rw [hzz] at he
 exact ⟨_,_,he,rfl,hw,fun c' => .p _ _ (.str _)⟩
theorem unusedRow_lx (c : Int) (z : ByteArray) (hz : z = ⟨(mkB (List.replicate (slotsOf c) false)).toArray⟩) : CallF (fun _ => Tryz.prog) 143 [i6 c] [] 0 (fun r h n => r = .agg [i6 c,.p (.str fun _ => z)] ∧ h = [] ∧ n = 0) := by
 obtain ⟨k,hk⟩ : ∃ k : Int,k = slotsOf c := ⟨_,rfl⟩
 have hk8 : slotsOf c ≤ 8 := by
  unfold slotsOf; split
  ·omega
  ·split
   ·omega
   ·split
    ·omega
    ·split <;> omega
 refine callF_of_body tok Tryz.func143 (by kernel_rfl) rfl rfl rfl ?_; conv => cbv
 refine callF_frame (slots_lx c k hk) [] rfl trivial rfl rfl (fun r h' n' ⟨e1,e2,e3⟩ => ?_)
 subst e1 e2 e3
 obtain ⟨q,hq⟩ : ∃ q,q = slotsOf c := ⟨_,rfl⟩
 rw [← hq] at hk hk8 hz
 subst hk
 conv => cbv
 refine callF_frame (repeat_lx q z hz (by omega)) [] rfl trivial rfl rfl (fun r h' n' ⟨e1,e2,e3⟩ => ?_)
 subst e1 e2 e3
 conv => cbv
 refine RetF.mk [.agg [i6 c,.p (.str fun _ => z)]] [] 0 (Re.at [] []) rfl ⟨rfl,rfl,rfl⟩
theorem spanNew_bad (n : Int) (hn : n < 2 ∨ 128 < n) : CallF (fun _ => Tryz.prog) 107 [i6 n] [] 0 (fun r h m => (∃ e : Int,r = .tup [.p .nilp,i6 e] ∧ e ≠ 0) ∧ h = [] ∧ m = 0) := by
 refine callF_of_body tok Tryz.func107 (by kernel_rfl) rfl rfl rfl ?_; conv => cbv
 refine Br.mk (fun g1 => ?_) (fun g1 => ?_)
 ·conv => cbv
  refine RetF.mk [.p .nilp,i6 1] [] 0 (Re.at [] []) rfl ⟨⟨1,rfl,by decide⟩,rfl,rfl⟩
 ·have g1 : ¬ n < 2 := g1
  conv => cbv
  refine Br.mk (fun g2 => ?_) (fun g2 => ?_)
  ·conv => cbv
   refine RetF.mk [.p .nilp,i6 1] [] 0 (Re.at [] []) rfl ⟨⟨1,rfl,by decide⟩,rfl,rfl⟩
  ·have g2 : ¬ 128 < n := g2
   have gf : False := by omega
   cases gf
theorem rpv_zero : ∀ k,pvles (repsP [.int .i64 (.lit 0),.str fun _ => ⟨#[]⟩] k) (rpv (List.replicate k (0,[])))
 | 0 => trivial
 | k + 1 => by
  rw [repsP,List.replicate_succ,rpv]
  exact ⟨by simp [pvle,I.val],SEq.mk rfl,rpv_zero k⟩
theorem spanNew_lx (n : Int) (h2 : 2 ≤ n) (h8 : n ≤ 128) (L : List PV) (hL : L = rpv (List.replicate n.toNat (0,[]))) : CallF (fun _ => Tryz.prog) 107 [i6 n] [] 0
  (fun r h m => r = .tup [.ptr 0 (.lit 0),.p (.int .i64 (.lit 0))] ∧ h = [hpC 0 1 137 2 n,hpP 1 L] ∧ m = 2) := by
 refine callF_of_body tok Tryz.func107 (by kernel_rfl) rfl rfl rfl ?_; conv => cbv
 refine Br.mk (fun g1 => ?_) (fun g1 => ?_)
 ·have gf : False := by have g1 : n < 2 := g1; omega
  cases gf
 ·conv => cbv
  refine Br.mk (fun g2 => ?_) (fun g2 => ?_)
  ·have gf : False := by have g2 : 128 < n := g2; omega
   cases gf
  ·conv => cbv
   refine Need.mk ⟨by show 0 ≤ n; omega,Int.le_refl _,by show n * 24 ≤ 140737488355328; omega,by show n ≤ 9223372036854775807; omega⟩ ?_
   conv => cbv
   refine Upd.mk fun L0 hL0 => ?_
   have hle : pvles L0 L := by
    have hL0 : L0 = repsP [.int .i64 (.lit 0),.str fun _ => ⟨#[]⟩] n.toNat := hL0
    rw [hL0,hL]; exact rpv_zero _
   clear hL0 hL
   unfold pvles at hle
   conv => cbv
   refine RetF.mk [.ptr 0 (.lit 0),.p (.int .i64 (.lit 0))] [hpC 0 1 137 2 n,hpP 1 L] 2 (Re.at [(1,0),(0,1)] []) rfl ⟨rfl,rfl,rfl⟩
theorem rpv_upd : ∀ (R : List Rw) (i : Nat) (c : Int) (l l2 : List Bool),R[i]? = some (c,l) → updL (rpv R) (2 * i + 1) [.str fun _ => ⟨(mkB l2).toArray⟩] = rpv (R.set i (c,l2))
 | [],i,c,l,l2,h => by simp at h
 | (c1,l1) :: R,0,c,l,l2,h => by
  simp at h
  obtain ⟨rfl,rfl⟩ := h
  rfl
 | (c1,l1) :: R,i + 1,c,l,l2,h => by
  have ih := rpv_upd R i c l l2 (by simpa using h)
  simp only [updL] at ih ⊢
  rw [List.set_cons_succ,rpv,rpv,← ih,show 2 * (i + 1) + 1 = 2 * i + 1 + 1 + 1 by omega,List.set_cons_succ,List.set_cons_succ]
theorem mark_lx (R : List Rw) (n i j sg cl : Int) (l : List Bool) (L : List PV) (hL : L = rpv R) (hn : n = R.length) (hi0 : 0 ≤ i) (hi : R[i.toNat]? = some (cl,l)) (hll : l.length ≤ 8) (hR : R.length ≤ 1000) (b : Bool) (hs : sg = if b then 120 else 46) :
  CallF (fun _ => Tryz.prog) 142 [.ptr 0 (.lit 0),i6 i,i6 j,.p (.int .i32 (.sym sg))] [hpC 0 1 137 2 n,hpP 1 L] 2
   (fun r h n' => ∃ L' : List PV,r = .tup [] ∧ h = [hpC 0 1 137 2 n,hpP 1 L'] ∧ n' = 2 ∧ L' = rpv (R.set i.toNat (cl,if 0 ≤ j then l.set j.toNat b else l))) := by
 have hiR : i.toNat < R.length := (List.getElem?_eq_some_iff.1 hi).1
 obtain ⟨y,hy⟩ : ∃ y : ByteArray,y = ⟨(mkB l).toArray⟩ := ⟨_,rfl⟩
 obtain ⟨c1,c2⟩ := rpv_get R i.toNat _ hi
 dsimp only at c1 c2
 rw [← hL] at c1 c2
 rw [← hy] at c2
 refine callF_of_body tok Tryz.func142 (by kernel_rfl) rfl rfl rfl ?_; conv => cbv
 refine Need.mk ⟨hi0,by show i < n; omega⟩ ?_
 conv => cbv
 refine Sum.mk fun w hw => ?_
 have hw : w = i * 2 := hw
 conv => cbv
 refine Sum.mk fun a ha => ?_
 have ha : a = w + 1 := ha
 conv => cbv
 refine Cell.at a _ c2 (by simp [I.val]) (by omega) ?_
 conv => cbv
 obtain ⟨l2,hl2⟩ : ∃ l2,l2 = (if 0 ≤ j then l.set j.toNat b else l) := ⟨_,rfl⟩
 have hl2l : l2.length = l.length := by rw [hl2]; split <;> simp
 obtain ⟨N,hN⟩ : ∃ N : Int,N = l.length := ⟨_,rfl⟩
 have hys : (y.size : Int) = N := by rw [hy,mk_size,mkB_length,hN]
 have hsg : 0 ≤ sg ∧ sg ≤ 127 ∧ sg.toNat.toUInt8 = (if b then 120 else 46) := by cases b <;> simp at hs <;> subst hs <;> decide
 refine LoopF.mk (fun k s => ∃ (pos q : Int) (M : List PV) (t : ByteArray),s = ⟨.ptr 0 (.lit 0) :: .p (.int .i64 (.sym i)) :: .p (.int .i64 (.sym j)) :: .p (.int .i32 (.sym sg)) :: (undefs 4 ++ .ptr 2 (.lit 0) :: (undefs 10 ++ .ptr 3 (.lit 0) :: undefs 18)),[(3,.iter (fun _ => y) (.sym pos)),(2,.bld 182 [.sl 4 5 1 (.lit 0) (.sym q)]),hpP 4 M,hpC 0 1 137 2 n,hpP 1 L],5⟩ ∧ 0 ≤ pos ∧ pos ≤ N ∧ M = bytesPV t ∧ q = t.size ∧ t = ⟨(mkB (l2.take pos.toNat)).toArray⟩ ∧ k = (N - pos).toNat) N.toNat _
  (Re.at [(0,0),(1,1),(2,2),(3,3)] [4]) ⟨0,0,[],⟨#[]⟩,rfl,by omega,by omega,rfl,rfl,rfl,by omega⟩ ?_
 rintro k s ⟨pos,q,M,t,rfl,h0,h1,hM,hq,ht,hk⟩
 have hts : t.size ≤ 8 := by rw [ht,mk_size,mkB_length,List.length_take]; omega
 conv => cbv
 by_cases hend : pos = N
 ·refine NextS.over (by show (y.size : Int) ≤ pos; omega) ?_
  conv => cbv
  refine drawn_sound tok (by kernel_rfl) [(5,[4,3,2,1,0]),(8,[])] [0,1,2,3,4,5,6,7,8] (by kernel_rfl) ?_; conv => cbv
  refine cfr (string_lx q M t hM hq) [(0,2),(1,4)] (fun r h' n' ⟨e1,e2,e3⟩ => ?_)
  subst e1 e2 e3
  conv => cbv
  refine Need.mk ⟨hi0,by show i < n; omega⟩ ?_
  conv => cbv
  refine Sum.mk fun w2 hw2 => ?_
  have hw2 : w2 = i * 2 := hw2
  conv => cbv
  refine Sum.mk fun a2 ha2 => ?_
  have ha2 : a2 = w2 + 1 := ha2
  have hLl : L.length = 2 * R.length := by rw [hL,rpv_length]
  conv => cbv
  refine Need.mk (by show a2 + ((1 : Nat) : Int) ≤ (L.length : Int); omega) ?_
  conv => cbv
  refine Upd.mk fun L2 hL2 => ?_
  have hL2 : L2 = updL L a2.toNat [.str fun _ => t] := hL2
  have q1 : L2 = rpv (R.set i.toNat (cl,l2)) := by
   have ht2 : t = ⟨(mkB l2).toArray⟩ := by rw [ht,List.take_of_length_le (by omega)]
   rw [hL2,hL,show a2.toNat = 2 * i.toNat + 1 by omega,ht2]
   exact rpv_upd R i.toNat cl l l2 hi
  rw [hl2] at q1
  clear hL2
  conv => cbv
  refine RetF.mk [] [hpC 0 1 137 2 n,hpP 1 L2] 2 (Re.at [(0,0),(1,1)] []) rfl ⟨L2,rfl,rfl,rfl,q1⟩
 ·obtain ⟨x,hb⟩ : ∃ x,l[pos.toNat]? = some x := ⟨_,List.getElem?_eq_getElem (by omega)⟩
  have hx : (mkB l)[pos.toNat]? = some (if x then 120 else 46) := by rw [mkB,List.getElem?_map,hb]; rfl
  have hd := dec_at (mkB l) (mkB_low l) pos.toNat _ hx
  rw [← hy] at hd
  refine NextS.more (by show pos < (y.size : Int); omega) ?_
  intro r p' hr hp
  have hr : r = (if x then 120 else 46) := by
   have : r = ((Utf8.decode y pos.toNat).1 : Int) := hr
   rw [this,hd]; cases x <;> rfl
  have hp : p' = pos + 1 := by
   have : p' = pos + ((Utf8.decode y pos.toNat).2 : Int) := hp
   rw [this,hd]; rfl
  have hrg : 0 ≤ r ∧ r ≤ 127 ∧ r.toNat.toUInt8 = (if x then 120 else 46) := by cases x <;> simp at hr <;> subst hr <;> decide
  have hnx : ∀ (v : Bool),l2[pos.toNat]? = some v → t ++ ⟨#[if v then 120 else 46]⟩ = ⟨(mkB (l2.take p'.toNat)).toArray⟩ := by
   intro v hv
   rw [show p'.toNat = pos.toNat + 1 by omega,List.take_add_one,hv,ht]
   apply ByteArray.ext
   apply Array.ext'
   simp [ByteArray.data_append,mkB]
  obtain ⟨k',rfl⟩ : ∃ k',k = k' + 1 := ⟨k - 1,by omega⟩
  conv => cbv
  refine Br.mk (fun g => ?_) (fun g => ?_)
  ·have g : pos = j := g
   have hv : l2[pos.toNat]? = some b := by
    rw [hl2,if_pos (by omega),← g,List.getElem?_set_self (by omega)]
   have hn2 := hnx b hv
   rw [← hsg.2.2] at hn2
   conv => cbv
   refine cfr (writeRune_lx q sg M t hM hq hsg.1 hsg.2.1 (by omega)) [(0,2),(1,4)] (fun r h' n' ⟨m2,k2,L2,e1,e2,e3,hL2,hk2⟩ => ?_)
   subst e1 e2 e3
   conv => cbv
   refine Again.mk k' _ (Nat.lt_succ_self _) (Re.at [(0,0),(1,1),(2,2),(3,3),(5,4)] []) ⟨p',k2,L2,_,rfl,by omega,by omega,hL2,hk2,hn2,by omega⟩
  ·have g : ¬ pos = j := g
   have hv : l2[pos.toNat]? = some x := by
    rw [hl2]
    split
    ·rw [List.getElem?_set_ne (by omega)]; exact hb
    ·exact hb
   have hn2 := hnx x hv
   rw [← hrg.2.2] at hn2
   conv => cbv
   refine cfr (writeRune_lx q r M t hM hq hrg.1 hrg.2.1 (by omega)) [(0,2),(1,4)] (fun r h' n' ⟨m2,k2,L2,e1,e2,e3,hL2,hk2⟩ => ?_)
   subst e1 e2 e3
   conv => cbv
   refine Again.mk k' _ (Nat.lt_succ_self _) (Re.at [(0,0),(1,1),(2,2),(3,3),(5,4)] []) ⟨p',k2,L2,_,rfl,by omega,by omega,hL2,hk2,hn2,by omega⟩
theorem rpv_upd2 : ∀ (R : List Rw) (i : Nat) (c : Int) (l2 : List Bool) (z : ByteArray),z = ⟨(mkB l2).toArray⟩ → i < R.length → updL (rpv R) (2 * i) [.int .i64 (.sym c),.str fun _ => z] = rpv (R.set i (c,l2))
 | [],i,c,l2,z,_,h => by simp at h
 | (c1,l1) :: R,0,c,l2,z,hz,_ => by subst hz; rfl
 | (c1,l1) :: R,i + 1,c,l2,z,hz,h => by
  have ih := rpv_upd2 R i c l2 z hz (by simpa using h)
  simp only [updL] at ih ⊢
  rw [List.set_cons_succ,rpv,rpv,← ih]
  rfl
inductive Alloced (R : List Rw) (c : Int) : Int → Int → Bool → List Rw → Prop
 | no (h : slotsOf c = 0) : Alloced R c 0 0 false R
 | old (i s : Nat) (l : List Bool) (h0 : slotsOf c ≠ 0) (hi : R[i]? = some (c,l)) (hs : l[s]? = some false) (h1 : ∀ j,j < s → l[j]? = some true) (h2 : ∀ (j : Nat),j < i → ∀ (m : List Bool),R[j]? = some (c,m) → false ∉ m) : Alloced R c i s true (R.set i (c,l.set s true))
 | fresh (i : Nat) (d : Int) (h0 : slotsOf c ≠ 0) (h2 : ∀ (j : Nat) (m : List Bool),R[j]? = some (c,m) → false ∉ m) (hi : R[i]? = some (d,[])) (h3 : ∀ (j : Nat),j < i → ∀ (d' : Int),R[j]? ≠ some (d',[])) : Alloced R c i 0 true (R.set i (c,(List.replicate (slotsOf c) false).set 0 true))
 | full (h0 : slotsOf c ≠ 0) (h2 : ∀ (j : Nat) (m : List Bool),R[j]? = some (c,m) → false ∉ m) (h3 : ∀ (j : Nat) (d' : Int),R[j]? ≠ some (d',[])) : Alloced R c 0 0 false R
theorem mkB_nil (l : List Bool) : (⟨(mkB l).toArray⟩ : ByteArray) = ⟨#[]⟩ ↔ l = [] := by
 constructor
 ·intro h
  have h2 : (mkB l).toArray = #[] := congrArg ByteArray.data h
  have h3 : mkB l = [] := by simpa using h2
  exact List.map_eq_nil_iff.1 h3
 ·rintro rfl; rfl
theorem alloc_lx (R : List Rw) (n c : Int) (L : List PV) (hL : L = rpv R) (hn : n = R.length) (hR : R.length ≤ 1000) (hm : ∀ e ∈ R,e.2.length ≤ 8) :
  CallF (fun _ => Tryz.prog) 136 [.ptr 0 (.lit 0),i6 c] [hpC 0 1 137 2 n,hpP 1 L] 2
   (fun r h n' => ∃ (i s : Int) (b : Bool) (L' : List PV) (R' : List Rw),r = .tup [i6 i,i6 s,.p (.bool b)] ∧ h = [hpC 0 1 137 2 n,hpP 1 L'] ∧ n' = 2 ∧ L' = rpv R' ∧ Alloced R c i s b R') := by
 obtain ⟨z,hz⟩ : ∃ z : ByteArray,z = ⟨(mkB (List.replicate (slotsOf c) false)).toArray⟩ := ⟨_,rfl⟩
 have hz0 : z = ⟨#[]⟩ ↔ slotsOf c = 0 := by rw [hz,mkB_nil]; simp
 refine callF_of_body tok Tryz.func136 (by kernel_rfl) rfl rfl rfl ?_; conv => cbv
 refine callF_frame (unusedRow_lx c z hz) [] rfl trivial rfl rfl (fun r h' n' ⟨e1,e2,e3⟩ => ?_)
 subst e1 e2 e3
 conv => cbv
 refine Br.mk (fun g => ?_) (fun g => ?_)
 ·have h0 := hz0.1 g
  conv => cbv
  refine RetF.mk [i6 0,i6 0,.p (.bool false)] [hpC 0 1 137 2 n,hpP 1 L] 2 (Re.at [(0,0),(1,1)] []) rfl ⟨0,0,false,L,R,rfl,rfl,rfl,hL,.no h0⟩
 ·have h0 : slotsOf c ≠ 0 := fun h => g (hz0.2 h)
  conv => cbv
  refine LoopF.mk (fun k s => ∃ i : Int,s = ⟨.ptr 0 (.lit 0) :: .p (.int .i64 (.sym c)) :: (undefs 5 ++ .ptr 2 (.lit 0) :: (undefs 18 ++ .sl 1 137 2 (.lit 0) (.sym n) :: .p (.int .i64 (.sym n)) :: .p (.int .i64 (.sym i)) :: undefs 49)),[(2,.pure false [.int .i64 (.sym c),.str fun _ => z]),hpC 0 1 137 2 n,hpP 1 L],3⟩ ∧ 0 ≤ i ∧ i ≤ n ∧ (∀ (j : Nat),(j : Int) < i → ∀ (m : List Bool),R[j]? = some (c,m) → false ∉ m) ∧ k = (n - i).toNat) n.toNat _
   (Re.at [(0,0),(1,1),(2,2)] []) ⟨0,rfl,by omega,by omega,fun j hj => absurd hj (by omega),by omega⟩ ?_
  rintro k s ⟨i,rfl,hi0,hi1,hno,hk⟩
  conv => cbv
  refine Br.mk (fun gi => ?_) (fun gi => ?_)
  ·have gi : i < n := gi
   obtain ⟨⟨d,m⟩,he⟩ : ∃ e,R[i.toNat]? = some e := ⟨_,List.getElem?_eq_getElem (by omega)⟩
   have hml : m.length ≤ 8 := hm _ (List.mem_of_getElem? he)
   obtain ⟨y,hy⟩ : ∃ y : ByteArray,y = ⟨(mkB m).toArray⟩ := ⟨_,rfl⟩
   obtain ⟨c1,c2⟩ := rpv_get R i.toNat _ he
   dsimp only at c1 c2
   rw [← hL] at c1 c2
   rw [← hy] at c2
   obtain ⟨k',rfl⟩ : ∃ k',k = k' + 1 := ⟨k - 1,by omega⟩
   conv => cbv
   refine Need.mk ⟨hi0,gi⟩ ?_
   conv => cbv
   refine Sum.mk fun w hw => ?_
   have hw : w = i * 2 := hw
   conv => cbv
   refine Cell.at (w + 0) _ c1 rfl (by omega) ?_
   conv => cbv
   refine Cell.at (w + 1) _ c2 rfl (by omega) ?_
   conv => cbv
   refine callF_val (firstUnused_lx m y hy (by omega)) (by simp [ales,ale,renVs,renV,pvle_refl]) rfl (fun r ⟨v,b,hr,_⟩ => by subst hr; rfl) (fun r hrr => ?_)
   obtain ⟨v,b,hr,hb⟩ := hrr
   subst hr
   cases b with
   | true =>
    obtain ⟨q,hv,hq,hq2⟩ : ∃ q : Nat,v = q ∧ m[q]? = some false ∧ ∀ j,j < q → m[j]? = some true := by
     rcases hb with ⟨_,h⟩ | ⟨h,_⟩
     ·exact h
     ·cases h
    clear hb
    conv => cbv
    refine Br.mk (fun gd => ?_) (fun gd => ?_)
    ·have gd : d = c := gd
     obtain ⟨L9,hL9⟩ : ∃ L9,L9 = rpv (R.set i.toNat (d,if 0 ≤ v then m.set v.toNat true else m)) := ⟨_,rfl⟩
     have hset : (if 0 ≤ v then m.set v.toNat true else m) = m.set q true := by rw [if_pos (by omega),show v.toNat = q by omega]
     rw [hset] at hL9
     have hAl : Alloced R c i v true (R.set i.toNat (d,m.set q true)) := by
      have := Alloced.old (R := R) (c := c) i.toNat q m h0 (gd ▸ he) hq hq2 (fun j hj m' hm' => hno j (by omega) m' hm')
      rw [gd,show i = (i.toNat : Int) by omega,hv]; exact this
     conv => cbv
     refine CallF.le (args0 := [.ptr 0 (.lit 0),i6 i,i6 v,.p (.int .i32 (.sym 120))]) (cfr (mark_lx R n i v 120 d m L hL hn hi0 he hml hR true rfl) [(0,0),(1,1)] (fun r h' n' hrr => ?_)) (by simp [ales,ale,pvle,I.val])
     obtain ⟨L2,e1,e2,e3,hL2⟩ := hrr
     rw [hset] at hL2
     subst e1 e2 e3
     conv => cbv
     refine RetF.mk [i6 i,i6 v,.p (.bool true)] [hpC 0 1 137 2 n,hpP 1 L2] 2 (Re.at [(0,0),(1,1)] []) rfl ⟨i,v,true,L2,_,rfl,rfl,rfl,hL2,hAl⟩
    ·have gd : ¬ d = c := gd
     conv => cbv
     refine Fit.mk (by show (-9223372036854775808 : Int) ≤ i + 1; omega) (by show i + 1 ≤ 9223372036854775807; omega) fun i2 hi2 => ?_
     have hi2 : i2 = i + 1 := hi2
     have hno2 : ∀ (j : Nat),(j : Int) < i2 → ∀ (m : List Bool),R[j]? = some (c,m) → false ∉ m := fun j hj m' hm' => by
      by_cases e : (j : Int) = i
      ·rw [show j = i.toNat by omega,he] at hm'
       have hm' := Option.some.inj hm'
       exact absurd (congrArg Prod.fst hm') gd
      ·exact hno j (by omega) m' hm'
     have q1 : 0 ≤ i2 := by omega
     have q2 : i2 ≤ n := by omega
     have q3 : k' = (n - i2).toNat := by omega
     clear hk hi2
     conv => cbv
     refine Again.mk k' _ (Nat.lt_succ_self _) (Re.at [(0,0),(1,1),(2,2)] []) ⟨i2,rfl,q1,q2,hno2,q3⟩
   | false =>
    have hfn : false ∉ m := by
     rcases hb with ⟨h,_⟩ | ⟨_,_,h⟩
     ·cases h
     ·exact h
    clear hb
    conv => cbv
    refine Fit.mk (by show (-9223372036854775808 : Int) ≤ i + 1; omega) (by show i + 1 ≤ 9223372036854775807; omega) fun i2 hi2 => ?_
    have hi2 : i2 = i + 1 := hi2
    have hno2 : ∀ (j : Nat),(j : Int) < i2 → ∀ (m : List Bool),R[j]? = some (c,m) → false ∉ m := fun j hj m' hm' => by
     by_cases e : (j : Int) = i
     ·rw [show j = i.toNat by omega,he] at hm'
      have hm' := Option.some.inj hm'
      have h2 : m = m' := congrArg Prod.snd hm'; rw [← h2]; exact hfn
     ·exact hno j (by omega) m' hm'
    have q1 : 0 ≤ i2 := by omega
    have q2 : i2 ≤ n := by omega
    have q3 : k' = (n - i2).toNat := by omega
    clear hk hi2
    conv => cbv
    refine Again.mk k' _ (Nat.lt_succ_self _) (Re.at [(0,0),(1,1),(2,2)] []) ⟨i2,rfl,q1,q2,hno2,q3⟩
  ·have gi : ¬ i < n := gi
   have hall : ∀ (j : Nat) (m : List Bool),R[j]? = some (c,m) → false ∉ m := fun j m' hm' => hno j (by have := (List.getElem?_eq_some_iff.1 hm').1; omega) m' hm'
   clear hno hk hi0 hi1 gi
   conv => cbv
   refine LoopF.mk (fun k s => ∃ i : Int,s = ⟨.ptr 0 (.lit 0) :: .p (.int .i64 (.sym c)) :: (undefs 5 ++ .ptr 2 (.lit 0) :: (undefs 48 ++ .sl 1 137 2 (.lit 0) (.sym n) :: .p (.int .i64 (.sym n)) :: .p (.int .i64 (.sym i)) :: undefs 19)),[(2,.pure false [.int .i64 (.sym c),.str fun _ => z]),hpC 0 1 137 2 n,hpP 1 L],3⟩ ∧ 0 ≤ i ∧ i ≤ n ∧ (∀ (j : Nat),(j : Int) < i → ∀ (d : Int),R[j]? ≠ some (d,[])) ∧ k = (n - i).toNat) n.toNat _
    (Re.at [(0,0),(1,1),(2,2)] []) ⟨0,rfl,by omega,by omega,fun j hj => absurd hj (by omega),by omega⟩ ?_
   rintro k s ⟨i,rfl,hi0,hi1,hno,hk⟩
   conv => cbv
   refine Br.mk (fun gi => ?_) (fun gi => ?_)
   ·have gi : i < n := gi
    obtain ⟨⟨d,m⟩,he⟩ : ∃ e,R[i.toNat]? = some e := ⟨_,List.getElem?_eq_getElem (by omega)⟩
    have hml : m.length ≤ 8 := hm _ (List.mem_of_getElem? he)
    obtain ⟨y,hy⟩ : ∃ y : ByteArray,y = ⟨(mkB m).toArray⟩ := ⟨_,rfl⟩
    obtain ⟨c1,c2⟩ := rpv_get R i.toNat _ he
    dsimp only at c1 c2
    rw [← hL] at c1 c2
    rw [← hy] at c2
    obtain ⟨k',rfl⟩ : ∃ k',k = k' + 1 := ⟨k - 1,by omega⟩
    conv => cbv
    refine Need.mk ⟨hi0,gi⟩ ?_
    conv => cbv
    refine Sum.mk fun w hw => ?_
    have hw : w = i * 2 := hw
    conv => cbv
    refine Cell.at (w + 0) _ c1 rfl (by omega) ?_
    conv => cbv
    refine Cell.at (w + 1) _ c2 rfl (by omega) ?_
    conv => cbv
    refine Br.mk (fun gm => ?_) (fun gm => ?_)
    ·have hm0 : m = [] := (mkB_nil m).1 (hy.symm.trans gm)
     subst hm0
     obtain ⟨RR,hRR⟩ : ∃ RR,RR = R.set i.toNat (c,List.replicate (slotsOf c) false) := ⟨_,rfl⟩
     have hRl : RR.length = R.length := by rw [hRR,List.length_set]
     have hiR : i.toNat < R.length := by omega
     have hRi : RR[i.toNat]? = some (c,List.replicate (slotsOf c) false) := by rw [hRR,List.getElem?_set_self hiR]
     have hs8 : (List.replicate (slotsOf c) false).length ≤ 8 := by
      rw [List.length_replicate]
      unfold slotsOf; split
      ·omega
      ·split
       ·omega
       ·split
        ·omega
        ·split <;> omega
     have hAl : Alloced R c i 0 true (RR.set i.toNat (c,(List.replicate (slotsOf c) false).set 0 true)) := by
      have := Alloced.fresh (R := R) (c := c) i.toNat d h0 hall he (fun j hj d' => hno j (by omega) d')
      rw [hRR,List.set_set,show i = (i.toNat : Int) by omega]; exact this
     have hLl : L.length = 2 * R.length := by rw [hL,rpv_length]
     conv => cbv
     refine drawn_sound tok (by kernel_rfl) [(7,[])] [0,1,2,3,4,5,6,7] (by kernel_rfl) ?_; conv => cbv
     refine Need.mk ⟨hi0,gi⟩ ?_
     conv => cbv
     refine Sum.mk fun w2 hw2 => ?_
     have hw2 : w2 = i * 2 := hw2
     conv => cbv
     refine Need.mk (by show w2 + ((2 : Nat) : Int) ≤ (L.length : Int); omega) ?_
     conv => cbv
     refine Upd.mk fun L2 hL2 => ?_
     have hL2 : L2 = updL L w2.toNat [.int .i64 (.sym c),.str fun _ => z] := hL2
     have hL2 : L2 = rpv RR := by rw [hL2,hL,show w2.toNat = 2 * i.toNat by omega,hRR]; exact rpv_upd2 R i.toNat c _ z hz hiR
     have hn2 : n = RR.length := by omega
     have hRR2 : RR.length ≤ 1000 := by omega
     conv => cbv
     refine CallF.le (args0 := [.ptr 0 (.lit 0),i6 i,i6 0,.p (.int .i32 (.sym 120))]) (cfr (mark_lx RR n i 0 120 c _ L2 hL2 hn2 hi0 hRi hs8 hRR2 true rfl) [(0,0),(1,1)] (fun r h' n' hrr => ?_)) (by simp [ales,ale,pvle,I.val])
     obtain ⟨L3,e1,e2,e3,hL3⟩ := hrr
     rw [if_pos (Int.le_refl 0)] at hL3
     subst e1 e2 e3
     conv => cbv
     refine RetF.mk [i6 i,i6 0,.p (.bool true)] [hpC 0 1 137 2 n,hpP 1 L3] 2 (Re.at [(0,0),(1,1)] []) rfl ⟨i,0,true,L3,_,rfl,rfl,rfl,hL3,hAl⟩
    ·have hmn : m ≠ [] := fun h => gm (hy.trans ((mkB_nil m).2 h))
     conv => cbv
     refine Fit.mk (by show (-9223372036854775808 : Int) ≤ i + 1; omega) (by show i + 1 ≤ 9223372036854775807; omega) fun i2 hi2 => ?_
     have hi2 : i2 = i + 1 := hi2
     have hno2 : ∀ (j : Nat),(j : Int) < i2 → ∀ (d : Int),R[j]? ≠ some (d,[]) := fun j hj d' hm' => by
      by_cases e : (j : Int) = i
      ·rw [show j = i.toNat by omega,he] at hm'
       exact hmn (congrArg Prod.snd (Option.some.inj hm'))
      ·exact hno j (by omega) d' hm'
     have q1 : 0 ≤ i2 := by omega
     have q2 : i2 ≤ n := by omega
     have q3 : k' = (n - i2).toNat := by omega
     clear hk hi2
     conv => cbv
     refine Again.mk k' _ (Nat.lt_succ_self _) (Re.at [(0,0),(1,1),(2,2)] []) ⟨i2,rfl,q1,q2,hno2,q3⟩
   ·have gi : ¬ i < n := gi
    have hall2 : ∀ (j : Nat) (d' : Int),R[j]? ≠ some (d',[]) := fun j d' hm' => hno j (by have := (List.getElem?_eq_some_iff.1 hm').1; omega) d' hm'
    conv => cbv
    refine RetF.mk [i6 0,i6 0,.p (.bool false)] [hpC 0 1 137 2 n,hpP 1 L] 2 (Re.at [(0,0),(1,1)] []) rfl ⟨0,0,false,L,R,rfl,rfl,rfl,hL,.full h0 hall hall2⟩
end Go.Proofs.YtpbhcdbkmmjimaaGreatDoor
namespace Go.Proofs.YtpbhcdbkmmjimaaGreatDoor
open Go Go.LX
set_option maxRecDepth 100000
set_option linter.unusedVariables false
set_option linter.unusedSimpArgs false
set_option maxHeartbeats 32000000
theorem has_nil (i : I) : CallF (fun _ => Tryz.prog) 104 [.p .nilp,.p (.int .i64 i)] [] 0 (fun r h n => r = .p (.bool false) ∧ h = [] ∧ n = 0) := by
 refine callF_of_body tok Tryz.func104 (by kernel_rfl) rfl rfl rfl ?_; conv => cbv
 refine RetF.mk [.p (.bool false)] [] 0 (Re.at [] []) rfl ⟨rfl,rfl,rfl⟩
theorem has_lx (n i : Int) (L : List PV) (hi0 : 0 ≤ i) (hin : i < n) : CallF (fun _ => Tryz.prog) 104 [.ptr 0 (.lit 0),i6 i] [hpC 0 1 137 2 n,hpP 1 L] 2 (fun r h n' => r = .p (.bool true) ∧ h = [hpC 0 1 137 2 n,hpP 1 L] ∧ n' = 2) := by
 refine callF_of_body tok Tryz.func104 (by kernel_rfl) rfl rfl rfl ?_; conv => cbv
 refine Br.mk (fun g => ?_) (fun g => ?_)
 case refine_2 =>
  have gf : False := g hi0
  cases gf
 conv => cbv
 refine Br.mk (fun g => ?_) (fun g => ?_)
 case refine_2 =>
  have gf : False := g hin
  cases gf
 conv => cbv
 refine RetF.mk [.p (.bool true)] [hpC 0 1 137 2 n,hpP 1 L] 2 (Re.at [(0,0),(1,1)] []) rfl ⟨rfl,rfl,rfl⟩
theorem class_nil (i : I) : CallF (fun _ => Tryz.prog) 75 [.p .nilp,.p (.int .i64 i)] [] 0 (fun r h n => (∃ v : Int,r = .p (.int .i64 (.sym v)) ∧ v = -1) ∧ h = [] ∧ n = 0) := by
 refine callF_of_body tok Tryz.func75 (by kernel_rfl) rfl rfl rfl ?_; conv => cbv
 refine callF_frame (has_nil i) [] rfl trivial rfl rfl (fun r h' n' ⟨e1,e2,e3⟩ => ?_)
 subst e1 e2 e3
 conv => cbv
 refine RetF.mk [i6 (-1)] [] 0 (Re.at [] []) rfl ⟨⟨-1,rfl,rfl⟩,rfl,rfl⟩
theorem used_nil (i j : I) : CallF (fun _ => Tryz.prog) 77 [.p .nilp,.p (.int .i64 i),.p (.int .i64 j)] [] 0 (fun r h n => r = .p (.bool false) ∧ h = [] ∧ n = 0) := by
 refine callF_of_body tok Tryz.func77 (by kernel_rfl) rfl rfl rfl ?_; conv => cbv
 refine callF_frame (has_nil i) [] rfl trivial rfl rfl (fun r h' n' ⟨e1,e2,e3⟩ => ?_)
 subst e1 e2 e3
 conv => cbv
 refine RetF.mk [.p (.bool false)] [] 0 (Re.at [] []) rfl ⟨rfl,rfl,rfl⟩
theorem words_nil : CallF (fun _ => Tryz.prog) 79 [.p .nilp] [] 0 (fun r h n => r = .p (.int .i64 (.sym 0)) ∧ h = [] ∧ n = 0) := by
 refine callF_of_body tok Tryz.func79 (by kernel_rfl) rfl rfl rfl ?_; conv => cbv
 refine RetF.mk [i6 0] [] 0 (Re.at [] []) rfl ⟨rfl,rfl,rfl⟩
theorem len_nil : CallF (fun _ => Tryz.prog) 74 [.p .nilp] [] 0 (fun r h n => r = .p (.int .i64 (.sym 0)) ∧ h = [] ∧ n = 0) := by
 refine callF_of_body tok Tryz.func74 (by kernel_rfl) rfl rfl rfl ?_; conv => cbv
 refine RetF.mk [i6 0] [] 0 (Re.at [] []) rfl ⟨rfl,rfl,rfl⟩
theorem free_nil (i j : I) : CallF (fun _ => Tryz.prog) 134 [.p .nilp,.p (.int .i64 i),.p (.int .i64 j)] [] 0 (fun r h n => r = .p (.bool false) ∧ h = [] ∧ n = 0) := by
 refine callF_of_body tok Tryz.func134 (by kernel_rfl) rfl rfl rfl ?_; conv => cbv
 refine callF_frame (used_nil i j) [] rfl trivial rfl rfl (fun r h' n' ⟨e1,e2,e3⟩ => ?_)
 subst e1 e2 e3
 conv => cbv
 refine RetF.mk [.p (.bool false)] [] 0 (Re.at [] []) rfl ⟨rfl,rfl,rfl⟩
theorem alloc_nil (c : Int) : CallF (fun _ => Tryz.prog) 136 [.p .nilp,i6 c] [] 0 (fun r h n => r = .tup [i6 0,i6 0,.p (.bool false)] ∧ h = [] ∧ n = 0) := by
 obtain ⟨z,hz⟩ : ∃ z : ByteArray,z = ⟨(mkB (List.replicate (slotsOf c) false)).toArray⟩ := ⟨_,rfl⟩
 refine callF_of_body tok Tryz.func136 (by kernel_rfl) rfl rfl rfl ?_; conv => cbv
 refine callF_frame (unusedRow_lx c z hz) [] rfl trivial rfl rfl (fun r h' n' ⟨e1,e2,e3⟩ => ?_)
 subst e1 e2 e3
 conv => cbv
 refine RetF.mk [i6 0,i6 0,.p (.bool false)] [] 0 (Re.at [] []) rfl ⟨rfl,rfl,rfl⟩
theorem class_lx (R : List Rw) (n i d : Int) (m : List Bool) (L : List PV) (hL : L = rpv R) (hn : n = R.length) (hi0 : 0 ≤ i) (hi : R[i.toNat]? = some (d,m)) (hm : m ≠ []) : CallF (fun _ => Tryz.prog) 75 [.ptr 0 (.lit 0),i6 i] [hpC 0 1 137 2 n,hpP 1 L] 2
  (fun r h n' => r = .p (.int .i64 (.sym d)) ∧ h = [hpC 0 1 137 2 n,hpP 1 L] ∧ n' = 2) := by
 have hiR : i.toNat < R.length := (List.getElem?_eq_some_iff.1 hi).1
 obtain ⟨y,hy⟩ : ∃ y : ByteArray,y = ⟨(mkB m).toArray⟩ := ⟨_,rfl⟩
 obtain ⟨c1,c2⟩ := rpv_get R i.toNat _ hi
 dsimp only at c1 c2
 rw [← hL] at c1 c2
 rw [← hy] at c2
 have hyn : ¬ y = ⟨#[]⟩ := fun h => hm ((mkB_nil m).1 (hy.symm.trans h))
 refine callF_of_body tok Tryz.func75 (by kernel_rfl) rfl rfl rfl ?_; conv => cbv
 refine cfr (has_lx n i L hi0 (by omega)) [(0,0),(1,1)] (fun r h' n' ⟨e1,e2,e3⟩ => ?_)
 subst e1 e2 e3
 conv => cbv
 refine Need.mk ⟨hi0,by show i < n; omega⟩ ?_
 conv => cbv
 refine Sum.mk fun w hw => ?_
 have hw : w = i * 2 := hw
 conv => cbv
 refine Sum.mk fun a ha => ?_
 have ha : a = w + 1 := ha
 conv => cbv
 refine Cell.at a _ c2 (by simp [I.val]) (by omega) ?_
 conv => cbv
 refine Br.mk (fun g => ?_) (fun g => ?_)
 case refine_1 =>
  have gf : False := hyn g
  cases gf
 conv => cbv
 refine Need.mk ⟨hi0,by show i < n; omega⟩ ?_
 conv => cbv
 refine Sum.mk fun w2 hw2 => ?_
 have hw2 : w2 = i * 2 := hw2
 conv => cbv
 refine Cell.at w2 _ c1 (by simp [I.val]) (by omega) ?_
 conv => cbv
 refine RetF.mk [i6 d] [hpC 0 1 137 2 n,hpP 1 L] 2 (Re.at [(0,0),(1,1)] []) rfl ⟨rfl,rfl,rfl⟩
theorem used_lx (R : List Rw) (n i j d : Int) (m : List Bool) (L : List PV) (hL : L = rpv R) (hn : n = R.length) (hi0 : 0 ≤ i) (hi : R[i.toNat]? = some (d,m)) (b : Bool) (hj0 : 0 ≤ j) (hj : m[j.toNat]? = some b) : CallF (fun _ => Tryz.prog) 77 [.ptr 0 (.lit 0),i6 i,i6 j] [hpC 0 1 137 2 n,hpP 1 L] 2
  (fun r h n' => r = .p (.bool b) ∧ h = [hpC 0 1 137 2 n,hpP 1 L] ∧ n' = 2) := by
 have hiR : i.toNat < R.length := (List.getElem?_eq_some_iff.1 hi).1
 obtain ⟨y,hy⟩ : ∃ y : ByteArray,y = ⟨(mkB m).toArray⟩ := ⟨_,rfl⟩
 obtain ⟨c1,c2⟩ := rpv_get R i.toNat _ hi
 dsimp only at c1 c2
 rw [← hL] at c1 c2
 rw [← hy] at c2
 refine callF_of_body tok Tryz.func77 (by kernel_rfl) rfl rfl rfl ?_; conv => cbv
 refine cfr (has_lx n i L hi0 (by omega)) [(0,0),(1,1)] (fun r h' n' ⟨e1,e2,e3⟩ => ?_)
 subst e1 e2 e3
 conv => cbv
 refine Need.mk ⟨hi0,by show i < n; omega⟩ ?_
 conv => cbv
 refine Sum.mk fun w hw => ?_
 have hw : w = i * 2 := hw
 conv => cbv
 refine Sum.mk fun a ha => ?_
 have ha : a = w + 1 := ha
 conv => cbv
 refine Cell.at a _ c2 (by simp [I.val]) (by omega) ?_
 conv => cbv
 obtain ⟨N,hN⟩ : ∃ N : Int,N = m.length := ⟨_,rfl⟩
 have hjN : j < N := by have := (List.getElem?_eq_some_iff.1 hj).1; omega
 have hys : (y.size : Int) = N := by rw [hy,mk_size,mkB_length,hN]
 refine LoopF.mk (fun k s => ∃ pos : Int,s = ⟨.ptr 0 (.lit 0) :: .p (.int .i64 (.sym i)) :: .p (.int .i64 (.sym j)) :: (undefs 18 ++ .ptr 2 (.lit 0) :: undefs 9),[(2,.iter (fun _ => y) (.sym pos)),hpC 0 1 137 2 n,hpP 1 L],3⟩ ∧ 0 ≤ pos ∧ pos ≤ j ∧ k = (N - pos).toNat) N.toNat _
  (Re.at [(0,0),(1,1),(2,2)] []) ⟨0,rfl,by omega,hj0,by omega⟩ ?_
 rintro k s ⟨pos,rfl,h0,h1,hk⟩
 obtain ⟨x,hb⟩ : ∃ x,m[pos.toNat]? = some x := ⟨_,List.getElem?_eq_getElem (by omega)⟩
 have hx : (mkB m)[pos.toNat]? = some (if x then 120 else 46) := by rw [mkB,List.getElem?_map,hb]; rfl
 have hd := dec_at (mkB m) (mkB_low m) pos.toNat _ hx
 rw [← hy] at hd
 obtain ⟨k',rfl⟩ : ∃ k',k = k' + 1 := ⟨k - 1,by omega⟩
 conv => cbv
 refine NextS.more (by show pos < (y.size : Int); omega) ?_
 intro r p' hr hp
 have hr : r = (if x then 120 else 46) := by
  have : r = ((Utf8.decode y pos.toNat).1 : Int) := hr
  rw [this,hd]; cases x <;> rfl
 have hp : p' = pos + 1 := by
  have : p' = pos + ((Utf8.decode y pos.toNat).2 : Int) := hp
  rw [this,hd]; rfl
 conv => cbv
 refine Br.mk (fun g => ?_) (fun g => ?_)
 ·have g : pos = j := g
  have hxb : x = b := by rw [g] at hb; rw [hb] at hj; exact Option.some.inj hj
  conv => cbv
  refine Br.mk (fun g2 => ?_) (fun g2 => ?_)
  ·have g2 : r = 120 := g2
   have hbt : true = b := by
    cases b with
    | true => rfl
    | false => rw [hxb] at hr; simp at hr; omega
   subst hbt
   conv => cbv
   refine RetF.mk [.p (.bool true)] [hpC 0 1 137 2 n,hpP 1 L] 2 (Re.at [(0,0),(1,1)] []) rfl ⟨rfl,rfl,rfl⟩
  ·have g2 : ¬ r = 120 := g2
   have hbf : false = b := by
    cases b with
    | false => rfl
    | true => rw [hxb] at hr; simp at hr; omega
   subst hbf
   conv => cbv
   refine RetF.mk [.p (.bool false)] [hpC 0 1 137 2 n,hpP 1 L] 2 (Re.at [(0,0),(1,1)] []) rfl ⟨rfl,rfl,rfl⟩
 ·have g : ¬ pos = j := g
  conv => cbv
  refine Again.mk k' _ (Nat.lt_succ_self _) (Re.at [(0,0),(1,1),(2,2)] []) ⟨p',rfl,by omega,by omega,by omega⟩
theorem wordsOf_bd (c : Int) : 0 ≤ wordsOf c ∧ wordsOf c ≤ 32 := by
 unfold wordsOf; split
 ·omega
 ·split
  ·omega
  ·split
   ·omega
   ·split <;> omega
theorem wordsS_lx (R : List Rw) (n : Int) (L : List PV) (hL : L = rpv R) (hn : n = R.length) (hR : R.length ≤ 1000) (hm : ∀ e ∈ R,e.2.length ≤ 8) (v : Int) (hv : v = (R.map fun e => (e.2.count true : Int) * wordsOf e.1).sum) : CallF (fun _ => Tryz.prog) 79 [.ptr 0 (.lit 0)] [hpC 0 1 137 2 n,hpP 1 L] 2
  (fun r h n' => r = .p (.int .i64 (.sym v)) ∧ h = [hpC 0 1 137 2 n,hpP 1 L] ∧ n' = 2) := by
 obtain ⟨f,hf⟩ : ∃ f : Nat → Int,∀ k,f k = ((R.take k).map fun e => (e.2.count true : Int) * wordsOf e.1).sum := ⟨_,fun _ => rfl⟩
 refine callF_of_body tok Tryz.func79 (by kernel_rfl) rfl rfl rfl ?_; conv => cbv
 refine LoopF.mk (fun k s => ∃ (i acc : Int),s = ⟨.ptr 0 (.lit 0) :: .undef :: .undef :: .p (.int .i64 (.sym acc)) :: (undefs 7 ++ .sl 1 137 2 (.lit 0) (.sym n) :: .p (.int .i64 (.sym n)) :: .p (.int .i64 (.sym i)) :: undefs 14),[hpC 0 1 137 2 n,hpP 1 L],2⟩ ∧ 0 ≤ i ∧ i ≤ n ∧ acc = f i.toNat ∧ 0 ≤ acc ∧ acc ≤ 256 * i ∧ k = (n - i).toNat) n.toNat _
  (Re.at [(0,0),(1,1)] []) ⟨0,0,rfl,by omega,by omega,by rw [hf]; rfl,by omega,by omega,by omega⟩ ?_
 rintro k s ⟨i,acc,rfl,hi0,hi1,hacc,ha0,ha1,hk⟩
 conv => cbv
 refine Br.mk (fun gi => ?_) (fun gi => ?_)
 ·have gi : i < n := gi
  obtain ⟨⟨d,m⟩,he⟩ : ∃ e,R[i.toNat]? = some e := ⟨_,List.getElem?_eq_getElem (by omega)⟩
  have hml : m.length ≤ 8 := hm _ (List.mem_of_getElem? he)
  obtain ⟨y,hy⟩ : ∃ y : ByteArray,y = ⟨(mkB m).toArray⟩ := ⟨_,rfl⟩
  obtain ⟨c1,c2⟩ := rpv_get R i.toNat _ he
  dsimp only at c1 c2
  rw [← hL] at c1 c2
  rw [← hy] at c2
  obtain ⟨k',rfl⟩ : ∃ k',k = k' + 1 := ⟨k - 1,by omega⟩
  obtain ⟨q,hq⟩ : ∃ q,q = wordsOf d := ⟨_,rfl⟩
  have hqb := wordsOf_bd d
  rw [← hq] at hqb
  conv => cbv
  refine Need.mk ⟨hi0,gi⟩ ?_
  conv => cbv
  refine Sum.mk fun w hw => ?_
  have hw : w = i * 2 := hw
  conv => cbv
  refine Cell.at (w + 0) _ c1 rfl (by omega) ?_
  conv => cbv
  refine Cell.at (w + 1) _ c2 rfl (by omega) ?_
  conv => cbv
  refine drawn_sound tok (by kernel_rfl) [(3,[5,4,0]),(6,[0])] [0,1,2,4,5,3,6,7,8,9] (by kernel_rfl) ?_; conv => cbv
  refine callF_val (countUsed_lx m y hy (by omega)) (by simp [ales,ale,renVs,renV,pvle_refl]) rfl (fun r ⟨v,hr,_⟩ => by subst hr; rfl) (fun r hrr => ?_)
  obtain ⟨u,hr,hu⟩ := hrr
  subst hr
  have hu8 : 0 ≤ u ∧ u ≤ 8 := by
   have := List.count_le_length (a := true) (l := m)
   omega
  have hmul0 : 0 ≤ u * q := Int.mul_nonneg hu8.1 hqb.1
  have hmul1 : u * q ≤ 8 * 32 := Int.mul_le_mul hu8.2 hqb.2 hqb.1 (by decide)
  conv => cbv
  refine callF_frame (words_lx d q hq) [] rfl trivial rfl rfl (fun r h' n' ⟨e1,e2,e3⟩ => ?_)
  subst e1 e2 e3
  conv => cbv
  refine Fit.mk (by show (-9223372036854775808 : Int) ≤ u * q; omega) (by show u * q ≤ 9223372036854775807; omega) fun p hp => ?_
  have hp : p = u * q := hp
  conv => cbv
  refine Fit.mk (by show (-9223372036854775808 : Int) ≤ acc + p; omega) (by show acc + p ≤ 9223372036854775807; omega) fun acc2 hac => ?_
  have hac : acc2 = acc + p := hac
  conv => cbv
  refine Fit.mk (by show (-9223372036854775808 : Int) ≤ i + 1; omega) (by show i + 1 ≤ 9223372036854775807; omega) fun i2 hi2 => ?_
  have hi2 : i2 = i + 1 := hi2
  have q1 : acc2 = f i2.toNat := by
   rw [hf,show i2.toNat = i.toNat + 1 by omega,List.take_add_one,he,List.map_append,List.sum_append,hac,hacc,hf,hp,hu,hq]
   simp
  have q2 : 0 ≤ acc2 := by omega
  have q3 : acc2 ≤ 256 * i2 := by omega
  have q4 : 0 ≤ i2 := by omega
  have q5 : i2 ≤ n := by omega
  have q6 : k' = (n - i2).toNat := by omega
  conv => cbv
  refine Again.mk k' _ (Nat.lt_succ_self _) (Re.at [(0,0),(1,1)] []) ⟨i2,acc2,rfl,q4,q5,q1,q2,q3,q6⟩
 ·have gi : ¬ i < n := gi
  have hend : acc = v := by rw [hacc,hf,List.take_of_length_le (by omega),hv]
  conv => cbv
  refine RetF.mk [i6 v] [hpC 0 1 137 2 n,hpP 1 L] 2 (Re.at [(0,0),(1,1)] []) rfl ⟨rfl,rfl,rfl⟩
theorem lenS_lx (n : Int) (L : List PV) : CallF (fun _ => Tryz.prog) 74 [.ptr 0 (.lit 0)] [hpC 0 1 137 2 n,hpP 1 L] 2
  (fun r h n' => r = .p (.int .i64 (.sym n)) ∧ h = [hpC 0 1 137 2 n,hpP 1 L] ∧ n' = 2) := by
 refine callF_of_body tok Tryz.func74 (by kernel_rfl) rfl rfl rfl ?_; conv => cbv
 refine RetF.mk [i6 n] [hpC 0 1 137 2 n,hpP 1 L] 2 (Re.at [(0,0),(1,1)] []) rfl ⟨rfl,rfl,rfl⟩
def R0 : List Rw := [(0,[]),(0,[])]
theorem alloced_new {c i s : Int} {b : Bool} {R' : List Rw} (h : Alloced R0 c i s b R') : (slotsOf c = 0 ∧ b = false) ∨ (slotsOf c ≠ 0 ∧ i = 0 ∧ s = 0 ∧ b = true ∧ R' = [(c,(List.replicate (slotsOf c) false).set 0 true),(0,[])]) := by
 cases h with
 | no h => exact .inl ⟨h,rfl⟩
 | old i s l h0 hi hs h1 h2 =>
  exfalso
  have hl : l = [] := by
   rcases i with _ | _ | i
   ·exact (congrArg Prod.snd (Option.some.inj hi)).symm
   ·exact (congrArg Prod.snd (Option.some.inj hi)).symm
   ·simp [R0] at hi
  rw [hl] at hs
  simp at hs
 | fresh i d h0 h2 hi h3 =>
  rcases i with _ | i
  ·exact .inr ⟨h0,rfl,rfl,rfl,rfl⟩
  ·exact absurd rfl (h3 0 (Nat.succ_pos _) 0)
 | full h0 h2 h3 => exact absurd rfl (h3 0 0)
theorem slots_iff (c : Int) : slotsOf c ≠ 0 ↔ 0 ≤ c ∧ c ≤ 3 := by
 unfold slotsOf
 constructor
 ·intro h
  split at h
  ·omega
  ·split at h
   ·omega
   ·split at h
    ·omega
    ·split at h
     ·omega
     ·exact absurd rfl h
 ·intro h
  split
  ·decide
  ·split
   ·decide
   ·split
    ·decide
    ·split
     ·decide
     ·omega
theorem R0_ok : ∀ e ∈ R0,e.2.length ≤ 8 := by decide
end Go.Proofs.YtpbhcdbkmmjimaaGreatDoor
namespace Go.Proofs.YtpbhcdbkmmjimaaGreatDoor
open Go Go.LX
set_option maxRecDepth 100000
set_option linter.unusedVariables false
set_option linter.unusedSimpArgs false
set_option maxHeartbeats 32000000
theorem used_no_lx (R : List Rw) (n i j d : Int) (m : List Bool) (L : List PV) (hL : L = rpv R) (hn : n = R.length) (hi0 : 0 ≤ i) (hi : R[i.toNat]? = some (d,m)) (hm : m.length ≤ 8) (hj : 0 ≤ j → m[j.toNat]? ≠ some true) : CallF (fun _ => Tryz.prog) 77 [.ptr 0 (.lit 0),i6 i,i6 j] [hpC 0 1 137 2 n,hpP 1 L] 2
  (fun r h n' => r = .p (.bool false) ∧ h = [hpC 0 1 137 2 n,hpP 1 L] ∧ n' = 2) := by
 have hiR : i.toNat < R.length := (List.getElem?_eq_some_iff.1 hi).1
 obtain ⟨y,hy⟩ : ∃ y : ByteArray,y = ⟨(mkB m).toArray⟩ := ⟨_,rfl⟩
 obtain ⟨c1,c2⟩ := rpv_get R i.toNat _ hi
 dsimp only at c1 c2
 rw [← hL] at c1 c2
 rw [← hy] at c2
 refine callF_of_body tok Tryz.func77 (by kernel_rfl) rfl rfl rfl ?_; conv => cbv
 refine cfr (has_lx n i L hi0 (by omega)) [(0,0),(1,1)] (fun r h' n' ⟨e1,e2,e3⟩ => ?_)
 subst e1 e2 e3
 conv => cbv
 refine Need.mk ⟨hi0,by show i < n; omega⟩ ?_
 conv => cbv
 refine Sum.mk fun w hw => ?_
 have hw : w = i * 2 := hw
 conv => cbv
 refine Sum.mk fun a ha => ?_
 have ha : a = w + 1 := ha
 conv => cbv
 refine Cell.at a _ c2 (by simp [I.val]) (by omega) ?_
 conv => cbv
 obtain ⟨N,hN⟩ : ∃ N : Int,N = m.length := ⟨_,rfl⟩
 have hys : (y.size : Int) = N := by rw [hy,mk_size,mkB_length,hN]
 refine LoopF.mk (fun k s => ∃ pos : Int,s = ⟨.ptr 0 (.lit 0) :: .p (.int .i64 (.sym i)) :: .p (.int .i64 (.sym j)) :: (undefs 18 ++ .ptr 2 (.lit 0) :: undefs 9),[(2,.iter (fun _ => y) (.sym pos)),hpC 0 1 137 2 n,hpP 1 L],3⟩ ∧ 0 ≤ pos ∧ pos ≤ N ∧ (j < 0 ∨ pos ≤ j) ∧ k = (N - pos).toNat) N.toNat _
  (Re.at [(0,0),(1,1),(2,2)] []) ⟨0,rfl,by omega,by omega,by omega,by omega⟩ ?_
 rintro k s ⟨pos,rfl,h0,h1,hpj,hk⟩
 conv => cbv
 by_cases hend : pos = N
 ·refine NextS.over (by show (y.size : Int) ≤ pos; omega) ?_
  conv => cbv
  refine RetF.mk [.p (.bool false)] [hpC 0 1 137 2 n,hpP 1 L] 2 (Re.at [(0,0),(1,1)] []) rfl ⟨rfl,rfl,rfl⟩
 ·obtain ⟨x,hb⟩ : ∃ x,m[pos.toNat]? = some x := ⟨_,List.getElem?_eq_getElem (by omega)⟩
  have hx : (mkB m)[pos.toNat]? = some (if x then 120 else 46) := by rw [mkB,List.getElem?_map,hb]; rfl
  have hd := dec_at (mkB m) (mkB_low m) pos.toNat _ hx
  rw [← hy] at hd
  obtain ⟨k',rfl⟩ : ∃ k',k = k' + 1 := ⟨k - 1,by omega⟩
  refine NextS.more (by show pos < (y.size : Int); omega) ?_
  intro r p' hr hp
  have hr : r = (if x then 120 else 46) := by
   have : r = ((Utf8.decode y pos.toNat).1 : Int) := hr
   rw [this,hd]; cases x <;> rfl
  have hp : p' = pos + 1 := by
   have : p' = pos + ((Utf8.decode y pos.toNat).2 : Int) := hp
   rw [this,hd]; rfl
  conv => cbv
  refine Br.mk (fun g => ?_) (fun g => ?_)
  ·have g : pos = j := g
   have hxb : x = false := by
    cases x with
    | false => rfl
    | true => exact absurd (by rw [← g]; exact hb) (hj (by omega))
   conv => cbv
   refine Br.mk (fun g2 => ?_) (fun g2 => ?_)
   ·have g2 : r = 120 := g2
    have gf : False := by rw [hxb] at hr; simp at hr; omega
    cases gf
   ·have g2 : ¬ r = 120 := g2
    conv => cbv
    refine RetF.mk [.p (.bool false)] [hpC 0 1 137 2 n,hpP 1 L] 2 (Re.at [(0,0),(1,1)] []) rfl ⟨rfl,rfl,rfl⟩
  ·have g : ¬ pos = j := g
   conv => cbv
   refine Again.mk k' _ (Nat.lt_succ_self _) (Re.at [(0,0),(1,1),(2,2)] []) ⟨p',rfl,by omega,by omega,by omega,by omega⟩
theorem free_no_lx (R : List Rw) (n i j d : Int) (m : List Bool) (L : List PV) (hL : L = rpv R) (hn : n = R.length) (hi0 : 0 ≤ i) (hi : R[i.toNat]? = some (d,m)) (hm : m.length ≤ 8) (hj : 0 ≤ j → m[j.toNat]? ≠ some true) : CallF (fun _ => Tryz.prog) 134 [.ptr 0 (.lit 0),i6 i,i6 j] [hpC 0 1 137 2 n,hpP 1 L] 2
  (fun r h n' => r = .p (.bool false) ∧ h = [hpC 0 1 137 2 n,hpP 1 L] ∧ n' = 2) := by
 refine callF_of_body tok Tryz.func134 (by kernel_rfl) rfl rfl rfl ?_; conv => cbv
 refine cfr (used_no_lx R n i j d m L hL hn hi0 hi hm hj) [(0,0),(1,1)] (fun r h' n' ⟨e1,e2,e3⟩ => ?_)
 subst e1 e2 e3
 conv => cbv
 refine RetF.mk [.p (.bool false)] [hpC 0 1 137 2 n,hpP 1 L] 2 (Re.at [(0,0),(1,1)] []) rfl ⟨rfl,rfl,rfl⟩
theorem pvles_self : ∀ l : List PV,pvles l l
 | [] => trivial
 | x :: l => ⟨pvle_refl x,pvles_self l⟩
theorem rpv_upd0 : ∀ (R : List Rw) (i : Nat),i < R.length → pvles (updL (rpv R) (2 * i) [.int .i64 (.lit 0),.str fun _ => ⟨#[]⟩]) (rpv (R.set i (0,[])))
 | [],i,h => by simp at h
 | (c,l) :: R,0,_ => ⟨by simp [pvle,I.val],SEq.mk rfl,pvles_self _⟩
 | (c,l) :: R,i + 1,h => by
  have ih := rpv_upd0 R i (by simpa using h)
  exact ⟨pvle_refl _,pvle_refl _,ih⟩
def freed (R : List Rw) (i : Nat) (d : Int) (m : List Bool) : List Rw := R.set i (if m.count true = 0 then (0,[]) else (d,m))
theorem free_lx (R R' : List Rw) (n i j d : Int) (m : List Bool) (L : List PV) (hL : L = rpv R) (hn : n = R.length) (hR : R.length ≤ 1000) (hi0 : 0 ≤ i) (hi : R[i.toNat]? = some (d,m)) (hm : m.length ≤ 8) (hj0 : 0 ≤ j) (hj : m[j.toNat]? = some true) (hR' : R' = freed R i.toNat d (m.set j.toNat false)) :
  CallF (fun _ => Tryz.prog) 134 [.ptr 0 (.lit 0),i6 i,i6 j] [hpC 0 1 137 2 n,hpP 1 L] 2
   (fun r h n' => ∃ L' : List PV,r = .p (.bool true) ∧ h = [hpC 0 1 137 2 n,hpP 1 L'] ∧ n' = 2 ∧ L' = rpv R') := by
 have hiR : i.toNat < R.length := (List.getElem?_eq_some_iff.1 hi).1
 obtain ⟨m2,hm2⟩ : ∃ m2,m2 = m.set j.toNat false := ⟨_,rfl⟩
 have hm2l : m2.length ≤ 8 := by rw [hm2,List.length_set]; exact hm
 obtain ⟨R2,hR2⟩ : ∃ R2,R2 = R.set i.toNat (d,m2) := ⟨_,rfl⟩
 have hR2i : R2[i.toNat]? = some (d,m2) := by rw [hR2,List.getElem?_set_self hiR]
 have hR2l : R2.length = R.length := by rw [hR2,List.length_set]
 obtain ⟨y,hy⟩ : ∃ y : ByteArray,y = ⟨(mkB m2).toArray⟩ := ⟨_,rfl⟩
 refine callF_of_body tok Tryz.func134 (by kernel_rfl) rfl rfl rfl ?_; conv => cbv
 refine cfr (used_lx R n i j d m L hL hn hi0 hi true hj0 hj) [(0,0),(1,1)] (fun r h' n' ⟨e1,e2,e3⟩ => ?_)
 subst e1 e2 e3
 conv => cbv
 refine CallF.le (args0 := [.ptr 0 (.lit 0),i6 i,i6 j,.p (.int .i32 (.sym 46))]) (cfr (mark_lx R n i j 46 d m L hL hn hi0 hi hm hR false rfl) [(0,0),(1,1)] (fun r h' n' hrr => ?_)) (by simp [ales,ale,pvle,I.val])
 obtain ⟨L2,e1,e2,e3,hL2⟩ := hrr
 rw [if_pos hj0,← hm2,← hR2] at hL2
 subst e1 e2 e3
 obtain ⟨c1,c2⟩ := rpv_get R2 i.toNat _ hR2i
 dsimp only at c1 c2
 rw [← hL2] at c1 c2
 rw [← hy] at c2
 have hL2l : L2.length = 2 * R.length := by rw [hL2,rpv_length,hR2l]
 conv => cbv
 refine Need.mk ⟨hi0,by show i < n; omega⟩ ?_
 conv => cbv
 refine Sum.mk fun w hw => ?_
 have hw : w = i * 2 := hw
 conv => cbv
 refine Sum.mk fun a ha => ?_
 have ha : a = w + 1 := ha
 conv => cbv
 refine Cell.at a _ c2 (by simp [I.val]) (by omega) ?_
 conv => cbv
 refine callF_val (countUsed_lx m2 y hy (by omega)) (by simp [ales,ale,renVs,renV,pvle_refl]) rfl (fun r ⟨v,hr,_⟩ => by subst hr; rfl) (fun r hrr => ?_)
 obtain ⟨u,hr,hu⟩ := hrr
 subst hr
 conv => cbv
 refine Br.mk (fun g => ?_) (fun g => ?_)
 ·have g : u = 0 := g
  have hq : R' = R2.set i.toNat (0,[]) := by
   rw [hR',freed,← hm2,if_pos (by omega),hR2,List.set_set]
  obtain ⟨L9,hL9⟩ : ∃ L9,L9 = rpv R' := ⟨_,rfl⟩
  conv => cbv
  refine Need.mk ⟨hi0,by show i < n; omega⟩ ?_
  conv => cbv
  refine Sum.mk fun w2 hw2 => ?_
  have hw2 : w2 = i * 2 := hw2
  conv => cbv
  refine Need.mk (by show w2 + ((2 : Nat) : Int) ≤ (L2.length : Int); omega) ?_
  conv => cbv
  refine Upd.mk fun L3 hL3 => ?_
  have hL3 : L3 = updL L2 w2.toNat [.int .i64 (.lit 0),.str fun _ => ⟨#[]⟩] := hL3
  have hle : pvles L3 L9 := by
   rw [hL3,hL2,hL9,hq,show w2.toNat = 2 * i.toNat by omega]
   exact rpv_upd0 R2 i.toNat (by omega)
  clear hL3
  unfold pvles at hle
  conv => cbv
  refine RetF.mk [.p (.bool true)] [hpC 0 1 137 2 n,hpP 1 L9] 2 (Re.at [(0,0),(1,1)] []) rfl ⟨L9,rfl,rfl,rfl,hL9⟩
 ·have g : ¬ u = 0 := g
  have hq : R' = R2 := by rw [hR',freed,← hm2,if_neg (by omega),hR2]
  rw [← hq] at hL2
  conv => cbv
  refine RetF.mk [.p (.bool true)] [hpC 0 1 137 2 n,hpP 1 L2] 2 (Re.at [(0,0),(1,1)] []) rfl ⟨L2,rfl,rfl,rfl,hL2⟩
theorem class_none_lx (R : List Rw) (n i d : Int) (L : List PV) (hL : L = rpv R) (hn : n = R.length) (hi0 : 0 ≤ i) (hi : R[i.toNat]? = some (d,[])) : CallF (fun _ => Tryz.prog) 75 [.ptr 0 (.lit 0),i6 i] [hpC 0 1 137 2 n,hpP 1 L] 2
  (fun r h n' => (∃ v : Int,r = .p (.int .i64 (.sym v)) ∧ v = -1) ∧ h = [hpC 0 1 137 2 n,hpP 1 L] ∧ n' = 2) := by
 have hiR : i.toNat < R.length := (List.getElem?_eq_some_iff.1 hi).1
 obtain ⟨y,hy⟩ : ∃ y : ByteArray,y = ⟨(mkB []).toArray⟩ := ⟨_,rfl⟩
 obtain ⟨c1,c2⟩ := rpv_get R i.toNat _ hi
 dsimp only at c1 c2
 rw [← hL] at c1 c2
 rw [← hy] at c2
 have hyn : y = ⟨#[]⟩ := hy
 refine callF_of_body tok Tryz.func75 (by kernel_rfl) rfl rfl rfl ?_; conv => cbv
 refine cfr (has_lx n i L hi0 (by omega)) [(0,0),(1,1)] (fun r h' n' ⟨e1,e2,e3⟩ => ?_)
 subst e1 e2 e3
 conv => cbv
 refine Need.mk ⟨hi0,by show i < n; omega⟩ ?_
 conv => cbv
 refine Sum.mk fun w hw => ?_
 have hw : w = i * 2 := hw
 conv => cbv
 refine Sum.mk fun a ha => ?_
 have ha : a = w + 1 := ha
 conv => cbv
 refine Cell.at a _ c2 (by simp [I.val]) (by omega) ?_
 conv => cbv
 refine Br.mk (fun g => ?_) (fun g => ?_)
 case refine_2 =>
  have gf : False := g hyn
  cases gf
 conv => cbv
 refine RetF.mk [i6 (-1)] [hpC 0 1 137 2 n,hpP 1 L] 2 (Re.at [(0,0),(1,1)] []) rfl ⟨⟨-1,rfl,rfl⟩,rfl,rfl⟩
end Go.Proofs.YtpbhcdbkmmjimaaGreatDoor
namespace Go.Proofs.YtpbhcdbkmmjimaaGreatDoor
open Go Go.LX
set_option maxRecDepth 100000
set_option linter.unusedVariables false
set_option linter.unusedSimpArgs false
set_option maxHeartbeats 32000000
def clsOf (e : Rw) : Int := if e.2 = [] then -1 else e.1
theorem classA_lx (R : List Rw) (n i v : Int) (e : Rw) (L : List PV) (hL : L = rpv R) (hn : n = R.length) (hi0 : 0 ≤ i) (hi : R[i.toNat]? = some e) (hv : v = clsOf e) : CallF (fun _ => Tryz.prog) 75 [.ptr 0 (.lit 0),i6 i] [hpC 0 1 137 2 n,hpP 1 L] 2
  (fun r h n' => r = .p (.int .i64 (.sym v)) ∧ h = [hpC 0 1 137 2 n,hpP 1 L] ∧ n' = 2) := by
 obtain ⟨d,m⟩ := e
 unfold clsOf at hv
 by_cases hm : m = []
 ·subst hm
  rw [if_pos rfl] at hv
  refine (class_none_lx R n i d L hL hn hi0 hi).mono ?_
  rintro r h n' ⟨⟨v',e1,e2⟩,e3,e4⟩
  exact ⟨by rw [e1,e2,hv],e3,e4⟩
 ·rw [if_neg hm] at hv
  rw [hv]
  exact class_lx R n i d m L hL hn hi0 hi hm
theorem wordsOf_cases (c : Int) : wordsOf c = 0 ∨ wordsOf c = 4 ∨ wordsOf c = 8 ∨ wordsOf c = 16 ∨ wordsOf c = 32 := by
 unfold wordsOf
 split
 ·omega
 ·split
  ·omega
  ·split
   ·omega
   ·split <;> omega
theorem refWords_lx (c w : Int) (h0 : 0 ≤ c) (h3 : c ≤ 3) (hw : w = wordsOf c) : CallF (fun _ => Tryz.prog) 62 [i6 c] [] 0 (fun r h n => r = .p (.int .i64 (.sym w)) ∧ h = [] ∧ n = 0) := by
 refine callF_of_body tok Tryz.func62 (by kernel_rfl) rfl rfl rfl ?_; conv => cbv
 refine Br.mk (fun g => ?_) (fun g => ?_)
 case refine_1 =>
  have gf : False := by have g : c < 0 := g; omega
  cases gf
 conv => cbv
 refine Br.mk (fun g => ?_) (fun g => ?_)
 case refine_1 =>
  have gf : False := by have g : 3 < c := g; omega
  cases gf
 conv => cbv
 refine Need.mk ⟨h0,by show c < 4; omega⟩ ?_
 conv => cbv
 have hc4 : c = 0 ∨ c = 1 ∨ c = 2 ∨ c = 3 := by omega
 rcases hc4 with e | e | e | e
 ·refine Cell.at c 0 (v := .int .i64 (.lit 4)) rfl (by simp [I.val]) (by omega) ?_
  have hw4 : w = 4 := by rw [hw,e]; rfl
  conv => cbv
  refine RetF.mk [i6 w] [] 0 (Re.at [] []) rfl ⟨rfl,rfl,rfl⟩
 ·refine Cell.at c 1 (v := .int .i64 (.lit 8)) rfl (by simp [I.val]) (by omega) ?_
  have hw4 : w = 8 := by rw [hw,e]; rfl
  conv => cbv
  refine RetF.mk [i6 w] [] 0 (Re.at [] []) rfl ⟨rfl,rfl,rfl⟩
 ·refine Cell.at c 2 (v := .int .i64 (.lit 16)) rfl (by simp [I.val]) (by omega) ?_
  have hw4 : w = 16 := by rw [hw,e]; rfl
  conv => cbv
  refine RetF.mk [i6 w] [] 0 (Re.at [] []) rfl ⟨rfl,rfl,rfl⟩
 ·refine Cell.at c 3 (v := .int .i64 (.lit 32)) rfl (by simp [I.val]) (by omega) ?_
  have hw4 : w = 32 := by rw [hw,e]; rfl
  conv => cbv
  refine RetF.mk [i6 w] [] 0 (Re.at [] []) rfl ⟨rfl,rfl,rfl⟩
theorem refSlots_lx (c k : Int) (h0 : 0 ≤ c) (h3 : c ≤ 3) (hk : k = slotsOf c) : CallF (fun _ => Tryz.prog) 30 [i6 c] [] 0 (fun r h n => r = .p (.int .i64 (.sym k)) ∧ h = [] ∧ n = 0) := by
 obtain ⟨w,hw⟩ : ∃ w,w = wordsOf c := ⟨_,rfl⟩
 refine callF_of_body tok Tryz.func30 (by kernel_rfl) rfl rfl rfl ?_; conv => cbv
 refine Br.mk (fun g => ?_) (fun g => ?_)
 case refine_1 =>
  have gf : False := by have g : c < 0 := g; omega
  cases gf
 conv => cbv
 refine Br.mk (fun g => ?_) (fun g => ?_)
 case refine_1 =>
  have gf : False := by have g : 3 < c := g; omega
  cases gf
 conv => cbv
 refine callF_frame (refWords_lx c w h0 h3 hw) [] rfl trivial rfl rfl (fun r h' n' ⟨e1,e2,e3⟩ => ?_)
 subst e1 e2 e3
 conv => cbv
 have hk2 : k = (32 : Int).tdiv w ∧ w ≠ 0 := by
  have : c = 0 ∨ c = 1 ∨ c = 2 ∨ c = 3 := by omega
  rcases this with e | e | e | e <;> (subst e; subst hk; subst hw; decide)
 have hk8 : 0 ≤ k ∧ k ≤ 8 := by
  have : c = 0 ∨ c = 1 ∨ c = 2 ∨ c = 3 := by omega
  rcases this with e | e | e | e <;> (subst e; subst hk; decide)
 refine Need.mk (show w ≠ 0 from hk2.2) ?_
 conv => cbv
 refine Fit.mk (by show (-9223372036854775808 : Int) ≤ Int.tdiv 32 w; omega) (by show Int.tdiv 32 w ≤ 9223372036854775807; omega) fun q hq => ?_
 have hq : q = Int.tdiv 32 w := hq
 have hqk : q = k := by rw [hq,hk2.1]
 conv => cbv
 refine RetF.mk [i6 k] [] 0 (Re.at [] []) rfl ⟨rfl,rfl,rfl⟩
theorem refSlotsA_lx (c k : Int) (hk : k = slotsOf c) : CallF (fun _ => Tryz.prog) 30 [i6 c] [] 0 (fun r h n => r = .p (.int .i64 (.sym k)) ∧ h = [] ∧ n = 0) := by
 by_cases h0 : 0 ≤ c ∧ c ≤ 3
 ·exact refSlots_lx c k h0.1 h0.2 hk
 have hk0 : k = 0 := by
  rw [hk]
  have : slotsOf c = 0 := Classical.byContradiction fun h => h0 ((slots_iff c).1 h)
  rw [this]; rfl
 refine callF_of_body tok Tryz.func30 (by kernel_rfl) rfl rfl rfl ?_; conv => cbv
 refine Br.mk (fun g => ?_) (fun g => ?_)
 ·conv => cbv
  refine RetF.mk [i6 k] [] 0 (Re.at [] []) rfl ⟨rfl,rfl,rfl⟩
 have g : ¬ c < 0 := g
 conv => cbv
 refine Br.mk (fun g => ?_) (fun g => ?_)
 ·conv => cbv
  refine RetF.mk [i6 k] [] 0 (Re.at [] []) rfl ⟨rfl,rfl,rfl⟩
 ·have gf : False := by have g : ¬ 3 < c := g; omega
  cases gf
theorem refWordsA_lx (c w : Int) (hw : w = wordsOf c) : CallF (fun _ => Tryz.prog) 62 [i6 c] [] 0 (fun r h n => r = .p (.int .i64 (.sym w)) ∧ h = [] ∧ n = 0) := by
 by_cases h0 : 0 ≤ c ∧ c ≤ 3
 ·exact refWords_lx c w h0.1 h0.2 hw
 have hk0 : w = 0 := by rw [hw,wordsOf,if_neg (by omega),if_neg (by omega),if_neg (by omega),if_neg (by omega)]
 refine callF_of_body tok Tryz.func62 (by kernel_rfl) rfl rfl rfl ?_; conv => cbv
 refine Br.mk (fun g => ?_) (fun g => ?_)
 ·conv => cbv
  refine RetF.mk [i6 w] [] 0 (Re.at [] []) rfl ⟨rfl,rfl,rfl⟩
 have g : ¬ c < 0 := g
 conv => cbv
 refine Br.mk (fun g => ?_) (fun g => ?_)
 ·conv => cbv
  refine RetF.mk [i6 w] [] 0 (Re.at [] []) rfl ⟨rfl,rfl,rfl⟩
 ·have gf : False := by have g : ¬ 3 < c := g; omega
  cases gf
end Go.Proofs.YtpbhcdbkmmjimaaGreatDoor
namespace Go.Proofs.YtpbhcdbkmmjimaaGreatDoor
open Go Go.LX
set_option maxRecDepth 100000
set_option linter.unusedVariables false
set_option linter.unusedSimpArgs false
set_option maxHeartbeats 32000000
def ofN (n : Int) : Int := if n < 4 then 0 else if n < 8 then 1 else if n < 16 then 2 else 3
inductive OfR (n : Int) : Int → Bool → Prop
 | yes (c : Int) (hc : c = ofN n) (h : 0 ≤ n ∧ n ≤ 31) : OfR n c true
 | no (h : ¬ (0 ≤ n ∧ n ≤ 31)) : OfR n 0 false
theorem of_lx (n : Int) : CallF (fun _ => Tryz.prog) 101 [i6 n] [] 0 (fun r h m => ∃ (c : Int) (b : Bool),r = .tup [i6 c,.p (.bool b)] ∧ h = [] ∧ m = 0 ∧ OfR n c b) := by
 refine callF_of_body tok Tryz.func101 (by kernel_rfl) rfl rfl rfl ?_; conv => cbv
 refine Br.mk (fun g => ?_) (fun g => ?_)
 ·have g : n < 0 := g
  have q : OfR n 0 false := .no (by omega)
  conv => cbv
  refine RetF.mk [i6 0,.p (.bool false)] [] 0 (Re.at [] []) rfl ⟨0,false,rfl,rfl,rfl,q⟩
 ·have g : ¬ n < 0 := g
  conv => cbv
  refine LoopF.mk (fun k s => ∃ pos : Int,s = ⟨.p (.int .i64 (.sym n)) :: (undefs 7 ++ .ptr 0 (.lit 0) :: undefs 9),[(0,.iter (fun _ => ⟨#[4,8,16,32]⟩) (.sym pos))],1⟩ ∧ 0 ≤ pos ∧ pos ≤ 4 ∧ (1 ≤ pos → 4 ≤ n) ∧ (2 ≤ pos → 8 ≤ n) ∧ (3 ≤ pos → 16 ≤ n) ∧ (4 ≤ pos → 32 ≤ n) ∧ k = (4 - pos).toNat) 4 _
   (Re.at [(0,0)] []) ⟨0,rfl,by omega,by omega,by omega,by omega,by omega,by omega,by omega⟩ ?_
  rintro k s ⟨pos,rfl,h0,h4,q1,q2,q3,q4,hk⟩
  conv => cbv
  by_cases hend : pos = 4
  ·have q : OfR n 0 false := .no (by omega)
   refine NextS.over (by show (4 : Int) ≤ pos; omega) ?_
   conv => cbv
   refine RetF.mk [i6 0,.p (.bool false)] [] 0 (Re.at [] []) rfl ⟨0,false,rfl,rfl,rfl,q⟩
  ·obtain ⟨x,hx⟩ : ∃ x,([4,8,16,32] : List UInt8)[pos.toNat]? = some x := ⟨_,List.getElem?_eq_getElem (by simp; omega)⟩
   have hd := dec_at [4,8,16,32] (by decide) pos.toNat x hx
   have hx4 : pos = 0 ∧ x.toNat = 4 ∨ pos = 1 ∧ x.toNat = 8 ∨ pos = 2 ∧ x.toNat = 16 ∨ pos = 3 ∧ x.toNat = 32 := by
    have : pos = 0 ∨ pos = 1 ∨ pos = 2 ∨ pos = 3 := by omega
    rcases this with e2 | e2 | e2 | e2 <;> (rw [e2] at hx; have hx := Option.some.inj hx; rw [← hx]; rw [e2]; decide)
   refine NextS.more (by show pos < (4 : Int); omega) ?_
   intro r p' hr hp
   have hr : r = (x.toNat : Int) := by
    have : r = ((Utf8.decode ⟨#[4,8,16,32]⟩ pos.toNat).1 : Int) := hr
    rw [this,hd]
   have hp : p' = pos + 1 := by
    have : p' = pos + ((Utf8.decode ⟨#[4,8,16,32]⟩ pos.toNat).2 : Int) := hp
    rw [this,hd]; rfl
   obtain ⟨k',rfl⟩ : ∃ k',k = k' + 1 := ⟨k - 1,by omega⟩
   conv => cbv
   refine Fit.mk (by show (-9223372036854775808 : Int) ≤ r; omega) (by show r ≤ 9223372036854775807; omega) fun q hq => ?_
   have hq : q = r := hq
   conv => cbv
   refine Br.mk (fun g => ?_) (fun g => ?_)
   ·have g : n < q := g
    have hc : pos = ofN n := by
     unfold ofN
     rcases hx4 with ⟨e1,e2⟩ | ⟨e1,e2⟩ | ⟨e1,e2⟩ | ⟨e1,e2⟩
     ·rw [if_pos (by omega)]; exact e1
     ·rw [if_neg (by omega),if_pos (by omega)]; exact e1
     ·rw [if_neg (by omega),if_neg (by omega),if_pos (by omega)]; exact e1
     ·rw [if_neg (by omega),if_neg (by omega),if_neg (by omega)]; exact e1
    have qq : OfR n pos true := .yes pos hc (by omega)
    conv => cbv
    refine RetF.mk [i6 pos,.p (.bool true)] [] 0 (Re.at [] []) rfl ⟨pos,true,rfl,rfl,rfl,qq⟩
   ·have g : ¬ n < q := g
    conv => cbv
    refine Again.mk k' _ (Nat.lt_succ_self _) (Re.at [(0,0)] []) ⟨p',rfl,by omega,by omega,by omega,by omega,by omega,by omega,by omega⟩
inductive SlotAt (R : List Rw) (at_ : Int) : Int → Int → Bool → Prop
 | no (h : ∀ (q s : Nat) (e : Rw),R[q]? = some e → wordsOf (clsOf e) ≠ 0 → (s : Int) * wordsOf (clsOf e) < 32 → at_ ≠ 32 * q + s * wordsOf (clsOf e)) : SlotAt R at_ 0 0 false
 | is (q s : Nat) (e : Rw) (he : R[q]? = some e) (hs : wordsOf (clsOf e) ≠ 0) (hlt : (s : Int) * wordsOf (clsOf e) < 32) (hat : at_ = 32 * q + s * wordsOf (clsOf e)) : SlotAt R at_ q s true
theorem slotAt_lx (R : List Rw) (n at_ W : Int) (L D : List PV) (hL : L = rpv R) (hn : n = R.length) (hR : R.length ≤ 1000) (hW : W = 32 * n) : CallF (fun _ => Tryz.prog) 106 [.ptr 0 (.lit 0),i6 at_] [hpB 0 1 3 3 W,hpC 1 2 137 2 n,hpP 2 L,hpP 3 D] 4
  (fun r h n' => ∃ (q s : Int) (b : Bool),r = .tup [i6 q,i6 s,.p (.bool b)] ∧ h = [hpB 0 1 3 3 W,hpC 1 2 137 2 n,hpP 2 L,hpP 3 D] ∧ n' = 4 ∧ SlotAt R at_ q s b) := by
 refine callF_of_body tok Tryz.func106 (by kernel_rfl) rfl rfl rfl ?_; conv => cbv
 refine Br.mk (fun g => ?_) (fun g => ?_)
 ·have g : at_ < 0 := g
  have qq : SlotAt R at_ 0 0 false := .no (fun q s e he hs hlt => by
   have : 0 ≤ (s : Int) * wordsOf (clsOf e) := Int.mul_nonneg (by omega) (wordsOf_bd _).1
   omega)
  conv => cbv
  refine RetF.mk [i6 0,i6 0,.p (.bool false)] [hpB 0 1 3 3 W,hpC 1 2 137 2 n,hpP 2 L,hpP 3 D] 4 (Re.at [(0,0),(1,1),(2,2),(3,3)] []) rfl ⟨0,0,false,rfl,rfl,rfl,qq⟩
 have g : ¬ at_ < 0 := g
 conv => cbv
 refine Br.mk (fun g2 => ?_) (fun g2 => ?_)
 ·have g2 : W ≤ at_ := g2
  have qq : SlotAt R at_ 0 0 false := .no (fun q s e he hs hlt => by
   have := (List.getElem?_eq_some_iff.1 he).1
   omega)
  conv => cbv
  refine RetF.mk [i6 0,i6 0,.p (.bool false)] [hpB 0 1 3 3 W,hpC 1 2 137 2 n,hpP 2 L,hpP 3 D] 4 (Re.at [(0,0),(1,1),(2,2),(3,3)] []) rfl ⟨0,0,false,rfl,rfl,rfl,qq⟩
 have g2 : ¬ W ≤ at_ := g2
 conv => cbv
 have ht : Int.tdiv at_ 32 = at_ / 32 := Int.tdiv_eq_ediv_of_nonneg (by omega)
 refine Fit.mk (by show (-9223372036854775808 : Int) ≤ Int.tdiv at_ 32; omega) (by show Int.tdiv at_ 32 ≤ 9223372036854775807; omega) fun q hq => ?_
 have hq : q = at_ / 32 := (show q = Int.tdiv at_ 32 from hq).trans ht
 clear ht
 conv => cbv
 refine Sum.mk fun z hz => ?_
 have hz : z = at_ % 32 := (show z = Int.tmod at_ 32 from hz).trans (Int.tmod_eq_emod_of_nonneg (by omega))
 obtain ⟨e,he⟩ : ∃ e,R[q.toNat]? = some e := ⟨_,List.getElem?_eq_getElem (by omega)⟩
 obtain ⟨v,hv⟩ : ∃ v,v = clsOf e := ⟨_,rfl⟩
 obtain ⟨w,hw⟩ : ∃ w,w = wordsOf v := ⟨_,rfl⟩
 have hw5 := wordsOf_cases v
 rw [← hw] at hw5
 conv => cbv
 refine cfr (classA_lx R n q v e L hL hn (by omega) he hv) [(0,1),(1,2)] (fun r h' n' ⟨e1,e2,e3⟩ => ?_)
 subst e1 e2 e3
 conv => cbv
 refine callF_frame (words_lx v w hw) [] rfl trivial rfl rfl (fun r h' n' ⟨e1,e2,e3⟩ => ?_)
 subst e1 e2 e3
 conv => cbv
 refine Br.mk (fun g3 => ?_) (fun g3 => ?_)
 ·have g3 : w = 0 := g3
  have qq : SlotAt R at_ 0 0 false := .no (fun q' s' e' he' hs' hlt' hat' => by
   have h0 : 0 ≤ (s' : Int) * wordsOf (clsOf e') := Int.mul_nonneg (by omega) (wordsOf_bd _).1
   have : q' = q.toNat := by omega
   subst this
   rw [he] at he'
   cases he'
   rw [← hv,← hw] at hs'
   exact hs' g3)
  conv => cbv
  refine RetF.mk [i6 0,i6 0,.p (.bool false)] [hpB 0 1 3 3 W,hpC 1 2 137 2 n,hpP 2 L,hpP 3 D] 4 (Re.at [(0,0),(1,1),(2,2),(3,3)] []) rfl ⟨0,0,false,rfl,rfl,rfl,qq⟩
 have g3 : ¬ w = 0 := g3
 conv => cbv
 refine Need.mk g3 ?_
 conv => cbv
 refine Sum.mk fun y hy => ?_
 have hy : y = z % w := (show y = Int.tmod z w from hy).trans (Int.tmod_eq_emod_of_nonneg (by omega))
 conv => cbv
 refine Br.mk (fun g4 => ?_) (fun g4 => ?_)
 ·have g4 : ¬ y = 0 := g4
  have qq : SlotAt R at_ 0 0 false := .no (fun q' s' e' he' hs' hlt' hat' => by
   have h0 : 0 ≤ (s' : Int) * wordsOf (clsOf e') := Int.mul_nonneg (by omega) (wordsOf_bd _).1
   have : q' = q.toNat := by omega
   subst this
   rw [he] at he'
   cases he'
   rw [← hv,← hw] at hat' h0 hlt'
   have : z = s' * w := by omega
   rw [this,Int.mul_emod_left] at hy
   exact g4 hy)
  conv => cbv
  refine RetF.mk [i6 0,i6 0,.p (.bool false)] [hpB 0 1 3 3 W,hpC 1 2 137 2 n,hpP 2 L,hpP 3 D] 4 (Re.at [(0,0),(1,1),(2,2),(3,3)] []) rfl ⟨0,0,false,rfl,rfl,rfl,qq⟩
 have g4 : y = 0 := Classical.byContradiction g4
 have ht : Int.tdiv z w = z / w := Int.tdiv_eq_ediv_of_nonneg (by omega)
 have hwz : w * (z / w) + z % w = z := Int.mul_ediv_add_emod z w
 have hd0 : 0 ≤ z / w := Int.ediv_nonneg (by omega) (by omega)
 obtain ⟨sn,hsn⟩ : ∃ sn : Nat,(sn : Int) = z / w := ⟨(z / w).toNat,by omega⟩
 rw [← hsn] at hwz ht
 have hsb : (sn : Int) ≤ z := by
  have h1 : (1 : Int) * sn ≤ w * sn := Int.mul_le_mul_of_nonneg_right (by omega) (by omega)
  omega
 have qq : SlotAt R at_ q sn true := by
  have hqn : q = (q.toNat : Int) := by omega
  rw [hqn]
  have hmul : (sn : Int) * w = z := by rw [Int.mul_comm]; omega
  refine .is q.toNat sn e he ?_ ?_ ?_
  ·rw [← hv,← hw]; exact g3
  ·rw [← hv,← hw,hmul]; omega
  ·rw [← hv,← hw,hmul]; omega
 clear hwz hd0
 conv => cbv
 refine draw_sound tok (by kernel_rfl) rfl (by kernel_rfl) ?_
 conv => cbv
 refine Need.mk g3 ?_
 conv => cbv
 refine Fit.mk (by show (-9223372036854775808 : Int) ≤ Int.tdiv z w; omega) (by show Int.tdiv z w ≤ 9223372036854775807; omega) fun s0 hs0 => ?_
 have hs0 : s0 = sn := (show s0 = Int.tdiv z w from hs0).trans ht
 rw [← hs0] at qq
 conv => cbv
 refine RetF.mk [i6 q,i6 s0,.p (.bool true)] [hpB 0 1 3 3 W,hpC 1 2 137 2 n,hpP 2 L,hpP 3 D] 4 (Re.at [(0,0),(1,1),(2,2),(3,3)] []) rfl ⟨q,s0,true,rfl,rfl,rfl,qq⟩
end Go.Proofs.YtpbhcdbkmmjimaaGreatDoor
namespace Go.Proofs.YtpbhcdbkmmjimaaGreatDoor
open Go Go.LX
set_option maxRecDepth 100000
set_option linter.unusedVariables false
set_option linter.unusedSimpArgs false
set_option maxHeartbeats 32000000
def ipv (l : List Int) : List PV := l.map fun z => .int .i64 (.sym z)
theorem ipv_get {l : List Int} {i : Nat} {z : Int} (h : l[i]? = some z) : (ipv l)[i]? = some (.int .i64 (.sym z)) := by rw [ipv,List.getElem?_map,h]; rfl
theorem ipv_length (l : List Int) : (ipv l).length = l.length := List.length_map _
def RowsOk (R : List Rw) : Prop := ∀ e ∈ R,e.2.length ≤ 8 ∧ (e.2 ≠ [] → wordsOf e.1 ≠ 0 ∧ e.2.length = slotsOf e.1 ∧ true ∈ e.2)
def IsObj (R : List Rw) (at_ : Int) : Prop := ∃ (q s : Nat) (e : Rw),R[q]? = some e ∧ e.2[s]? = some true ∧ at_ = 32 * q + s * wordsOf e.1
theorem slots_words {c : Int} {s : Nat} (h : wordsOf c ≠ 0) (hs : s < slotsOf c) : (s : Int) * wordsOf c + wordsOf c ≤ 32 := by
 unfold wordsOf at *
 unfold slotsOf at hs
 split at h
 ·rw [if_pos (by assumption)] at hs ⊢; omega
 ·split at h
  ·rw [if_neg (by assumption),if_pos (by assumption)] at hs ⊢; omega
  ·split at h
   ·rw [if_neg (by assumption),if_neg (by assumption),if_pos (by assumption)] at hs ⊢; omega
   ·split at h
    ·rw [if_neg (by assumption),if_neg (by assumption),if_neg (by assumption),if_pos (by assumption)] at hs ⊢; omega
    ·exact absurd rfl h
theorem obj_slot {R : List Rw} (hR : RowsOk R) {at_ : Int} {q s : Int} {b : Bool} (h : SlotAt R at_ q s b) : (b = true ∧ 0 ≤ q ∧ 0 ≤ s ∧ q < R.length ∧ 0 ≤ at_ ∧ at_ < 32 * R.length ∧ ∃ e : Rw,R[q.toNat]? = some e ∧ at_ = 32 * q + s * wordsOf e.1 ∧ (IsObj R at_ ↔ e.2[s.toNat]? = some true)) ∨ (b = false ∧ ¬ IsObj R at_) := by
 cases h with
 | no h =>
  refine .inr ⟨rfl,?_⟩
  rintro ⟨q,s,e,he,hs,hat⟩
  have hne : e.2 ≠ [] := by intro e0; rw [e0] at hs; simp at hs
  have hcl : clsOf e = e.1 := if_neg hne
  obtain ⟨_,hok⟩ := hR e (List.mem_of_getElem? he)
  obtain ⟨h1,h2,_⟩ := hok hne
  have hsl : s < slotsOf e.1 := by have := (List.getElem?_eq_some_iff.1 hs).1; omega
  have := slots_words h1 hsl
  have := (wordsOf_bd e.1).1
  exact h q s e he (by rw [hcl]; exact h1) (by rw [hcl]; omega) (by rw [hcl]; exact hat)
 | is q s e he hs hlt hat =>
  have hne : e.2 ≠ [] := by intro e0; apply hs; rw [clsOf,if_pos e0]; rfl
  have hcl : clsOf e = e.1 := if_neg hne
  rw [hcl] at hs hlt hat
  have hq := (List.getElem?_eq_some_iff.1 he).1
  have h0 : 0 ≤ (s : Int) * wordsOf e.1 := Int.mul_nonneg (by omega) (wordsOf_bd _).1
  refine .inl ⟨rfl,by omega,by omega,by omega,by omega,by omega,e,by simpa using he,by simpa using hat,?_⟩
  constructor
  ·rintro ⟨q',s',e',he',hs',hat'⟩
   have hne' : e'.2 ≠ [] := by intro e0; rw [e0] at hs'; simp at hs'
   obtain ⟨_,hok⟩ := hR e' (List.mem_of_getElem? he')
   obtain ⟨h1,h2,_⟩ := hok hne'
   have hsl : s' < slotsOf e'.1 := by have := (List.getElem?_eq_some_iff.1 hs').1; omega
   have h3 := slots_words h1 hsl
   have h4 := (wordsOf_bd e'.1).1
   have h5 : 0 ≤ (s' : Int) * wordsOf e'.1 := Int.mul_nonneg (by omega) h4
   have h6 : q' = q := by omega
   subst h6
   rw [he] at he'
   cases he'
   have h7 : (s : Int) * wordsOf e.1 = s' * wordsOf e.1 := by omega
   have h8 := Int.eq_of_mul_eq_mul_right h1 h7
   rw [Int.toNat_natCast,show s = s' by omega]; exact hs'
  ·intro h
   exact ⟨q,s,e,he,by simpa using h,hat⟩
inductive Slotted (R : List Rw) (at_ : Int) : Int → Int → Bool → Prop
 | no (q s : Int) (h : ¬ IsObj R at_) : Slotted R at_ q s false
 | off (q s : Int) (e : Rw) (hq0 : 0 ≤ q) (hs0 : 0 ≤ s) (he : R[q.toNat]? = some e) (hu : e.2[s.toNat]? ≠ some true) (h : ¬ IsObj R at_) : Slotted R at_ q s true
 | on (q s : Int) (e : Rw) (hq0 : 0 ≤ q) (hs0 : 0 ≤ s) (he : R[q.toNat]? = some e) (hu : e.2[s.toNat]? = some true) (h : IsObj R at_) (ha0 : 0 ≤ at_) (ha1 : at_ < 32 * R.length) (hat : at_ = 32 * q + s * wordsOf e.1) : Slotted R at_ q s true
theorem slotted {R : List Rw} (hR : RowsOk R) {at_ : Int} {q s : Int} {b : Bool} (h : SlotAt R at_ q s b) : Slotted R at_ q s b := by
 rcases obj_slot hR h with ⟨rfl,h1,h2,h3,h4,h5,e,h6,h7,h8⟩ | ⟨rfl,h1⟩
 ·by_cases hu : e.2[s.toNat]? = some true
  ·exact .on q s e h1 h2 h6 hu (h8.2 hu) h4 h5 h7
  ·exact .off q s e h1 h2 h6 hu (fun h => hu (h8.1 h))
 ·exact .no q s h1
theorem slotB_lx (R : List Rw) (n at_ W : Int) (L D : List PV) (hL : L = rpv R) (hn : n = R.length) (hR : R.length ≤ 1000) (hok : RowsOk R) (hW : W = 32 * n) : CallF (fun _ => Tryz.prog) 106 [.ptr 0 (.lit 0),i6 at_] [hpB 0 1 3 3 W,hpC 1 2 137 2 n,hpP 2 L,hpP 3 D] 4
  (fun r h n' => ∃ (q s : Int) (b : Bool),r = .tup [i6 q,i6 s,.p (.bool b)] ∧ h = [hpB 0 1 3 3 W,hpC 1 2 137 2 n,hpP 2 L,hpP 3 D] ∧ n' = 4 ∧ Slotted R at_ q s b) :=
 (slotAt_lx R n at_ W L D hL hn hR hW).mono fun r h n' ⟨q,s,b,h1,h2,h3,h4⟩ => ⟨q,s,b,h1,h2,h3,slotted hok h4⟩
theorem tdiv16 (x : Int) (h : -9223372036854775808 ≤ x ∧ x ≤ 9223372036854775807) : -9223372036854775808 ≤ Int.tdiv x 16 ∧ Int.tdiv x 16 ≤ 9223372036854775807 := by
 rcases Int.le_total 0 x with h0 | h0
 ·rw [Int.tdiv_eq_ediv_of_nonneg h0]; omega
 ·have : Int.tdiv x 16 = -(Int.tdiv (-x) 16) := by rw [Int.neg_tdiv]; omega
  rw [this,Int.tdiv_eq_ediv_of_nonneg (by omega)]; omega
inductive Looked (R : List Rw) (ws : List Int) (at_ : Int) : LV → Prop
 | no (h : ¬ IsObj R at_) : Looked R ws at_ (.iface 142 (.agg []))
 | is (x k l : Int) (h : IsObj R at_) (h0 : 0 ≤ at_) (hx : ws[at_.toNat]? = some x) (hk : k = Int.tmod x 16) (hl : l = Int.tdiv x 16) : Looked R ws at_ (.iface 114 (.agg [i6 k,i6 l]))
theorem look_lx (R : List Rw) (ws : List Int) (n at_ W : Int) (L D : List PV) (hL : L = rpv R) (hD : D = ipv ws) (hn : n = R.length) (hR : R.length ≤ 1000) (hok : RowsOk R) (hW : W = 32 * n) (hws : (ws.length : Int) = W) (hwb : ∀ x ∈ ws,-9223372036854775808 ≤ x ∧ x ≤ 9223372036854775807) : CallF (fun _ => Tryz.prog) 80 [.ptr 0 (.lit 0),i6 at_] [hpB 0 1 3 3 W,hpC 1 2 137 2 n,hpP 2 L,hpP 3 D] 4
  (fun r h n' => Looked R ws at_ r ∧ h = [hpB 0 1 3 3 W,hpC 1 2 137 2 n,hpP 2 L,hpP 3 D] ∧ n' = 4) := by
 refine callF_of_body tok Tryz.func80 (by kernel_rfl) rfl rfl rfl ?_; conv => cbv
 refine cfr (slotB_lx R n at_ W L D hL hn hR hok hW) [(0,0),(1,1),(2,2),(3,3)] (fun r h' n' hrr => ?_)
 obtain ⟨q,s,b,e1,e2,e3,hS⟩ := hrr
 subst e1 e2 e3
 cases hS with
 | no hno =>
  conv => cbv
  refine RetF.mk [.iface 142 (.agg [])] [hpB 0 1 3 3 W,hpC 1 2 137 2 n,hpP 2 L,hpP 3 D] 4 (Re.at [(0,0),(1,1),(2,2),(3,3)] []) rfl ⟨.no hno,rfl,rfl⟩
 | off e hq0 hs0 he hu hno =>
  conv => cbv
  refine cfr (used_no_lx R n q s e.1 e.2 L hL hn hq0 he (hok e (List.mem_of_getElem? he)).1 (fun _ => hu)) [(0,1),(1,2)] (fun r h' n' ⟨e1,e2,e3⟩ => ?_)
  subst e1 e2 e3
  conv => cbv
  refine RetF.mk [.iface 142 (.agg [])] [hpB 0 1 3 3 W,hpC 1 2 137 2 n,hpP 2 L,hpP 3 D] 4 (Re.at [(0,0),(1,1),(2,2),(3,3)] []) rfl ⟨.no hno,rfl,rfl⟩
 | on e hq0 hs0 he hu hobj ha0 ha1 hat =>
  conv => cbv
  refine cfr (used_lx R n q s e.1 e.2 L hL hn hq0 he true hs0 hu) [(0,1),(1,2)] (fun r h' n' ⟨e1,e2,e3⟩ => ?_)
  subst e1 e2 e3
  conv => cbv
  obtain ⟨x,hx⟩ : ∃ x,ws[at_.toNat]? = some x := ⟨_,List.getElem?_eq_getElem (by omega)⟩
  have hxb := hwb x (List.mem_of_getElem? hx)
  have hc := ipv_get hx
  rw [← hD] at hc
  refine draw_sound tok (by kernel_rfl) rfl (by kernel_rfl) ?_
  conv => cbv
  refine Need.mk ⟨ha0,by show at_ < W; omega⟩ ?_
  conv => cbv
  refine Cell.at at_ _ hc (by simp [I.val]) rfl ?_
  conv => cbv
  refine Sum.mk fun k hk => ?_
  have hk : k = Int.tmod x 16 := hk
  conv => cbv
  refine Need.mk ⟨ha0,by show at_ < W; omega⟩ ?_
  conv => cbv
  refine Cell.at at_ _ hc (by simp [I.val]) rfl ?_
  conv => cbv
  have hl16 := tdiv16 x hxb
  refine Fit.mk (by show (-9223372036854775808 : Int) ≤ Int.tdiv x 16; omega) (by show Int.tdiv x 16 ≤ 9223372036854775807; omega) fun l hl => ?_
  have hl : l = Int.tdiv x 16 := hl
  conv => cbv
  refine RetF.mk [.iface 114 (.agg [i6 k,i6 l])] [hpB 0 1 3 3 W,hpC 1 2 137 2 n,hpP 2 L,hpP 3 D] 4 (Re.at [(0,0),(1,1),(2,2),(3,3)] []) rfl ⟨.is x k l hobj ha0 hx hk hl,rfl,rfl⟩
end Go.Proofs.YtpbhcdbkmmjimaaGreatDoor
