/-
  The ground of the proof, part 7: the calculus and what is proved with it.
-/
import Derived.Test.YtkhfgngcoiablaaGreatDoorBf
import Derived.Test.YtkhfgngcoiablaaGreatDoorBc
namespace Go.Proofs.YtkhfgngcoiablaaGreatDoor
open Go Go.LX
set_option maxRecDepth 100000
set_option linter.unusedVariables false
set_option linter.unusedSimpArgs false
set_option maxHeartbeats 32000000
theorem ringPlace_lx (b n s k i : Int) (hn : 0 < n) (hs : 0 ≤ s ∧ s ≤ 1000000) (hi : 0 ≤ i ∧ i ≤ 4611686018427387903) : CallF (fun _ => Tryz.prog) 113 [.agg [i6 b,i6 n,i6 s,i6 k],i6 i] [] 0 (fun r h n' => (∃ v : Int,r = .p (.int .i64 (.sym v)) ∧ v = (s + i) % n) ∧ h = [] ∧ n' = 0) := by
 refine callF_of_body tok Tryz.func113 (by kernel_rfl) rfl rfl rfl ?_; conv => cbv
 refine Fit.mk (by show (-9223372036854775808 : Int) ≤ s + i; omega) (by show s + i ≤ 9223372036854775807; omega) fun u hu => ?_
 have hu : u = s + i := hu
 conv => cbv
 refine Need.mk (show n ≠ 0 by omega) ?_
 conv => cbv
 refine Sum.mk fun v hv => ?_
 have hv : v = (s + i) % n := (show v = u.tmod n from hv).trans (by rw [hu,Int.tmod_eq_emod_of_nonneg (by omega)])
 conv => cbv
 refine RetF.mk [i6 v] [] 0 (Re.at [] []) rfl ⟨⟨v,rfl,hv⟩,rfl,rfl⟩
theorem chanFs_b62 : ∀ {X : List Int} {y0 y1 y2 y3 y4 y5 y6 y7 y8 : Int},chanFs X = [y0,y1,y2,y3,y4,y5,y6,y7,y8] → (∀ x ∈ X,-9223372036854775808 ≤ x ∧ x ≤ 9223372036854775807) → ∀ x ∈ [y0,y1,y2,y3,y4,y5,y6,y7,y8],b62 x := by
 intro X y0 y1 y2 y3 y4 y5 y6 y7 y8 h hb
 match X,h with
 | [x0,x1,x2,x3,x4,x5,x6,x7,x8],h =>
  simp only [chanFs,List.cons.injEq,and_true] at h
  obtain ⟨rfl,rfl,rfl,rfl,rfl,rfl,rfl,rfl,rfl⟩ := h
  simp only [List.forall_mem_cons] at hb ⊢
  obtain ⟨q0,q1,q2,q3,q4,q5,q6,q7,q8,_⟩ := hb
  exact ⟨b62_num q0,b62_num q1,b62_num q2,b62_num q3,b62_at q4,b62_at q5,b62_at q6,b62_at q7,b62_at q8,fun x hx => by cases hx⟩
inductive RPut (R : List Rw) (ph a w : Int) (s : St4) : Int → St4 → Prop
 | no (h : ¬ Kept R s.1 a 1 9) : RPut R ph a w s 10 s
 | full (X : List Int) (y0 y1 y2 y3 y4 y5 y6 y7 y8 : Int) (h : Kept R s.1 a 1 9) (hX : Wrds R s.1 a X) (hy : [y0,y1,y2,y3,y4,y5,y6,y7,y8] = chanFs X) (hf : ¬ ((0 < y0 ∧ Kept R s.1 y4 2 y0) ∧ max y2 0 < y0)) : RPut R ph a w s 9 s
 | ok (X : List Int) (y0 y1 y2 y3 y4 y5 y6 y7 y8 : Int) (h : Kept R s.1 a 1 9) (hX : Wrds R s.1 a X) (hy : [y0,y1,y2,y3,y4,y5,y6,y7,y8] = chanFs X) (h0 : 0 < y0) (hK : Kept R s.1 y4 2 y0) (hf : max y2 0 < y0) (f e : Int) (ws1 : List Int) (c1 : List Int × List Int × Bool) (s' : St4) (hst : Stored R s.1 y4 ((max y3 0 % y0 + max y2 0) % y0) w f ws1) (hc : c1 = storeS R ph f w s.2) (hP : PT 1 9 (chanWs [y0,y1,max y2 0 + 1,y3,y4,y5,y6,y7,y8]) R ph a (ws1,c1) e s') : RPut R ph a w s e s'
theorem ringPut_lx (R : List Rw) (ws C G : List Int) (N W ph sp cy : Int) (L D Q : List PV) (z : ByteArray) (ov : Bool) (h : HM R ws C G N W L D Q z) (o : Unit → Obj) (ho : IsPow o) (a w : Int) (hw : -9223372036854775808 ≤ w ∧ w ≤ 9223372036854775807) : CallF (fun _ => Tryz.prog) 52 [.ptr 0 (.lit 0),i6 a,i6 w] [hpA 0 1 5 6 3 W ph sp cy,hpB 1 2 4 3 W,hpC 2 3 233 2 N,hpP 3 L,hpP 4 D,hpF 5 z ov,hpP 6 Q,(7,.fix 0 o)] 8 (fun r h n => ∃ (e : Int) (ws' C' G' : List Int) (ov' : Bool) (D' Q' : List PV) (z' : ByteArray),r = .p (.int .i64 (.sym e)) ∧ h = [hpA 0 1 5 6 3 W ph sp cy,hpB 1 2 4 3 W,hpC 2 3 233 2 N,hpP 3 L,hpP 4 D',hpF 5 z' ov',hpP 6 Q',(7,.fix 0 o)] ∧ n = 8 ∧ HM R ws' C' G' N W L D' Q' z' ∧ RPut R ph a w (ws,C,G,ov) e (ws',C',G',ov')) := by
 refine callF_of_body tok Tryz.func52 (by kernel_rfl) rfl rfl rfl ?_; conv => cbv
 refine cfr (chan_lx R ws C G N W ph sp cy L D Q z ov h a) [(0,0),(1,1),(2,2),(3,3),(4,4),(5,5),(6,6)] (fun r h' n' hrr => ?_)
 obtain ⟨⟨y0,y1,y2,y3,y4,y5,y6,y7,y8,e,e1,hT⟩,e2,e3⟩ := hrr
 subst e1 e2 e3
 conv => cbv
 refine Br.mk (fun ge => ?_) (fun ge => ?_)
 ·have ge : ¬ e = 0 := ge
  have hno : ¬ Kept R ws a 1 9 ∧ e = 10 := by
   rcases hT.two with ⟨q1,_⟩ | ⟨q1,q2⟩
   ·exact absurd q1 ge
   ·exact ⟨q2,q1⟩
  obtain ⟨hno,he⟩ := hno
  have hR : RPut R ph a w (ws,C,G,ov) e (ws,C,G,ov) := by rw [he]; exact .no hno
  conv => cbv
  refine RetF.mk [i6 e] [hpA 0 1 5 6 3 W ph sp cy,hpB 1 2 4 3 W,hpC 2 3 233 2 N,hpP 3 L,hpP 4 D,hpF 5 z ov,hpP 6 Q,(7,.fix 0 o)] 8 (Re.at [(0,0),(1,1),(2,2),(3,3),(4,4),(5,5),(6,6),(7,7)] []) rfl ⟨e,ws,C,G,ov,D,Q,z,rfl,rfl,rfl,h,hR⟩
 ·have ge : ¬ ¬ e = 0 := ge
  have ge : e = 0 := Classical.not_not.1 ge
  obtain ⟨X,hKa,hX,hy⟩ : ∃ X,Kept R ws a 1 9 ∧ Wrds R ws a X ∧ [y0,y1,y2,y3,y4,y5,y6,y7,y8] = chanFs X := by
   generalize hyy : [y0,y1,y2,y3,y4,y5,y6,y7,y8] = yy at hT
   cases hT with
   | ok X h hX => exact ⟨X,h,hX,rfl⟩
   | no h => exact absurd ge (by decide)
  clear hT
  have hyb := chanFs_b62 hy.symm (hX.bd h.a)
  conv => cbv
  refine cfr (ringLook_lx R ws C G N W ph sp cy L D Q z ov h y0 y1 y2 y3 y4 y5 y6 y7 y8) [(0,0),(1,1),(2,2),(3,3),(4,4),(5,5),(6,6)] (fun r h' n' hrr => ?_)
  obtain ⟨hL,e2,e3⟩ := hrr
  subst e2 e3
  cases hL with
  | none hn =>
   have hR : RPut R ph a w (ws,C,G,ov) 9 (ws,C,G,ov) := .full X y0 y1 y2 y3 y4 y5 y6 y7 y8 hKa hX hy (fun q => hn q.1)
   conv => cbv
   refine RetF.mk [i6 9] [hpA 0 1 5 6 3 W ph sp cy,hpB 1 2 4 3 W,hpC 2 3 233 2 N,hpP 3 L,hpP 4 D,hpF 5 z ov,hpP 6 Q,(7,.fix 0 o)] 8 (Re.at [(0,0),(1,1),(2,2),(3,3),(4,4),(5,5),(6,6),(7,7)] []) rfl ⟨9,ws,C,G,ov,D,Q,z,rfl,rfl,rfl,h,hR⟩
  | row s k h0 hK hs hk =>
   have hbd := hK.bounds h.a
   have hs0 : 0 ≤ s ∧ s ≤ 1000000 := by
    rw [hs]
    have q1 := Int.emod_nonneg (max y3 0) (show y0 ≠ 0 by omega)
    have q2 := Int.emod_lt_of_pos (max y3 0) h0
    omega
   have hk0 : 0 ≤ k := by omega
   conv => cbv
   refine Br.mk (fun gk => ?_) (fun gk => ?_)
   ·have gk : y0 ≤ k := gk
    have hR : RPut R ph a w (ws,C,G,ov) 9 (ws,C,G,ov) := .full X y0 y1 y2 y3 y4 y5 y6 y7 y8 hKa hX hy (fun q => by omega)
    conv => cbv
    refine RetF.mk [i6 9] [hpA 0 1 5 6 3 W ph sp cy,hpB 1 2 4 3 W,hpC 2 3 233 2 N,hpP 3 L,hpP 4 D,hpF 5 z ov,hpP 6 Q,(7,.fix 0 o)] 8 (Re.at [(0,0),(1,1),(2,2),(3,3),(4,4),(5,5),(6,6),(7,7)] []) rfl ⟨9,ws,C,G,ov,D,Q,z,rfl,rfl,rfl,h,hR⟩
   ·have gk : ¬ y0 ≤ k := gk
    conv => cbv
    refine drawn_sound tok (by kernel_rfl) [(6,[7,2,1,0]),(8,[])] [0,1,2,3,4,5,7,6,8] (by kernel_rfl) ?_; conv => cbv
    refine callF_frame (ringPlace_lx y4 y0 s k k h0 hs0 (by omega)) [] rfl trivial rfl rfl (fun r h' n' hrr => ?_)
    obtain ⟨⟨v,e1,hv⟩,e2,e3⟩ := hrr
    subst e1 e2 e3
    conv => cbv
    refine cfr (store9_lx R ws C G N W ph sp cy L D Q z ov h o ho y4 v w hw) [(0,0),(1,1),(2,2),(3,3),(4,4),(5,5),(6,6),(7,7)] (fun r h' n' hrr => ?_)
    obtain ⟨f,ws1,C1,G1,ov1,D1,Q1,z1,e1,e2,e3,h1,hst,hc⟩ := hrr
    subst e1 e2 e3
    conv => cbv
    refine Fit.mk (by show (-9223372036854775808 : Int) ≤ k + 1; omega) (by show k + 1 ≤ 9223372036854775807; omega) fun k1 hk1 => ?_
    have hk1 : k1 = k + 1 := hk1
    have hyb1 : ∀ x ∈ [y0,y1,k1,y3,y4,y5,y6,y7,y8],b62 x := by
     simp only [List.forall_mem_cons] at hyb ⊢
     obtain ⟨q0,q1,q2,q3,q4,q5,q6,q7,q8,_⟩ := hyb
     exact ⟨q0,q1,by unfold b62; omega,q3,q4,q5,q6,q7,q8,fun x hx => by cases hx⟩
    conv => cbv
    refine cfr (putChan_lx R ws1 C1 G1 N W ph sp cy L D1 Q1 z1 ov1 h1 o ho a y0 y1 k1 y3 y4 y5 y6 y7 y8 hyb1) [(0,0),(1,1),(2,2),(3,3),(4,4),(5,5),(6,6),(7,7)] (fun r h' n' hrr => ?_)
    obtain ⟨e',ws2,C2,G2,ov2,D2,Q2,z2,e1,e2,e3,h2,hP⟩ := hrr
    subst e1 e2 e3
    have hR : RPut R ph a w (ws,C,G,ov) e' (ws2,C2,G2,ov2) := by
     refine .ok X y0 y1 y2 y3 y4 y5 y6 y7 y8 hKa hX hy h0 hK (by omega) f e' ws1 (C1,G1,ov1) _ ?_ hc ?_
     ·rw [← hs,← hk,← hv]; exact hst
     ·rw [← hk,← hk1]; exact hP
    conv => cbv
    refine RetF.mk [i6 e'] [hpA 0 1 5 6 3 W ph sp cy,hpB 1 2 4 3 W,hpC 2 3 233 2 N,hpP 3 L,hpP 4 D2,hpF 5 z2 ov2,hpP 6 Q2,(7,.fix 0 o)] 8 (Re.at [(0,0),(1,1),(2,2),(3,3),(4,4),(5,5),(6,6),(7,7)] []) rfl ⟨e',ws2,C2,G2,ov2,D2,Q2,z2,rfl,rfl,rfl,h2,hR⟩
inductive RTake (R : List Rw) (ph a : Int) (s : St4) : Int → Int → St4 → Prop
 | no (h : ¬ Kept R s.1 a 1 9) : RTake R ph a s 0 10 s
 | none (X : List Int) (y0 y1 y2 y3 y4 y5 y6 y7 y8 : Int) (h : Kept R s.1 a 1 9) (hX : Wrds R s.1 a X) (hy : [y0,y1,y2,y3,y4,y5,y6,y7,y8] = chanFs X) (hf : ¬ ((0 < y0 ∧ Kept R s.1 y4 2 y0) ∧ 0 < y2)) : RTake R ph a s 0 8 s
 | ok (X : List Int) (y0 y1 y2 y3 y4 y5 y6 y7 y8 : Int) (h : Kept R s.1 a 1 9) (hX : Wrds R s.1 a X) (hy : [y0,y1,y2,y3,y4,y5,y6,y7,y8] = chanFs X) (h0 : 0 < y0) (hK : Kept R s.1 y4 2 y0) (hf : 0 < y2) (x g f e : Int) (ws1 : List Int) (c1 : List Int × List Int × Bool) (s' : St4) (hl : Loaded R s.1 y4 (max y3 0 % y0) x g) (hst : Stored R s.1 y4 (max y3 0 % y0) 0 f ws1) (hc : c1 = storeS R ph f 0 s.2) (hP : PT 1 9 (chanWs [y0,y1,y2 - 1,(max y3 0 % y0 + 1) % y0,y4,y5,y6,y7,y8]) R ph a (ws1,c1) e s') : RTake R ph a s x e s'
theorem ringTake_lx (R : List Rw) (ws C G : List Int) (N W ph sp cy : Int) (L D Q : List PV) (z : ByteArray) (ov : Bool) (h : HM R ws C G N W L D Q z) (o : Unit → Obj) (ho : IsPow o) (a : Int) : CallF (fun _ => Tryz.prog) 54 [.ptr 0 (.lit 0),i6 a] [hpA 0 1 5 6 3 W ph sp cy,hpB 1 2 4 3 W,hpC 2 3 233 2 N,hpP 3 L,hpP 4 D,hpF 5 z ov,hpP 6 Q,(7,.fix 0 o)] 8 (fun r h n => ∃ (x e : Int) (ws' C' G' : List Int) (ov' : Bool) (D' Q' : List PV) (z' : ByteArray),r = .tup [i6 x,i6 e] ∧ h = [hpA 0 1 5 6 3 W ph sp cy,hpB 1 2 4 3 W,hpC 2 3 233 2 N,hpP 3 L,hpP 4 D',hpF 5 z' ov',hpP 6 Q',(7,.fix 0 o)] ∧ n = 8 ∧ HM R ws' C' G' N W L D' Q' z' ∧ RTake R ph a (ws,C,G,ov) x e (ws',C',G',ov')) := by
 refine callF_of_body tok Tryz.func54 (by kernel_rfl) rfl rfl rfl ?_; conv => cbv
 refine cfr (chan_lx R ws C G N W ph sp cy L D Q z ov h a) [(0,0),(1,1),(2,2),(3,3),(4,4),(5,5),(6,6)] (fun r h' n' hrr => ?_)
 obtain ⟨⟨y0,y1,y2,y3,y4,y5,y6,y7,y8,e,e1,hT⟩,e2,e3⟩ := hrr
 subst e1 e2 e3
 conv => cbv
 refine Br.mk (fun ge => ?_) (fun ge => ?_)
 ·have ge : ¬ e = 0 := ge
  have hno : ¬ Kept R ws a 1 9 ∧ e = 10 := by
   rcases hT.two with ⟨q1,_⟩ | ⟨q1,q2⟩
   ·exact absurd q1 ge
   ·exact ⟨q2,q1⟩
  obtain ⟨hno,he⟩ := hno
  have hR : RTake R ph a (ws,C,G,ov) 0 e (ws,C,G,ov) := by rw [he]; exact .no hno
  conv => cbv
  refine RetF.mk [i6 0,i6 e] [hpA 0 1 5 6 3 W ph sp cy,hpB 1 2 4 3 W,hpC 2 3 233 2 N,hpP 3 L,hpP 4 D,hpF 5 z ov,hpP 6 Q,(7,.fix 0 o)] 8 (Re.at [(0,0),(1,1),(2,2),(3,3),(4,4),(5,5),(6,6),(7,7)] []) rfl ⟨0,e,ws,C,G,ov,D,Q,z,rfl,rfl,rfl,h,hR⟩
 ·have ge : ¬ ¬ e = 0 := ge
  have ge : e = 0 := Classical.not_not.1 ge
  obtain ⟨X,hKa,hX,hy⟩ : ∃ X,Kept R ws a 1 9 ∧ Wrds R ws a X ∧ [y0,y1,y2,y3,y4,y5,y6,y7,y8] = chanFs X := by
   generalize hyy : [y0,y1,y2,y3,y4,y5,y6,y7,y8] = yy at hT
   cases hT with
   | ok X h hX => exact ⟨X,h,hX,rfl⟩
   | no h => exact absurd ge (by decide)
  clear hT
  have hyb := chanFs_b62 hy.symm (hX.bd h.a)
  conv => cbv
  refine cfr (ringLook_lx R ws C G N W ph sp cy L D Q z ov h y0 y1 y2 y3 y4 y5 y6 y7 y8) [(0,0),(1,1),(2,2),(3,3),(4,4),(5,5),(6,6)] (fun r h' n' hrr => ?_)
  obtain ⟨hL,e2,e3⟩ := hrr
  subst e2 e3
  cases hL with
  | none hn =>
   have hR : RTake R ph a (ws,C,G,ov) 0 8 (ws,C,G,ov) := .none X y0 y1 y2 y3 y4 y5 y6 y7 y8 hKa hX hy (fun q => hn q.1)
   conv => cbv
   refine RetF.mk [i6 0,i6 8] [hpA 0 1 5 6 3 W ph sp cy,hpB 1 2 4 3 W,hpC 2 3 233 2 N,hpP 3 L,hpP 4 D,hpF 5 z ov,hpP 6 Q,(7,.fix 0 o)] 8 (Re.at [(0,0),(1,1),(2,2),(3,3),(4,4),(5,5),(6,6),(7,7)] []) rfl ⟨0,8,ws,C,G,ov,D,Q,z,rfl,rfl,rfl,h,hR⟩
  | row s k h0 hK hs hk =>
   have hbd := hK.bounds h.a
   have hs0 : 0 ≤ s ∧ s ≤ 1000000 := by
    rw [hs]
    have q1 := Int.emod_nonneg (max y3 0) (show y0 ≠ 0 by omega)
    have q2 := Int.emod_lt_of_pos (max y3 0) h0
    omega
   have hk0 : 0 ≤ k := by omega
   have hkb : k ≤ 4611686018427387903 := by have q := hyb y2 (by simp); unfold b62 at q; omega
   conv => cbv
   refine Br.mk (fun gk => ?_) (fun gk => ?_)
   ·have gk : k = 0 := gk
    have hR : RTake R ph a (ws,C,G,ov) 0 8 (ws,C,G,ov) := .none X y0 y1 y2 y3 y4 y5 y6 y7 y8 hKa hX hy (fun q => by omega)
    conv => cbv
    refine RetF.mk [i6 0,i6 8] [hpA 0 1 5 6 3 W ph sp cy,hpB 1 2 4 3 W,hpC 2 3 233 2 N,hpP 3 L,hpP 4 D,hpF 5 z ov,hpP 6 Q,(7,.fix 0 o)] 8 (Re.at [(0,0),(1,1),(2,2),(3,3),(4,4),(5,5),(6,6),(7,7)] []) rfl ⟨0,8,ws,C,G,ov,D,Q,z,rfl,rfl,rfl,h,hR⟩
   ·have gk : ¬ k = 0 := gk
    conv => cbv
    refine drawn_sound tok (by kernel_rfl) [(4,[2,1,0]),(5,[])] [0,1,2,3,4,5,6,7,8,9,10] (by kernel_rfl) ?_; conv => cbv
    refine CallF.le (args0 := [.agg [i6 y4,i6 y0,i6 s,i6 k],i6 0]) (callF_frame (ringPlace_lx y4 y0 s k 0 h0 hs0 (by omega)) [] rfl trivial rfl rfl (fun r h' n' hrr => ?_)) (by simp [ales,ale,pvle,I.val])
    obtain ⟨⟨v0,e1,hv0⟩,e2,e3⟩ := hrr
    subst e1 e2 e3
    conv => cbv
    have hv0s : v0 = s := by rw [hv0,hs,Int.add_zero,Int.emod_emod_of_dvd _ (Int.dvd_refl _)]
    refine cfr (load9_lx R ws C G N W ph sp cy L D Q z ov h y4 v0) [(0,0),(1,1),(2,2),(3,3),(4,4),(5,5),(6,6)] (fun r h' n' hrr => ?_)
    obtain ⟨x,g,e1,e2,e3,hl⟩ := hrr
    subst e1 e2 e3
    rw [hv0s,hs] at hl
    conv => cbv
    refine drawn_sound tok (by kernel_rfl) [(4,[2,1,0]),(5,[])] [0,1,2,3,4,5] (by kernel_rfl) ?_; conv => cbv
    refine CallF.le (args0 := [.agg [i6 y4,i6 y0,i6 s,i6 k],i6 0]) (callF_frame (ringPlace_lx y4 y0 s k 0 h0 hs0 (by omega)) [] rfl trivial rfl rfl (fun r h' n' hrr => ?_)) (by simp [ales,ale,pvle,I.val])
    obtain ⟨⟨v1,e1,hv1⟩,e2,e3⟩ := hrr
    subst e1 e2 e3
    conv => cbv
    have hv1s : v1 = s := by rw [hv1,hs,Int.add_zero,Int.emod_emod_of_dvd _ (Int.dvd_refl _)]
    refine CallF.le (args0 := [.ptr 0 (.lit 0),i6 y4,i6 v1,i6 0]) (cfr (store9_lx R ws C G N W ph sp cy L D Q z ov h o ho y4 v1 0 (by omega)) [(0,0),(1,1),(2,2),(3,3),(4,4),(5,5),(6,6),(7,7)] (fun r h' n' hrr => ?_)) (by simp [ales,ale,pvle,I.val])
    obtain ⟨f,ws1,C1,G1,ov1,D1,Q1,z1,e1,e2,e3,h1,hst,hc⟩ := hrr
    subst e1 e2 e3
    rw [hv1s,hs] at hst
    conv => cbv
    refine drawn_sound tok (by kernel_rfl) [(1,[4,3,2]),(6,[4,3,2]),(8,[])] [0,2,3,4,1,5,6,7,8] (by kernel_rfl) ?_; conv => cbv
    refine Fit.mk (by show (-9223372036854775808 : Int) ≤ k - 1; omega) (by show k - 1 ≤ 9223372036854775807; omega) fun k1 hk1 => ?_
    have hk1 : k1 = k - 1 := hk1
    conv => cbv
    refine CallF.le (args0 := [.agg [i6 y4,i6 y0,i6 s,i6 k],i6 1]) (callF_frame (ringPlace_lx y4 y0 s k 1 h0 hs0 (by omega)) [] rfl trivial rfl rfl (fun r h' n' hrr => ?_)) (by simp [ales,ale,pvle,I.val])
    obtain ⟨⟨v2,e1,hv2⟩,e2,e3⟩ := hrr
    subst e1 e2 e3
    conv => cbv
    have hy2 : k = y2 := by omega
    have hv2b : b62 v2 := by
     have q1 := Int.emod_nonneg (s + 1) (show y0 ≠ 0 by omega)
     have q2 := Int.emod_lt_of_pos (s + 1) h0
     rw [hv2]; unfold b62; omega
    have hyb1 : ∀ x ∈ [y0,y1,k1,v2,y4,y5,y6,y7,y8],b62 x := by
     simp only [List.forall_mem_cons] at hyb ⊢
     obtain ⟨q0,q1,q2,q3,q4,q5,q6,q7,q8,_⟩ := hyb
     exact ⟨q0,q1,by unfold b62; omega,hv2b,q4,q5,q6,q7,q8,fun x hx => by cases hx⟩
    conv => cbv
    refine cfr (putChan_lx R ws1 C1 G1 N W ph sp cy L D1 Q1 z1 ov1 h1 o ho a y0 y1 k1 v2 y4 y5 y6 y7 y8 hyb1) [(0,0),(1,1),(2,2),(3,3),(4,4),(5,5),(6,6),(7,7)] (fun r h' n' hrr => ?_)
    obtain ⟨e',ws2,C2,G2,ov2,D2,Q2,z2,e1,e2,e3,h2,hP⟩ := hrr
    subst e1 e2 e3
    have hR : RTake R ph a (ws,C,G,ov) x e' (ws2,C2,G2,ov2) := by
     refine .ok X y0 y1 y2 y3 y4 y5 y6 y7 y8 hKa hX hy h0 hK (by omega) x g f e' ws1 (C1,G1,ov1) _ hl hst hc ?_
     rw [← hs,← hv2,← hy2,← hk1]; exact hP
    conv => cbv
    refine RetF.mk [i6 x,i6 e'] [hpA 0 1 5 6 3 W ph sp cy,hpB 1 2 4 3 W,hpC 2 3 233 2 N,hpP 3 L,hpP 4 D2,hpF 5 z2 ov2,hpP 6 Q2,(7,.fix 0 o)] 8 (Re.at [(0,0),(1,1),(2,2),(3,3),(4,4),(5,5),(6,6),(7,7)] []) rfl ⟨x,e',ws2,C2,G2,ov2,D2,Q2,z2,rfl,rfl,rfl,h2,hR⟩
inductive RAll (R : List Rw) (ws : List Int) (a : Int) : List Int → Prop
 | no (h : ¬ Kept R ws a 1 9) : RAll R ws a []
 | none (X : List Int) (y0 y1 y2 y3 y4 y5 y6 y7 y8 : Int) (h : Kept R ws a 1 9) (hX : Wrds R ws a X) (hy : [y0,y1,y2,y3,y4,y5,y6,y7,y8] = chanFs X) (hf : ¬ (0 < y0 ∧ Kept R ws y4 2 y0)) : RAll R ws a []
 | ok (X : List Int) (y0 y1 y2 y3 y4 y5 y6 y7 y8 : Int) (h : Kept R ws a 1 9) (hX : Wrds R ws a X) (hy : [y0,y1,y2,y3,y4,y5,y6,y7,y8] = chanFs X) (h0 : 0 < y0) (hK : Kept R ws y4 2 y0) (l : List Int) (hl : (l.length : Int) = min (max y2 0) y0) (hw : ∀ (i : Nat) (x : Int),l[i]? = some x → Loaded R ws y4 ((max y3 0 % y0 + i) % y0) x 0) : RAll R ws a l
theorem ringAll_lx (R : List Rw) (ws C G : List Int) (N W ph sp cy : Int) (L D Q : List PV) (z : ByteArray) (ov : Bool) (h : HM R ws C G N W L D Q z) (a : Int) : CallF (fun _ => Tryz.prog) 55 [.ptr 0 (.lit 0),i6 a] [hpA 0 1 5 6 3 W ph sp cy,hpB 1 2 4 3 W,hpC 2 3 233 2 N,hpP 3 L,hpP 4 D,hpF 5 z ov,hpP 6 Q] 7 (fun r h n => ∃ (l : List Int) (m : Int) (cells : List PV),r = .sl 7 3 1 (.lit 0) (.sym m) ∧ h = [hpA 0 1 5 6 3 W ph sp cy,hpB 1 2 4 3 W,hpC 2 3 233 2 N,hpP 3 L,hpP 4 D,hpF 5 z ov,hpP 6 Q,hpP 7 cells] ∧ n = 8 ∧ m = l.length ∧ cells = ipv l ∧ RAll R ws a l) := by
 refine callF_of_body tok Tryz.func55 (by kernel_rfl) rfl rfl rfl ?_; conv => cbv
 refine cfr (chan_lx R ws C G N W ph sp cy L D Q z ov h a) [(0,0),(1,1),(2,2),(3,3),(4,4),(5,5),(6,6)] (fun r h' n' hrr => ?_)
 obtain ⟨⟨y0,y1,y2,y3,y4,y5,y6,y7,y8,e,e1,hT⟩,e2,e3⟩ := hrr
 subst e1 e2 e3
 conv => cbv
 refine Br.mk (fun ge => ?_) (fun ge => ?_)
 ·have ge : ¬ e = 0 := ge
  have hno : ¬ Kept R ws a 1 9 := by
   rcases hT.two with ⟨q1,_⟩ | ⟨q1,q2⟩
   ·exact absurd q1 ge
   ·exact q2
  have hR : RAll R ws a [] := .no hno
  conv => cbv
  refine RetF.mk [.sl 7 3 1 (.lit 0) (.sym 0)] [hpA 0 1 5 6 3 W ph sp cy,hpB 1 2 4 3 W,hpC 2 3 233 2 N,hpP 3 L,hpP 4 D,hpF 5 z ov,hpP 6 Q,(7,.pure true [])] 8 (Re.at [(0,0),(1,1),(2,2),(3,3),(4,4),(5,5),(6,6)] [7]) rfl ⟨[],0,[],rfl,rfl,rfl,rfl,rfl,hR⟩
 ·have ge : ¬ ¬ e = 0 := ge
  have ge : e = 0 := Classical.not_not.1 ge
  obtain ⟨X,hKa,hX,hy⟩ : ∃ X,Kept R ws a 1 9 ∧ Wrds R ws a X ∧ [y0,y1,y2,y3,y4,y5,y6,y7,y8] = chanFs X := by
   generalize hyy : [y0,y1,y2,y3,y4,y5,y6,y7,y8] = yy at hT
   cases hT with
   | ok X h hX => exact ⟨X,h,hX,rfl⟩
   | no h => exact absurd ge (by decide)
  clear hT
  have hyb := chanFs_b62 hy.symm (hX.bd h.a)
  conv => cbv
  refine cfr (ringLook_lx R ws C G N W ph sp cy L D Q z ov h y0 y1 y2 y3 y4 y5 y6 y7 y8) [(0,0),(1,1),(2,2),(3,3),(4,4),(5,5),(6,6)] (fun r h' n' hrr => ?_)
  obtain ⟨hL,e2,e3⟩ := hrr
  subst e2 e3
  cases hL with
  | none hn =>
   have hR : RAll R ws a [] := .none X y0 y1 y2 y3 y4 y5 y6 y7 y8 hKa hX hy hn
   conv => cbv
   refine RetF.mk [.sl 7 3 1 (.lit 0) (.sym 0)] [hpA 0 1 5 6 3 W ph sp cy,hpB 1 2 4 3 W,hpC 2 3 233 2 N,hpP 3 L,hpP 4 D,hpF 5 z ov,hpP 6 Q,(7,.pure true [])] 8 (Re.at [(0,0),(1,1),(2,2),(3,3),(4,4),(5,5),(6,6)] [7]) rfl ⟨[],0,[],rfl,rfl,rfl,rfl,rfl,hR⟩
  | row s k h0 hK hs hk =>
   have hbd := hK.bounds h.a
   have hs0 : 0 ≤ s ∧ s ≤ 1000000 := by
    rw [hs]
    have q1 := Int.emod_nonneg (max y3 0) (show y0 ≠ 0 by omega)
    have q2 := Int.emod_lt_of_pos (max y3 0) h0
    omega
   have hk0 : 0 ≤ k := by omega
   have hkb : k ≤ 4611686018427387903 := by have q := hyb y2 (by simp); unfold b62 at q; omega
   conv => cbv
   refine Br.mk (fun gk => ?_) (fun gk => ?_)
   ·have gk : y0 < k := gk
    conv => cbv
    have hM : y0 ≤ 31 ∧ 0 ≤ y0 ∧ y0 = min (max y2 0) y0 := by omega
    refine LoopF.mk (fun kk s' => ∃ (i : Int) (l : List Int) (cells : List PV),s' = ⟨.ptr 0 (.lit 0) :: (undefs 6 ++ .ptr 8 (.lit 0) :: .undef :: .sl 9 3 1 (.lit 0) (.sym i) :: (undefs 24 ++ .p (.int .i64 (.sym y0)) :: .p (.int .i64 (.sym i)) :: undefs 18)),[hpA 0 1 5 6 3 W ph sp cy,hpB 1 2 4 3 W,hpC 2 3 233 2 N,hpP 3 L,hpP 4 D,hpF 5 z ov,hpP 6 Q,(8,.pure false [.int .i64 (.sym y4),.int .i64 (.sym y0),.int .i64 (.sym s),.int .i64 (.sym k)]),hpP 9 cells],10⟩ ∧ i = l.length ∧ i ≤ y0 ∧ cells = ipv l ∧ (∀ (q : Nat) (x : Int),l[q]? = some x → Loaded R ws y4 ((s + (q : Int)) % y0) x 0) ∧ kk = (y0 - i).toNat) (y0).toNat _
     (Re.at [(0,0),(1,1),(2,2),(3,3),(4,4),(5,5),(6,6),(8,8)] [9]) ⟨0,[],[],rfl,rfl,by omega,rfl,(fun q x hq => by simp at hq),by omega⟩ ?_
    rintro kk s' ⟨i,l,cells,rfl,hil,hi1,hcs,hld,hkk⟩
    have hi0 : 0 ≤ i := by omega
    have hcl : (cells.length : Int) = i := by rw [hcs,ipv_length]; exact hil.symm
    conv => cbv
    refine Br.mk (fun gi => ?_) (fun gi => ?_)
    ·have gi : i < y0 := gi
     conv => cbv
     refine drawn_sound tok (by kernel_rfl) [(5,[2,1,0]),(6,[])] [0,1,2,3,4,5,6,7,8,9,10,11] (by kernel_rfl) ?_; conv => cbv
     refine callF_frame (ringPlace_lx y4 y0 s k i h0 hs0 (by omega)) [] rfl trivial rfl rfl (fun r h' n' hrr => ?_)
     obtain ⟨⟨v,e1,hv⟩,e2,e3⟩ := hrr
     subst e1 e2 e3
     conv => cbv
     refine cfr (load9_lx R ws C G N W ph sp cy L D Q z ov h y4 v) [(0,0),(1,1),(2,2),(3,3),(4,4),(5,5),(6,6)] (fun r h' n' hrr => ?_)
     obtain ⟨x,g,e1,e2,e3,hl⟩ := hrr
     subst e1 e2 e3
     have hv0 : 0 ≤ v ∧ v < y0 := by
      rw [hv]
      exact ⟨Int.emod_nonneg _ (by omega),Int.emod_lt_of_pos _ h0⟩
     have hg : g = 0 := (loaded_of hK hv0 hl).1
     rw [hv,hg] at hl
     conv => cbv
     refine Room.new rfl ?_
     conv => cbv
     refine Room.new ⟨?_,?_,?_⟩ ?_
     ·show (cells.length : Int) = i * 1; omega
     ·show (i + 1) * 8 ≤ 140737488355328; omega
     ·show i + 1 ≤ 9223372036854775807; omega
     conv => cbv
     refine Upd.mk fun c2 hc2 => ?_
     have hc2 : c2 = cells ++ [.int .i64 (.sym x)] := hc2
     have hc2 : c2 = ipv (l ++ [x]) := by rw [hc2,hcs,← ipv_app]; rfl
     conv => cbv
     refine Sum.mk fun i2 hi2 => ?_
     have hi2 : i2 = i + 1 := hi2
     conv => cbv
     refine Fit.mk (by show (-9223372036854775808 : Int) ≤ i + 1; omega) (by show i + 1 ≤ 9223372036854775807; omega) fun i3 hi3 => ?_
     have hi3 : i3 = i + 1 := hi3
     obtain rfl : i2 = i3 := by omega
     conv => cbv
     refine Again.mk (y0 - i2).toNat _ (by omega) (Re.at [(0,0),(1,1),(2,2),(3,3),(4,4),(5,5),(6,6),(8,8),(11,9)] []) ⟨i2,l ++ [x],c2,rfl,by rw [List.length_append,hi2,hil]; rfl,by omega,hc2,?_,rfl⟩
     intro q u hq
     rw [List.getElem?_append] at hq
     split at hq
     ·exact hld q u hq
     ·rename_i hql
      have hq0 : q = l.length := by
       have := (List.getElem?_eq_some_iff.1 hq).1
       simp at this
       omega
      subst hq0
      simp at hq
      rw [← hq]
      rw [hil] at hl
      exact hl
    ·have gi : ¬ i < y0 := gi
     have hR : RAll R ws a l := .ok X y0 y1 y2 y3 y4 y5 y6 y7 y8 hKa hX hy h0 hK l (by omega) (by rw [← hs]; exact hld)
     conv => cbv
     refine RetF.mk [.sl 7 3 1 (.lit 0) (.sym i)] [hpA 0 1 5 6 3 W ph sp cy,hpB 1 2 4 3 W,hpC 2 3 233 2 N,hpP 3 L,hpP 4 D,hpF 5 z ov,hpP 6 Q,hpP 7 cells] 8 (Re.at [(0,0),(1,1),(2,2),(3,3),(4,4),(5,5),(6,6),(9,7)] []) rfl ⟨l,i,cells,rfl,rfl,rfl,hil,hcs,hR⟩
   ·have gk : ¬ y0 < k := gk
    conv => cbv
    have hM : k ≤ 31 ∧ 0 ≤ k ∧ k = min (max y2 0) y0 := by omega
    refine LoopF.mk (fun kk s' => ∃ (i : Int) (l : List Int) (cells : List PV),s' = ⟨.ptr 0 (.lit 0) :: (undefs 6 ++ .ptr 8 (.lit 0) :: .undef :: .sl 9 3 1 (.lit 0) (.sym i) :: (undefs 24 ++ .p (.int .i64 (.sym k)) :: .p (.int .i64 (.sym i)) :: undefs 18)),[hpA 0 1 5 6 3 W ph sp cy,hpB 1 2 4 3 W,hpC 2 3 233 2 N,hpP 3 L,hpP 4 D,hpF 5 z ov,hpP 6 Q,(8,.pure false [.int .i64 (.sym y4),.int .i64 (.sym y0),.int .i64 (.sym s),.int .i64 (.sym k)]),hpP 9 cells],10⟩ ∧ i = l.length ∧ i ≤ k ∧ cells = ipv l ∧ (∀ (q : Nat) (x : Int),l[q]? = some x → Loaded R ws y4 ((s + (q : Int)) % y0) x 0) ∧ kk = (k - i).toNat) (k).toNat _
     (Re.at [(0,0),(1,1),(2,2),(3,3),(4,4),(5,5),(6,6),(8,8)] [9]) ⟨0,[],[],rfl,rfl,by omega,rfl,(fun q x hq => by simp at hq),by omega⟩ ?_
    rintro kk s' ⟨i,l,cells,rfl,hil,hi1,hcs,hld,hkk⟩
    have hi0 : 0 ≤ i := by omega
    have hcl : (cells.length : Int) = i := by rw [hcs,ipv_length]; exact hil.symm
    conv => cbv
    refine Br.mk (fun gi => ?_) (fun gi => ?_)
    ·have gi : i < k := gi
     conv => cbv
     refine drawn_sound tok (by kernel_rfl) [(5,[2,1,0]),(6,[])] [0,1,2,3,4,5,6,7,8,9,10,11] (by kernel_rfl) ?_; conv => cbv
     refine callF_frame (ringPlace_lx y4 y0 s k i h0 hs0 (by omega)) [] rfl trivial rfl rfl (fun r h' n' hrr => ?_)
     obtain ⟨⟨v,e1,hv⟩,e2,e3⟩ := hrr
     subst e1 e2 e3
     conv => cbv
     refine cfr (load9_lx R ws C G N W ph sp cy L D Q z ov h y4 v) [(0,0),(1,1),(2,2),(3,3),(4,4),(5,5),(6,6)] (fun r h' n' hrr => ?_)
     obtain ⟨x,g,e1,e2,e3,hl⟩ := hrr
     subst e1 e2 e3
     have hv0 : 0 ≤ v ∧ v < y0 := by
      rw [hv]
      exact ⟨Int.emod_nonneg _ (by omega),Int.emod_lt_of_pos _ h0⟩
     have hg : g = 0 := (loaded_of hK hv0 hl).1
     rw [hv,hg] at hl
     conv => cbv
     refine Room.new rfl ?_
     conv => cbv
     refine Room.new ⟨?_,?_,?_⟩ ?_
     ·show (cells.length : Int) = i * 1; omega
     ·show (i + 1) * 8 ≤ 140737488355328; omega
     ·show i + 1 ≤ 9223372036854775807; omega
     conv => cbv
     refine Upd.mk fun c2 hc2 => ?_
     have hc2 : c2 = cells ++ [.int .i64 (.sym x)] := hc2
     have hc2 : c2 = ipv (l ++ [x]) := by rw [hc2,hcs,← ipv_app]; rfl
     conv => cbv
     refine Sum.mk fun i2 hi2 => ?_
     have hi2 : i2 = i + 1 := hi2
     conv => cbv
     refine Fit.mk (by show (-9223372036854775808 : Int) ≤ i + 1; omega) (by show i + 1 ≤ 9223372036854775807; omega) fun i3 hi3 => ?_
     have hi3 : i3 = i + 1 := hi3
     obtain rfl : i2 = i3 := by omega
     conv => cbv
     refine Again.mk (k - i2).toNat _ (by omega) (Re.at [(0,0),(1,1),(2,2),(3,3),(4,4),(5,5),(6,6),(8,8),(11,9)] []) ⟨i2,l ++ [x],c2,rfl,by rw [List.length_append,hi2,hil]; rfl,by omega,hc2,?_,rfl⟩
     intro q u hq
     rw [List.getElem?_append] at hq
     split at hq
     ·exact hld q u hq
     ·rename_i hql
      have hq0 : q = l.length := by
       have := (List.getElem?_eq_some_iff.1 hq).1
       simp at this
       omega
      subst hq0
      simp at hq
      rw [← hq]
      rw [hil] at hl
      exact hl
    ·have gi : ¬ i < k := gi
     have hR : RAll R ws a l := .ok X y0 y1 y2 y3 y4 y5 y6 y7 y8 hKa hX hy h0 hK l (by omega) (by rw [← hs]; exact hld)
     conv => cbv
     refine RetF.mk [.sl 7 3 1 (.lit 0) (.sym i)] [hpA 0 1 5 6 3 W ph sp cy,hpB 1 2 4 3 W,hpC 2 3 233 2 N,hpP 3 L,hpP 4 D,hpF 5 z ov,hpP 6 Q,hpP 7 cells] 8 (Re.at [(0,0),(1,1),(2,2),(3,3),(4,4),(5,5),(6,6),(9,7)] []) rfl ⟨l,i,cells,rfl,rfl,rfl,hil,hcs,hR⟩
def wdsK (k : Int) (F : List Int) : List Int := if k = 1 then chanWs F else if k = 3 then sudogWs F else if k = 4 then gorWs F else F
def fdsK (k : Int) (F : List Int) : List Int := if k = 1 then chanFs F else if k = 3 then sudogFs F else if k = 4 then gorFs F else F
structure FOk (k : Int) (F : List Int) : Prop where
 back : fdsK k (wdsK k F) = F
 len : (wdsK k F).length = F.length
abbrev Hp := Int → Option (Int × List Int)
def upd (M : Hp) (a : Int) (v : Int × List Int) : Hp := fun b => if b = a then some v else M b
theorem upd_same (M : Hp) (a : Int) (v : Int × List Int) : upd M a v a = some v := if_pos rfl
theorem upd_ne {M : Hp} {a b : Int} {v : Int × List Int} (h : b ≠ a) : upd M a v b = M b := if_neg h
structure Cont (R : List Rw) (ws : List Int) (M : Hp) : Prop where
 up : ∀ a k F,M a = some (k,F) → FOk k F ∧ Hld R ws a k F.length (wdsK k F)
 dn : ∀ a k l,Kept R ws a k l → ∃ F,M a = some (k,F)
theorem Cont.kept {R : List Rw} {ws : List Int} {M : Hp} (h : Cont R ws M) {a k : Int} {F : List Int} (hM : M a = some (k,F)) : Kept R ws a k F.length := (h.up a k F hM).2.1
theorem Cont.put {kd ln : Int} {Wl F F' : List Int} {R : List Rw} {ph a e : Int} {s s' : St4} {M : Hp} (h : Cont R s.1 M) (hA : AOk R s.1) (hM : M a = some (kd,F)) (hln : (F.length : Int) = ln) (hW : Wl = wdsK kd F') (hF : FOk kd F') (hl : (F'.length : Int) = ln) (hb : ∀ x ∈ Wl,-9223372036854775808 ≤ x ∧ x ≤ 9223372036854775807) (hP : PT kd ln Wl R ph a s e s') : e = 0 ∧ Cont R s'.1 (upd M a (kd,F')) := by
 subst hW
 have hK := h.kept hM
 rw [hln] at hK
 obtain ⟨e1,h1,h2,h3⟩ := hP.hld hA hK (by rw [hF.len]; exact hl) hb
 refine ⟨e1,fun b k G hG => ?_,fun b k l hB => ?_⟩
 ·by_cases q : b = a
  ·subst q
   rw [upd_same] at hG
   cases hG
   exact ⟨hF,by rw [hl]; exact h1⟩
  ·rw [upd_ne q] at hG
   obtain ⟨g1,g2⟩ := h.up b k G hG
   exact ⟨g1,h2 b _ _ _ q g2⟩
 ·by_cases q : b = a
  ·subst q
   obtain ⟨rfl,rfl⟩ := hB.det9 h1.1
   exact ⟨F',upd_same _ _ _⟩
  ·rw [upd_ne q]
   rcases hP.two with ⟨_,_,q1⟩ | ⟨_,q1,_⟩
   ·have hF2 := putS_fact (ph := ph) (wdsK kd F') 0 s hA hK (by rw [hF.len]; omega) hb
    rw [← q1] at hF2
    by_cases hob : IsObj R b
    ·obtain ⟨k2,l2,hK2⟩ := Kept.of hA hob
     obtain ⟨rfl,rfl⟩ := hB.det9 (hF2.up _ _ _ hK2)
     exact h.dn b k l hK2
    ·exact absurd hB.obj6 hob
   ·exact absurd hK q1
theorem Cont.tr {kd ln f a : Int} {fs : List Int → List Int} {R : List Rw} {ws y F : List Int} {M : Hp} (h : Cont R ws M) (hM : M a = some (kd,F)) (hfs : fs (wdsK kd F) = fdsK kd (wdsK kd F)) (hln : (F.length : Int) = ln) (hT : TR kd ln fs R ws a f y) : f = 0 ∧ y = F := by
 obtain ⟨h1,h2⟩ := h.up a kd F hM
 rw [hln] at h2
 obtain ⟨e1,e2⟩ := hT.hld h2
 exact ⟨e1,by rw [e2,hfs,h1.back]⟩
def zerK (k : Int) (n : Nat) : List Int := if k = 1 then [0,0,0,0,-1,-1,-1,-1,-1] else if k = 3 then [-1,-1,0,-1,0,0,-1] else if k = 4 then [0,0,0,0,0,0,0,0,0,-1] else List.replicate n 0
def lenK (k : Int) (n : Nat) : Prop := (k = 1 → n = 9) ∧ (k = 3 → n = 7) ∧ (k = 4 → n = 10)
theorem zerK_wds {k : Int} {n : Nat} (h : lenK k n) : wdsK k (zerK k n) = List.replicate n 0 ∧ fdsK k (List.replicate n 0) = zerK k n ∧ (zerK k n).length = n := by
 obtain ⟨h1,h3,h4⟩ := h
 unfold wdsK fdsK zerK
 by_cases q1 : k = 1
 ·subst q1; rw [h1 rfl]; decide
 ·by_cases q3 : k = 3
  ·subst q3; rw [h3 rfl]; decide
  ·by_cases q4 : k = 4
   ·subst q4; rw [h4 rfl]; decide
   ·simp [q1,q3,q4]
theorem zerK_ok {k : Int} {n : Nat} (h : lenK k n) : FOk k (zerK k n) := by
 obtain ⟨h1,h2,h3⟩ := zerK_wds h
 exact ⟨by rw [h1,h2],by rw [h1,h3,List.length_replicate]⟩
theorem Cont.alloc {R R' : List Rw} {ws ws' : List Int} {kind n a e : Int} {M : Hp} (h : Cont R ws M) (hA : AOk R ws) (hr : objCount R < R.length) (hk : 0 ≤ n ∧ n ≤ 31 ∧ 1 ≤ kind ∧ kind ≤ 6) (hlen : lenK kind n.toNat) (hs : Alloct R ws kind n a e R' ws') : e = 0 ∧ Cont R' ws' (upd M a (kind,zerK kind n.toNat)) ∧ objCount R' = objCount R + 1 ∧ M a = none ∧ 0 ≤ a ∧ a < 32 * R.length ∧ R'.length = R.length := by
 have he : e = 0 := by have := alloct_err hA hs hr; rw [if_pos hk] at this; exact this
 obtain ⟨h1,h2,h3,h4,h5,h6,h7⟩ := alloct_ok hA hs he
 obtain ⟨hA',hlR⟩ := hA.alloct hs
 have hb := h1.bounds hA'
 obtain ⟨z1,z2,z3⟩ := zerK_wds hlen
 have hn : M a = Option.none := by
  cases q : M a with
  | none => rfl
  | some v => exact absurd (h.kept (k := v.1) (F := v.2) q).obj6 h2
 refine ⟨he,⟨fun b k G hG => ?_,fun b k l hB => ?_⟩,h3,hn,hb.1,by omega,hlR⟩
 ·by_cases q : b = a
  ·subst q
   rw [upd_same] at hG
   cases hG
   refine ⟨zerK_ok hlen,?_⟩
   rw [z1,z3]
   refine ⟨by rw [Int.toNat_of_nonneg hk.1]; exact h1,by rw [List.length_replicate],fun q x hq => ?_⟩
   obtain ⟨hq1,hq2⟩ := List.getElem?_eq_some_iff.1 hq
   rw [List.length_replicate] at hq1
   rw [List.getElem_replicate] at hq2
   rw [← hq2]
   exact h4 q (by omega) (by omega)
  ·rw [upd_ne q] at hG
   obtain ⟨g1,g2,g3,g4⟩ := h.up b k G hG
   refine ⟨g1,h5 _ _ _ g2,g3,fun j x hj => ?_⟩
   have hj1 : j < (wdsK k G).length := (List.getElem?_eq_some_iff.1 hj).1
   rw [h7 b k _ j g2 (by omega) (by omega)]
   exact g4 j x hj
 ·by_cases q : b = a
  ·subst q
   obtain ⟨rfl,_⟩ := hB.det9 h1
   exact ⟨_,upd_same _ _ _⟩
  ·rw [upd_ne q]
   rcases h6 b hB.obj6 with q1 | q1
   ·exact absurd q1 q
   ·obtain ⟨k2,l2,hK2⟩ := Kept.of hA q1
    obtain ⟨rfl,rfl⟩ := hB.det9 (h5 b k2 l2 hK2)
    exact h.dn b k l hK2
theorem Cont.new (n m : Nat) : Cont (List.replicate n ((0,[]) : Rw)) (List.replicate m 0) (fun _ => Option.none) :=
 ⟨fun a k F hF => (by cases hF),fun a k l hK => absurd hK.obj6 (new_none n a)⟩
theorem Cont.store {R : List Rw} {ws ws' : List Int} {a i x e k : Int} {F : List Int} {M : Hp} (h : Cont R ws M) (hA : AOk R ws) (hM : M a = some (k,F)) (hk : k ≠ 1 ∧ k ≠ 3 ∧ k ≠ 4) (hi : 0 ≤ i ∧ i < F.length) (hx : -9223372036854775808 ≤ x ∧ x ≤ 9223372036854775807) (hS : Stored R ws a i x e ws') : e = 0 ∧ Cont R ws' (upd M a (k,F.set i.toNat x)) := by
 have hK := h.kept hM
 have hw : ∀ G,wdsK k G = G := fun G => by unfold wdsK; rw [if_neg hk.1,if_neg hk.2.1,if_neg hk.2.2]
 have hf : ∀ G,fdsK k G = G := fun G => by unfold fdsK; rw [if_neg hk.1,if_neg hk.2.1,if_neg hk.2.2]
 have hbd := hK.bounds hA
 have hlw := hA.len
 obtain ⟨e0,hdef⟩ : e = 0 ∧ ws' = ws.set (a + 1 + i).toNat x := by
  cases hS with
  | none hn => exact absurd hK.obj6 hn
  | arg k2 l2 hK2 hi2 => obtain ⟨rfl,rfl⟩ := hK2.det9 hK; exact absurd hi hi2
  | ok k2 l2 hK2 hi2 => exact ⟨rfl,rfl⟩
 have hSt : Stored R ws a i x 0 ws' := by rw [hdef]; exact .ok k _ hK hi
 have hS2 := putS_fact (ph := 0) [x] i.toNat (ws,[],[],false) hA hK (by simp; omega) (by intro y hy; rw [List.mem_singleton.1 hy]; exact hx)
 have hpw : (putS R 0 a i.toNat [x] (ws,[],[],false)).1 = ws' := by
  rw [hdef]
  show (if ws[(a + 1 + (i.toNat : Nat)).toNat]? = some x then _ else _ : List Int × (List Int × List Int × Bool)).1 = _
  rw [show (a + 1 + ((i.toNat : Nat) : Int)) = a + 1 + i by omega]
  split
  ·rename_i q
   show ws = _
   obtain ⟨q1,q2⟩ := List.getElem?_eq_some_iff.1 q
   rw [← q2]
   exact (List.set_getElem_self q1).symm
  ·rfl
 rw [hpw] at hS2
 refine ⟨e0,fun b k' G hG => ?_,fun b k' l hB => ?_⟩
 ·by_cases q : b = a
  ·subst q
   rw [upd_same] at hG
   cases hG
   refine ⟨⟨by rw [hw,hf],by rw [hw]⟩,by rw [List.length_set]; exact hS2.up _ _ _ hK,by rw [hw],fun j y hj => ?_⟩
   rw [hw] at hj
   have hj1 := (List.getElem?_eq_some_iff.1 hj).1
   rw [List.length_set] at hj1
   obtain ⟨_,_,_,h4⟩ := h.up b k F hM
   rw [hw] at h4
   rw [hdef]
   by_cases qj : j = i.toNat
   ·subst qj
    rw [List.getElem?_set_self (by omega)] at hj
    rw [show (b + 1 + ((i.toNat : Nat) : Int)) = b + 1 + i by omega,List.getElem?_set_self (by omega)]
    exact hj
   ·rw [List.getElem?_set_ne (fun q => qj q.symm)] at hj
    rw [List.getElem?_set_ne (by omega)]
    exact h4 j y hj
  ·rw [upd_ne q] at hG
   obtain ⟨g1,g2,g3,g4⟩ := h.up b k' G hG
   refine ⟨g1,hS2.up _ _ _ g2,g3,fun j y hj => ?_⟩
   have hj1 : j < (wdsK k' G).length := (List.getElem?_eq_some_iff.1 hj).1
   exact (loaded_of (hS2.up _ _ _ g2) ⟨by omega,by omega⟩ (hS2.oth b j y q (.ok k' _ y g2 ⟨by omega,by omega⟩ (g4 j y hj)))).2
 ·have hob : IsObj R b := hB.obj6
  obtain ⟨k2,l2,hK2⟩ := Kept.of hA hob
  obtain ⟨rfl,rfl⟩ := hB.det9 (hS2.up _ _ _ hK2)
  by_cases q : b = a
  ·subst q
   obtain ⟨rfl,_⟩ := hK2.det9 hK
   exact ⟨_,upd_same _ _ _⟩
  ·rw [upd_ne q]
   exact h.dn b _ _ hK2
theorem Cont.load {R : List Rw} {ws : List Int} {a i x e k y : Int} {F : List Int} {M : Hp} (h : Cont R ws M) (hM : M a = some (k,F)) (hk : k ≠ 1 ∧ k ≠ 3 ∧ k ≠ 4) (hi : 0 ≤ i) (hy : F[i.toNat]? = some y) (hL : Loaded R ws a i x e) : x = y ∧ e = 0 := by
 have hw : wdsK k F = F := by unfold wdsK; rw [if_neg hk.1,if_neg hk.2.1,if_neg hk.2.2]
 obtain ⟨_,h1,h2,h3⟩ := h.up a k F hM
 rw [hw] at h3
 have hlt := (List.getElem?_eq_some_iff.1 hy).1
 obtain ⟨q1,q2⟩ := loaded_of h1 ⟨hi,by omega⟩ hL
 have := h3 i.toNat y hy
 rw [show ((i.toNat : Nat) : Int) = i by omega,q2] at this
 exact ⟨Option.some.inj this,q1⟩
theorem Cont.sim {R : List Rw} {ws vs : List Int} {M : Hp} (hS : Sim R ws vs) (h : Cont R ws M) : Cont R vs M := by
 refine ⟨fun a k F hF => ?_,fun a k l hK => h.dn a k l (hS.back hK)⟩
 obtain ⟨g1,g2,g3,g4⟩ := h.up a k F hF
 refine ⟨g1,hS.hdr _ _ _ g2,g3,fun q x hq => ?_⟩
 have hq1 : q < (wdsK k F).length := (List.getElem?_eq_some_iff.1 hq).1
 rw [hS.in_ a k _ q g2 (by omega) (by omega)]
 exact g4 q x hq
theorem Cont.len {R : List Rw} {ws : List Int} {M : Hp} (hA : AOk R ws) (h : Cont R ws M) {a k : Int} {F : List Int} (hM : M a = some (k,F)) : F.length < 32 ∧ 0 ≤ a ∧ a + 1 + F.length ≤ 32 * R.length := by
 have := (h.kept hM).bounds hA
 omega
theorem Cont.bd {R : List Rw} {ws : List Int} {M : Hp} (hA : AOk R ws) (h : Cont R ws M) {a k : Int} {F : List Int} (hM : M a = some (k,F)) : ∀ x ∈ wdsK k F,-9223372036854775808 ≤ x ∧ x ≤ 9223372036854775807 := fun x hx => by
 obtain ⟨_,_,_,g4⟩ := h.up a k F hM
 obtain ⟨q,hq⟩ := List.getElem?_of_mem hx
 exact hA.bd x (List.mem_of_getElem? (g4 q x hq))
theorem Cont.toSim {R : List Rw} {ws vs : List Int} {M : Hp} (ha : AOk R ws) (hb : AOk R vs) (h : Cont R ws M) (h' : Cont R vs M) : Sim R ws vs := by
 refine ⟨ha,hb,fun x k l hK => ?_,fun x k l i hK hi0 hi1 => ?_⟩
 ·obtain ⟨F,hF⟩ := h.dn x k l hK
  obtain ⟨_,q⟩ := hK.det9 (h.kept hF)
  rw [q]; exact h'.kept hF
 ·obtain ⟨F,hF⟩ := h.dn x k l hK
  obtain ⟨_,q⟩ := hK.det9 (h.kept hF)
  obtain ⟨g0,_,g1,g2⟩ := h.up x k F hF
  obtain ⟨_,_,_,g3⟩ := h'.up x k F hF
  obtain ⟨y,hy⟩ : ∃ y,(wdsK k F)[i.toNat]? = some y := ⟨_,List.getElem?_eq_getElem (by rw [g0.len]; omega)⟩
  have e1 := g2 _ _ hy
  have e2 := g3 _ _ hy
  rw [show ((i.toNat : Nat) : Int) = i by omega] at e1 e2
  rw [e1,e2]
theorem FOk.chan {x0 x1 x2 x3 x4 x5 x6 x7 x8 : Int} (h : ∀ x ∈ [x4,x5,x6,x7,x8],-1 ≤ x) : FOk 1 [x0,x1,x2,x3,x4,x5,x6,x7,x8] := ⟨chan_back x0 x1 x2 x3 x4 x5 x6 x7 x8 h,rfl⟩
theorem FOk.gor {x0 x1 x2 x3 x4 x5 x6 x7 x8 x9 : Int} (h : ∀ x ∈ [x9],-1 ≤ x) : FOk 4 [x0,x1,x2,x3,x4,x5,x6,x7,x8,x9] := ⟨gor_back x0 x1 x2 x3 x4 x5 x6 x7 x8 x9 h,rfl⟩
theorem shadeW_idle {R : List Rw} {ph w : Int} (h : ph = 0) (s : List Int × List Int × Bool) : shadeW R ph w s = s := by
 unfold shadeW shade
 split
 ·rw [if_neg (fun q => by have := q.1; omega)]
 ·rfl
theorem putS_idle {R : List Rw} {ph a : Int} (h : ph = 0) : ∀ (l : List Int) (i : Nat) (s : St4),(putS R ph a i l s).2 = s.2
 | [],_,_ => rfl
 | w :: l,i,s => by
  show (putS R ph a (i + 1) l _).2 = s.2
  rw [putS_idle h l]
  split
  ·rfl
  ·exact shadeW_idle h s.2
theorem PT.idle {kd ln : Int} {W : List Int} {R : List Rw} {ph a e : Int} {s s' : St4} (hp : ph = 0) (h : PT kd ln W R ph a s e s') : s'.2 = s.2 := by
 rcases h.two with ⟨_,_,q⟩ | ⟨_,_,q⟩
 ·rw [q,putS_idle hp]
 ·rw [q]
theorem storeS_idle {R : List Rw} {ph e w : Int} (h : ph = 0) (s : List Int × List Int × Bool) : storeS R ph e w s = s := by
 unfold storeS
 split
 ·exact shadeW_idle h s
 ·rfl
theorem HM.still {R R' : List Rw} {ws ws' C C' G G' : List Int} {N W : Int} {L L' D D' Q Q' : List PV} {z z' : ByteArray} {ov ov' : Bool} (h : HM R ws C G N W L D Q z) (h' : HM R' ws' C' G' N W L' D' Q' z') (e : (C',G',ov') = (C,G,ov)) : C' = C ∧ G' = G ∧ ov' = ov ∧ Q' = Q ∧ z' = z := by
 simp only [Prod.mk.injEq] at e
 obtain ⟨e1,e2,e3⟩ := e
 exact ⟨e1,e2,e3,by rw [h'.q,h.q,e1],by rw [h'.z,h.z,e2]⟩
theorem RM.still {R R' : List Rw} {vs vs' C C' G G' : List Int} {N W : Int} {P B V Q la P' B' V' Q' la' : List PV} {m m' : Int} {ov ov' : Bool} (h : RM R vs C G N W P B V Q la m) (h' : RM R' vs' C' G' N W P' B' V' Q' la' m') (e : (C',G',ov') = (C,G,ov)) : C' = C ∧ G' = G ∧ ov' = ov ∧ Q' = Q ∧ la' = la ∧ m' = m := by
 simp only [Prod.mk.injEq] at e
 obtain ⟨e1,e2,e3⟩ := e
 exact ⟨e1,e2,e3,by rw [h'.q,h.q,e1],by rw [h'.l,h.l,e2],by rw [h'.m,h.m,e2]⟩
theorem place_ge {a : Int} (h : atW (plW a) = a) : -1 ≤ a := by
 unfold atW plW at h
 split at h <;> split at h <;> omega
theorem place_b62 {a : Int} (h : -9223372036854775808 ≤ plW a ∧ plW a ≤ 9223372036854775807) (h1 : -1 ≤ a) : b62 a := by
 unfold plW at h
 unfold b62
 split at h <;> omega
theorem Cont.chan {R : List Rw} {ws : List Int} {M : Hp} (hA : AOk R ws) (h : Cont R ws M) {a y0 y1 y2 y3 y4 y5 y6 y7 y8 : Int} (hM : M a = some (1,[y0,y1,y2,y3,y4,y5,y6,y7,y8])) : (∀ x ∈ [y4,y5,y6,y7,y8],-1 ≤ x) ∧ (∀ x ∈ [y0,y1,y2,y3,y4,y5,y6,y7,y8],b62 x) := by
 obtain ⟨hF,_⟩ := h.up a _ _ hM
 have hb : ∀ x ∈ chanWs [y0,y1,y2,y3,y4,y5,y6,y7,y8],-9223372036854775808 ≤ x ∧ x ≤ 9223372036854775807 := h.bd hA hM
 have e : chanFs (chanWs [y0,y1,y2,y3,y4,y5,y6,y7,y8]) = [y0,y1,y2,y3,y4,y5,y6,y7,y8] := hF.back
 simp only [chanWs,chanFs,List.cons.injEq,and_true] at e hb
 simp only [List.forall_mem_cons] at hb
 obtain ⟨e0,e1,e2,e3,e4,e5,e6,e7,e8⟩ := e
 obtain ⟨b0,b1,b2,b3,b4,b5,b6,b7,b8,_⟩ := hb
 have p4 := place_ge e4
 have p5 := place_ge e5
 have p6 := place_ge e6
 have p7 := place_ge e7
 have p8 := place_ge e8
 have c0 : b62 y0 := by unfold b62; omega
 have c1 : b62 y1 := by unfold b62; omega
 have c2 : b62 y2 := by unfold b62; omega
 have c3 : b62 y3 := by unfold b62; omega
 have c4 : b62 y4 := place_b62 b4 p4
 have c5 : b62 y5 := place_b62 b5 p5
 have c6 : b62 y6 := place_b62 b6 p6
 have c7 : b62 y7 := place_b62 b7 p7
 have c8 : b62 y8 := place_b62 b8 p8
 simp only [List.forall_mem_cons]
 exact ⟨⟨p4,p5,p6,p7,p8,fun x hx => by cases hx⟩,⟨c0,c1,c2,c3,c4,c5,c6,c7,c8,fun x hx => by cases hx⟩⟩
theorem chanM_lx (R : List Rw) (ws C G : List Int) (N W ph sp cy : Int) (L D Q : List PV) (z : ByteArray) (ov : Bool) (h : HM R ws C G N W L D Q z) (M : Hp) (hM : Cont R ws M) (a y0 y1 y2 y3 y4 y5 y6 y7 y8 : Int) (hMa : M a = some (1,[y0,y1,y2,y3,y4,y5,y6,y7,y8])) : CallF (fun _ => Tryz.prog) 37 [.ptr 0 (.lit 0),i6 a] [hpA 0 1 5 6 3 W ph sp cy,hpB 1 2 4 3 W,hpC 2 3 233 2 N,hpP 3 L,hpP 4 D,hpF 5 z ov,hpP 6 Q] 7 (fun r h n => (∃ e : Int,r = .tup [.agg [i6 y0,i6 y1,i6 y2,i6 y3,i6 y4,i6 y5,i6 y6,i6 y7,i6 y8],i6 e] ∧ e = 0) ∧ h = [hpA 0 1 5 6 3 W ph sp cy,hpB 1 2 4 3 W,hpC 2 3 233 2 N,hpP 3 L,hpP 4 D,hpF 5 z ov,hpP 6 Q] ∧ n = 7) :=
 (chan_lx R ws C G N W ph sp cy L D Q z ov h a).mono fun r h' n hrr => by
  obtain ⟨⟨x0,x1,x2,x3,x4,x5,x6,x7,x8,e,e1,hT⟩,e2,e3⟩ := hrr
  obtain ⟨he,hy⟩ := hM.tr hMa rfl rfl hT
  simp only [List.cons.injEq,and_true] at hy
  obtain ⟨rfl,rfl,rfl,rfl,rfl,rfl,rfl,rfl,rfl⟩ := hy
  exact ⟨⟨e,e1,he⟩,e2,e3⟩
theorem putChanM_lx (R : List Rw) (ws C G : List Int) (N W ph sp cy : Int) (L D Q : List PV) (z : ByteArray) (ov : Bool) (h : HM R ws C G N W L D Q z) (M : Hp) (hM : Cont R ws M) (o : Unit → Obj) (ho : IsPow o) (hph : ph = 0) (a x0 x1 x2 x3 x4 x5 x6 x7 x8 : Int) (F : List Int) (hMa : M a = some (1,F)) (hF : F.length = 9) (hb : ∀ x ∈ [x0,x1,x2,x3,x4,x5,x6,x7,x8],b62 x) (hp : ∀ x ∈ [x4,x5,x6,x7,x8],-1 ≤ x) : CallF (fun _ => Tryz.prog) 33 [.ptr 0 (.lit 0),i6 a,.agg [i6 x0,i6 x1,i6 x2,i6 x3,i6 x4,i6 x5,i6 x6,i6 x7,i6 x8]] [hpA 0 1 5 6 3 W ph sp cy,hpB 1 2 4 3 W,hpC 2 3 233 2 N,hpP 3 L,hpP 4 D,hpF 5 z ov,hpP 6 Q,(7,.fix 0 o)] 8 (fun r h n => ∃ (e : Int) (ws' : List Int) (D' : List PV),r = .p (.int .i64 (.sym e)) ∧ e = 0 ∧ h = [hpA 0 1 5 6 3 W ph sp cy,hpB 1 2 4 3 W,hpC 2 3 233 2 N,hpP 3 L,hpP 4 D',hpF 5 z ov,hpP 6 Q,(7,.fix 0 o)] ∧ n = 8 ∧ HM R ws' C G N W L D' Q z ∧ Cont R ws' (upd M a (1,[x0,x1,x2,x3,x4,x5,x6,x7,x8]))) :=
 (putChan_lx R ws C G N W ph sp cy L D Q z ov h o ho a x0 x1 x2 x3 x4 x5 x6 x7 x8 hb).mono fun r h' n hrr => by
  obtain ⟨e,ws',C',G',ov',D',Q',z',e1,e2,e3,h1,hP⟩ := hrr
  obtain ⟨he,hM'⟩ := hM.put (F' := [x0,x1,x2,x3,x4,x5,x6,x7,x8]) h.a hMa (by rw [hF]; rfl) rfl (FOk.chan hp) rfl (chanWs_bd x0 x1 x2 x3 x4 x5 x6 x7 x8 hb) hP
  obtain ⟨q1,q2,q3,q4,q5⟩ := h.still h1 (hP.idle hph)
  rw [q3,q4,q5] at e2
  rw [q1,q2,q4,q5] at h1
  exact ⟨e,ws',D',e1,he,e2,e3,h1,hM'⟩
theorem rPutChanM_lx (R : List Rw) (vs C G : List Int) (N W ph sp cy : Int) (P B V Q la : List PV) (m : Int) (ov : Bool) (h : RM R vs C G N W P B V Q la m) (M : Hp) (hM : Cont R vs M) (hph : ph = 0) (a x0 x1 x2 x3 x4 x5 x6 x7 x8 : Int) (F : List Int) (hMa : M a = some (1,F)) (hF : F.length = 9) (hb : ∀ x ∈ [x0,x1,x2,x3,x4,x5,x6,x7,x8],b62 x) (hp : ∀ x ∈ [x4,x5,x6,x7,x8],-1 ≤ x) : CallF (fun _ => Tryz.prog) 59 [.ptr 0 (.lit 0),i6 a,.agg [i6 x0,i6 x1,i6 x2,i6 x3,i6 x4,i6 x5,i6 x6,i6 x7,i6 x8]] [hpR 0 1 6 3 W 7 ph sp cy,hpB 1 2 5 3 W,hpD 2 3 3 1 N 4 231 8 N,hpP 3 P,hpP 4 B,hpP 5 V,hpP 6 Q,(7,.mix [.p (.vsl (.sym m) true la),.p (.bool ov)])] 8 (fun r h n => ∃ (e : Int) (vs' : List Int) (V' : List PV),r = .p (.int .i64 (.sym e)) ∧ e = 0 ∧ h = [hpR 0 1 6 3 W 7 ph sp cy,hpB 1 2 5 3 W,hpD 2 3 3 1 N 4 231 8 N,hpP 3 P,hpP 4 B,hpP 5 V',hpP 6 Q,(7,.mix [.p (.vsl (.sym m) true la),.p (.bool ov)])] ∧ n = 8 ∧ RM R vs' C G N W P B V' Q la m ∧ Cont R vs' (upd M a (1,[x0,x1,x2,x3,x4,x5,x6,x7,x8]))) :=
 (rPutChan_lx R vs C G N W ph sp cy P B V Q la m ov h a x0 x1 x2 x3 x4 x5 x6 x7 x8 hb).mono fun r h' n hrr => by
  obtain ⟨e,vs',C',G',ov',V',Q',la',m',e1,e2,e3,h1,hP⟩ := hrr
  obtain ⟨he,hM'⟩ := hM.put (F' := [x0,x1,x2,x3,x4,x5,x6,x7,x8]) h.a hMa (by rw [hF]; rfl) rfl (FOk.chan hp) rfl (chanWs_bd x0 x1 x2 x3 x4 x5 x6 x7 x8 hb) hP
  obtain ⟨q1,q2,q3,q4,q5,q6⟩ := h.still h1 (hP.idle hph)
  rw [q3,q4,q5,q6] at e2
  rw [q1,q2,q4,q5,q6] at h1
  exact ⟨e,vs',V',e1,he,e2,e3,h1,hM'⟩
theorem putGorM_lx (R : List Rw) (ws C G : List Int) (N W ph sp cy : Int) (L D Q : List PV) (z : ByteArray) (ov : Bool) (h : HM R ws C G N W L D Q z) (M : Hp) (hM : Cont R ws M) (o : Unit → Obj) (ho : IsPow o) (hph : ph = 0) (a x0 x1 x2 x3 x4 x5 x6 x7 x8 x9 : Int) (F : List Int) (hMa : M a = some (4,F)) (hF : F.length = 10) (hb : ∀ x ∈ [x0,x1,x2,x9],b62 x) (hw : ∀ x ∈ [x3,x4,x5,x6,x7,x8],-9223372036854775808 ≤ x ∧ x ≤ 9223372036854775807) (hp : ∀ x ∈ [x9],-1 ≤ x) : CallF (fun _ => Tryz.prog) 60 [.ptr 0 (.lit 0),i6 a,.agg [i6 x0,i6 x1,i6 x2,i6 x3,i6 x4,i6 x5,i6 x6,i6 x7,i6 x8,i6 x9]] [hpA 0 1 5 6 3 W ph sp cy,hpB 1 2 4 3 W,hpC 2 3 233 2 N,hpP 3 L,hpP 4 D,hpF 5 z ov,hpP 6 Q,(7,.fix 0 o)] 8 (fun r h n => ∃ (e : Int) (ws' : List Int) (D' : List PV),r = .p (.int .i64 (.sym e)) ∧ e = 0 ∧ h = [hpA 0 1 5 6 3 W ph sp cy,hpB 1 2 4 3 W,hpC 2 3 233 2 N,hpP 3 L,hpP 4 D',hpF 5 z ov,hpP 6 Q,(7,.fix 0 o)] ∧ n = 8 ∧ HM R ws' C G N W L D' Q z ∧ Cont R ws' (upd M a (4,[x0,x1,x2,x3,x4,x5,x6,x7,x8,x9]))) :=
 (putGor_lx R ws C G N W ph sp cy L D Q z ov h o ho a x0 x1 x2 x3 x4 x5 x6 x7 x8 x9 hb hw).mono fun r h' n hrr => by
  obtain ⟨e,ws',C',G',ov',D',Q',z',e1,e2,e3,h1,hP⟩ := hrr
  obtain ⟨he,hM'⟩ := hM.put (F' := [x0,x1,x2,x3,x4,x5,x6,x7,x8,x9]) h.a hMa (by rw [hF]; rfl) rfl (FOk.gor hp) rfl (gorWs_bd x0 x1 x2 x3 x4 x5 x6 x7 x8 x9 hb hw) hP
  obtain ⟨q1,q2,q3,q4,q5⟩ := h.still h1 (hP.idle hph)
  rw [q3,q4,q5] at e2
  rw [q1,q2,q4,q5] at h1
  exact ⟨e,ws',D',e1,he,e2,e3,h1,hM'⟩
theorem rPutGorM_lx (R : List Rw) (vs C G : List Int) (N W ph sp cy : Int) (P B V Q la : List PV) (m : Int) (ov : Bool) (h : RM R vs C G N W P B V Q la m) (M : Hp) (hM : Cont R vs M) (hph : ph = 0) (a x0 x1 x2 x3 x4 x5 x6 x7 x8 x9 : Int) (F : List Int) (hMa : M a = some (4,F)) (hF : F.length = 10) (hb : ∀ x ∈ [x0,x1,x2,x9],b62 x) (hw : ∀ x ∈ [x3,x4,x5,x6,x7,x8],-9223372036854775808 ≤ x ∧ x ≤ 9223372036854775807) (hp : ∀ x ∈ [x9],-1 ≤ x) : CallF (fun _ => Tryz.prog) 61 [.ptr 0 (.lit 0),i6 a,.agg [i6 x0,i6 x1,i6 x2,i6 x3,i6 x4,i6 x5,i6 x6,i6 x7,i6 x8,i6 x9]] [hpR 0 1 6 3 W 7 ph sp cy,hpB 1 2 5 3 W,hpD 2 3 3 1 N 4 231 8 N,hpP 3 P,hpP 4 B,hpP 5 V,hpP 6 Q,(7,.mix [.p (.vsl (.sym m) true la),.p (.bool ov)])] 8 (fun r h n => ∃ (e : Int) (vs' : List Int) (V' : List PV),r = .p (.int .i64 (.sym e)) ∧ e = 0 ∧ h = [hpR 0 1 6 3 W 7 ph sp cy,hpB 1 2 5 3 W,hpD 2 3 3 1 N 4 231 8 N,hpP 3 P,hpP 4 B,hpP 5 V',hpP 6 Q,(7,.mix [.p (.vsl (.sym m) true la),.p (.bool ov)])] ∧ n = 8 ∧ RM R vs' C G N W P B V' Q la m ∧ Cont R vs' (upd M a (4,[x0,x1,x2,x3,x4,x5,x6,x7,x8,x9]))) :=
 (rPutGor_lx R vs C G N W ph sp cy P B V Q la m ov h a x0 x1 x2 x3 x4 x5 x6 x7 x8 x9 hb hw).mono fun r h' n hrr => by
  obtain ⟨e,vs',C',G',ov',V',Q',la',m',e1,e2,e3,h1,hP⟩ := hrr
  obtain ⟨he,hM'⟩ := hM.put (F' := [x0,x1,x2,x3,x4,x5,x6,x7,x8,x9]) h.a hMa (by rw [hF]; rfl) rfl (FOk.gor hp) rfl (gorWs_bd x0 x1 x2 x3 x4 x5 x6 x7 x8 x9 hb hw) hP
  obtain ⟨q1,q2,q3,q4,q5,q6⟩ := h.still h1 (hP.idle hph)
  rw [q3,q4,q5,q6] at e2
  rw [q1,q2,q4,q5,q6] at h1
  exact ⟨e,vs',V',e1,he,e2,e3,h1,hM'⟩
def hdQ (l : List Int) : Int := l.head?.getD (-1)
def ltQ (l : List Int) : Int := l.getLast?.getD (-1)
def sucL : List Int → Int → Int
 | x :: y :: l,a => if a = x then y else sucL (y :: l) a
 | _,_ => -1
abbrev Qs := Int → Bool → List Int
def nxtQ (q : Qs) (c a : Int) : Int := if a ∈ q c false then sucL (q c false) a else sucL (q c true) a
def lnk (q : Qs) (a : Int) (v : Int × List Int) : Int × List Int :=
 if v.1 = 1 then (match v.2 with
  | [a0,a1,a2,a3,a4,_,_,_,_] => (1,[a0,a1,a2,a3,a4,hdQ (q a false),ltQ (q a false),hdQ (q a true),ltQ (q a true)])
  | F => (1,F))
 else if v.1 = 3 then (match v.2 with
  | [g,c,w,_,p,r,m] => (3,[g,c,w,nxtQ q c a,p,r,m])
  | F => (3,F))
 else v
theorem lnk_chan (q : Qs) (a a0 a1 a2 a3 a4 a5 a6 a7 a8 : Int) : lnk q a (1,[a0,a1,a2,a3,a4,a5,a6,a7,a8]) = (1,[a0,a1,a2,a3,a4,hdQ (q a false),ltQ (q a false),hdQ (q a true),ltQ (q a true)]) := rfl
theorem lnk_sudog (q : Qs) (a g c w n p r m : Int) : lnk q a (3,[g,c,w,n,p,r,m]) = (3,[g,c,w,nxtQ q c a,p,r,m]) := rfl
theorem lnk_other (q : Qs) (a : Int) (v : Int × List Int) (h : v.1 ≠ 1 ∧ v.1 ≠ 3) : lnk q a v = v := by unfold lnk; rw [if_neg h.1,if_neg h.2]
def relink (M : Hp) (q : Qs) : Hp := fun a => (M a).map (lnk q a)
theorem relink_upd (M : Hp) (q : Qs) (a : Int) (v : Int × List Int) : relink (upd M a v) q = upd (relink M q) a (lnk q a v) := by
 funext b
 unfold relink upd
 by_cases h : b = a
 ·rw [if_pos h,if_pos h,h]; rfl
 ·rw [if_neg h,if_neg h]
structure Sys (M : Hp) (q : Qs) : Prop where
 ch : ∀ c d s,s ∈ q c d → ∃ F,M c = some (1,F)
 sg : ∀ c d s,s ∈ q c d → ∃ g w n p r m,M s = some (3,[g,c,w,n,p,r,m])
 nd : ∀ c d,(q c d).Nodup
 dj : ∀ c s,s ∈ q c false → s ∉ q c true
 ln : relink M q = M
 sc : ∀ a F,M a = some (1,F) → F.length = 9
 ss : ∀ a F,M a = some (3,F) → F.length = 7
theorem Sys.new {M : Hp} (h1 : ∀ a F,M a = some (1,F) → ∃ a0 a1 a2 a3 a4,F = [a0,a1,a2,a3,a4,-1,-1,-1,-1]) (h3 : ∀ a F,M a = some (3,F) → ∃ g c w p r m,F = [g,c,w,-1,p,r,m]) : Sys M (fun _ _ => []) := by
 refine ⟨fun c d s hs => (by cases hs),fun c d s hs => (by cases hs),fun c d => List.nodup_nil,fun c s hs => (by cases hs),?_,fun a F e => (by obtain ⟨a0,a1,a2,a3,a4,q⟩ := h1 a F e; rw [q]; rfl),fun a F e => (by obtain ⟨g,c,w,p,r,m,q⟩ := h3 a F e; rw [q]; rfl)⟩
 funext a
 unfold relink
 cases hv : M a with
 | none => rfl
 | some v =>
  obtain ⟨k,F⟩ := v
  show some _ = some _
  congr 1
  by_cases e1 : k = 1
  ·subst e1
   obtain ⟨a0,a1,a2,a3,a4,rfl⟩ := h1 a F hv
   rfl
  ·by_cases e3 : k = 3
   ·subst e3
    obtain ⟨g,c,w,p,r,m,rfl⟩ := h3 a F hv
    rfl
   ·exact lnk_other _ _ _ ⟨e1,e3⟩
theorem sucL_not : ∀ {l : List Int} {x : Int},x ∉ l → sucL l x = -1
 | [],_,_ => rfl
 | [a],_,_ => rfl
 | a :: b :: l,x,h => by
  show (if x = a then b else sucL (b :: l) x) = _
  rw [if_neg (fun e : x = a => h (by rw [e]; exact List.mem_cons_self)),sucL_not (fun q => h (List.mem_cons_of_mem _ q))]
theorem nxtQ_not {q : Qs} {c s : Int} (h : ∀ d,s ∉ q c d) : nxtQ q c s = -1 := by
 unfold nxtQ
 rw [if_neg (h false),sucL_not (h true)]
theorem Sys.updv {M : Hp} {q : Qs} {a : Int} {v : Int × List Int} (h : Sys M q) (hv : Go.Proofs.YtkhfgngcoiablaaGreatDoor.lnk q a v = v) (hk : ∀ F,M a = some (1,F) → v.1 = 1) (hs : ∀ c d,a ∈ q c d → ∃ g w n p r m,v = (3,[g,c,w,n,p,r,m])) (hl : (v.1 = 1 → v.2.length = 9) ∧ (v.1 = 3 → v.2.length = 7)) : Sys (upd M a v) q := by
 refine ⟨fun c d s k => ?_,fun c d s k => ?_,h.nd,h.dj,?_,fun b F e => ?_,fun b F e => ?_⟩
 ·obtain ⟨F,hF⟩ := h.ch c d s k
  by_cases e : c = a
  ·subst e
   exact ⟨v.2,by rw [upd_same,← hk F hF]⟩
  ·exact ⟨F,by rw [upd_ne e]; exact hF⟩
 ·by_cases e : s = a
  ·subst e
   obtain ⟨g,w,n,p,r,m,hv2⟩ := hs c d k
   exact ⟨g,w,n,p,r,m,by rw [upd_same,hv2]⟩
  ·rw [upd_ne e]; exact h.sg c d s k
 ·rw [relink_upd,h.ln,hv]
 ·by_cases q : b = a
  ·subst q; rw [upd_same] at e; cases e; exact hl.1 rfl
  ·rw [upd_ne q] at e; exact h.sc b F e
 ·by_cases q : b = a
  ·subst q; rw [upd_same] at e; cases e; exact hl.2 rfl
  ·rw [upd_ne q] at e; exact h.ss b F e
theorem Sys.fresh {M : Hp} {q : Qs} {a k : Int} {n : Nat} (h : Sys M q) (hM : M a = none) : Sys (upd M a (k,zerK k n)) q := by
 have hna : ∀ c d,a ∉ q c d := fun c d hs => by obtain ⟨g,w,n,p,r,m,e⟩ := h.sg c d a hs; rw [hM] at e; cases e
 have hqa : ∀ d,q a d = [] := fun d => by
  cases hq : q a d with
  | nil => rfl
  | cons x l => obtain ⟨F,e⟩ := h.ch a d x (by rw [hq]; exact List.mem_cons_self); rw [hM] at e; cases e
 refine h.updv ?_ (fun F e => by rw [hM] at e; cases e) (fun c d e => absurd e (hna c d)) ⟨fun e => by have e : k = 1 := e; subst e; rfl,fun e => by have e : k = 3 := e; subst e; rfl⟩
 by_cases e1 : k = 1
 ·subst e1
  show Go.Proofs.YtkhfgngcoiablaaGreatDoor.lnk q a (1,[0,0,0,0,-1,-1,-1,-1,-1]) = _
  rw [lnk_chan,hqa,hqa]; rfl
 ·by_cases e3 : k = 3
  ·subst e3
   show Go.Proofs.YtkhfgngcoiablaaGreatDoor.lnk q a (3,[-1,-1,0,-1,0,0,-1]) = _
   rw [lnk_sudog,nxtQ_not (fun d => hna _ d)]; rfl
  ·exact lnk_other _ _ _ ⟨e1,e3⟩
structure Bst (R : List Rw) (ws vs C : List Int) (N W ph : Int) (L D Q : List PV) (z : ByteArray) (P B V Qr la : List PV) (m : Int) (M : Hp) : Prop where
 h : HM R ws C [] N W L D Q z
 r : RM R vs C [] N W P B V Qr la m
 c : Cont R ws M
 d : Cont R vs M
 ph : ph = 0
 w : C = List.replicate W.toNat 0
theorem Bst.colour {R R' : List Rw} {ws vs ws' vs' C C' DC : List Int} {N W ph : Int} {L D Q L' D' Q' : List PV} {z : ByteArray} {P B V Qr la P' B' V' Qr' : List PV} {m : Int} {M : Hp} {x e : Int} (S : Bst R ws vs C N W ph L D Q z P B V Qr la m M) (he : e = 0) (h1 : HM R' ws' C' [] N W L' D' Q' z) (g1 : RM R' vs' DC [] N W P' B' V' Qr' la m) (hC : C' = allocC ph x e C) (hD : DC = allocC ph x e C) : C = C' ∧ C = DC ∧ Q = Q' ∧ Qr = Qr' := by
 have : allocC ph x e C = C := by rw [S.ph,he,S.w]; exact allocC_white x
 rw [this] at hC hD
 exact ⟨hC.symm,hD.symm,by rw [h1.q,S.h.q,hC],by rw [g1.q,S.r.q,hD]⟩
structure BCh (M : Hp) (c b cap : Int) : Prop where
 c : M c = some (1,[cap,0,0,0,b,-1,-1,-1,-1])
 b : (cap = 0 ∧ b = -1) ∨ (0 < cap ∧ cap < 4 ∧ M b = some (2,List.replicate cap.toNat 0))
def capW (x : Int) : Int := IntKind.u64.wrap x % 4
theorem capW_bd (x : Int) : 0 ≤ capW x ∧ capW x < 4 := by unfold capW; omega
def ngor (n : Int) : Int := 1 + IntKind.u64.wrap n % 6
theorem ngor_bd (n : Int) : 1 ≤ ngor n ∧ ngor n ≤ 6 := by unfold ngor; omega
structure Bn (caps : List Int) (M : Hp) (chs bufs gs : List Int) : Prop where
 len : bufs.length = chs.length
 lec : chs.length ≤ caps.length
 ch : ∀ (j : Nat) (c x : Int),chs[j]? = some c → caps[j]? = some x → ∃ b,bufs[j]? = some b ∧ BCh M c b (capW x)
 nd : chs.Nodup
 bnd : ∀ (i j : Nat) (b : Int),bufs[i]? = some b → bufs[j]? = some b → 0 ≤ b → i = j
 gnd : gs.Nodup
 gr : ∀ (j : Nat) (g : Int),gs[j]? = some g → M g = some (4,[(j : Int),0,0,0,0,0,0,0,0,-1])
theorem Bn.new (caps : List Int) (M : Hp) : Bn caps M [] [] [] := ⟨rfl,Nat.zero_le _,fun j c x h => by simp at h,List.nodup_nil,fun i j b h => by simp at h,List.nodup_nil,fun j g h => by simp at h⟩
theorem Bn.chAt {caps : List Int} {M : Hp} {chs bufs gs : List Int} (h : Bn caps M chs bufs gs) {c : Int} (hc : c ∈ chs) : ∃ (j : Nat) (b x : Int),chs[j]? = some c ∧ caps[j]? = some x ∧ bufs[j]? = some b ∧ BCh M c b (capW x) := by
 obtain ⟨j,hj⟩ := List.getElem?_of_mem hc
 have hl := (List.getElem?_eq_some_iff.1 hj).1
 obtain ⟨x,hx⟩ : ∃ x,caps[j]? = some x := ⟨_,List.getElem?_eq_getElem (by have := h.lec; omega)⟩
 obtain ⟨b,hb,hB⟩ := h.ch j c x hj hx
 exact ⟨j,b,x,hj,hx,hb,hB⟩
theorem Bn.bufAt {caps : List Int} {M : Hp} {chs bufs gs : List Int} (h : Bn caps M chs bufs gs) {b : Int} (hb : b ∈ bufs) : b = -1 ∨ ∃ F,M b = some (2,F) := by
 obtain ⟨j,hj⟩ := List.getElem?_of_mem hb
 have hl := (List.getElem?_eq_some_iff.1 hj).1
 obtain ⟨c,hc⟩ : ∃ c,chs[j]? = some c := ⟨_,List.getElem?_eq_getElem (by have := h.len; omega)⟩
 obtain ⟨x,hx⟩ : ∃ x,caps[j]? = some x := ⟨_,List.getElem?_eq_getElem (by have := h.lec; have := h.len; omega)⟩
 obtain ⟨b',hb',hB⟩ := h.ch j c x hc hx
 obtain rfl : b = b' := Option.some.inj (hj.symm.trans hb')
 rcases hB.b with q | q
 ·exact .inl q.2
 ·exact .inr ⟨_,q.2.2⟩
theorem Bn.weaken {caps : List Int} {M M' : Hp} {chs bufs gs : List Int} (h : Bn caps M chs bufs gs) (hM : ∀ a v,M a = some v → M' a = some v) : Bn caps M' chs bufs gs := by
 refine ⟨h.len,h.lec,fun j c x hc hx => ?_,h.nd,h.bnd,h.gnd,fun j g hg => hM _ _ (h.gr j g hg)⟩
 obtain ⟨b,hb,hB⟩ := h.ch j c x hc hx
 refine ⟨b,hb,hM _ _ hB.c,?_⟩
 rcases hB.b with q | ⟨q1,q2,q3⟩
 ·exact .inl q
 ·exact .inr ⟨q1,q2,hM _ _ q3⟩
theorem Bn.chan0 {caps : List Int} {M : Hp} {chs bufs : List Int} (h : Bn caps M chs bufs []) {c x : Int} (hx : caps[chs.length]? = some x) (h0 : capW x = 0) (hc : M c = none) (G : Int × List Int) : Bn caps (upd (upd M c G) c (1,[capW x,0,0,0,-1,-1,-1,-1,-1])) (chs ++ [c]) (bufs ++ [-1]) [] := by
 have hlx := (List.getElem?_eq_some_iff.1 hx).1
 have hnc : c ∉ chs := fun q => by
  obtain ⟨_,_,_,_,_,_,hB⟩ := h.chAt q
  have := hB.c; rw [hc] at this; cases this
 have hw := h.weaken (M' := upd (upd M c G) c (1,[capW x,0,0,0,-1,-1,-1,-1,-1])) fun a v ha => by
  have : a ≠ c := fun q => by rw [q,hc] at ha; cases ha
  rw [upd_ne this,upd_ne this]; exact ha
 refine ⟨by simp [h.len],by simp; omega,fun j c' x' hj hx' => ?_,?_,fun i j b hi hj hb => ?_,List.nodup_nil,fun j g hg => by simp at hg⟩
 ·rw [List.getElem?_append] at hj
  split at hj
  ·obtain ⟨b,hb,hB⟩ := hw.ch j c' x' hj hx'
   exact ⟨b,by rw [List.getElem?_append_left (by rw [h.len]; assumption)]; exact hb,hB⟩
  ·rename_i q
   have hj0 : j = chs.length := by have := (List.getElem?_eq_some_iff.1 hj).1; simp at this; omega
   subst hj0
   simp at hj
   subst hj
   obtain rfl : x = x' := Option.some.inj (hx.symm.trans hx')
   exact ⟨-1,by rw [← h.len]; simp,upd_same _ _ _,.inl ⟨h0,rfl⟩⟩
 ·rw [List.nodup_append]
  exact ⟨h.nd,by simp,fun a ha b hb => by simp at hb; subst hb; exact fun e => hnc (e ▸ ha)⟩
 ·rw [List.getElem?_append] at hi hj
  split at hi <;> split at hj
  ·exact h.bnd i j b hi hj hb
  ·have := (List.getElem?_eq_some_iff.1 hj).1; simp at this; simp [this] at hj; omega
  ·have := (List.getElem?_eq_some_iff.1 hi).1; simp at this; simp [this] at hi; omega
  ·have := (List.getElem?_eq_some_iff.1 hi).1; simp at this; simp [this] at hi; omega
theorem Bn.chan1 {caps : List Int} {M : Hp} {chs bufs : List Int} (h : Bn caps M chs bufs []) {c b x : Int} (hx : caps[chs.length]? = some x) (h0 : 0 < capW x) (hc : M c = none) (G : Int × List Int) (hb : upd M c G b = none) : Bn caps (upd (upd (upd M c G) b (2,List.replicate (capW x).toNat 0)) c (1,[capW x,0,0,0,b,-1,-1,-1,-1])) (chs ++ [c]) (bufs ++ [b]) [] := by
 have hlx := (List.getElem?_eq_some_iff.1 hx).1
 have hbc : b ≠ c := fun q => by rw [q,upd_same] at hb; cases hb
 rw [upd_ne hbc] at hb
 have hnc : c ∉ chs := fun q => by
  obtain ⟨_,_,_,_,_,_,hB⟩ := h.chAt q
  have := hB.c; rw [hc] at this; cases this
 have hnb : b ∈ bufs → b = -1 := fun q => by
  rcases h.bufAt q with q | ⟨F,q⟩
  ·exact q
  ·rw [hb] at q; cases q
 have hw := h.weaken (M' := upd (upd (upd M c G) b (2,List.replicate (capW x).toNat 0)) c (1,[capW x,0,0,0,b,-1,-1,-1,-1])) fun a v ha => by
  have q1 : a ≠ c := fun q => by rw [q,hc] at ha; cases ha
  have q2 : a ≠ b := fun q => by rw [q,hb] at ha; cases ha
  rw [upd_ne q1,upd_ne q2,upd_ne q1]; exact ha
 refine ⟨by simp [h.len],by simp; omega,fun j c' x' hj hx' => ?_,?_,fun i j b' hi hj hb' => ?_,List.nodup_nil,fun j g hg => by simp at hg⟩
 ·rw [List.getElem?_append] at hj
  split at hj
  ·obtain ⟨b,hb,hB⟩ := hw.ch j c' x' hj hx'
   exact ⟨b,by rw [List.getElem?_append_left (by rw [h.len]; assumption)]; exact hb,hB⟩
  ·rename_i q
   have hj0 : j = chs.length := by have := (List.getElem?_eq_some_iff.1 hj).1; simp at this; omega
   subst hj0
   simp at hj
   subst hj
   obtain rfl : x = x' := Option.some.inj (hx.symm.trans hx')
   exact ⟨b,by rw [← h.len]; simp,upd_same _ _ _,.inr ⟨h0,(capW_bd x).2,by rw [upd_ne hbc,upd_same]⟩⟩
 ·rw [List.nodup_append]
  exact ⟨h.nd,by simp,fun a ha b hb => by simp at hb; subst hb; exact fun e => hnc (e ▸ ha)⟩
 ·rw [List.getElem?_append] at hi hj
  split at hi <;> split at hj
  ·exact h.bnd i j b' hi hj hb'
  ·have := (List.getElem?_eq_some_iff.1 hj).1; simp at this; simp [this] at hj; subst hj
   have := hnb (List.mem_of_getElem? hi); omega
  ·have := (List.getElem?_eq_some_iff.1 hi).1; simp at this; simp [this] at hi; subst hi
   have := hnb (List.mem_of_getElem? hj); omega
  ·have q1 := (List.getElem?_eq_some_iff.1 hi).1; have q2 := (List.getElem?_eq_some_iff.1 hj).1; simp at q1 q2; omega
theorem Bn.gor {caps : List Int} {M : Hp} {chs bufs gs : List Int} (h : Bn caps M chs bufs gs) {g j : Int} (hj : j = gs.length) (hg : M g = none) (G : Int × List Int) : Bn caps (upd (upd M g G) g (4,[j,0,0,0,0,0,0,0,0,-1])) chs bufs (gs ++ [g]) := by
 have hng : g ∉ gs := fun q => by
  obtain ⟨j,hj⟩ := List.getElem?_of_mem q
  rw [h.gr j g hj] at hg; cases hg
 have hw := h.weaken (M' := upd (upd M g G) g (4,[j,0,0,0,0,0,0,0,0,-1])) fun a v ha => by
  have : a ≠ g := fun q => by rw [q,hg] at ha; cases ha
  rw [upd_ne this,upd_ne this]; exact ha
 refine ⟨h.len,h.lec,hw.ch,h.nd,h.bnd,?_,fun k x hk => ?_⟩
 ·rw [List.nodup_append]
  exact ⟨h.gnd,by simp,fun a ha b hb => by simp at hb; subst hb; exact fun e => hng (e ▸ ha)⟩
 ·rw [List.getElem?_append] at hk
  split at hk
  ·exact hw.gr k x hk
  ·have := (List.getElem?_eq_some_iff.1 hk).1; simp at this
   have hk0 : k = gs.length := by omega
   subst hk0
   simp at hk
   subst hk
   rw [upd_same,hj]
theorem alloc12_lx (R : List Rw) (ws vs C : List Int) (N W ph sp cy : Int) (L D Q : List PV) (z : ByteArray) (ov : Bool) (P B V Qr la : List PV) (m : Int) (M : Hp) (nc ng : Int) (cs gs : List PV) (o : Unit → Obj) (S : Bst R ws vs C N W ph L D Q z P B V Qr la m M) (kd n : Int) (hk : 0 ≤ n ∧ n ≤ 31 ∧ 1 ≤ kd ∧ kd ≤ 6) (hlen : lenK kd n.toNat) (hroom : objCount R < R.length) : CallF (fun _ => Tryz.prog) 111 [.ptr 16 (.lit 0),i6 kd,i6 n] [hpA 0 1 5 6 3 W ph sp cy,hpB 1 2 4 3 W,hpC 2 3 233 2 N,hpP 3 L,hpP 4 D,hpF 5 z ov,hpP 6 Q,hpR 7 8 13 3 W 14 ph sp cy,hpB 8 9 12 3 W,hpD 9 10 3 1 N 11 231 8 N,hpP 10 P,hpP 11 B,hpP 12 V,hpP 13 Qr,(14,.mix [.p (.vsl (.sym m) true la),.p (.bool ov)]),(15,.fix 0 o),(16,.mix [.ptr 0 (.lit 0),.ptr 7 (.lit 0),.sl 17 3 1 (.lit 0) (.sym nc),.sl 18 3 1 (.lit 0) (.sym ng)]),hpP 17 cs,hpP 18 gs] 19 (fun r h n' => ∃ (x : Int) (R' : List Rw) (ws' vs' : List Int) (L' D' P' B' V' : List PV),r = .p (.int .i64 (.sym x)) ∧ h = [hpA 0 1 5 6 3 W ph sp cy,hpB 1 2 4 3 W,hpC 2 3 233 2 N,hpP 3 L',hpP 4 D',hpF 5 z ov,hpP 6 Q,hpR 7 8 13 3 W 14 ph sp cy,hpB 8 9 12 3 W,hpD 9 10 3 1 N 11 231 8 N,hpP 10 P',hpP 11 B',hpP 12 V',hpP 13 Qr,(14,.mix [.p (.vsl (.sym m) true la),.p (.bool ov)]),(15,.fix 0 o),(16,.mix [.ptr 0 (.lit 0),.ptr 7 (.lit 0),.sl 17 3 1 (.lit 0) (.sym nc),.sl 18 3 1 (.lit 0) (.sym ng)]),hpP 17 cs,hpP 18 gs] ∧ n' = 19 ∧ Bst R' ws' vs' C N W ph L' D' Q z P' B' V' Qr la m (upd M x (kd,zerK kd n.toNat)) ∧ objCount R' = objCount R + 1 ∧ M x = Option.none ∧ 0 ≤ x ∧ x < W ∧ R'.length = R.length) := by
 refine callF_of_body tok Tryz.func111 (by kernel_rfl) rfl rfl rfl ?_; conv => cbv
 refine cfr (alloc9_lx R ws C [] N W ph sp cy L D Q z ov S.h kd n) [(0,0),(1,1),(2,2),(3,3),(4,4),(5,5),(6,6)] (fun r h' n' hrr => ?_)
 obtain ⟨x,e,R',ws',C',L',D',Q',e1,e2,e3,h1,hT,hC⟩ := hrr
 subst e1 e2 e3
 conv => cbv
 refine cfr (ralloc9_lx R vs C [] N W ph sp cy P B V Qr la m ov S.r kd n) [(0,7),(1,8),(2,9),(3,10),(4,11),(5,12),(6,13),(7,14)] (fun r h' n' hrr => ?_)
 obtain ⟨y,f,Y,vs',DC,P',B',V',Qr',e1,e2,e3,g1,hU,hD⟩ := hrr
 subst e1 e2 e3
 obtain ⟨q1,q2,q3,hS1,hl1⟩ := (S.c.toSim S.h.a S.r.a S.d).alloc hT hU
 subst q1 q2 q3
 obtain ⟨he,hM1,hc1,hx0,hx1,hx2,hx3⟩ := S.c.alloc S.h.a hroom hk hlen hT
 obtain ⟨q4,q5,q6,q7⟩ := Bst.colour S he h1 g1 hC hD
 subst q4 q5 q6 q7
 conv => cbv
 refine Br.no (show ¬ ¬ (x = x) from fun q => q rfl) ?_
 conv => cbv
 refine Br.no (show ¬ ¬ (e = 0) from fun q => q he) ?_
 conv => cbv
 refine Br.no (show ¬ ¬ (e = 0) from fun q => q he) ?_
 conv => cbv
 refine RetF.mk [i6 x] [hpA 0 1 5 6 3 W ph sp cy,hpB 1 2 4 3 W,hpC 2 3 233 2 N,hpP 3 L',hpP 4 D',hpF 5 z ov,hpP 6 Q,hpR 7 8 13 3 W 14 ph sp cy,hpB 8 9 12 3 W,hpD 9 10 3 1 N 11 231 8 N,hpP 10 P',hpP 11 B',hpP 12 V',hpP 13 Qr,(14,.mix [.p (.vsl (.sym m) true la),.p (.bool ov)]),(15,.fix 0 o),(16,.mix [.ptr 0 (.lit 0),.ptr 7 (.lit 0),.sl 17 3 1 (.lit 0) (.sym nc),.sl 18 3 1 (.lit 0) (.sym ng)]),hpP 17 cs,hpP 18 gs] 19 (Re.at [(0,0),(1,1),(2,2),(3,3),(4,4),(5,5),(6,6),(7,7),(8,8),(9,9),(10,10),(11,11),(12,12),(13,13),(14,14),(15,15),(16,16),(17,17),(18,18)] []) rfl ⟨x,R',ws',vs',L',D',P',B',V',rfl,rfl,rfl,⟨h1,g1,hM1,hM1.sim hS1,S.ph,S.w⟩,hc1,hx0,hx1,by rw [S.h.w,S.h.n]; exact hx2,hx3⟩
theorem made12_lx (o : Unit → Obj) (ho : IsPow o) (caps : List Int) (mc n : Int) (CL : List PV) (hCL : CL = ipv caps) (hmc : mc = caps.length) : CallF (fun _ => Tryz.prog) 50 [.p (.vsl (.sym mc) true CL),i6 n] [(0,.fix 0 o)] 1 (fun r h n' => ∃ (N W : Int) (C : List Int) (R : List Rw) (ws vs : List Int) (L D Q : List PV) (z : ByteArray) (P B V Qr : List PV) (M : Hp) (CS GS : List PV) (chs bufs grs : List Int) (nc ng : Int),r = .ptr 16 (.lit 0) ∧ h = [hpA 1 2 6 7 3 W 0 0 0,hpB 2 3 5 3 W,hpC 3 4 233 2 N,hpP 4 L,hpP 5 D,hpF 6 z false,hpP 7 Q,hpR 8 9 14 3 W 15 0 0 0,hpB 9 10 13 3 W,hpD 10 11 3 1 N 12 231 8 N,hpP 11 P,hpP 12 B,hpP 13 V,hpP 14 Qr,(15,.mix [.p (.vsl (.sym 0) true []),.p (.bool false)]),(0,.fix 0 o),(16,.mix [.ptr 1 (.lit 0),.ptr 8 (.lit 0),.sl 17 3 1 (.lit 0) (.sym nc),.sl 18 3 1 (.lit 0) (.sym ng)]),hpP 17 CS,hpP 18 GS] ∧ n' = 19 ∧ Bst R ws vs C N W 0 L D Q z P B V Qr [] 0 M ∧ Bn caps M chs bufs grs ∧ Sys M (fun _ _ => []) ∧ CS = ipv chs ∧ GS = ipv grs ∧ nc = (chs.length : Int) ∧ ng = (grs.length : Int) ∧ (nc = mc ∨ nc = 4) ∧ nc ≤ mc ∧ nc ≤ 4 ∧ ng = ngor n ∧ (objCount R : Int) ≤ 2 * nc + ng ∧ R.length = 60 ∧ W = 1920) := by
 refine callF_of_bodyB tok Tryz.func50 (by kernel_rfl) rfl rfl rfl [6] ?_; conv => cbv
 obtain ⟨N,hN⟩ : ∃ N : Int,N = 60 := ⟨_,rfl⟩
 obtain ⟨W,hW⟩ : ∃ W,W = 32 * N := ⟨_,rfl⟩
 obtain ⟨Rz,hRz⟩ : ∃ Rz,Rz = List.replicate N.toNat ((0,[]) : Rw) := ⟨_,rfl⟩
 obtain ⟨wz,hwz⟩ : ∃ wz,wz = List.replicate W.toNat (0 : Int) := ⟨_,rfl⟩
 obtain ⟨L0,hL0⟩ : ∃ L0,L0 = rpv Rz := ⟨_,rfl⟩
 obtain ⟨D0,hD0⟩ : ∃ D0,D0 = ipv wz := ⟨_,rfl⟩
 obtain ⟨z0,hz0⟩ : ∃ z0 : ByteArray,z0 = ⟨(enc []).toArray⟩ := ⟨_,rfl⟩
 have h0 : HM Rz wz wz [] N W L0 D0 D0 z0 := by rw [hRz,hwz] at *; exact HM.new (by omega) (by omega) hW hL0 hD0 hD0 hz0
 refine CallF.le (args0 := [i6 N]) (callF_frame (newH_lx N W (by omega) (by omega) hW L0 D0 D0 z0 (by rw [hL0,hRz]) (by rw [hD0,hwz]) (by rw [hD0,hwz]) hz0) [] rfl trivial rfl rfl (fun r h' n' ⟨e1,e2,e3⟩ => ?_)) (by simp [ales,ale,pvle,I.val,hN])
 subst e1 e2 e3
 conv => cbv
 refine CallF.le (args0 := [i6 N]) (callF_frame (rnewH_lx N W (by omega) (by omega) hW) [] rfl trivial rfl rfl (fun r h' n' hrr => ?_)) (by simp [ales,ale,pvle,I.val,hN])
 obtain ⟨P0,B0,V0,Qr0,e1,e2,e3,g0⟩ := hrr
 subst e1 e2 e3
 rw [← hRz,← hwz] at g0
 have hC0 : Cont Rz wz (fun _ => Option.none) := by rw [hRz,hwz]; exact Cont.new _ _
 have hlz : Rz.length = 60 := by rw [hRz,List.length_replicate]; omega
 have hcz : objCount Rz = 0 := by rw [hRz]; exact new_count _
 have hwz' : wz = List.replicate W.toNat 0 := hwz
 conv => cbv
 refine cfr (arena_lx Rz wz wz [] N W 0 0 0 L0 D0 D0 z0 false) [(0,1),(1,2),(2,3),(3,4),(4,5),(5,6),(6,7)] (fun r h' n' ⟨e1,e2,e3⟩ => ?_)
 subst e1 e2 e3
 conv => cbv
 refine JoinF.mk (fun s => ∃ (i : Int) (R : List Rw) (ws vs : List Int) (L D P B V : List PV) (M : Hp) (CS : List PV) (chs bufs : List Int),s = ⟨.p (.vsl (.sym mc) true CL) :: .p (.int .i64 (.sym n)) :: (undefs 3 ++ .ptr 1 (.lit 0) :: .undef :: .ptr 8 (.lit 0) :: .undef :: .ptr 16 (.lit 0) :: .undef :: undefs 108),[hpA 1 2 6 7 3 W 0 0 0,hpB 2 3 5 3 W,hpC 3 4 233 2 N,hpP 4 L,hpP 5 D,hpF 6 z0 false,hpP 7 D0,hpR 8 9 14 3 W 15 0 0 0,hpB 9 10 13 3 W,hpD 10 11 3 1 N 12 231 8 N,hpP 11 P,hpP 12 B,hpP 13 V,hpP 14 Qr0,(15,.mix [.p (.vsl (.sym 0) true []),.p (.bool false)]),(0,.fix 0 o),(16,.mix [.ptr 1 (.lit 0),.ptr 8 (.lit 0),.sl 17 3 1 (.lit 0) (.sym i),.sl 18 3 1 (.lit 0) (.sym 0)]),hpP 17 CS,(18,.pure true [])],19⟩ ∧ 0 ≤ i ∧ (i = mc ∨ i = 4) ∧ i ≤ mc ∧ i ≤ 4 ∧ Bst R ws vs wz N W 0 L D D0 z0 P B V Qr0 [] 0 M ∧ Bn caps M chs bufs [] ∧ Sys M (fun _ _ => []) ∧ CS = ipv chs ∧ i = chs.length ∧ objCount R ≤ 2 * i ∧ R.length = 60) ?_ ?_
 ·refine LoopF.mk (fun kk s => ∃ (i : Int) (R : List Rw) (ws vs : List Int) (L D P B V : List PV) (M : Hp) (CS : List PV) (chs bufs : List Int),s = ⟨.p (.vsl (.sym mc) true CL) :: .p (.int .i64 (.sym n)) :: (undefs 3 ++ .ptr 1 (.lit 0) :: .undef :: .ptr 8 (.lit 0) :: .undef :: .ptr 16 (.lit 0) :: .p (.int .i64 (.sym i)) :: undefs 108),[hpA 1 2 6 7 3 W 0 0 0,hpB 2 3 5 3 W,hpC 3 4 233 2 N,hpP 4 L,hpP 5 D,hpF 6 z0 false,hpP 7 D0,hpR 8 9 14 3 W 15 0 0 0,hpB 9 10 13 3 W,hpD 10 11 3 1 N 12 231 8 N,hpP 11 P,hpP 12 B,hpP 13 V,hpP 14 Qr0,(15,.mix [.p (.vsl (.sym 0) true []),.p (.bool false)]),(0,.fix 0 o),(16,.mix [.ptr 1 (.lit 0),.ptr 8 (.lit 0),.sl 17 3 1 (.lit 0) (.sym i),.sl 18 3 1 (.lit 0) (.sym 0)]),hpP 17 CS,(18,.pure true [])],19⟩ ∧ 0 ≤ i ∧ i ≤ mc ∧ i ≤ 4 ∧ kk = (4 - i).toNat ∧ Bst R ws vs wz N W 0 L D D0 z0 P B V Qr0 [] 0 M ∧ Bn caps M chs bufs [] ∧ Sys M (fun _ _ => []) ∧ CS = ipv chs ∧ i = chs.length ∧ objCount R ≤ 2 * i ∧ R.length = 60) 4 _
   (Re.at [(0,0),(1,1),(2,2),(3,3),(4,4),(5,5),(6,6),(7,7),(8,8),(9,9),(10,10),(11,11),(12,12),(13,13),(14,14),(15,15),(16,16)] [17,18]) ⟨0,Rz,wz,wz,L0,D0,P0,B0,V0,(fun _ => Option.none),[],[],[],rfl,by omega,by omega,by omega,by omega,⟨h0,g0,hC0,hC0,rfl,hwz'⟩,Bn.new _ _,Sys.new (fun a F e => by cases e) (fun a F e => by cases e),rfl,rfl,by omega,hlz⟩ ?_
  rintro kk s ⟨i,R,ws,vs,L,D,P,B,V,M,CS,chs,bufs,rfl,hi0,hi1,hi2,hkk,S,hB,hY,hcs,hil,hcnt,hR⟩
  have hil : i = (chs.length : Int) := hil
  have hcnt : (objCount R : Int) ≤ 2 * i := hcnt
  conv => cbv
  refine Br.mk (fun gi => ?_) (fun gi => ?_)
  ·have gi : i < mc := gi
   conv => cbv
   refine Br.mk (fun g4 => ?_) (fun g4 => ?_)
   ·have g4 : i < 4 := g4
    obtain ⟨cx,hcx⟩ : ∃ a,caps[i.toNat]? = some a := ⟨_,List.getElem?_eq_getElem (by omega)⟩
    have hcell : CL[i.toNat]? = some (.int .i64 (.sym cx)) := by rw [hCL]; exact ipv_get hcx
    conv => cbv
    refine Need.mk (show 0 ≤ i ∧ i < mc from ⟨hi0,gi⟩) ?_
    conv => cbv
    refine Cell.at i _ hcell (by simp [I.val]) rfl ?_
    conv => cbv
    refine Fit.wrap fun xn hxn => ?_
    have hxn : xn = IntKind.u64.wrap cx := hxn
    have hyn : 0 ≤ xn := by rw [hxn]; simp [IntKind.wrap,IntKind.bits,IntKind.signed]; omega
    conv => cbv
    refine Sum.mk fun tn htn => ?_
    have htn : tn = xn % 4 := (show tn = xn.tmod 4 from htn).trans (Int.tmod_eq_emod_of_nonneg hyn)
    conv => cbv
    refine Fit.mk (by show (-9223372036854775808 : Int) ≤ tn; omega) (by show tn ≤ 9223372036854775807; omega) fun cp hcp => ?_
    have hcp : cp = capW cx := by unfold capW; rw [← hxn,← htn]; exact hcp
    have hcb := capW_bd cx
    clear htn hyn
    conv => cbv
    refine CallF.le (args0 := [.ptr 16 (.lit 0),i6 1,i6 9]) (cfr (alloc12_lx R ws vs wz N W 0 0 0 L D D0 z0 false P B V Qr0 [] 0 M i 0 CS [] o S 1 9 (by decide) ⟨fun _ => rfl,fun q => absurd q (by decide),fun q => absurd q (by decide)⟩ (by rw [hR]; omega)) [(0,1),(1,2),(2,3),(3,4),(4,5),(5,6),(6,7),(7,8),(8,9),(9,10),(10,11),(11,12),(12,13),(13,14),(14,15),(15,0),(16,16),(17,17),(18,18)] (fun r h' n' hrr => ?_)) (by simp [ales,ale,pvle,I.val])
    obtain ⟨at_,R1,ws1,vs1,L1,D1,P1,B1,V1,e1,e2,e3,S1,hk1,hx1,hp1,hq1,hl1⟩ := hrr
    subst e1 e2 e3
    have hR1 : R1.length = 60 := hl1.trans hR
    conv => cbv
    refine Br.mk (fun g0 => ?_) (fun g0 => ?_)
    ·have g0 : 0 < cp := g0
     conv => cbv
     refine CallF.le (args0 := [.ptr 16 (.lit 0),i6 2,i6 cp]) (cfr (alloc12_lx R1 ws1 vs1 wz N W 0 0 0 L1 D1 D0 z0 false P1 B1 V1 Qr0 [] 0 _ i 0 CS [] o S1 2 cp (by omega) ⟨fun q => absurd q (by decide),fun q => absurd q (by decide),fun q => absurd q (by decide)⟩ (by rw [hR1]; omega)) [(0,1),(1,2),(2,3),(3,4),(4,5),(5,6),(6,7),(7,8),(8,9),(9,10),(10,11),(11,12),(12,13),(13,14),(14,15),(15,0),(16,16),(17,17),(18,18)] (fun r h' n' hrr => ?_)) (by simp [ales,ale,pvle,I.val])
     obtain ⟨bf,R2,ws2,vs2,L2,D2,P2,B2,V2,e1,e2,e3,S2,hk2,hx2,hp2,hq2,hl2⟩ := hrr
     subst e1 e2 e3
     have hR2 : R2.length = 60 := hl2.trans hR1
     conv => cbv
     have hab : at_ ≠ bf := fun q => by
      rw [← q,upd_same] at hx2
      cases hx2
     have hbfW : bf ≤ 5000 := by omega
     have hbb : ∀ x ∈ [cp,0,0,0,bf,-1,-1,-1,-1],b62 x := by
      simp only [List.forall_mem_cons]
      unfold b62
      exact ⟨by omega,by omega,by omega,by omega,by omega,by omega,by omega,by omega,by omega,fun x hx => by cases hx⟩
     have hpp : ∀ x ∈ [bf,-1,-1,-1,-1],-1 ≤ x := by
      simp only [List.forall_mem_cons]
      exact ⟨by omega,by omega,by omega,by omega,by omega,fun x hx => by cases hx⟩
     refine drawn_sound tok (by kernel_rfl) [(3,[6,5,4]),(7,[])] [0,1,2,4,5,6,3,7,8] (by kernel_rfl) ?_; conv => cbv
     refine CallF.le (args0 := [.ptr 1 (.lit 0),i6 at_,.agg [i6 cp,i6 0,i6 0,i6 0,i6 bf,i6 (-1),i6 (-1),i6 (-1),i6 (-1)]]) (cfr (putChanM_lx R2 ws2 wz [] N W 0 0 0 L2 D2 D0 z0 false S2.h _ S2.c o ho rfl at_ cp 0 0 0 bf (-1) (-1) (-1) (-1) (zerK 1 9) ((upd_ne hab).trans (upd_same _ _ _)) rfl hbb hpp) [(0,1),(1,2),(2,3),(3,4),(4,5),(5,6),(6,7),(7,0)] (fun r h' n' hrr => ?_)) (by simp [ales,ale,pvle,I.val])
     obtain ⟨e8,ws8,D8,e1,he8,e2,e3,h8,c8⟩ := hrr
     subst e1 e2 e3
     conv => cbv
     refine CallF.le (args0 := [.ptr 8 (.lit 0),i6 at_,.agg [i6 cp,i6 0,i6 0,i6 0,i6 bf,i6 (-1),i6 (-1),i6 (-1),i6 (-1)]]) (cfr (rPutChanM_lx R2 vs2 wz [] N W 0 0 0 P2 B2 V2 Qr0 [] 0 false S2.r _ S2.d rfl at_ cp 0 0 0 bf (-1) (-1) (-1) (-1) (zerK 1 9) ((upd_ne hab).trans (upd_same _ _ _)) rfl hbb hpp) [(0,8),(1,9),(2,10),(3,11),(4,12),(5,13),(6,14),(7,15)] (fun r h' n' hrr => ?_)) (by simp [ales,ale,pvle,I.val])
     obtain ⟨e9,vs9,V9,e1,he9,e2,e3,h9,c9⟩ := hrr
     subst e1 e2 e3
     conv => cbv
     refine Br.no (show ¬ ¬ (e8 = e9) from fun q => q (he8.trans he9.symm)) ?_
     conv => cbv
     have hcl : CS.length = chs.length := by rw [hcs,ipv_length]
     refine Room.new rfl ?_
     conv => cbv
     refine Room.new ⟨?_,?_,?_⟩ ?_
     ·show (CS.length : Int) = i * 1; omega
     ·show (i + 1) * 8 ≤ 140737488355328; omega
     ·show i + 1 ≤ 9223372036854775807; omega
     conv => cbv
     refine Upd.mk fun cells2 hcs2 => ?_
     have hcs2 : cells2 = CS ++ [.int .i64 (.sym at_)] := hcs2
     have hcs3 : cells2 = ipv (chs ++ [at_]) := by rw [hcs2,hcs,← ipv_app]; rfl
     conv => cbv
     refine Sum.mk fun j2 hj2 => ?_
     have hj2 : j2 = i + 1 := hj2
     conv => cbv
     refine Fit.mk (by show (-9223372036854775808 : Int) ≤ i + 1; omega) (by show i + 1 ≤ 9223372036854775807; omega) fun i2 hiq => ?_
     have hiq : i2 = i + 1 := hiq
     obtain rfl : j2 = i2 := hj2.trans hiq.symm
     conv => cbv
     refine Again.mk (4 - j2).toNat _ (by omega) (Re.at [(0,0),(1,1),(2,2),(3,3),(4,4),(5,5),(6,6),(7,7),(8,8),(9,9),(10,10),(11,11),(12,12),(13,13),(14,14),(15,15),(16,16),(18,18),(21,17)] []) ⟨j2,R2,ws8,vs9,L2,D8,P2,B2,V9,_,cells2,chs ++ [at_],bufs ++ [_],rfl,by omega,by omega,by omega,rfl,⟨h8,h9,c8,c9,rfl,hwz'⟩,by have := hB.chan1 (x := cx) (c := at_) (b := bf) (by rw [show chs.length = i.toNat by omega]; exact hcx) (by rw [← hcp]; exact g0) hx1 _ hx2; rw [← hcp] at this; exact this,((hY.fresh hx1).fresh hx2).updv rfl (fun F _ => rfl) (fun c d h => (by cases h)) ⟨fun _ => rfl,fun q => absurd (show (1 : Int) = 3 from q) (by decide)⟩,hcs3,by rw [List.length_append]; show j2 = ((chs.length + 1 : Nat) : Int); omega,(show (objCount R2 : Int) ≤ 2 * j2 by omega),hR2⟩
    ·have g0 : ¬ 0 < cp := g0
     conv => cbv
     have hbb : ∀ x ∈ [cp,0,0,0,(-1),-1,-1,-1,-1],b62 x := by
      simp only [List.forall_mem_cons]
      unfold b62
      exact ⟨by omega,by omega,by omega,by omega,by omega,by omega,by omega,by omega,by omega,fun x hx => by cases hx⟩
     have hpp : ∀ x ∈ [(-1),-1,-1,-1,-1],-1 ≤ x := by
      simp only [List.forall_mem_cons]
      exact ⟨by omega,by omega,by omega,by omega,by omega,fun x hx => by cases hx⟩
     refine drawn_sound tok (by kernel_rfl) [(3,[6,5,4]),(7,[])] [0,1,2,4,5,6,3,7,8] (by kernel_rfl) ?_; conv => cbv
     refine CallF.le (args0 := [.ptr 1 (.lit 0),i6 at_,.agg [i6 cp,i6 0,i6 0,i6 0,i6 (-1),i6 (-1),i6 (-1),i6 (-1),i6 (-1)]]) (cfr (putChanM_lx R1 ws1 wz [] N W 0 0 0 L1 D1 D0 z0 false S1.h _ S1.c o ho rfl at_ cp 0 0 0 (-1) (-1) (-1) (-1) (-1) (zerK 1 9) (upd_same _ _ _) rfl hbb hpp) [(0,1),(1,2),(2,3),(3,4),(4,5),(5,6),(6,7),(7,0)] (fun r h' n' hrr => ?_)) (by simp [ales,ale,pvle,I.val])
     obtain ⟨e8,ws8,D8,e1,he8,e2,e3,h8,c8⟩ := hrr
     subst e1 e2 e3
     conv => cbv
     refine CallF.le (args0 := [.ptr 8 (.lit 0),i6 at_,.agg [i6 cp,i6 0,i6 0,i6 0,i6 (-1),i6 (-1),i6 (-1),i6 (-1),i6 (-1)]]) (cfr (rPutChanM_lx R1 vs1 wz [] N W 0 0 0 P1 B1 V1 Qr0 [] 0 false S1.r _ S1.d rfl at_ cp 0 0 0 (-1) (-1) (-1) (-1) (-1) (zerK 1 9) (upd_same _ _ _) rfl hbb hpp) [(0,8),(1,9),(2,10),(3,11),(4,12),(5,13),(6,14),(7,15)] (fun r h' n' hrr => ?_)) (by simp [ales,ale,pvle,I.val])
     obtain ⟨e9,vs9,V9,e1,he9,e2,e3,h9,c9⟩ := hrr
     subst e1 e2 e3
     conv => cbv
     refine Br.no (show ¬ ¬ (e8 = e9) from fun q => q (he8.trans he9.symm)) ?_
     conv => cbv
     have hcl : CS.length = chs.length := by rw [hcs,ipv_length]
     refine Room.new rfl ?_
     conv => cbv
     refine Room.new ⟨?_,?_,?_⟩ ?_
     ·show (CS.length : Int) = i * 1; omega
     ·show (i + 1) * 8 ≤ 140737488355328; omega
     ·show i + 1 ≤ 9223372036854775807; omega
     conv => cbv
     refine Upd.mk fun cells2 hcs2 => ?_
     have hcs2 : cells2 = CS ++ [.int .i64 (.sym at_)] := hcs2
     have hcs3 : cells2 = ipv (chs ++ [at_]) := by rw [hcs2,hcs,← ipv_app]; rfl
     conv => cbv
     refine Sum.mk fun j2 hj2 => ?_
     have hj2 : j2 = i + 1 := hj2
     conv => cbv
     refine Fit.mk (by show (-9223372036854775808 : Int) ≤ i + 1; omega) (by show i + 1 ≤ 9223372036854775807; omega) fun i2 hiq => ?_
     have hiq : i2 = i + 1 := hiq
     obtain rfl : j2 = i2 := hj2.trans hiq.symm
     conv => cbv
     refine Again.mk (4 - j2).toNat _ (by omega) (Re.at [(0,0),(1,1),(2,2),(3,3),(4,4),(5,5),(6,6),(7,7),(8,8),(9,9),(10,10),(11,11),(12,12),(13,13),(14,14),(15,15),(16,16),(18,18),(21,17)] []) ⟨j2,R1,ws8,vs9,L1,D8,P1,B1,V9,_,cells2,chs ++ [at_],bufs ++ [_],rfl,by omega,by omega,by omega,rfl,⟨h8,h9,c8,c9,rfl,hwz'⟩,by have := hB.chan0 (x := cx) (c := at_) (by rw [show chs.length = i.toNat by omega]; exact hcx) (by rw [← hcp]; omega) hx1 (1,zerK 1 (9 : Int).toNat); rw [← hcp] at this; exact this,(hY.fresh hx1).updv rfl (fun F _ => rfl) (fun c d h => (by cases h)) ⟨fun _ => rfl,fun q => absurd (show (1 : Int) = 3 from q) (by decide)⟩,hcs3,by rw [List.length_append]; show j2 = ((chs.length + 1 : Nat) : Int); omega,(show (objCount R1 : Int) ≤ 2 * j2 by omega),hR1⟩
   ·have g4 : ¬ i < 4 := g4
    conv => cbv
    refine Joined.mk _ (Re.at [(0,0),(1,1),(2,2),(3,3),(4,4),(5,5),(6,6),(7,7),(8,8),(9,9),(10,10),(11,11),(12,12),(13,13),(14,14),(15,15),(16,16),(17,17),(18,18)] []) ⟨i,R,ws,vs,L,D,P,B,V,M,CS,chs,bufs,rfl,hi0,by omega,hi1,hi2,S,hB,hY,hcs,hil,hcnt,hR⟩
  ·have gi : ¬ i < mc := gi
   conv => cbv
   refine Joined.mk _ (Re.at [(0,0),(1,1),(2,2),(3,3),(4,4),(5,5),(6,6),(7,7),(8,8),(9,9),(10,10),(11,11),(12,12),(13,13),(14,14),(15,15),(16,16),(17,17),(18,18)] []) ⟨i,R,ws,vs,L,D,P,B,V,M,CS,chs,bufs,rfl,hi0,by omega,hi1,hi2,S,hB,hY,hcs,hil,hcnt,hR⟩
 ·rintro s ⟨i,R,ws,vs,L,D,P,B,V,M,CS,chs,bufs,rfl,hi0,him,hi1,hi2,S,hB,hY,hcs,hil,hcnt,hR⟩
  have hil : i = (chs.length : Int) := hil
  have hcnt : (objCount R : Int) ≤ 2 * i := hcnt
  conv => cbv
  obtain ⟨ng,hng⟩ : ∃ ng,ng = ngor n := ⟨_,rfl⟩
  have hngb := ngor_bd n
  rw [← hng] at hngb
  refine LoopF.mk (fun kk s => ∃ (j : Int) (R : List Rw) (ws vs : List Int) (L D P B V : List PV) (M : Hp) (GS : List PV) (grs : List Int),s = ⟨.p (.vsl (.sym mc) true CL) :: .p (.int .i64 (.sym n)) :: (undefs 3 ++ .ptr 1 (.lit 0) :: .undef :: .ptr 8 (.lit 0) :: .undef :: .ptr 16 (.lit 0) :: (undefs 3 ++ .p (.int .i64 (.sym j)) :: undefs 105)),[hpA 1 2 6 7 3 W 0 0 0,hpB 2 3 5 3 W,hpC 3 4 233 2 N,hpP 4 L,hpP 5 D,hpF 6 z0 false,hpP 7 D0,hpR 8 9 14 3 W 15 0 0 0,hpB 9 10 13 3 W,hpD 10 11 3 1 N 12 231 8 N,hpP 11 P,hpP 12 B,hpP 13 V,hpP 14 Qr0,(15,.mix [.p (.vsl (.sym 0) true []),.p (.bool false)]),(0,.fix 0 o),(16,.mix [.ptr 1 (.lit 0),.ptr 8 (.lit 0),.sl 17 3 1 (.lit 0) (.sym i),.sl 18 3 1 (.lit 0) (.sym j)]),hpP 17 CS,hpP 18 GS],19⟩ ∧ 0 ≤ j ∧ j ≤ ng ∧ kk = (ng - j).toNat ∧ Bst R ws vs wz N W 0 L D D0 z0 P B V Qr0 [] 0 M ∧ Bn caps M chs bufs grs ∧ Sys M (fun _ _ => []) ∧ GS = ipv grs ∧ j = grs.length ∧ objCount R ≤ 2 * i + j ∧ R.length = 60) ng.toNat _
   (Re.at [(0,0),(1,1),(2,2),(3,3),(4,4),(5,5),(6,6),(7,7),(8,8),(9,9),(10,10),(11,11),(12,12),(13,13),(14,14),(15,15),(16,16),(17,17),(18,18)] []) ⟨0,R,ws,vs,L,D,P,B,V,M,[],[],rfl,by omega,by omega,by omega,S,hB,hY,rfl,rfl,(show (objCount R : Int) ≤ 2 * i + 0 by omega),hR⟩ ?_
  clear S hB hY hcnt hR
  rintro kk s ⟨j,R,ws,vs,L,D,P,B,V,M,GS,grs,rfl,hj0,hj1,hkk,S,hB,hY,hgs,hjl,hcnt,hR⟩
  have hjl : j = (grs.length : Int) := hjl
  have hcnt : (objCount R : Int) ≤ 2 * i + j := hcnt
  conv => cbv
  refine Fit.wrap fun xn hxn => ?_
  have hxn : xn = IntKind.u64.wrap n := hxn
  have hyn : 0 ≤ xn := by rw [hxn]; simp [IntKind.wrap,IntKind.bits,IntKind.signed]; omega
  conv => cbv
  refine Sum.mk fun tn htn => ?_
  have htn : tn = xn % 6 := (show tn = xn.tmod 6 from htn).trans (Int.tmod_eq_emod_of_nonneg hyn)
  conv => cbv
  refine Fit.mk (by show (-9223372036854775808 : Int) ≤ tn; omega) (by show tn ≤ 9223372036854775807; omega) fun un hun => ?_
  have hun : un = tn := hun
  conv => cbv
  refine Fit.mk (by show (-9223372036854775808 : Int) ≤ 1 + un; omega) (by show 1 + un ≤ 9223372036854775807; omega) fun ng2 hng2 => ?_
  have hng2 : ng2 = 1 + un := hng2
  obtain rfl : ng = ng2 := by rw [hng,hng2,hun,htn,hxn]; rfl
  clear hng2 hun htn hyn hxn
  conv => cbv
  refine Br.mk (fun gj => ?_) (fun gj => ?_)
  ·have gj : j < ng := gj
   conv => cbv
   refine CallF.le (args0 := [.ptr 16 (.lit 0),i6 4,i6 10]) (cfr (alloc12_lx R ws vs wz N W 0 0 0 L D D0 z0 false P B V Qr0 [] 0 M i j CS GS o S 4 10 (by decide) ⟨fun q => absurd q (by decide),fun q => absurd q (by decide),fun _ => rfl⟩ (by rw [hR]; omega)) [(0,1),(1,2),(2,3),(3,4),(4,5),(5,6),(6,7),(7,8),(8,9),(9,10),(10,11),(11,12),(12,13),(13,14),(14,15),(15,0),(16,16),(17,17),(18,18)] (fun r h' n' hrr => ?_)) (by simp [ales,ale,pvle,I.val])
   obtain ⟨at_,R1,ws1,vs1,L1,D1,P1,B1,V1,e1,e2,e3,S1,hk1,hx1,hp1,hq1,hl1⟩ := hrr
   subst e1 e2 e3
   have hR1 : R1.length = 60 := hl1.trans hR
   conv => cbv
   have hbb : ∀ x ∈ [j,0,0,-1],b62 x := by
    simp only [List.forall_mem_cons]
    unfold b62
    exact ⟨by omega,by omega,by omega,by omega,fun x hx => by cases hx⟩
   have hw0 : ∀ x ∈ [0,0,0,0,0,(0 : Int)],-9223372036854775808 ≤ x ∧ x ≤ 9223372036854775807 := by decide
   have hpp : ∀ x ∈ [(-1 : Int)],-1 ≤ x := by decide
   refine drawn_sound tok (by kernel_rfl) [(3,[6,5,4]),(7,[])] [0,1,2,4,5,6,3,7,8] (by kernel_rfl) ?_; conv => cbv
   refine CallF.le (args0 := [.ptr 1 (.lit 0),i6 at_,.agg [i6 j,i6 0,i6 0,i6 0,i6 0,i6 0,i6 0,i6 0,i6 0,i6 (-1)]]) (cfr (putGorM_lx R1 ws1 wz [] N W 0 0 0 L1 D1 D0 z0 false S1.h _ S1.c o ho rfl at_ j 0 0 0 0 0 0 0 0 (-1) (zerK 4 10) (upd_same _ _ _) rfl hbb hw0 hpp) [(0,1),(1,2),(2,3),(3,4),(4,5),(5,6),(6,7),(7,0)] (fun r h' n' hrr => ?_)) (by simp [ales,ale,pvle,I.val])
   obtain ⟨e8,ws8,D8,e1,he8,e2,e3,h8,c8⟩ := hrr
   subst e1 e2 e3
   conv => cbv
   refine CallF.le (args0 := [.ptr 8 (.lit 0),i6 at_,.agg [i6 j,i6 0,i6 0,i6 0,i6 0,i6 0,i6 0,i6 0,i6 0,i6 (-1)]]) (cfr (rPutGorM_lx R1 vs1 wz [] N W 0 0 0 P1 B1 V1 Qr0 [] 0 false S1.r _ S1.d rfl at_ j 0 0 0 0 0 0 0 0 (-1) (zerK 4 10) (upd_same _ _ _) rfl hbb hw0 hpp) [(0,8),(1,9),(2,10),(3,11),(4,12),(5,13),(6,14),(7,15)] (fun r h' n' hrr => ?_)) (by simp [ales,ale,pvle,I.val])
   obtain ⟨e9,vs9,V9,e1,he9,e2,e3,h9,c9⟩ := hrr
   subst e1 e2 e3
   conv => cbv
   refine Br.no (show ¬ ¬ (e8 = e9) from fun q => q (he8.trans he9.symm)) ?_
   conv => cbv
   have hcl : GS.length = grs.length := by rw [hgs,ipv_length]
   refine Room.new rfl ?_
   conv => cbv
   refine Room.new ⟨?_,?_,?_⟩ ?_
   ·show (GS.length : Int) = j * 1; omega
   ·show (j + 1) * 8 ≤ 140737488355328; omega
   ·show j + 1 ≤ 9223372036854775807; omega
   conv => cbv
   refine Upd.mk fun cells2 hcs2 => ?_
   have hcs2 : cells2 = GS ++ [.int .i64 (.sym at_)] := hcs2
   have hcs3 : cells2 = ipv (grs ++ [at_]) := by rw [hcs2,hgs,← ipv_app]; rfl
   conv => cbv
   refine Sum.mk fun j2 hj2 => ?_
   have hj2 : j2 = j + 1 := hj2
   conv => cbv
   refine Fit.mk (by show (-9223372036854775808 : Int) ≤ j + 1; omega) (by show j + 1 ≤ 9223372036854775807; omega) fun i2 hiq => ?_
   have hiq : i2 = j + 1 := hiq
   obtain rfl : j2 = i2 := hj2.trans hiq.symm
   conv => cbv
   refine Again.mk (ng - j2).toNat _ (by omega) (Re.at [(0,0),(1,1),(2,2),(3,3),(4,4),(5,5),(6,6),(7,7),(8,8),(9,9),(10,10),(11,11),(12,12),(13,13),(14,14),(15,15),(16,16),(17,17),(21,18)] []) ⟨j2,R1,ws8,vs9,L1,D8,P1,B1,V9,_,cells2,grs ++ [at_],rfl,by omega,by omega,rfl,⟨h8,h9,c8,c9,rfl,hwz'⟩,hB.gor hjl hx1 _,(hY.fresh hx1).updv rfl (fun F e => absurd (Option.some.inj ((upd_same _ _ _).symm.trans e)) (fun q => by cases q)) (fun c d h => (by cases h)) ⟨fun q => absurd (show (4 : Int) = 1 from q) (by decide),fun q => absurd (show (4 : Int) = 3 from q) (by decide)⟩,hcs3,by rw [List.length_append]; show j2 = ((grs.length + 1 : Nat) : Int); omega,(show (objCount R1 : Int) ≤ 2 * i + j2 by omega),hR1⟩
  ·have gj : ¬ j < ng := gj
   conv => cbv
   refine RetF.mk [.ptr 16 (.lit 0)] [hpA 1 2 6 7 3 W 0 0 0,hpB 2 3 5 3 W,hpC 3 4 233 2 N,hpP 4 L,hpP 5 D,hpF 6 z0 false,hpP 7 D0,hpR 8 9 14 3 W 15 0 0 0,hpB 9 10 13 3 W,hpD 10 11 3 1 N 12 231 8 N,hpP 11 P,hpP 12 B,hpP 13 V,hpP 14 Qr0,(15,.mix [.p (.vsl (.sym 0) true []),.p (.bool false)]),(0,.fix 0 o),(16,.mix [.ptr 1 (.lit 0),.ptr 8 (.lit 0),.sl 17 3 1 (.lit 0) (.sym i),.sl 18 3 1 (.lit 0) (.sym j)]),hpP 17 CS,hpP 18 GS] 19 (Re.at [(0,0),(1,1),(2,2),(3,3),(4,4),(5,5),(6,6),(7,7),(8,8),(9,9),(10,10),(11,11),(12,12),(13,13),(14,14),(15,15),(16,16),(17,17),(18,18)] []) rfl ⟨N,W,wz,R,ws,vs,L,D,D0,z0,P,B,V,Qr0,M,CS,GS,chs,bufs,grs,i,j,rfl,rfl,rfl,S,hB,hY,hcs,hgs,hil,hjl,him,hi1,hi2,by omega,by omega,hR,by omega⟩
theorem ch12_lx (R : List Rw) (ws vs C : List Int) (N W ph sp cy : Int) (L D Q : List PV) (z : ByteArray) (ov : Bool) (P B V Qr la : List PV) (m : Int) (M : Hp) (nc ng : Int) (cs gs : List PV) (o : Unit → Obj) (n : Int) (l : List Int) (hl : cs = ipv l) (hn : nc = l.length) (h0 : 0 < nc) (hb : nc ≤ 100) : CallF (fun _ => Tryz.prog) 53 [.ptr 16 (.lit 0),i6 n] [hpA 0 1 5 6 3 W ph sp cy,hpB 1 2 4 3 W,hpC 2 3 233 2 N,hpP 3 L,hpP 4 D,hpF 5 z ov,hpP 6 Q,hpR 7 8 13 3 W 14 ph sp cy,hpB 8 9 12 3 W,hpD 9 10 3 1 N 11 231 8 N,hpP 10 P,hpP 11 B,hpP 12 V,hpP 13 Qr,(14,.mix [.p (.vsl (.sym m) true la),.p (.bool ov)]),(15,.fix 0 o),(16,.mix [.ptr 0 (.lit 0),.ptr 7 (.lit 0),.sl 17 3 1 (.lit 0) (.sym nc),.sl 18 3 1 (.lit 0) (.sym ng)]),hpP 17 cs,hpP 18 gs] 19 (fun r h n' => (∃ x : Int,r = .p (.int .i64 (.sym x)) ∧ l[(IntKind.u64.wrap n % nc).toNat]? = some x) ∧ h = [hpA 0 1 5 6 3 W ph sp cy,hpB 1 2 4 3 W,hpC 2 3 233 2 N,hpP 3 L,hpP 4 D,hpF 5 z ov,hpP 6 Q,hpR 7 8 13 3 W 14 ph sp cy,hpB 8 9 12 3 W,hpD 9 10 3 1 N 11 231 8 N,hpP 10 P,hpP 11 B,hpP 12 V,hpP 13 Qr,(14,.mix [.p (.vsl (.sym m) true la),.p (.bool ov)]),(15,.fix 0 o),(16,.mix [.ptr 0 (.lit 0),.ptr 7 (.lit 0),.sl 17 3 1 (.lit 0) (.sym nc),.sl 18 3 1 (.lit 0) (.sym ng)]),hpP 17 cs,hpP 18 gs] ∧ n' = 19) := by
 refine callF_of_body tok Tryz.func53 (by kernel_rfl) rfl rfl rfl ?_; conv => cbv
 refine Br.no (show ¬ nc = 0 by omega) ?_
 conv => cbv
 refine drawn_sound tok (by kernel_rfl) [] [0,1,2,3,4,5,6,7,8,9,10,11,12,13,14,15,16] (by kernel_rfl) ?_; conv => cbv
 refine Fit.wrap fun xn hxn => ?_
 have hxn : xn = IntKind.u64.wrap n := hxn
 have hyn : 0 ≤ xn := by rw [hxn]; simp [IntKind.wrap,IntKind.bits,IntKind.signed]; omega
 conv => cbv
 refine Fit.mk (by show (0 : Int) ≤ nc; omega) (by show nc ≤ 18446744073709551615; omega) fun c2 hc2 => ?_
 have hc2 : c2 = nc := hc2
 conv => cbv
 refine Need.mk (show ¬ c2 = 0 by omega) ?_
 conv => cbv
 refine Sum.mk fun tn htn => ?_
 have htn : tn = xn % nc := (show tn = xn.tmod c2 from htn).trans (by rw [hc2]; exact Int.tmod_eq_emod_of_nonneg hyn)
 have ht0 := Int.emod_nonneg xn (show nc ≠ 0 by omega)
 have ht1 := Int.emod_lt_of_pos xn h0
 conv => cbv
 refine Fit.mk (by show (-9223372036854775808 : Int) ≤ tn; omega) (by show tn ≤ 9223372036854775807; omega) fun i hi => ?_
 have hi : i = tn := hi
 obtain ⟨x,hx⟩ : ∃ x,l[i.toNat]? = some x := ⟨_,List.getElem?_eq_getElem (by omega)⟩
 have hcell : cs[i.toNat]? = some (.int .i64 (.sym x)) := by rw [hl]; exact ipv_get hx
 conv => cbv
 refine Need.mk (show 0 ≤ i ∧ i < nc by omega) ?_
 conv => cbv
 refine Cell.at i _ hcell (by simp [I.val]) rfl ?_
 conv => cbv
 refine RetF.mk [i6 x] [hpA 0 1 5 6 3 W ph sp cy,hpB 1 2 4 3 W,hpC 2 3 233 2 N,hpP 3 L,hpP 4 D,hpF 5 z ov,hpP 6 Q,hpR 7 8 13 3 W 14 ph sp cy,hpB 8 9 12 3 W,hpD 9 10 3 1 N 11 231 8 N,hpP 10 P,hpP 11 B,hpP 12 V,hpP 13 Qr,(14,.mix [.p (.vsl (.sym m) true la),.p (.bool ov)]),(15,.fix 0 o),(16,.mix [.ptr 0 (.lit 0),.ptr 7 (.lit 0),.sl 17 3 1 (.lit 0) (.sym nc),.sl 18 3 1 (.lit 0) (.sym ng)]),hpP 17 cs,hpP 18 gs] 19 (Re.at [(0,0),(1,1),(2,2),(3,3),(4,4),(5,5),(6,6),(7,7),(8,8),(9,9),(10,10),(11,11),(12,12),(13,13),(14,14),(15,15),(16,16),(17,17),(18,18)] []) rfl ⟨⟨x,rfl,by rw [← hxn,← htn,← hi]; exact hx⟩,rfl,rfl⟩
theorem ringPutM {R : List Rw} {ws : List Int} {M : Hp} (hA : AOk R ws) (hM : Cont R ws M) {ph c w e cp cl k s b th tt sh st : Int} {c0 : List Int × List Int × Bool} {s' : St4} (hph : ph = 0) (hMc : M c = some (1,[cp,cl,k,s,b,th,tt,sh,st])) (hw : -9223372036854775808 ≤ w ∧ w ≤ 9223372036854775807) (hk : 0 ≤ k) (hs : 0 ≤ s) (h : RPut R ph c w (ws,c0) e s') : s'.2 = c0 ∧
  (cp ≤ 0 ∧ e = 9 ∧ s'.1 = ws ∨ ∀ X,M b = some (2,X) → (X.length : Int) = cp → (¬ k < cp ∧ e = 9 ∧ s'.1 = ws) ∨ (0 < cp ∧ k < cp ∧ e = 0 ∧ Cont R s'.1 (upd (upd M b (2,X.set ((s % cp + k) % cp).toNat w)) c (1,[cp,cl,k + 1,s,b,th,tt,sh,st])))) := by
 generalize hs0 : (ws,c0) = s0 at h
 have hKc := hM.kept hMc
 obtain ⟨hp,hb⟩ := hM.chan hA hMc
 cases h with
 | no hh => subst hs0; exact absurd hKc hh
 | full X0 y0 y1 y2 y3 y4 y5 y6 y7 y8 hh hX0 hy hf =>
  subst hs0
  refine ⟨rfl,?_⟩
  have hy2 : chanFs X0 = [cp,cl,k,s,b,th,tt,sh,st] := (hM.tr hMc rfl rfl (TR.ok X0 hh hX0)).2
  rw [hy2] at hy
  simp only [List.cons.injEq,and_true] at hy
  obtain ⟨rfl,rfl,rfl,rfl,rfl,rfl,rfl,rfl,rfl⟩ := hy
  by_cases q : y0 ≤ 0
  ·exact .inl ⟨q,rfl,rfl⟩
  ·refine .inr fun X hMb hX => .inl ⟨fun q2 => hf ⟨⟨by omega,?_⟩,by omega⟩,rfl,rfl⟩
   have := hM.kept hMb
   rw [hX] at this
   exact this
 | ok X0 y0 y1 y2 y3 y4 y5 y6 y7 y8 hh hX0 hy h0 hK hf f _ ws1 c1 _ hst hc hP =>
  subst hs0
  have hy2 : chanFs X0 = [cp,cl,k,s,b,th,tt,sh,st] := (hM.tr hMc rfl rfl (TR.ok X0 hh hX0)).2
  rw [hy2] at hy
  simp only [List.cons.injEq,and_true] at hy
  obtain ⟨rfl,rfl,rfl,rfl,rfl,rfl,rfl,rfl,rfl⟩ := hy
  have hc1 : c1 = c0 := hc.trans (storeS_idle hph _)
  have hP2 := hP.idle hph
  refine ⟨hP2.trans hc1,.inr fun X hMb hX => .inr ⟨h0,by omega,?_⟩⟩
  have e1 : max y3 0 = y3 := by omega
  have e2 : max y2 0 = y2 := by omega
  rw [e1,e2] at hst
  rw [e2] at hP
  have hA1 : AOk R ws1 := hA.stored hw hst
  have hi0 := Int.emod_nonneg (y3 % y0 + y2) (show y0 ≠ 0 by omega)
  have hi1 := Int.emod_lt_of_pos (y3 % y0 + y2) h0
  obtain ⟨_,hM1⟩ := hM.store hA hMb ⟨by decide,by decide,by decide⟩ ⟨hi0,by omega⟩ hw hst
  have hcb : c ≠ y4 := fun q => by rw [q,hMb] at hMc; cases hMc
  have hb' : ∀ x ∈ [y0,y1,y2 + 1,y3,y4,y5,y6,y7,y8],b62 x := by
   have hlen := hM.len hA hMb
   simp only [List.forall_mem_cons] at hb ⊢
   obtain ⟨q0,q1,q2,q3,q4,q5,q6,q7,q8,_⟩ := hb
   exact ⟨q0,q1,by unfold b62; omega,q3,q4,q5,q6,q7,q8,fun x hx => by cases hx⟩
  exact Cont.put (ph := ph) (F' := [y0,y1,y2 + 1,y3,y4,y5,y6,y7,y8]) hM1 hA1 ((upd_ne hcb).trans hMc) rfl rfl (FOk.chan hp) rfl (chanWs_bd _ _ _ _ _ _ _ _ _ hb') hP
theorem ringTakeM {R : List Rw} {ws : List Int} {M : Hp} (hA : AOk R ws) (hM : Cont R ws M) {ph c v e cp cl k s b th tt sh st : Int} {c0 : List Int × List Int × Bool} {s' : St4} (hph : ph = 0) (hMc : M c = some (1,[cp,cl,k,s,b,th,tt,sh,st])) (hs : 0 ≤ s) (h : RTake R ph c (ws,c0) v e s') : s'.2 = c0 ∧
  ((cp ≤ 0 ∨ k ≤ 0) ∧ e = 8 ∧ v = 0 ∧ s'.1 = ws ∨ ∀ X,M b = some (2,X) → (X.length : Int) = cp → k ≤ cp → (0 < cp ∧ 0 < k ∧ e = 0 ∧ X[(s % cp).toNat]? = some v ∧ Cont R s'.1 (upd (upd M b (2,X.set (s % cp).toNat 0)) c (1,[cp,cl,k - 1,(s % cp + 1) % cp,b,th,tt,sh,st])))) := by
 generalize hs0 : (ws,c0) = s0 at h
 have hKc := hM.kept hMc
 obtain ⟨hp,hb⟩ := hM.chan hA hMc
 cases h with
 | no hh => subst hs0; exact absurd hKc hh
 | none X0 y0 y1 y2 y3 y4 y5 y6 y7 y8 hh hX0 hy hf =>
  subst hs0
  refine ⟨rfl,?_⟩
  have hy2 : chanFs X0 = [cp,cl,k,s,b,th,tt,sh,st] := (hM.tr hMc rfl rfl (TR.ok X0 hh hX0)).2
  rw [hy2] at hy
  simp only [List.cons.injEq,and_true] at hy
  obtain ⟨rfl,rfl,rfl,rfl,rfl,rfl,rfl,rfl,rfl⟩ := hy
  by_cases q : y0 ≤ 0 ∨ y2 ≤ 0
  ·exact .inl ⟨q,rfl,rfl,rfl⟩
  ·refine .inr fun X hMb hX hkc => absurd ⟨⟨by omega,?_⟩,by omega⟩ hf
   have := hM.kept hMb
   rw [hX] at this
   exact this
 | ok X0 y0 y1 y2 y3 y4 y5 y6 y7 y8 hh hX0 hy h0 hK hf _ g f _ ws1 c1 _ hl hst hc hP =>
  subst hs0
  have hy2 : chanFs X0 = [cp,cl,k,s,b,th,tt,sh,st] := (hM.tr hMc rfl rfl (TR.ok X0 hh hX0)).2
  rw [hy2] at hy
  simp only [List.cons.injEq,and_true] at hy
  obtain ⟨rfl,rfl,rfl,rfl,rfl,rfl,rfl,rfl,rfl⟩ := hy
  have hc1 : c1 = c0 := hc.trans (storeS_idle hph _)
  have hP2 := hP.idle hph
  refine ⟨hP2.trans hc1,.inr fun X hMb hX hkc => ⟨h0,hf,?_⟩⟩
  have e1 : max y3 0 = y3 := by omega
  rw [e1] at hst hP hl
  have hw : -9223372036854775808 ≤ (0 : Int) ∧ (0 : Int) ≤ 9223372036854775807 := by decide
  have hA1 : AOk R ws1 := hA.stored hw hst
  have hi0 := Int.emod_nonneg y3 (show y0 ≠ 0 by omega)
  have hi1 := Int.emod_lt_of_pos y3 h0
  obtain ⟨yy,hyy⟩ : ∃ x,X[(y3 % y0).toNat]? = some x := ⟨_,List.getElem?_eq_getElem (by omega)⟩
  obtain ⟨hv,_⟩ := hM.load hMb ⟨by decide,by decide,by decide⟩ hi0 hyy hl
  obtain ⟨_,hM1⟩ := hM.store hA hMb ⟨by decide,by decide,by decide⟩ ⟨hi0,by omega⟩ hw hst
  have hcb : c ≠ y4 := fun q => by rw [q,hMb] at hMc; cases hMc
  have hlen := hM.len hA hMb
  have hn0 := Int.emod_nonneg (y3 % y0 + 1) (show y0 ≠ 0 by omega)
  have hn1 := Int.emod_lt_of_pos (y3 % y0 + 1) h0
  have hb' : ∀ x ∈ [y0,y1,y2 - 1,(y3 % y0 + 1) % y0,y4,y5,y6,y7,y8],b62 x := by
   simp only [List.forall_mem_cons] at hb ⊢
   obtain ⟨q0,q1,q2,q3,q4,q5,q6,q7,q8,_⟩ := hb
   exact ⟨q0,q1,by unfold b62; omega,by unfold b62; omega,q4,q5,q6,q7,q8,fun x hx => by cases hx⟩
  obtain ⟨g1,g2⟩ := Cont.put (ph := ph) (F' := [y0,y1,y2 - 1,(y3 % y0 + 1) % y0,y4,y5,y6,y7,y8]) hM1 hA1 ((upd_ne hcb).trans hMc) rfl rfl (FOk.chan hp) rfl (chanWs_bd _ _ _ _ _ _ _ _ _ hb') hP
  exact ⟨g1,by rw [hv]; exact hyy,g2⟩
theorem ringAllM {R : List Rw} {ws : List Int} {M : Hp} (hM : Cont R ws M) {c cp cl k s b th tt sh st : Int} {l : List Int} (hMc : M c = some (1,[cp,cl,k,s,b,th,tt,sh,st])) (hs : 0 ≤ s) (h : RAll R ws c l) : (cp ≤ 0 ∧ l = []) ∨ ∀ X,M b = some (2,X) → (X.length : Int) = cp → 0 < cp ∧ (l.length : Int) = min (max k 0) cp ∧ ∀ (i : Nat) (x : Int),l[i]? = some x → X[((s % cp + i) % cp).toNat]? = some x := by
 have hKc := hM.kept hMc
 cases h with
 | no hh => exact absurd hKc hh
 | none X0 y0 y1 y2 y3 y4 y5 y6 y7 y8 hh hX0 hy hf =>
  have hy2 : chanFs X0 = [cp,cl,k,s,b,th,tt,sh,st] := (hM.tr hMc rfl rfl (TR.ok X0 hh hX0)).2
  rw [hy2] at hy
  simp only [List.cons.injEq,and_true] at hy
  obtain ⟨rfl,rfl,rfl,rfl,rfl,rfl,rfl,rfl,rfl⟩ := hy
  by_cases q : y0 ≤ 0
  ·exact .inl ⟨q,rfl⟩
  ·refine .inr fun X hMb hX => absurd ⟨by omega,?_⟩ hf
   have := hM.kept hMb
   rw [hX] at this
   exact this
 | ok X0 y0 y1 y2 y3 y4 y5 y6 y7 y8 hh hX0 hy h0 hK _ hl hw =>
  have hy2 : chanFs X0 = [cp,cl,k,s,b,th,tt,sh,st] := (hM.tr hMc rfl rfl (TR.ok X0 hh hX0)).2
  rw [hy2] at hy
  simp only [List.cons.injEq,and_true] at hy
  obtain ⟨rfl,rfl,rfl,rfl,rfl,rfl,rfl,rfl,rfl⟩ := hy
  refine .inr fun X hMb hX => ⟨h0,hl,fun i x hx => ?_⟩
  have e1 : max y3 0 = y3 := by omega
  have h1 := hw i x hx
  rw [e1] at h1
  have hi0 := Int.emod_nonneg (y3 % y0 + i) (show y0 ≠ 0 by omega)
  have hi1 := Int.emod_lt_of_pos (y3 % y0 + i) h0
  obtain ⟨yy,hyy⟩ : ∃ x,X[((y3 % y0 + i) % y0).toNat]? = some x := ⟨_,List.getElem?_eq_getElem (by omega)⟩
  obtain ⟨hv,_⟩ := hM.load hMb ⟨by decide,by decide,by decide⟩ hi0 hyy h1
  rw [hv]; exact hyy
theorem ringPutM_lx (R : List Rw) (ws C G : List Int) (N W ph sp cy : Int) (L D Q : List PV) (z : ByteArray) (ov : Bool) (h : HM R ws C G N W L D Q z) (M : Hp) (hM : Cont R ws M) (o : Unit → Obj) (ho : IsPow o) (hph : ph = 0) (c w cp cl k s b th tt sh st : Int) (hMc : M c = some (1,[cp,cl,k,s,b,th,tt,sh,st])) (hw : -9223372036854775808 ≤ w ∧ w ≤ 9223372036854775807) (hk : 0 ≤ k) (hs : 0 ≤ s) : CallF (fun _ => Tryz.prog) 52 [.ptr 0 (.lit 0),i6 c,i6 w] [hpA 0 1 5 6 3 W ph sp cy,hpB 1 2 4 3 W,hpC 2 3 233 2 N,hpP 3 L,hpP 4 D,hpF 5 z ov,hpP 6 Q,(7,.fix 0 o)] 8 (fun r h n => ∃ (e : Int) (ws' : List Int) (D' : List PV),r = .p (.int .i64 (.sym e)) ∧ h = [hpA 0 1 5 6 3 W ph sp cy,hpB 1 2 4 3 W,hpC 2 3 233 2 N,hpP 3 L,hpP 4 D',hpF 5 z ov,hpP 6 Q,(7,.fix 0 o)] ∧ n = 8 ∧ HM R ws' C G N W L D' Q z ∧
  (cp ≤ 0 ∧ e = 9 ∧ ws' = ws ∨ ∀ X,M b = some (2,X) → (X.length : Int) = cp → (¬ k < cp ∧ e = 9 ∧ ws' = ws) ∨ (0 < cp ∧ k < cp ∧ e = 0 ∧ Cont R ws' (upd (upd M b (2,X.set ((s % cp + k) % cp).toNat w)) c (1,[cp,cl,k + 1,s,b,th,tt,sh,st]))))) :=
 (ringPut_lx R ws C G N W ph sp cy L D Q z ov h o ho c w hw).mono fun r h' n hrr => by
  obtain ⟨e,ws',C',G',ov',D',Q',z',e1,e2,e3,h1,hP⟩ := hrr
  obtain ⟨g1,g2⟩ := ringPutM h.a hM hph hMc hw hk hs hP
  obtain ⟨q1,q2,q3,q4,q5⟩ := h.still h1 g1
  rw [q3,q4,q5] at e2
  rw [q1,q2,q4,q5] at h1
  exact ⟨e,ws',D',e1,e2,e3,h1,g2⟩
theorem ringTakeM_lx (R : List Rw) (ws C G : List Int) (N W ph sp cy : Int) (L D Q : List PV) (z : ByteArray) (ov : Bool) (h : HM R ws C G N W L D Q z) (M : Hp) (hM : Cont R ws M) (o : Unit → Obj) (ho : IsPow o) (hph : ph = 0) (c cp cl k s b th tt sh st : Int) (hMc : M c = some (1,[cp,cl,k,s,b,th,tt,sh,st])) (hs : 0 ≤ s) : CallF (fun _ => Tryz.prog) 54 [.ptr 0 (.lit 0),i6 c] [hpA 0 1 5 6 3 W ph sp cy,hpB 1 2 4 3 W,hpC 2 3 233 2 N,hpP 3 L,hpP 4 D,hpF 5 z ov,hpP 6 Q,(7,.fix 0 o)] 8 (fun r h n => ∃ (v e : Int) (ws' : List Int) (D' : List PV),r = .tup [i6 v,i6 e] ∧ h = [hpA 0 1 5 6 3 W ph sp cy,hpB 1 2 4 3 W,hpC 2 3 233 2 N,hpP 3 L,hpP 4 D',hpF 5 z ov,hpP 6 Q,(7,.fix 0 o)] ∧ n = 8 ∧ HM R ws' C G N W L D' Q z ∧
  ((cp ≤ 0 ∨ k ≤ 0) ∧ e = 8 ∧ v = 0 ∧ ws' = ws ∨ ∀ X,M b = some (2,X) → (X.length : Int) = cp → k ≤ cp → (0 < cp ∧ 0 < k ∧ e = 0 ∧ X[(s % cp).toNat]? = some v ∧ Cont R ws' (upd (upd M b (2,X.set (s % cp).toNat 0)) c (1,[cp,cl,k - 1,(s % cp + 1) % cp,b,th,tt,sh,st]))))) :=
 (ringTake_lx R ws C G N W ph sp cy L D Q z ov h o ho c).mono fun r h' n hrr => by
  obtain ⟨v,e,ws',C',G',ov',D',Q',z',e1,e2,e3,h1,hP⟩ := hrr
  obtain ⟨g1,g2⟩ := ringTakeM h.a hM hph hMc hs hP
  obtain ⟨q1,q2,q3,q4,q5⟩ := h.still h1 g1
  rw [q3,q4,q5] at e2
  rw [q1,q2,q4,q5] at h1
  exact ⟨v,e,ws',D',e1,e2,e3,h1,g2⟩
theorem ringAllM_lx (R : List Rw) (ws C G : List Int) (N W ph sp cy : Int) (L D Q : List PV) (z : ByteArray) (ov : Bool) (h : HM R ws C G N W L D Q z) (M : Hp) (hM : Cont R ws M) (c cp cl k s b th tt sh st : Int) (hMc : M c = some (1,[cp,cl,k,s,b,th,tt,sh,st])) (hs : 0 ≤ s) : CallF (fun _ => Tryz.prog) 55 [.ptr 0 (.lit 0),i6 c] [hpA 0 1 5 6 3 W ph sp cy,hpB 1 2 4 3 W,hpC 2 3 233 2 N,hpP 3 L,hpP 4 D,hpF 5 z ov,hpP 6 Q] 7 (fun r h n => ∃ (l : List Int) (m : Int) (cells : List PV),r = .sl 7 3 1 (.lit 0) (.sym m) ∧ h = [hpA 0 1 5 6 3 W ph sp cy,hpB 1 2 4 3 W,hpC 2 3 233 2 N,hpP 3 L,hpP 4 D,hpF 5 z ov,hpP 6 Q,hpP 7 cells] ∧ n = 8 ∧ m = l.length ∧ cells = ipv l ∧ ((cp ≤ 0 ∧ l = []) ∨ ∀ X,M b = some (2,X) → (X.length : Int) = cp → 0 < cp ∧ (l.length : Int) = min (max k 0) cp ∧ ∀ (i : Nat) (x : Int),l[i]? = some x → X[((s % cp + i) % cp).toNat]? = some x)) :=
 (ringAll_lx R ws C G N W ph sp cy L D Q z ov h c).mono fun r h' n hrr => by
  obtain ⟨l,m,cells,e1,e2,e3,e4,e5,hR⟩ := hrr
  exact ⟨l,m,cells,e1,e2,e3,e4,e5,ringAllM hM hMc hs hR⟩
theorem capW_small {x : Int} (h : 0 ≤ x ∧ x < 4) : capW x = x := by
 unfold capW
 rw [show IntKind.u64.wrap x = x by simp [IntKind.wrap,IntKind.bits,IntKind.signed]; omega]
 omega
theorem chans1 {chs : List Int} {nc : Int} (hn : nc = (chs.length : Int)) (h1 : nc = 1) : ∃ c,chs = [c] := by
 match chs with
 | [c] => exact ⟨c,rfl⟩
 | [] => simp at hn; omega
 | _ :: _ :: _ => simp at hn; omega
theorem ch0 {chs : List Int} {nc x c : Int} (h : chs[(IntKind.u64.wrap 0 % nc).toNat]? = some x) (hc : chs[0]? = some c) : x = c := by
 rw [show IntKind.u64.wrap 0 = 0 by decide,Int.zero_emod] at h
 exact Option.some.inj (h.symm.trans hc)
theorem awake12_lx (o : Unit → Obj) (ho : IsPow o) : CallF (fun _ => Tryz.prog) 51 [] [(0,.fix 0 o)] 1 (fun r h n => r = .p (.bool true) ∧ h = [(0,.fix 0 o)] ∧ n = 1) := by
 refine callF_of_body tok Tryz.func51 (by kernel_rfl) rfl rfl rfl ?_; conv => cbv
 refine CallF.re (args0 := [.p (.vsl (.sym 1) true [.int .i64 (.sym 1)]),i6 1]) (h' := [(0,.fix 0 o)]) (Re.at [(0,0)] []) (cfr (made12_lx o ho [1] 1 1 [.int .i64 (.sym 1)] rfl rfl) [(0,0)] (fun r h' n' hrr => ?_))
 obtain ⟨N,W,C,R,ws,vs,L,D,Q,z,P,B,V,Qr,M,CS,GS,chs,bufs,grs,nc,ng,e1,e2,e3,S,hB,hY,hcs,hgs,hnc,hng,hnm,hn1,hn4,hngo,hcnt,hR,hW⟩ := hrr
 subst e1 e2 e3
 conv => cbv
 have hnc1 : nc = 1 := by omega
 obtain ⟨c,hcc⟩ := chans1 hnc hnc1
 have hc0 : chs[0]? = some c := by rw [hcc]; rfl
 obtain ⟨b,hb0,hBC⟩ := hB.ch 0 c 1 hc0 rfl
 have hMc := hBC.c
 rw [capW_small (by decide)] at hMc
 have hMb : M b = some (2,[0]) := by
  rcases hBC.b with q | ⟨_,_,q⟩
  ·rw [capW_small (by decide)] at q; omega
  ·rw [capW_small (by decide)] at q; exact q
 have hcb : c ≠ b := fun q => by rw [q,hMb] at hMc; cases hMc
 have hh := S.h
 have hc := S.c
 refine drawn_sound tok (by kernel_rfl) [(5,[3,2,1,0]),(6,[])] [0,1,2,3,4,5,6,7] (by kernel_rfl) ?_; conv => cbv
 refine CallF.le (args0 := [.ptr 17 (.lit 0),i6 0]) (cfr (ch12_lx R ws vs C N W 0 0 0 L D Q z false P B V Qr [] 0 M nc ng CS GS o 0 chs hcs hnc (by omega) (by omega)) [(0,2),(1,3),(2,4),(3,5),(4,6),(5,7),(6,8),(7,9),(8,10),(9,11),(10,12),(11,13),(12,14),(13,15),(14,16),(15,0),(16,17),(17,18),(18,19)] (fun r h' n' hrr => ?_)) (by simp [ales,ale,pvle,I.val])
 obtain ⟨⟨x1,e1,hx1⟩,e2,e3⟩ := hrr
 subst e1 e2 e3
 conv => cbv
 obtain rfl : c = x1 := (ch0 hx1 hc0).symm
 refine CallF.le (args0 := [.ptr 2 (.lit 0),i6 c,i6 7]) (cfr (ringPutM_lx R ws C [] N W 0 0 0 L D Q z false hh M hc o ho rfl c 7 1 0 0 0 b (-1) (-1) (-1) (-1) hMc (by decide) (by decide) (by decide)) [(0,2),(1,3),(2,4),(3,5),(4,6),(5,7),(6,8),(7,0)] (fun r h' n' hrr => ?_)) (by simp [ales,ale,pvle,I.val])
 obtain ⟨e,ws1,D1,e1,e2,e3,hh1,hr1⟩ := hrr
 subst e1 e2 e3
 conv => cbv
 rcases hr1 with q | hr1
 ·exact absurd q.1 (by decide)
 rcases hr1 _ hMb rfl with q | ⟨_,_,he,hc1⟩
 ·exact absurd q.1 (by decide)
 generalize hM1 : upd (upd M b (2,List.set [0] (((0 : Int) % 1 + 0) % 1).toNat 7)) c (1,[1,0,0 + 1,0,b,-1,-1,-1,-1]) = M1 at hc1
 have hMc1 : M1 c = some (1,[1,0,1,0,b,-1,-1,-1,-1]) := by rw [← hM1]; exact upd_same _ _ _
 have hMb1 : M1 b = some (2,[7]) := by rw [← hM1,upd_ne hcb.symm]; exact upd_same _ _ _
 refine drawn_sound tok (by kernel_rfl) [(5,[3,2,1,0]),(6,[])] [0,1,2,3,4,5,6,7] (by kernel_rfl) ?_; conv => cbv
 refine CallF.le (args0 := [.ptr 17 (.lit 0),i6 0]) (cfr (ch12_lx R ws1 vs C N W 0 0 0 L D1 Q z false P B V Qr [] 0 M nc ng CS GS o 0 chs hcs hnc (by omega) (by omega)) [(0,2),(1,3),(2,4),(3,5),(4,6),(5,7),(6,8),(7,9),(8,10),(9,11),(10,12),(11,13),(12,14),(13,15),(14,16),(15,0),(16,17),(17,18),(18,19)] (fun r h' n' hrr => ?_)) (by simp [ales,ale,pvle,I.val])
 obtain ⟨⟨x2,e1,hx2⟩,e2,e3⟩ := hrr
 subst e1 e2 e3
 conv => cbv
 obtain rfl : c = x2 := (ch0 hx2 hc0).symm
 refine CallF.le (args0 := [.ptr 2 (.lit 0),i6 c,i6 8]) (cfr (ringPutM_lx R ws1 C [] N W 0 0 0 L D1 Q z false hh1 M1 hc1 o ho rfl c 8 1 0 1 0 b (-1) (-1) (-1) (-1) hMc1 (by decide) (by decide) (by decide)) [(0,2),(1,3),(2,4),(3,5),(4,6),(5,7),(6,8),(7,0)] (fun r h' n' hrr => ?_)) (by simp [ales,ale,pvle,I.val])
 obtain ⟨f,ws2,D2,e1,e2,e3,hh2,hr2⟩ := hrr
 subst e1 e2 e3
 conv => cbv
 obtain ⟨hf,hw2⟩ : f = 9 ∧ ws2 = ws1 := by
  rcases hr2 with q | hr2
  ·exact absurd q.1 (by decide)
  rcases hr2 _ hMb1 rfl with q | q
  ·exact ⟨q.2.1,q.2.2⟩
  ·exact absurd q.2.1 (by decide)
 have hc2 : Cont R ws2 M1 := by rw [hw2]; exact hc1
 refine drawn_sound tok (by kernel_rfl) [(5,[3,2,1,0]),(6,[])] [0,1,2,3,4,5,6,7,8,9,10,11] (by kernel_rfl) ?_; conv => cbv
 refine CallF.le (args0 := [.ptr 17 (.lit 0),i6 0]) (cfr (ch12_lx R ws2 vs C N W 0 0 0 L D2 Q z false P B V Qr [] 0 M nc ng CS GS o 0 chs hcs hnc (by omega) (by omega)) [(0,2),(1,3),(2,4),(3,5),(4,6),(5,7),(6,8),(7,9),(8,10),(9,11),(10,12),(11,13),(12,14),(13,15),(14,16),(15,0),(16,17),(17,18),(18,19)] (fun r h' n' hrr => ?_)) (by simp [ales,ale,pvle,I.val])
 obtain ⟨⟨x3,e1,hx3⟩,e2,e3⟩ := hrr
 subst e1 e2 e3
 conv => cbv
 obtain rfl : c = x3 := (ch0 hx3 hc0).symm
 refine CallF.le (args0 := [.ptr 2 (.lit 0),i6 c]) (cfr (ringTakeM_lx R ws2 C [] N W 0 0 0 L D2 Q z false hh2 M1 hc2 o ho rfl c 1 0 1 0 b (-1) (-1) (-1) (-1) hMc1 (by decide)) [(0,2),(1,3),(2,4),(3,5),(4,6),(5,7),(6,8),(7,0)] (fun r h' n' hrr => ?_)) (by simp [ales,ale,pvle,I.val])
 obtain ⟨v,g,ws3,D3,e1,e2,e3,hh3,hr3⟩ := hrr
 subst e1 e2 e3
 conv => cbv
 obtain ⟨hg,hv⟩ : g = 0 ∧ v = 7 := by
  rcases hr3 with q | hr3
  ·exact absurd q.1 (by decide)
  obtain ⟨_,_,q1,q2,_⟩ := hr3 _ hMb1 rfl (by decide)
  exact ⟨q1,(Option.some.inj q2).symm⟩
 refine Br.yes (show e = 0 from he) ?_
 conv => cbv
 refine Br.yes (show f = 9 from hf) ?_
 conv => cbv
 refine Br.yes (show g = 0 from hg) ?_
 conv => cbv
 refine Br.yes (show v = 7 from hv) ?_
 conv => cbv
 refine RetF.mk [.p (.bool true)] [(0,.fix 0 o)] 1 (Re.at [(0,0)] []) rfl ⟨rfl,rfl,rfl⟩
def Hold (X words : List Int) (u st : Int) (j : Nat) (m : Int) : Prop := ∀ k : Nat,(k : Int) < m → X[((st + k) % u).toNat]? = words[j + k]?
theorem Hold.got {X words : List Int} {u st ct : Int} {j : Nat} (hu : 0 < u ∧ u ≤ 3) (hs : 0 ≤ st) (hc : ct ≤ u) (h : Hold X words u st j ct) : Hold (X.set (st % u).toNat 0) words u ((st % u + 1) % u) (j + 1) (ct - 1) := by
 intro k hk
 have e2 : (((st % u + 1) % u + k) % u).toNat = ((st + (k + 1 : Nat)) % u).toNat := by
  push_cast
  rcases (by omega : u = 1 ∨ u = 2 ∨ u = 3) with e | e | e <;> subst e <;> omega
 have e3 : (st % u).toNat ≠ ((st + (k + 1 : Nat)) % u).toNat := by
  push_cast
  rcases (by omega : u = 1 ∨ u = 2 ∨ u = 3) with e | e | e <;> subst e <;> omega
 rw [e2,List.getElem?_set_ne e3,h (k + 1) (by push_cast; omega)]
 congr 1
 omega
theorem Hold.first {X words : List Int} {u st ct v w : Int} {j : Nat} (h : Hold X words u st j ct) (hc : 0 < ct) (hv : X[(st % u).toNat]? = some v) (hw : words[j]? = some w) : v = w := by
 have := h 0 (by simpa using hc)
 rw [show (st + ((0 : Nat) : Int)) % u = st % u by simp,Nat.add_zero,hv,hw] at this
 exact Option.some.inj this
theorem ringPut0_lx (R : List Rw) (ws C G : List Int) (N W ph sp cy : Int) (L D Q : List PV) (z : ByteArray) (ov : Bool) (h : HM R ws C G N W L D Q z) (M : Hp) (hM : Cont R ws M) (o : Unit → Obj) (ho : IsPow o) (c w cp cl k s b th tt sh st : Int) (hMc : M c = some (1,[cp,cl,k,s,b,th,tt,sh,st])) (hcp : cp ≤ 0) (hw : -9223372036854775808 ≤ w ∧ w ≤ 9223372036854775807) : CallF (fun _ => Tryz.prog) 52 [.ptr 0 (.lit 0),i6 c,i6 w] [hpA 0 1 5 6 3 W ph sp cy,hpB 1 2 4 3 W,hpC 2 3 233 2 N,hpP 3 L,hpP 4 D,hpF 5 z ov,hpP 6 Q,(7,.fix 0 o)] 8 (fun r h n => ∃ e : Int,r = .p (.int .i64 (.sym e)) ∧ e = 9 ∧ h = [hpA 0 1 5 6 3 W ph sp cy,hpB 1 2 4 3 W,hpC 2 3 233 2 N,hpP 3 L,hpP 4 D,hpF 5 z ov,hpP 6 Q,(7,.fix 0 o)] ∧ n = 8) :=
 (ringPut_lx R ws C G N W ph sp cy L D Q z ov h o ho c w hw).mono fun r h' n hrr => by
  obtain ⟨e,ws',C',G',ov',D',Q',z',e1,e2,e3,h1,hP⟩ := hrr
  generalize hs0 : (ws',C',G',ov') = s0 at hP
  cases hP with
  | no hh => exact absurd (hM.kept hMc) hh
  | full _ _ _ _ _ _ _ _ _ _ _ _ _ _ =>
   simp only [Prod.mk.injEq] at hs0
   obtain ⟨q0,q1,q2,q3⟩ := hs0
   have q4 : Q' = Q := by rw [h1.q,h.q,q1]
   have q5 : z' = z := by rw [h1.z,h.z,q2]
   have q6 : D' = D := by rw [h1.d,h.d,q0]
   rw [q3,q4,q5,q6] at e2
   exact ⟨9,e1,rfl,e2,e3⟩
  | ok X0 y0 y1 y2 y3 y4 y5 y6 y7 y8 hh hX0 hy h0 hK =>
   have hy2 : chanFs X0 = [cp,cl,k,s,b,th,tt,sh,st] := (hM.tr hMc rfl rfl (TR.ok X0 hh hX0)).2
   rw [hy2] at hy
   simp only [List.cons.injEq,and_true] at hy
   obtain ⟨rfl,rfl,rfl,rfl,rfl,rfl,rfl,rfl,rfl⟩ := hy
   exact absurd h0 (by omega)
theorem ringTake0_lx (R : List Rw) (ws C G : List Int) (N W ph sp cy : Int) (L D Q : List PV) (z : ByteArray) (ov : Bool) (h : HM R ws C G N W L D Q z) (M : Hp) (hM : Cont R ws M) (o : Unit → Obj) (ho : IsPow o) (c cp cl k s b th tt sh st : Int) (hMc : M c = some (1,[cp,cl,k,s,b,th,tt,sh,st])) (hcp : cp ≤ 0 ∨ k ≤ 0) : CallF (fun _ => Tryz.prog) 54 [.ptr 0 (.lit 0),i6 c] [hpA 0 1 5 6 3 W ph sp cy,hpB 1 2 4 3 W,hpC 2 3 233 2 N,hpP 3 L,hpP 4 D,hpF 5 z ov,hpP 6 Q,(7,.fix 0 o)] 8 (fun r h n => ∃ v e : Int,r = .tup [i6 v,i6 e] ∧ e = 8 ∧ v = 0 ∧ h = [hpA 0 1 5 6 3 W ph sp cy,hpB 1 2 4 3 W,hpC 2 3 233 2 N,hpP 3 L,hpP 4 D,hpF 5 z ov,hpP 6 Q,(7,.fix 0 o)] ∧ n = 8) :=
 (ringTake_lx R ws C G N W ph sp cy L D Q z ov h o ho c).mono fun r h' n hrr => by
  obtain ⟨v,e,ws',C',G',ov',D',Q',z',e1,e2,e3,h1,hP⟩ := hrr
  generalize hs0 : (ws',C',G',ov') = s0 at hP
  cases hP with
  | no hh => exact absurd (hM.kept hMc) hh
  | none _ _ _ _ _ _ _ _ _ _ _ _ _ _ =>
   simp only [Prod.mk.injEq] at hs0
   obtain ⟨q0,q1,q2,q3⟩ := hs0
   have q4 : Q' = Q := by rw [h1.q,h.q,q1]
   have q5 : z' = z := by rw [h1.z,h.z,q2]
   have q6 : D' = D := by rw [h1.d,h.d,q0]
   rw [q3,q4,q5,q6] at e2
   exact ⟨0,8,e1,rfl,rfl,e2,e3⟩
  | ok X0 y0 y1 y2 y3 y4 y5 y6 y7 y8 hh hX0 hy h0 hK hf =>
   have hy2 : chanFs X0 = [cp,cl,k,s,b,th,tt,sh,st] := (hM.tr hMc rfl rfl (TR.ok X0 hh hX0)).2
   rw [hy2] at hy
   simp only [List.cons.injEq,and_true] at hy
   obtain ⟨rfl,rfl,rfl,rfl,rfl,rfl,rfl,rfl,rfl⟩ := hy
   exact absurd h0 (by omega)
theorem ringAll0_lx (R : List Rw) (ws C G : List Int) (N W ph sp cy : Int) (L D Q : List PV) (z : ByteArray) (ov : Bool) (h : HM R ws C G N W L D Q z) (M : Hp) (hM : Cont R ws M) (c cp cl k s b th tt sh st : Int) (hMc : M c = some (1,[cp,cl,k,s,b,th,tt,sh,st])) (hcp : cp ≤ 0) : CallF (fun _ => Tryz.prog) 55 [.ptr 0 (.lit 0),i6 c] [hpA 0 1 5 6 3 W ph sp cy,hpB 1 2 4 3 W,hpC 2 3 233 2 N,hpP 3 L,hpP 4 D,hpF 5 z ov,hpP 6 Q] 7 (fun r h n => ∃ m : Int,r = .sl 7 3 1 (.lit 0) (.sym m) ∧ h = [hpA 0 1 5 6 3 W ph sp cy,hpB 1 2 4 3 W,hpC 2 3 233 2 N,hpP 3 L,hpP 4 D,hpF 5 z ov,hpP 6 Q,(7,.pure true [])] ∧ n = 8 ∧ m = 0) :=
 (ringAll_lx R ws C G N W ph sp cy L D Q z ov h c).mono fun r h' n hrr => by
  obtain ⟨l,m,cells,e1,e2,e3,e4,e5,hR⟩ := hrr
  have hl : l = [] := by
   cases hR with
   | no => rfl
   | none => rfl
   | ok X0 y0 y1 y2 y3 y4 y5 y6 y7 y8 hh hX0 hy h0 hK =>
    have hy2 : chanFs X0 = [cp,cl,k,s,b,th,tt,sh,st] := (hM.tr hMc rfl rfl (TR.ok X0 hh hX0)).2
    rw [hy2] at hy
    simp only [List.cons.injEq,and_true] at hy
    obtain ⟨rfl,rfl,rfl,rfl,rfl,rfl,rfl,rfl,rfl⟩ := hy
    exact absurd h0 (by omega)
  subst hl
  refine ⟨m,e1,by rw [e2,e5]; rfl,e3,by rw [e4]; rfl⟩
theorem Hold.put {X wl : List Int} {u st w m : Int} (hu : 0 < u ∧ u ≤ 3) (hs : 0 ≤ st) (hX : (X.length : Int) = u) (hm : m = wl.length) (h : Hold X wl u st 0 m) (hl : m < u) : Hold (X.set ((st % u + m) % u).toNat w) (wl ++ [w]) u st 0 (m + 1) := by
 have hp : ((st % u + m) % u).toNat < X.length := by
  have h1 := Int.emod_lt_of_pos (st % u + m) hu.1
  have h2 := Int.emod_nonneg (st % u + m) (by omega : u ≠ 0)
  omega
 intro k hk
 rw [Nat.zero_add]
 by_cases hkm : (k : Int) = m
 ·rw [hkm,show (st + m) % u = (st % u + m) % u by rw [Int.emod_add_emod],List.getElem?_set_self hp,show k = wl.length by omega]
  simp
 ·have e3 : ((st % u + m) % u).toNat ≠ ((st + k) % u).toNat := by
   rcases (by omega : u = 1 ∨ u = 2 ∨ u = 3) with e | e | e <;> subst e <;> omega
  rw [List.getElem?_set_ne e3,h k (by omega),Nat.zero_add,List.getElem?_append_left (by omega)]
theorem Hold.tail {X wl : List Int} {u st w m : Int} (h : Hold X (w :: wl) u st 1 m) : Hold X wl u st 0 m := fun k hk => by
 rw [h k hk,Nat.zero_add,Nat.add_comm]
 exact List.getElem?_cons_succ
theorem Hold.all {X wl l : List Int} {u st m : Int} (hm : m = wl.length) (hmu : m ≤ u) (h : Hold X wl u st 0 m) (hl : (l.length : Int) = min (max m 0) u) (hw : ∀ (i : Nat) (x : Int),l[i]? = some x → X[((st % u + i) % u).toNat]? = some x) : l = wl := by
 have hll : l.length = wl.length := by omega
 apply List.ext_getElem?
 intro i
 by_cases hi : i < l.length
 ·have h1 := hw i _ (List.getElem?_eq_getElem hi)
  rw [List.getElem?_eq_getElem hi,← h1,Int.emod_add_emod,h i (by omega),Nat.zero_add]
 ·rw [List.getElem?_eq_none (by omega),List.getElem?_eq_none (by omega)]
structure Ring1 (M : Hp) (c b u st : Int) (wl : List Int) : Prop where
 c : M c = some (1,[u,0,(wl.length : Int),st,b,-1,-1,-1,-1])
 b : u = 0 ∨ ∃ X,M b = some (2,X) ∧ (X.length : Int) = u ∧ Hold X wl u st 0 wl.length
 l : (wl.length : Int) ≤ u
 s : 0 ≤ st ∧ st ≤ 3
 u : 0 ≤ u ∧ u ≤ 3
theorem Ring1.nil {M : Hp} {c b u : Int} (hc : M c = some (1,[u,0,0,0,b,-1,-1,-1,-1])) (hb : u = 0 ∨ M b = some (2,List.replicate u.toNat 0)) (hu : 0 ≤ u ∧ u ≤ 3) : Ring1 M c b u 0 [] :=
 ⟨hc,hb.imp id fun e => ⟨_,e,by rw [List.length_replicate]; omega,fun k hk => absurd hk (by simp)⟩,(show (0 : Int) ≤ u from hu.1),by decide,hu⟩
theorem Ring1.other {M M' : Hp} {c b u st c' b' : Int} {wl : List Int} (h : Ring1 M c b u st wl) (hf : ∀ a,a ≠ c' → a ≠ b' → M' a = M a) (h1 : c ≠ c') (h2 : c ≠ b') (h3 : u = 0 ∨ b ≠ c' ∧ b ≠ b') : Ring1 M' c b u st wl :=
 ⟨(hf c h1 h2).trans h.c,by
  rcases h.b with e | ⟨X,e1,e2,e3⟩
  ·exact .inl e
  ·rcases h3 with e | ⟨q1,q2⟩
   ·exact .inl e
   ·exact .inr ⟨X,(hf b q1 q2).trans e1,e2,e3⟩,h.l,h.s,h.u⟩
theorem ringPutX_lx (R : List Rw) (ws C G : List Int) (N W ph sp cy : Int) (L D Q : List PV) (z : ByteArray) (ov : Bool) (h : HM R ws C G N W L D Q z) (M : Hp) (hM : Cont R ws M) (o : Unit → Obj) (ho : IsPow o) (hph : ph = 0) (c b u st w mw : Int) (wl : List Int) (hw : -9223372036854775808 ≤ w ∧ w ≤ 9223372036854775807) (hr : Ring1 M c b u st wl) (hmw : mw = wl.length) : CallF (fun _ => Tryz.prog) 52 [.ptr 0 (.lit 0),i6 c,i6 w] [hpA 0 1 5 6 3 W ph sp cy,hpB 1 2 4 3 W,hpC 2 3 233 2 N,hpP 3 L,hpP 4 D,hpF 5 z ov,hpP 6 Q,(7,.fix 0 o)] 8 (fun r h n => ∃ (e : Int) (ws' : List Int) (D' : List PV) (M' : Hp),r = .p (.int .i64 (.sym e)) ∧ h = [hpA 0 1 5 6 3 W ph sp cy,hpB 1 2 4 3 W,hpC 2 3 233 2 N,hpP 3 L,hpP 4 D',hpF 5 z ov,hpP 6 Q,(7,.fix 0 o)] ∧ n = 8 ∧ HM R ws' C G N W L D' Q z ∧ Cont R ws' M' ∧ (∀ a,a ≠ c → a ≠ b → M' a = M a) ∧ (mw < u ∧ e = 0 ∧ Ring1 M' c b u st (wl ++ [w]) ∨ ¬ mw < u ∧ e = 9 ∧ Ring1 M' c b u st wl)) := by
 subst hmw
 have hl := hr.l; have hs := hr.s; have hu := hr.u
 by_cases hu0 : u = 0
 ·exact (ringPut0_lx R ws C G N W ph sp cy L D Q z ov h M hM o ho c w u 0 _ st b (-1) (-1) (-1) (-1) hr.c (by omega) hw).mono fun r h' n ⟨e,e1,he,e2,e3⟩ => ⟨e,ws,D,M,e1,e2,e3,h,hM,fun _ _ _ => rfl,.inr ⟨by omega,he,hr⟩⟩
 ·obtain ⟨X,hMb,hX,hH⟩ := hr.b.resolve_left hu0
  have hcb : c ≠ b := fun e => by have := hr.c; rw [e,hMb] at this; cases this
  refine (ringPutM_lx R ws C G N W ph sp cy L D Q z ov h M hM o ho hph c w u 0 _ st b (-1) (-1) (-1) (-1) hr.c hw (by omega) hs.1).mono fun r h' n hrr => ?_
  obtain ⟨e,ws',D',e1,e2,e3,h1,hres⟩ := hrr
  rcases hres with ⟨q1,_⟩ | hres
  ·omega
  rcases hres X hMb hX with ⟨q1,q2,q3⟩ | ⟨q0,q1,q2,q3⟩
  ·subst q3
   exact ⟨e,ws',D',M,e1,e2,e3,h1,hM,fun _ _ _ => rfl,.inr ⟨q1,q2,hr⟩⟩
  ·refine ⟨e,ws',D',_,e1,e2,e3,h1,q3,fun a ha hb => by rw [upd_ne ha,upd_ne hb],.inl ⟨q1,q2,?_⟩⟩
   refine ⟨by rw [upd_same,List.length_append]; rfl,.inr ⟨_,(upd_ne hcb.symm).trans (upd_same _ _ _),by rw [List.length_set]; exact hX,?_⟩,by rw [List.length_append,List.length_singleton]; omega,hs,hu⟩
   have := Hold.put (w := w) (m := wl.length) (by omega) hs.1 hX rfl hH q1
   rw [List.length_append]
   exact this
theorem ringTakeX_lx (R : List Rw) (ws C G : List Int) (N W ph sp cy : Int) (L D Q : List PV) (z : ByteArray) (ov : Bool) (h : HM R ws C G N W L D Q z) (M : Hp) (hM : Cont R ws M) (o : Unit → Obj) (ho : IsPow o) (hph : ph = 0) (c b u st mw : Int) (wl : List Int) (hr : Ring1 M c b u st wl) (hmw : mw = wl.length) : CallF (fun _ => Tryz.prog) 54 [.ptr 0 (.lit 0),i6 c] [hpA 0 1 5 6 3 W ph sp cy,hpB 1 2 4 3 W,hpC 2 3 233 2 N,hpP 3 L,hpP 4 D,hpF 5 z ov,hpP 6 Q,(7,.fix 0 o)] 8 (fun r h n => ∃ (v e : Int) (ws' : List Int) (D' : List PV) (M' : Hp),r = .tup [i6 v,i6 e] ∧ h = [hpA 0 1 5 6 3 W ph sp cy,hpB 1 2 4 3 W,hpC 2 3 233 2 N,hpP 3 L,hpP 4 D',hpF 5 z ov,hpP 6 Q,(7,.fix 0 o)] ∧ n = 8 ∧ HM R ws' C G N W L D' Q z ∧ Cont R ws' M' ∧ (∀ a,a ≠ c → a ≠ b → M' a = M a) ∧ (0 < mw ∧ e = 0 ∧ (∃ st' t,wl = v :: t ∧ Ring1 M' c b u st' t) ∨ ¬ 0 < mw ∧ e = 8 ∧ v = 0 ∧ wl = [] ∧ Ring1 M' c b u st wl)) := by
 subst hmw
 have hl := hr.l; have hs := hr.s; have hu := hr.u
 by_cases hk : (wl.length : Int) ≤ 0
 ·exact (ringTake0_lx R ws C G N W ph sp cy L D Q z ov h M hM o ho c u 0 _ st b (-1) (-1) (-1) (-1) hr.c (.inr hk)).mono fun r h' n ⟨v,e,e1,he,hv,e2,e3⟩ => ⟨v,e,ws,D,M,e1,e2,e3,h,hM,fun _ _ _ => rfl,.inr ⟨by omega,he,hv,List.eq_nil_of_length_eq_zero (by omega),hr⟩⟩
 ·obtain ⟨X,hMb,hX,hH⟩ := hr.b.resolve_left (by omega)
  have hcb : c ≠ b := fun e => by have := hr.c; rw [e,hMb] at this; cases this
  refine (ringTakeM_lx R ws C G N W ph sp cy L D Q z ov h M hM o ho hph c u 0 _ st b (-1) (-1) (-1) (-1) hr.c hs.1).mono fun r h' n hrr => ?_
  obtain ⟨v,e,ws',D',e1,e2,e3,h1,hres⟩ := hrr
  rcases hres with ⟨q1,_⟩ | hres
  ·omega
  obtain ⟨q0,q1,q2,q3,q4⟩ := hres X hMb hX hl
  obtain ⟨x,t,rfl⟩ : ∃ x t,wl = x :: t := by
   cases wl with
   | nil => simp at hk
   | cons x t => exact ⟨x,t,rfl⟩
  have hvx : v = x := Hold.first hH (by omega) q3 rfl
  subst hvx
  refine ⟨v,e,ws',D',_,e1,e2,e3,h1,q4,fun a ha hb => by rw [upd_ne ha,upd_ne hb],.inl ⟨by omega,q2,(st % u + 1) % u,t,rfl,?_⟩⟩
  have hst : (st % u + 1) % u = (st + 1) % u := by rw [Int.emod_add_emod]
  have h5 := Int.emod_nonneg (st % u + 1) (show u ≠ 0 by omega)
  have h6 := Int.emod_lt_of_pos (st % u + 1) q0
  have hl2 : ((v :: t).length : Int) - 1 = t.length := by rw [List.length_cons]; omega
  refine ⟨by rw [upd_same,hl2],.inr ⟨_,(upd_ne hcb.symm).trans (upd_same _ _ _),by rw [List.length_set]; exact hX,?_⟩,by omega,⟨h5,by omega⟩,hu⟩
  have := (Hold.got (by omega) hs.1 hl hH).tail
  rw [hl2] at this
  exact this
theorem ringAllX_lx (R : List Rw) (ws C G : List Int) (N W ph sp cy : Int) (L D Q : List PV) (z : ByteArray) (ov : Bool) (h : HM R ws C G N W L D Q z) (M : Hp) (hM : Cont R ws M) (c b u st : Int) (wl : List Int) (hr : Ring1 M c b u st wl) : CallF (fun _ => Tryz.prog) 55 [.ptr 0 (.lit 0),i6 c] [hpA 0 1 5 6 3 W ph sp cy,hpB 1 2 4 3 W,hpC 2 3 233 2 N,hpP 3 L,hpP 4 D,hpF 5 z ov,hpP 6 Q] 7 (fun r h n => ∃ (m : Int) (cells : List PV),r = .sl 7 3 1 (.lit 0) (.sym m) ∧ h = [hpA 0 1 5 6 3 W ph sp cy,hpB 1 2 4 3 W,hpC 2 3 233 2 N,hpP 3 L,hpP 4 D,hpF 5 z ov,hpP 6 Q,hpP 7 cells] ∧ n = 8 ∧ m = wl.length ∧ cells = ipv wl) := by
 have hl := hr.l; have hs := hr.s; have hu := hr.u
 by_cases hu0 : u = 0
 ·have hw : wl = [] := List.eq_nil_of_length_eq_zero (by omega)
  subst hw
  exact (ringAll0_lx R ws C G N W ph sp cy L D Q z ov h M hM c u 0 _ st b (-1) (-1) (-1) (-1) hr.c (by omega)).mono fun r h' n ⟨m,e1,e2,e3,e4⟩ => ⟨m,[],e1,e2,e3,e4,rfl⟩
 ·obtain ⟨X,hMb,hX,hH⟩ := hr.b.resolve_left hu0
  refine (ringAllM_lx R ws C G N W ph sp cy L D Q z ov h M hM c u 0 _ st b (-1) (-1) (-1) (-1) hr.c hs.1).mono fun r h' n hrr => ?_
  obtain ⟨l,m,cells,e1,e2,e3,e4,e5,hres⟩ := hrr
  rcases hres with ⟨q1,_⟩ | hres
  ·omega
  obtain ⟨q0,q1,q2⟩ := hres X hMb hX
  have := Hold.all rfl hl hH q1 q2
  subst this
  exact ⟨m,cells,e1,e2,e3,e4,e5⟩
end Go.Proofs.YtkhfgngcoiablaaGreatDoor
