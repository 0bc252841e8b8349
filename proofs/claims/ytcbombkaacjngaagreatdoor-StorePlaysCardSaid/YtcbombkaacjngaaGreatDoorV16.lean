/-
  Layer 21: StorePlays.
-/
import Derived.Test.YtcbombkaacjngaaGreatDoorV12
import Derived.Test.YtcbombkaacjngaaGreatDoorV13
import Derived.Test.YtcbombkaacjngaaGreatDoorV14
import Derived.Test.YtcbombkaacjngaaGreatDoorV15
import Derived.Test.YtcbombkaacjngaaGreatDoorBh
import Derived.Test.YtcbombkaacjngaaGreatDoorBf
import Derived.Test.YtcbombkaacjngaaGreatDoorBg
namespace Go.Proofs.YtcbombkaacjngaaGreatDoor
open Go Go.LX
set_option maxRecDepth 100000
set_option linter.unusedVariables false
set_option linter.unusedSimpArgs false
set_option maxHeartbeats 32000000
theorem sameNil21_lx : CallF (fun _ => Tryz.prog) 78 [.p .nils,.p .nils,.p (.fn 79)] [] 0 (fun r h n => r = .p (.bool true) ∧ h = [] ∧ n = 0) := by
 refine callF_of_body tok Tryz.func78 (by kernel_rfl) rfl rfl rfl ?_; conv => cbv
 refine LoopF.rounds 1 ?_
 conv => cbv
 refine RetF.mk [.p (.bool true)] [] 0 (Re.at [] []) rfl ⟨rfl,rfl,rfl⟩
theorem goneNil21_lx : CallF (fun _ => Tryz.prog) 11 [.p .nils,.p .nils,.p (.fn 14)] [] 0 (fun r h n => r = .p (.bool true) ∧ h = [] ∧ n = 0) := by
 refine callF_of_body tok Tryz.func11 (by kernel_rfl) rfl rfl rfl ?_; conv => cbv
 refine LoopF.rounds 1 ?_
 conv => cbv
 refine RetF.mk [.p (.bool true)] [] 0 (Re.at [] []) rfl ⟨rfl,rfl,rfl⟩
theorem plainNil21_lx : CallF (fun _ => Tryz.prog) 23 [.p .nils,.p .nils] [] 0 (fun r h n => r = .p (.bool true) ∧ h = [] ∧ n = 0) := by
 refine callF_of_body tok Tryz.func23 (by kernel_rfl) rfl rfl rfl ?_; conv => cbv
 refine callF_frame sameNil21_lx [] rfl (by simp [hmapOk,nget,hget,renB,okB,renV,renVs,rn,okVs,okV]) rfl rfl (fun r h' n' ⟨e1,e2,e3⟩ => ?_)
 subst e1 e2 e3
 conv => cbv
 refine RetF.mk [.p (.bool true)] [] 0 (Re.at [] []) rfl ⟨rfl,rfl,rfl⟩
theorem Many.words {N W : Int} {s t : Hst} {n : Nat} {out : List Gn} (hW : W = 32 * N) (hg : Good N s) (hm : Many W s n out t) : ∀ g ∈ out,(g.2.2.1.length : Int) < 1000000 := by
 induction hm with
 | zero => intro g hg; cases hg
 | succ n out o2 t u hm hp hs ih =>
  intro g hgm
  rcases List.mem_append.1 hgm with h | h
  ·exact ih g h
  ·exact (stepd_words (hm.good hW hg).1.a hs).2 g h
theorem Tried.words {N W : Int} {l : List (Int × Int)} {A : List Int} {s t : Hst} {b : Bool} {x : List Int} {o : List Gn} (hW : W = 32 * N) (hg : Good N s) (h : Tried W l A s b x o t) : ∀ g ∈ o,(g.2.2.1.length : Int) < 1000000 := by
 cases h with
 | quick x t h => intro g hg; cases hg
 | forced b x o1 o2 k1 k2 t1 t2 t3 t4 t5 h1 h2 p2 h3 h4 p4 h5 =>
  have g1 := (h1.good hg).1
  have g2 := (h2.good hW g1).1
  have g3 := h3.good hW g2
  intro g hgm
  rcases List.mem_append.1 hgm with h | h
  ·exact h2.words hW g1 g h
  ·exact h4.words hW g3 g h
theorem Alcd.words {N W st : Int} {n : Nat} {l : List (Int × Int)} {A : List Int} {s t : Hst} {x : List Int} {o : List Gn} {e : Int} (hW : W = 32 * N) (hg : Good N s) (h : Alcd W st n l A s x o e t) : (o.length : Int) < 1000000 ∧ ∀ g ∈ o,(g.2.2.1.length : Int) < 1000000 := by
 cases h with
 | ok x o1 o2 t0 t1 t h0 h1 h2 =>
  have g0 := (h0.good hW hg).1
  obtain ⟨g1,_,_,l1⟩ := h1.good hW g0
  obtain ⟨g2,_,l2⟩ := h2.good hW g1
  obtain ⟨k,_,hm,_⟩ := h2
  refine ⟨by rw [List.length_append]; omega,fun g hgm => ?_⟩
  rcases List.mem_append.1 hgm with h | h
  ·exact h1.words hW g0 g h
  ·exact hm.words hW g1 g h
 | room x o t0 t h0 h1 =>
  have g0 := (h0.good hW hg).1
  obtain ⟨g1,_,_,l1⟩ := h1.good hW g0
  exact ⟨by omega,h1.words hW g0⟩
theorem Good.store21 {N : Int} {R : List Rw} {ws ws' C C' G G' : List Int} {ov ov' : Bool} {ph sp cy e w : Int} (h : Good N ⟨R,ws,C,G,ov,ph,sp,cy⟩) (hA : AOk R ws') (hl : (C'.length : Int) = 32 * N) (hc : (C',G',ov') = storeS R ph e w (C,G,ov)) : Good N ⟨R,ws',C',G',ov',ph,sp,cy⟩ := by
 refine ⟨hA,h.n,h.n1,h.n2,hl,?_,h.p,h.y⟩
 rcases h.i with h0 | h1
 ·exact .inl h0
 ·refine .inr ?_
  rcases h1 with ⟨h2,h3,h4⟩ | ⟨h2,h3,h4⟩ | ⟨h2,h3⟩
  ·have k1 : C' = (storeS R ph e w (C,G,ov)).1 := congrArg Prod.fst hc
   have k2 : G' = (storeS R ph e w (C,G,ov)).2.1 := congrArg (fun x => x.2.1) hc
   refine .inl ⟨h2,?_,rfl⟩
   show GOk R C' G'
   rw [k1,k2]
   unfold storeS
   split
   ·exact shadeW_gok h3
   ·exact h3
  ·exact .inr (.inl ⟨h2,h3,h4⟩)
  ·exact absurd h3 (by decide)
theorem i64V16 {a : Int} (h : (Lit.int .i64 a).wf = true) : -9223372036854775808 ≤ a ∧ a ≤ 9223372036854775807 := by
 simpa [Lit.wf,IntKind.min,IntKind.max,IntKind.signed,IntKind.bits] using h
theorem Sim.new21 (n : Nat) : Sim (List.replicate n (0,[])) (List.replicate (32 * n) 0) (List.replicate (32 * n) 0) :=
 ⟨AOk.new n,AOk.new n,fun _ _ _ h => absurd h.obj6 (new_none n _),fun _ _ _ _ h => absurd h.obj6 (new_none n _)⟩
theorem storePlays_law (o : Unit → Obj) (ho : IsPow o) (a0 b0 d0 k1 : Int) (raw : Bool) (ops : List OpD) (L1 : List PV) (hk1 : k1 = ops.length) (hL1 : L1 = opV ops) (hkb : k1 ≤ 9223372036854775807) (hob : ∀ x ∈ ops,x.wf ∧ (∀ c ∈ x.l,PrWf c) ∧ x.l.length ≤ maxLen) : CallF (fun _ => Tryz.prog) 3 [.agg [i6 a0,i6 b0,i6 d0],.p (.bool raw),.p (.vsl (.sym k1) true L1)] [(0,.fix 0 o)] 1 (fun r _ _ => r = .p (.bool true)) := by
 have hL1l : L1.length = 5 * ops.length := by rw [hL1,opV_length]
 refine callF_of_bodyB tok Tryz.func3 (by kernel_rfl) rfl rfl rfl [13,15] ?_; conv => cbv
 refine cfr (config21_lx a0 b0 d0) [] (fun r h' n' hrr => ?_)
 obtain ⟨⟨c0,st,as_,e1,g0,g1,g2,g3,g4,g5⟩,e2,e3⟩ := hrr
 subst e1 e2 e3
 conv => cbv
 refine Sum.mk fun t5 ht5 => ?_
 have ht5 : t5 = c0 % 6 := (show t5 = c0.tmod 6 from ht5).trans (Int.tmod_eq_emod_of_nonneg (by omega))
 conv => cbv
 refine Fit.mk (by show (-9223372036854775808 : Int) ≤ 2 + t5; omega) (by show 2 + t5 ≤ 9223372036854775807; omega) fun N hN => ?_
 have hN : N = 2 + t5 := hN
 have hN2 : 2 ≤ N := by omega
 have hN5 : N ≤ 7 := by omega
 clear hN ht5
 conv => cbv
 have hCO : COk N st as_ := ⟨by omega,by omega,by omega,by omega⟩
 obtain ⟨z0,hz0⟩ : ∃ z0 : ByteArray,z0 = ⟨(enc []).toArray⟩ := ⟨_,rfl⟩
 obtain ⟨W,hW⟩ : ∃ W : Int,W = 32 * N := ⟨_,rfl⟩
 obtain ⟨L0,hL0⟩ : ∃ L0,L0 = rpv (List.replicate N.toNat ((0,[]) : Rw)) := ⟨_,rfl⟩
 obtain ⟨D0,hD0⟩ : ∃ D0,D0 = ipv (List.replicate W.toNat (0 : Int)) := ⟨_,rfl⟩
 have hM0 := HM.new (by omega : 2 ≤ N) (by omega) hW hL0 hD0 hD0 hz0
 obtain ⟨R0,hR0⟩ : ∃ R0,R0 = List.replicate N.toNat ((0,[]) : Rw) := ⟨_,rfl⟩
 obtain ⟨ws0,hws0⟩ : ∃ ws0,ws0 = List.replicate W.toNat (0 : Int) := ⟨_,rfl⟩
 rw [← hR0,← hws0] at hM0
 have hB0 : Bare0 N ⟨R0,ws0,ws0,[],false,0,0,0⟩ := ⟨hM0.good false 0 0 (by omega) (by omega) ⟨by omega,by omega⟩ (by omega),hR0,rfl⟩
 refine cfr (newS_lx N W st as_ hCO (by omega) (by omega) hW L0 D0 D0 z0 hL0 hD0 hD0 hz0) [] (fun r h' n' ⟨e1,e2,e3⟩ => ?_)
 subst e1 e2 e3
 conv => cbv
 refine cfr (rNewStore_lx N W st as_ hCO hN2 (by omega) hW) [] (fun r h' n' hrr => ?_)
 obtain ⟨P0,B0,V0,Q0,e1,e2,e3,hR0m⟩ := hrr
 subst e1 e2 e3
 conv => cbv
 refine cfr (awake21_lx o ho) [(0,0)] (fun r h' n' ⟨e1,e2,e3⟩ => ?_)
 subst e1 e2 e3
 conv => cbv
 have hS0 : Sim R0 ws0 ws0 := by rw [hR0,hws0,show W.toNat = 32 * N.toNat by omega]; exact Sim.new21 _
 rw [← hR0,← hws0] at hR0m
 refine LoopF.mk (fun kk s => ∃ (i jr : Int) (cr : List PV) (A : List Int) (ph sp cy m : Int) (R : List Rw) (ws vs C G : List Int) (L D Q : List PV) (z : ByteArray) (ov : Bool) (P B V Qr la : List PV),s = ⟨.undef :: .p (.bool raw) :: .p (.vsl (.sym k1) true L1) :: (undefs 4 ++ .ptr 1 (.lit 0) :: .undef :: .ptr 9 (.lit 0) :: .undef :: .p (.vsl (.sym jr) true cr) :: .p (.int .i64 (.sym i)) :: undefs 168),[(1,.mix [.ptr 2 (.lit 0),i6 st,i6 as_]),hpA 2 3 7 8 3 W ph sp cy,hpB 3 4 6 3 W,hpC 4 5 270 2 N,hpP 5 L,hpP 6 D,hpF 7 z ov,hpP 8 Q,(9,.mix [.ptr 10 (.lit 0),i6 N,i6 st,i6 as_]),hpR 10 11 16 3 W 17 ph sp cy,hpB 11 12 15 3 W,hpD 12 13 3 1 N 14 203 8 N,hpP 13 P,hpP 14 B,hpP 15 V,hpP 16 Qr,(17,.mix [.p (.vsl (.sym m) true la),.p (.bool ov)]),(0,.fix 0 o)],18⟩ ∧ HM R ws C G N W L D Q z ∧ RM R vs C G N W P B V Qr la m ∧ Sim R ws vs ∧ Good N ⟨R,ws,C,G,ov,ph,sp,cy⟩ ∧ cr = ipv A ∧ jr = A.length ∧ A.length ≤ 2 ∧ 0 ≤ i ∧ i ≤ 50 ∧ cy ≤ 10000 * i ∧ kk = (50 - i).toNat) 50 _
  (Re.at [(0,0),(2,1),(3,2),(4,3),(5,4),(6,5),(7,6),(8,7),(9,8),(10,9),(11,10),(12,11),(13,12),(14,13),(15,14),(16,15),(17,16),(18,17)] []) ⟨0,0,[],[],0,0,0,0,R0,ws0,ws0,ws0,[],L0,D0,D0,z0,false,P0,B0,V0,Q0,[],rfl,hM0,hR0m,hS0,hB0.g,rfl,rfl,by decide,by omega,by omega,by omega,rfl⟩ ?_
 clear hM0 hR0m hS0 hL0 hD0 hz0
 clear hB0 hR0 hws0
 rintro kk s ⟨i,jr,cr,A,ph,sp,cy,m,R,ws,vs,C,G,L,D,Q,z,ov,P,B,V,Qr,la,rfl,h,hr,hS,hg,hcr,hjr,hAl,hi0,hi1,hcyb,hkk⟩
 have hsp : 0 ≤ sp ∧ sp ≤ N := hg.p
 have hy0 : 0 ≤ cy := hg.y
 conv => cbv
 refine Br.mk (fun gi => ?_) (fun gi => ?_)
 case refine_2 =>
  conv => cbv
  refine RetF.mk [.p (.bool true)] [(0,.fix 0 o)] 1 (Re.at [(0,0)] []) rfl rfl
 have gi : i < k1 := gi
 conv => cbv
 refine Br.mk (fun gi2 => ?_) (fun gi2 => ?_)
 case refine_2 =>
  conv => cbv
  refine RetF.mk [.p (.bool true)] [(0,.fix 0 o)] 1 (Re.at [(0,0)] []) rfl rfl
 have gi2 : i < 50 := gi2
 obtain ⟨⟨kd,oo,ot,oi,on⟩,ho6⟩ : ∃ o,ops[i.toNat]? = some o := ⟨_,List.getElem?_eq_getElem (by omega)⟩
 have hb6 := hob _ (List.mem_of_getElem? ho6)
 obtain ⟨c0,c1,c2,c3,c4⟩ := opV_get ops i.toNat _ ho6
 rw [← hL1] at c0 c1 c2 c3 c4
 dsimp only at c0 c1 c2 c3 c4 hb6
 obtain ⟨⟨hkd,hoo,hot,hoi⟩,hpw,honl⟩ := hb6
 have hkd := i64V16 hkd
 have hoo := i64V16 hoo
 have hot := i64V16 hot
 have hoi := i64V16 hoi
 dsimp only at hkd hoo hot hoi
 obtain ⟨ml,hml⟩ : ∃ m : Int,m = on.length := ⟨_,rfl⟩
 obtain ⟨cl,hcl⟩ : ∃ c,c = twosP on := ⟨_,rfl⟩
 rw [← hml,← hcl] at c4
 conv => cbv
 refine Need.mk ⟨hi0,by show i < k1; omega⟩ ?_
 conv => cbv
 refine Sum.mk fun w hw => ?_
 have hw : w = i * 5 := hw
 conv => cbv
 refine Cell.at (w + 0) _ c0 rfl (by omega) ?_
 conv => cbv
 refine Cell.at (w + 1) _ c1 rfl (by omega) ?_
 conv => cbv
 refine Cell.at (w + 2) _ c2 rfl (by omega) ?_
 conv => cbv
 refine Cell.at (w + 3) _ c3 rfl (by omega) ?_
 conv => cbv
 refine Cell.at (w + 4) _ c4 rfl (by omega) ?_
 conv => cbv
 refine JoinF.mk (fun s => ∃ (jr : Int) (cr : List PV) (A : List Int) (ph sp cy m : Int) (R : List Rw) (ws vs C G : List Int) (L D Q : List PV) (z : ByteArray) (ov : Bool) (P B V Qr la : List PV),s = ⟨.undef :: .p (.bool raw) :: .p (.vsl (.sym k1) true L1) :: (undefs 4 ++ .ptr 1 (.lit 0) :: .undef :: .ptr 9 (.lit 0) :: .undef :: .p (.vsl (.sym jr) true cr) :: .p (.int .i64 (.sym i)) :: .undef :: .p (.bool true) :: undefs 166),[(1,.mix [.ptr 2 (.lit 0),i6 st,i6 as_]),hpA 2 3 7 8 3 W ph sp cy,hpB 3 4 6 3 W,hpC 4 5 270 2 N,hpP 5 L,hpP 6 D,hpF 7 z ov,hpP 8 Q,(9,.mix [.ptr 10 (.lit 0),i6 N,i6 st,i6 as_]),hpR 10 11 16 3 W 17 ph sp cy,hpB 11 12 15 3 W,hpD 12 13 3 1 N 14 203 8 N,hpP 13 P,hpP 14 B,hpP 15 V,hpP 16 Qr,(17,.mix [.p (.vsl (.sym m) true la),.p (.bool ov)]),(0,.fix 0 o)],18⟩ ∧ HM R ws C G N W L D Q z ∧ RM R vs C G N W P B V Qr la m ∧ Sim R ws vs ∧ Good N ⟨R,ws,C,G,ov,ph,sp,cy⟩ ∧ cr = ipv A ∧ jr = A.length ∧ A.length ≤ 2 ∧ cy ≤ 10000 * (i + 1)) ?_ ?_
 ·conv => cbv
  refine Br.mk (fun qk => ?_) (fun qk => ?_)
  ·conv => cbv
   by_cases hph : ph = 0
   ·refine cfr (collectS_idle R ws C G N W ph sp cy L D Q z ov h o ho st as_ hph A jr cr hcr hjr (by omega)) [(0,1),(1,2),(2,3),(3,4),(4,5),(5,6),(6,7),(7,8),(8,0)] (fun r h' n' hrr => ?_)
    obtain ⟨C3,G3,ov3,Q3,z3,e1,e2,e3,h3,hb3⟩ := hrr
    subst e1 e2 e3
    conv => cbv
    refine cfr (rCollect_idle R vs C G N W ph sp cy P B V Qr la m ov hr st as_ hph A jr cr hcr hjr (by omega)) [(0,9),(1,10),(2,11),(3,12),(4,13),(5,14),(6,15),(7,16),(8,17)] (fun r h' n' hrr => ?_)
    obtain ⟨C4,G4,ov4,Q4,la4,m4,e1,e2,e3,h4,hb4⟩ := hrr
    subst e1 e2 e3
    conv => cbv
    have h3e : C3 = C4 ∧ G3 = G4 ∧ ov3 = ov4 := three_eq hb3.b hb4
    obtain ⟨q1,q2,q3⟩ := h3e
    subst q1 q2 q3
    refine callF_frame goneNil21_lx [] rfl (by simp [hmapOk,nget,hget,renB,okB,renV,renVs,rn,okVs,okV]) rfl rfl (fun r h' n' ⟨e1,e2,e3⟩ => ?_)
    subst e1 e2 e3
    conv => cbv
    refine Joined.mk _ (Re.at [(0,0),(1,1),(2,2),(3,3),(4,4),(5,5),(6,6),(8,8),(9,9),(10,10),(11,11),(12,12),(13,13),(14,14),(15,15),(16,16),(19,7),(20,17)] []) ⟨jr,cr,A,1,sp,cy,m4,R,ws,vs,C3,G3,L,D,Q3,z3,ov3,P,B,V,Q4,la4,rfl,h3,h4,hS,hb3.good h.w hg,hcr,hjr,hAl,by omega⟩
   ·refine cfr (collectS_step R ws C G N W ph sp cy L D Q z ov h o ho st as_ hph ⟨by omega,by omega⟩ ⟨by omega,by omega⟩ jr cr) [(0,1),(1,2),(2,3),(3,4),(4,5),(5,6),(6,7),(7,8),(8,0)] (fun r h' n' hrr => ?_)
    obtain ⟨out,mg,cells,Rh,wh,Ch,Gh,ovh,ph2,sp2,cy2,Lh,Dh,Qh,zh,e1,e2,e3,h3,hcs,hmg,hst⟩ := hrr
    subst e1 e2 e3
    conv => cbv
    refine cfr (rCollect_step R vs C G N W ph sp cy P B V Qr la m ov hr st as_ hph ⟨by omega,by omega⟩ ⟨by omega,by omega⟩ A jr cr hcr hjr (by omega)) [(0,9),(1,10),(2,11),(3,12),(4,13),(5,14),(6,15),(7,16),(8,17)] (fun r h' n' hrr => ?_)
    obtain ⟨out2,mg2,cells2,ph3,sp3,cy3,R3,vs3,C3,G3,ov3,P3,B3,V3,Q3,la3,m3,e1,e2,e3,h4,hcs2,hmg2,hst2⟩ := hrr
    subst e1 e2 e3
    conv => cbv
    obtain ⟨eo,hsm⟩ := Sm.stp (s := ⟨R,ws,C,G,ov,ph,sp,cy⟩) (u := ⟨R,vs,C,G,ov,ph,sp,cy⟩) ⟨rfl,rfl,rfl,rfl,rfl,rfl,rfl,hS⟩ hsp.1 hst hst2
    obtain ⟨m1,m2,m3e,m4,m5,m6,m7,hS2⟩ := hsm
    have m1 : Rh = R3 := m1.symm
    subst m1
    have m2 : Ch = C3 := m2.symm
    subst m2
    have m3e : Gh = G3 := m3e.symm
    subst m3e
    have m4 : ovh = ov3 := m4.symm
    subst m4
    have m5 : ph2 = ph3 := m5.symm
    subst m5
    have m6 : sp2 = sp3 := m6.symm
    subst m6
    have m7 : cy2 = cy3 := m7.symm
    subst m7
    subst eo
    obtain ⟨hg2,_,hcy2,_⟩ := hg.step h.w hph hst
    have hcy2 : cy2 ≤ cy + 1 := hcy2
    obtain ⟨hw1,hw2⟩ := stepd_words hg.a (show Stepd R ws C G ov ph sp cy W out Rh wh Ch Gh ovh ph2 sp2 cy2 from hst)
    have hce : cells = cells2 := hcs.trans hcs2.symm
    have hme : mg = mg2 := hmg.trans hmg2.symm
    subst hce hme
    refine cfr (sameGone_lx out mg cells hmg hcs hw1 hw2) [] (fun r h' n' ⟨e1,e2,e3⟩ => ?_)
    subst e1 e2 e3
    conv => cbv
    refine Joined.mk _ (Re.at [(0,0),(1,1),(2,2),(3,3),(4,4),(5,5),(6,6),(8,8),(9,9),(10,10),(11,11),(12,12),(13,13),(14,14),(15,15),(16,16),(7,7),(17,17)] []) ⟨jr,cr,A,ph2,sp2,cy2,m3,Rh,wh,vs3,Ch,Gh,Lh,Dh,Qh,zh,ovh,P3,B3,V3,Q3,la3,rfl,h3,h4,hS2,hg2,hcr,hjr,hAl,by omega⟩
  ·conv => cbv
   refine Br.mk (fun qk2 => ?_) (fun qk2 => ?_)
   ·conv => cbv
    refine drawn_sound tok (by kernel_rfl) [(6,[19,18,17,16,15,12,11,10,9,8,7]),(13,[19,18,17,16,15]),(14,[19,18,17,16,15])] [0,1,2,3,4,5,7,8,9,10,11,12,15,16,17,18,19,6,13,14,20,21,22] (by kernel_rfl) ?_; conv => cbv
    refine Fit.wrap fun xa hxa => ?_
    have hxa0 : 0 ≤ xa := by rw [show xa = IntKind.u64.wrap oi from hxa]; simp [IntKind.wrap,IntKind.bits,IntKind.signed]; omega
    clear hxa
    conv => cbv
    refine Sum.mk fun ya hya => ?_
    have hya : ya = xa % 10 := (show ya = xa.tmod 10 from hya).trans (Int.tmod_eq_emod_of_nonneg hxa0)
    conv => cbv
    refine Fit.mk (by show (-9223372036854775808 : Int) ≤ ya; omega) (by show ya ≤ 9223372036854775807; omega) fun ix hix => ?_
    have hix : ix = ya := hix
    conv => cbv
    refine cfr (pick21_lx R vs C G N W ph sp cy P B V Qr la m ov hr oo hoo) [(0,10),(1,11),(2,12),(3,13),(4,14),(5,15),(6,16),(7,17)] (fun r h' n' hrr => ?_)
    obtain ⟨pa,e1,e2,e3,hpa0,hpa1⟩ := hrr
    subst e1 e2 e3
    conv => cbv
    refine cfr (pick21_lx R vs C G N W ph sp cy P B V Qr la m ov hr ot hot) [(0,10),(1,11),(2,12),(3,13),(4,14),(5,15),(6,16),(7,17)] (fun r h' n' hrr => ?_)
    obtain ⟨pt,e1,e2,e3,hpt0,hpt1⟩ := hrr
    subst e1 e2 e3
    conv => cbv
    refine callF_frame (rPtr_lx pt ⟨by omega,by omega⟩) [] rfl trivial rfl rfl (fun r h' n' hrr => ?_)
    obtain ⟨v,e1,e2,e3,hv⟩ := hrr
    subst e1 e2 e3
    conv => cbv
    have hvb : -9223372036854775808 ≤ v ∧ v ≤ 9223372036854775807 := ⟨by omega,by omega⟩
    refine drawn_sound tok (by kernel_rfl) [(1,[12,11,10,9,8,7,6,4,3,2]),(5,[12,11,10,9,8,7,6]),(13,[])] [0,2,3,4,6,7,8,9,10,11,12,1,5,13,14,15] (by kernel_rfl) ?_; conv => cbv
    refine cfr (heapS_lx R ws C G N W ph sp cy L D Q z ov st as_) [(0,1),(1,2),(2,3),(3,4),(4,5),(5,6),(6,7),(7,8)] (fun r h' n' ⟨e1,e2,e3⟩ => ?_)
    subst e1 e2 e3
    conv => cbv
    refine cfr (store9_lx R ws C G N W ph sp cy L D Q z ov h o ho pa ix v hvb) [(0,2),(1,3),(2,4),(3,5),(4,6),(5,7),(6,8),(7,0)] (fun r h' n' hrr => ?_)
    obtain ⟨e,ws',C1,G1,ov1,D',Q',z',e1,e2,e3,h2,hT,hC⟩ := hrr
    subst e1 e2 e3
    conv => cbv
    refine cfr (rstore9_lx R vs C G N W ph sp cy P B V Qr la m ov hr pa ix v hvb) [(0,10),(1,11),(2,12),(3,13),(4,14),(5,15),(6,16),(7,17)] (fun r h' n' hrr => ?_)
    obtain ⟨e',vs',C2,G2,ov2,V',Qr',la',m',e1,e2,e3,h3,hT2,hC2⟩ := hrr
    subst e1 e2 e3
    conv => cbv
    have hss := hS.store hvb hT hT2
    have h3e := three_eq hC (hss.1 ▸ hC2)
    obtain ⟨q1,q2,q3⟩ := h3e
    subst q1 q2 q3
    have hee : e = e' := hss.1
    subst hee
    refine Br.yes rfl ?_
    conv => cbv
    refine Joined.mk _ (Re.at [(0,0),(1,1),(2,2),(3,3),(4,4),(5,5),(6,6),(8,8),(9,9),(10,10),(11,11),(12,12),(13,13),(14,14),(15,15),(16,16),(7,7),(17,17)] []) ⟨jr,cr,A,ph,sp,cy,m',R,ws',vs',C1,G1,L,D',Q',z',ov1,P,B,V',Qr',la',rfl,h2,h3,hss.2,hg.store21 h2.a (by have k1 := h2.c; have k2 := h2.w; omega) hC,hcr,hjr,hAl,by omega⟩
   ·conv => cbv
    refine Br.mk (fun qk3 => ?_) (fun qk3 => ?_)
    ·conv => cbv
     refine drawn_sound tok (by kernel_rfl) [(6,[12,11,10,9,8,7]),(13,[]),(14,[])] [0,1,2,3,4,5,7,8,9,10,11,12,6,13,14,15] (by kernel_rfl) ?_; conv => cbv
     refine cfr (pick21_lx R vs C G N W ph sp cy P B V Qr la m ov hr oo hoo) [(0,10),(1,11),(2,12),(3,13),(4,14),(5,15),(6,16),(7,17)] (fun r h' n' hrr => ?_)
     obtain ⟨pa,e1,e2,e3,hpa0,hpa1⟩ := hrr
     subst e1 e2 e3
     conv => cbv
     refine cfr (pick21_lx R vs C G N W ph sp cy P B V Qr la m ov hr ot hot) [(0,10),(1,11),(2,12),(3,13),(4,14),(5,15),(6,16),(7,17)] (fun r h' n' hrr => ?_)
     obtain ⟨pt,e1,e2,e3,hpt0,hpt1⟩ := hrr
     subst e1 e2 e3
     conv => cbv
     refine Joined.mk _ (Re.at [(0,0),(1,1),(2,2),(3,3),(4,4),(5,5),(6,6),(8,8),(9,9),(10,10),(11,11),(12,12),(13,13),(14,14),(15,15),(16,16),(7,7),(17,17)] []) ⟨2,[.int .i64 (.sym pa),.int .i64 (.sym pt)],[pa,pt],ph,sp,cy,m,R,ws,vs,C,G,L,D,Q,z,ov,P,B,V,Qr,la,rfl,h,hr,hS,hg,rfl,rfl,by simp,by omega⟩
    ·conv => cbv
     have hmlb : ml ≤ 9223372036854775807 := by unfold maxLen at honl; omega
     refine cfr (needs21_lx on ml cl hml hcl hmlb) [] (fun r h' n' hrr => ?_)
     obtain ⟨l2,m2,T2,e1,e2,e3,hT2,hm2,hl2⟩ := hrr
     subst e1 e2 e3
     conv => cbv
     refine JoinF.mk (fun s => ∃ (lx : List (Int × Int)) (kx : Int) (cx : List PV),s = ⟨.undef :: .p (.bool raw) :: .p (.vsl (.sym k1) true L1) :: (undefs 4 ++ .ptr 1 (.lit 0) :: .undef :: .ptr 9 (.lit 0) :: .undef :: .p (.vsl (.sym jr) true cr) :: .p (.int .i64 (.sym i)) :: .undef :: .p (.bool true) :: (undefs 3 ++ .p (.vsl (.sym kx) true cx) :: undefs 162)),[(1,.mix [.ptr 2 (.lit 0),i6 st,i6 as_]),hpA 2 3 7 8 3 W ph sp cy,hpB 3 4 6 3 W,hpC 4 5 270 2 N,hpP 5 L,hpP 6 D,hpF 7 z ov,hpP 8 Q,(9,.mix [.ptr 10 (.lit 0),i6 N,i6 st,i6 as_]),hpR 10 11 16 3 W 17 ph sp cy,hpB 11 12 15 3 W,hpD 12 13 3 1 N 14 203 8 N,hpP 13 P,hpP 14 B,hpP 15 V,hpP 16 Qr,(17,.mix [.p (.vsl (.sym m) true la),.p (.bool ov)]),(0,.fix 0 o)],18⟩ ∧ kx = lx.length ∧ cx = twosP lx ∧ lx.length ≤ 5) ?_ ?_
     ·cases raw with
      | false =>
       conv => cbv
       refine Joined.mk _ (Re.at [(0,0),(1,1),(2,2),(3,3),(4,4),(5,5),(6,6),(7,7),(8,8),(9,9),(10,10),(11,11),(12,12),(13,13),(14,14),(15,15),(16,16),(17,17)] []) ⟨l2,m2,T2,rfl,hm2,hT2,by omega⟩
      | true =>
       conv => cbv
       refine Br.mk (fun ql => ?_) (fun ql => ?_)
       ·have ql : ml ≤ 5 := ql
        conv => cbv
        refine Joined.mk _ (Re.at [(0,0),(1,1),(2,2),(3,3),(4,4),(5,5),(6,6),(7,7),(8,8),(9,9),(10,10),(11,11),(12,12),(13,13),(14,14),(15,15),(16,16),(17,17)] []) ⟨on,ml,cl,rfl,hml,hcl,by omega⟩
       ·conv => cbv
        refine Joined.mk _ (Re.at [(0,0),(1,1),(2,2),(3,3),(4,4),(5,5),(6,6),(7,7),(8,8),(9,9),(10,10),(11,11),(12,12),(13,13),(14,14),(15,15),(16,16),(17,17)] []) ⟨l2,m2,T2,rfl,hm2,hT2,by omega⟩
     rintro s ⟨lx,kx,cx,rfl,hkx,hcx,hlx⟩
     conv => cbv
     refine cfr (alloc21_lx R ws C G N W ph sp cy L D Q z ov h o ho st as_ hCO hg (by omega) lx kx cx hkx hcx (by omega) A jr cr hcr hjr (by omega)) [(0,1),(1,2),(2,3),(3,4),(4,5),(5,6),(6,7),(7,8),(8,0)] (fun r h' n' hrr => ?_)
     rcases hrr with ⟨e1,hbad,e2,e3⟩ | ⟨X,x,out,e,mx,mg,T,cellsh,Rh,wh,Ch,Gh,ovh,ph2,sp2,cy2,Lh,Dh,Qh,zh,e1,hX,hh,h3,hT,hmx,hcg,hmg,hAl2⟩
     ·subst e1 e2 e3
      conv => cbv
      refine cfr (rAllocArg_lx R vs C G N W ph sp cy P B V Qr la m ov hr st as_ lx kx cx hkx hcx (by omega) hbad jr cr) [(0,9),(1,10),(2,11),(3,12),(4,13),(5,14),(6,15),(7,16),(8,17)] (fun r h' n' ⟨e1,e2,e3⟩ => ?_)
      subst e1 e2 e3
      conv => cbv
      refine callF_frame plainNil21_lx [] rfl (by simp [hmapOk,nget,hget,renB,okB,renV,renVs,rn,okVs,okV]) rfl rfl (fun r h' n' ⟨e1,e2,e3⟩ => ?_)
      subst e1 e2 e3
      conv => cbv
      refine callF_frame goneNil21_lx [] rfl (by simp [hmapOk,nget,hget,renB,okB,renV,renVs,rn,okVs,okV]) rfl rfl (fun r h' n' ⟨e1,e2,e3⟩ => ?_)
      subst e1 e2 e3
      conv => cbv
      refine Joined.mk _ (Re.at [(0,0),(1,1),(2,2),(3,3),(4,4),(5,5),(6,6),(8,8),(9,9),(10,10),(11,11),(12,12),(13,13),(14,14),(15,15),(16,16),(7,7),(17,17)] []) ⟨jr,cr,A,ph,sp,cy,m,R,ws,vs,C,G,L,D,Q,z,ov,P,B,V,Qr,la,rfl,h,hr,hS,hg,hcr,hjr,hAl,by omega⟩
     ·have hsm0 : Sm ⟨R,ws,C,G,ov,ph,sp,cy⟩ ⟨R,vs,C,G,ov,ph,sp,cy⟩ := ⟨rfl,rfl,rfl,rfl,rfl,rfl,rfl,hS⟩
      obtain ⟨hg2,hcy2,hxe,hol⟩ := hAl2.good h.w hg
      have hcy2 : cy2 ≤ cy + 7000 := hcy2
      obtain ⟨hw1,hw2⟩ := hAl2.words h.w hg
      have hxl : (x.length : Int) < 1000000 := by
       have hz : ((lx.map Prod.fst).zip X).length ≤ lx.length := by rw [List.length_zip,List.length_map]; exact Nat.min_le_left _ _
       rcases hxe with ⟨_,q⟩ | ⟨_,q⟩
       ·omega
       ·rw [q]; decide
      rcases hh with ⟨e2,e3⟩ | ⟨e2,e3,_⟩
      ·subst e1 e2 e3
       conv => cbv
       refine cfr (rAlloc21_lx R vs C G N W ph sp cy P B V Qr la m ov hr st as_ hCO ⟨R,ws,C,G,ov,ph,sp,cy⟩ ⟨Rh,wh,Ch,Gh,ovh,ph2,sp2,cy2⟩ hsm0 hg (by show cy ≤ 700000000; omega) lx X x out e kx cx hkx hcx hX (by omega) A jr cr hcr hjr (by omega) hAl2) [(0,9),(1,10),(2,11),(3,12),(4,13),(5,14),(6,15),(7,16),(8,17)] (fun r h' n' hrr => ?_)
       obtain ⟨mx3,mg3,T3,cells3,ph3,sp3,cy3,R3,vs3,C3,G3,ov3,P3,B3,V3,Q3,la3,m3,e1,hh2,h4,hT3,hmx3,hcg3,hmg3,hsm⟩ := hrr
       obtain ⟨m1,m2e,m3e,m4,m5,m6,m7,hS2⟩ := hsm
       have m1 : Rh = R3 := m1.symm
       subst m1
       have m2e : Ch = C3 := m2e.symm
       subst m2e
       have m3e : Gh = G3 := m3e.symm
       subst m3e
       have m4 : ovh = ov3 := m4.symm
       subst m4
       have m5 : ph2 = ph3 := m5.symm
       subst m5
       have m6 : sp2 = sp3 := m6.symm
       subst m6
       have m7 : cy2 = cy3 := m7.symm
       subst m7
       have hce : cellsh = cells3 := hcg.trans hcg3.symm
       have hme : mg = mg3 := hmg.trans hmg3.symm
       have hmxe : mx = mx3 := hmx.trans hmx3.symm
       subst hce hme hmxe
       rcases hh2 with ⟨e2,e3⟩ | ⟨e2,e3⟩
       ·subst e1 e2 e3
        conv => cbv
        refine cfr (plainE21 x mx T T3 hmx hT hT3 hxl) [] (fun r h' n' ⟨e1,e2,e3⟩ => ?_)
        subst e1 e2 e3
        conv => cbv
        refine cfr (sameGone_lx out mg cellsh hmg hcg hw1 hw2) [] (fun r h' n' ⟨e1,e2,e3⟩ => ?_)
        subst e1 e2 e3
        conv => cbv
        refine Br.yes rfl ?_
        conv => cbv
        refine Joined.mk _ (Re.at [(0,0),(1,1),(2,2),(3,3),(4,4),(5,5),(6,6),(8,8),(9,9),(10,10),(11,11),(12,12),(13,13),(14,14),(15,15),(16,16),(7,7),(17,17)] []) ⟨jr,cr,A,ph2,sp2,cy2,m3,Rh,wh,vs3,Ch,Gh,Lh,Dh,Qh,zh,ovh,P3,B3,V3,Q3,la3,rfl,h3,h4,hS2,hg2,hcr,hjr,hAl,by omega⟩
       ·subst e1 e2 e3
        conv => cbv
        refine cfr (plainE21 x mx T T3 hmx hT hT3 hxl) [] (fun r h' n' ⟨e1,e2,e3⟩ => ?_)
        subst e1 e2 e3
        conv => cbv
        refine cfr (sameGone_lx out mg cellsh hmg hcg hw1 hw2) [] (fun r h' n' ⟨e1,e2,e3⟩ => ?_)
        subst e1 e2 e3
        conv => cbv
        refine Br.yes rfl ?_
        conv => cbv
        refine Joined.mk _ (Re.at [(0,0),(1,1),(2,2),(3,3),(4,4),(5,5),(6,6),(8,8),(9,9),(10,10),(11,11),(12,12),(13,13),(14,14),(15,15),(16,16),(7,7),(18,17)] []) ⟨jr,cr,A,ph2,sp2,cy2,m3,Rh,wh,vs3,Ch,Gh,Lh,Dh,Qh,zh,ovh,P3,B3,V3,Q3,la3,rfl,h3,h4,hS2,hg2,hcr,hjr,hAl,by omega⟩
      ·subst e1 e2 e3
       conv => cbv
       refine cfr (rAlloc21_lx R vs C G N W ph sp cy P B V Qr la m ov hr st as_ hCO ⟨R,ws,C,G,ov,ph,sp,cy⟩ ⟨Rh,wh,Ch,Gh,ovh,ph2,sp2,cy2⟩ hsm0 hg (by show cy ≤ 700000000; omega) lx X x out e kx cx hkx hcx hX (by omega) A jr cr hcr hjr (by omega) hAl2) [(0,9),(1,10),(2,11),(3,12),(4,13),(5,14),(6,15),(7,16),(8,17)] (fun r h' n' hrr => ?_)
       obtain ⟨mx3,mg3,T3,cells3,ph3,sp3,cy3,R3,vs3,C3,G3,ov3,P3,B3,V3,Q3,la3,m3,e1,hh2,h4,hT3,hmx3,hcg3,hmg3,hsm⟩ := hrr
       obtain ⟨m1,m2e,m3e,m4,m5,m6,m7,hS2⟩ := hsm
       have m1 : Rh = R3 := m1.symm
       subst m1
       have m2e : Ch = C3 := m2e.symm
       subst m2e
       have m3e : Gh = G3 := m3e.symm
       subst m3e
       have m4 : ovh = ov3 := m4.symm
       subst m4
       have m5 : ph2 = ph3 := m5.symm
       subst m5
       have m6 : sp2 = sp3 := m6.symm
       subst m6
       have m7 : cy2 = cy3 := m7.symm
       subst m7
       have hce : cellsh = cells3 := hcg.trans hcg3.symm
       have hme : mg = mg3 := hmg.trans hmg3.symm
       have hmxe : mx = mx3 := hmx.trans hmx3.symm
       subst hce hme hmxe
       rcases hh2 with ⟨e2,e3⟩ | ⟨e2,e3⟩
       ·subst e1 e2 e3
        conv => cbv
        refine cfr (plainE21 x mx T T3 hmx hT hT3 hxl) [] (fun r h' n' ⟨e1,e2,e3⟩ => ?_)
        subst e1 e2 e3
        conv => cbv
        refine cfr (sameGone_lx out mg cellsh hmg hcg hw1 hw2) [] (fun r h' n' ⟨e1,e2,e3⟩ => ?_)
        subst e1 e2 e3
        conv => cbv
        refine Br.yes rfl ?_
        conv => cbv
        refine Joined.mk _ (Re.at [(0,0),(1,1),(2,2),(3,3),(4,4),(5,5),(6,6),(8,8),(9,9),(10,10),(11,11),(12,12),(13,13),(14,14),(15,15),(16,16),(18,7),(17,17)] []) ⟨jr,cr,A,ph2,sp2,cy2,m3,Rh,wh,vs3,Ch,Gh,Lh,Dh,Qh,zh,ovh,P3,B3,V3,Q3,la3,rfl,h3,h4,hS2,hg2,hcr,hjr,hAl,by omega⟩
       ·subst e1 e2 e3
        conv => cbv
        refine cfr (plainE21 x mx T T3 hmx hT hT3 hxl) [] (fun r h' n' ⟨e1,e2,e3⟩ => ?_)
        subst e1 e2 e3
        conv => cbv
        refine cfr (sameGone_lx out mg cellsh hmg hcg hw1 hw2) [] (fun r h' n' ⟨e1,e2,e3⟩ => ?_)
        subst e1 e2 e3
        conv => cbv
        refine Br.yes rfl ?_
        conv => cbv
        refine Joined.mk _ (Re.at [(0,0),(1,1),(2,2),(3,3),(4,4),(5,5),(6,6),(8,8),(9,9),(10,10),(11,11),(12,12),(13,13),(14,14),(15,15),(16,16),(18,7),(19,17)] []) ⟨jr,cr,A,ph2,sp2,cy2,m3,Rh,wh,vs3,Ch,Gh,Lh,Dh,Qh,zh,ovh,P3,B3,V3,Q3,la3,rfl,h3,h4,hS2,hg2,hcr,hjr,hAl,by omega⟩
 rintro s ⟨jr,cr,A,ph,sp,cy,m,R,ws,vs,C,G,L,D,Q,z,ov,P,B,V,Qr,la,rfl,h,hr,hS,hg,hcr,hjr,hAl,hcyb⟩
 conv => cbv
 refine cfr (alike21_lx R ws vs C G N W ph sp cy L D Q z ov P B V Qr la m h hr hS st as_) [(0,1),(1,2),(2,3),(3,4),(4,5),(5,6),(6,7),(7,8),(8,9),(9,10),(10,11),(11,12),(12,13),(13,14),(14,15),(15,16),(16,17)] (fun r h' n' ⟨e1,e2,e3⟩ => ?_)
 subst e1 e2 e3
 conv => cbv
 refine Fit.mk (by show (-9223372036854775808 : Int) ≤ i + 1; omega) (by show i + 1 ≤ 9223372036854775807; omega) fun i2 hi2 => ?_
 have hi2 : i2 = i + 1 := hi2
 conv => cbv
 refine Again.mk (50 - i2).toNat _ (by omega) (Re.at [(0,0),(1,1),(2,2),(3,3),(4,4),(5,5),(6,6),(7,7),(8,8),(9,9),(10,10),(11,11),(12,12),(13,13),(14,14),(15,15),(16,16),(17,17)] []) ⟨i2,jr,cr,A,ph,sp,cy,m,R,ws,vs,C,G,L,D,Q,z,ov,P,B,V,Qr,la,rfl,h,hr,hS,hg,hcr,hjr,hAl,by omega,by omega,by omega,rfl⟩
end Go.Proofs.YtcbombkaacjngaaGreatDoor
