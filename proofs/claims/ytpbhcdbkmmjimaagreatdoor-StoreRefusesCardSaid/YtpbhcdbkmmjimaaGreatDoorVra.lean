/-
  Layer 21: StoreRefuses (1).
-/
import Derived.Test.YtpbhcdbkmmjimaaGreatDoorVq
import Derived.Test.YtpbhcdbkmmjimaaGreatDoorBh
namespace Go.Proofs.YtpbhcdbkmmjimaaGreatDoor
open Go Go.LX
set_option maxRecDepth 100000
set_option linter.unusedVariables false
set_option linter.unusedSimpArgs false
set_option maxHeartbeats 32000000
theorem need_det {k m v v' : Int} {b b' : Bool} (h : NeedR k m v b) (h' : NeedR k m v' b') : b = b' := by
 rcases h with ⟨q,⟨_,_,_,e⟩ | ⟨q2,_,e⟩⟩ | ⟨q,e,e2⟩
 ·rcases h' with ⟨_,⟨_,_,_,e'⟩ | ⟨q3,_,e'⟩⟩ | ⟨q3,_⟩
  ·rw [e,e']
  ·exact absurd ⟨by assumption,by assumption⟩ q3
  ·exact absurd q q3
 ·rcases h' with ⟨_,⟨_,_,_,e'⟩ | ⟨q3,_,e'⟩⟩ | ⟨q3,_⟩
  ·exact absurd ⟨by assumption,by assumption⟩ q2
  ·rw [e,e']
  ·exact absurd q q3
 ·rcases h' with ⟨q3,_⟩ | ⟨_,e',e2'⟩
  ·exact absurd q3 q
  ·have hvv : v' = v := e'.trans e.symm
   subst hvv
   exact Bool.eq_iff_iff.2 (e2.trans e2'.symm)
theorem sz_any {k m : Int} {X : List Int} (h : Sz [(5,0),(k,m)] X) : ∃ v,X = [2,v] ∧ NeedR k m v true := by
 obtain ⟨h1,h2⟩ := h
 match X,h1 with
 | [a,b],_ =>
  obtain ⟨v,e,q⟩ := h2 0 _ rfl
  cases e
  obtain ⟨w,e,q2⟩ := h2 1 _ rfl
  cases e
  have ha : a = 2 := by
   rcases q with ⟨q,_⟩ | ⟨_,q,_⟩
   ·exact absurd q (by decide)
   ·exact q
  exact ⟨b,by rw [ha],q2⟩
theorem storeRefuses_0 (o : Unit → Obj) (ho : IsPow o) (N0 st0 as0 kd m : Int)  (q0 : ¬ (1 ≤ st0)) : CallF (fun _ => Tryz.prog) 6 [.agg [i6 N0,i6 st0,i6 as0],i6 kd,i6 m] [(0,.fix 0 o)] 1 (fun r _ _ => r = .p (.bool true)) := by
 refine callF_of_body tok Tryz.func6 (by kernel_rfl) rfl rfl rfl ?_; conv => cbv
 refine cfr (newS_bad N0 st0 as0 (by unfold COk; omega)) [] (fun r h' n' hrr => ?_)
 obtain ⟨⟨e,e1,he⟩,e2,e3⟩ := hrr
 subst e1 e2 e3
 conv => cbv
 refine Br.no (show ¬ (1 ≤ st0) from q0) ?_
 conv => cbv
 obtain ⟨z0,hz0⟩ : ∃ z0 : ByteArray,z0 = ⟨(enc []).toArray⟩ := ⟨_,rfl⟩
 obtain ⟨N,hN⟩ : ∃ N : Int,N = 100 := ⟨_,rfl⟩
 obtain ⟨W,hW⟩ : ∃ W : Int,W = 32 * N := ⟨_,rfl⟩
 obtain ⟨st,hst⟩ : ∃ N : Int,N = 100 := ⟨_,rfl⟩
 obtain ⟨as_,has⟩ : ∃ N : Int,N = 0 := ⟨_,rfl⟩
 obtain ⟨L0,hL0⟩ : ∃ L0,L0 = rpv (List.replicate N.toNat ((0,[]) : Rw)) := ⟨_,rfl⟩
 obtain ⟨D0,hD0⟩ : ∃ D0,D0 = ipv (List.replicate W.toNat (0 : Int)) := ⟨_,rfl⟩
 have hM0 := HM.new (by omega : 2 ≤ N) (by omega) hW hL0 hD0 hD0 hz0
 obtain ⟨R0,hR0⟩ : ∃ R0,R0 = List.replicate N.toNat ((0,[]) : Rw) := ⟨_,rfl⟩
 obtain ⟨ws0,hws0⟩ : ∃ ws0,ws0 = List.replicate W.toNat (0 : Int) := ⟨_,rfl⟩
 rw [← hR0,← hws0] at hM0
 have hCO : COk N st as_ := ⟨by omega,by omega,by omega,by omega⟩
 have hB0 : Bare0 N ⟨R0,ws0,ws0,[],false,0,0,0⟩ := ⟨hM0.good false 0 0 (by omega) (by omega) ⟨by omega,by omega⟩ (by omega),hR0,rfl⟩
 refine callF_frame wide_lx [] rfl (by simp [hmapOk,nget,hget,renB,okB,renV,renVs,rn,okVs,okV]) rfl rfl (fun r h' n' ⟨e1,e2,e3⟩ => ?_)
 subst e1 e2 e3
 conv => cbv
 refine CallF.le (args0 := [.agg [i6 N,i6 st,i6 as_]]) (cfr (newS_lx N W st as_ hCO (by omega) (by omega) hW L0 D0 D0 z0 hL0 hD0 hD0 hz0) [] (fun r h' n' ⟨e1,e2,e3⟩ => ?_)) (by simp [ales,ale,pvle,I.val,hN,hst,has])
 subst e1 e2 e3
 conv => cbv
 refine CallF.re (args0 := [.ptr 2 (.lit 0),.p (.vsl (.sym 2) true [.int .i64 (.sym 5),.int .i64 (.sym 0),.int .i64 (.sym kd),.int .i64 (.sym m)]),.p (.vsl (.sym 0) true [])]) (h' := [(2,.mix [.ptr 3 (.lit 0),i6 st,i6 as_]),hpA 3 4 8 9 3 W 0 0 0,hpB 4 5 7 3 W,hpC 5 6 137 2 N,hpP 6 L0,hpP 7 D0,hpF 8 z0 false,hpP 9 D0,(0,.fix 0 o)]) (Re.at [(0,0),(1,1),(2,2),(3,3),(4,4),(5,5),(6,6),(7,7),(8,8),(9,9)] []) (cfr (alloc21_lx R0 ws0 ws0 [] N W 0 0 0 L0 D0 D0 z0 false hM0 o ho st as_ hCO hB0.g (by decide) [(5,0),(kd,m)] 2 [.int .i64 (.sym 5),.int .i64 (.sym 0),.int .i64 (.sym kd),.int .i64 (.sym m)] rfl rfl (by simp) [] 0 [] rfl rfl (by decide)) [(0,2),(1,3),(2,4),(3,5),(4,6),(5,7),(6,8),(7,9),(8,0)] (fun r h' n' hrr => ?_))
 rcases hrr with ⟨e1,hbad,e2,e3⟩ | hrr
 ·subst e1 e2 e3
  have hbad : ∃ v,NeedR kd m v false := by
   obtain ⟨p,hp,v,hv⟩ := hbad
   rcases List.mem_cons.1 hp with rfl | hp
   ·exfalso
    rcases hv with ⟨q,_⟩ | ⟨_,q,q2⟩
    ·exact absurd q (by decide)
    ·rw [q] at q2
     exact absurd (q2.2 (by decide)) (by decide)
   ·rw [List.mem_singleton.1 hp] at hv; exact ⟨v,hv⟩
  conv => cbv
  refine cfr (rNeedAny_lx kd m) [] (fun r h' n' hrr => ?_)
  obtain ⟨⟨v,b,e1,hv⟩,e2,e3⟩ := hrr
  subst e1 e2 e3
  obtain ⟨w,hw⟩ := hbad
  have hb : b = false := need_det hv hw
  subst hb
  conv => cbv
  refine callF_frame allocS_nil [] rfl (by simp [hmapOk,nget,hget,renB,okB,renV,renVs,rn,okVs,okV]) rfl rfl (fun r h' n' ⟨e1,e2,e3⟩ => ?_)
  subst e1 e2 e3
  conv => cbv
  refine cfr (awake21_lx o ho) [(0,0)] (fun r h' n' ⟨e1,e2,e3⟩ => ?_)
  subst e1 e2 e3
  conv => cbv
  refine Br.no (show ¬ e = 0 from he) ?_
  conv => cbv
  refine callF_frame heapS_nil [] rfl (by simp [hmapOk,nget,hget,renB,okB,renV,renVs,rn,okVs,okV]) rfl rfl (fun r h' n' ⟨e1,e2,e3⟩ => ?_)
  subst e1 e2 e3
  conv => cbv
  refine callF_frame collectS_nil [] rfl (by simp [hmapOk,nget,hget,renB,okB,renV,renVs,rn,okVs,okV]) rfl rfl (fun r h' n' ⟨e1,e2,e3⟩ => ?_)
  subst e1 e2 e3
  conv => cbv
  refine RetF.mk [.p (.bool true)] [(0,.fix 0 o)] 1 (Re.at [(0,0)] []) rfl rfl
 obtain ⟨X,x,out,e,mx,mg,T,cg,R1,ws1,C1,G1,ov1,ph1,sp1,cy1,L1,D1,Q1,z1,e1,hX,hh,h1,hT,hmx,hcg,hmg,hA⟩ := hrr
 obtain ⟨v2,hX2,hv2⟩ := sz_any hX
 subst hX2
 rw [has,Int.zero_mul] at hA
 obtain ⟨rfl,rfl,hAl,hnr⟩ := hB0.alloc (l := [(5,2),(kd,v2)]) hW hCO.1 (by
  intro p hp
  rcases List.mem_cons.1 hp with rfl | hp
  ·exact ⟨by decide,by decide,by decide,by decide⟩
  ·rw [List.mem_singleton.1 hp]; exact need_val hv2) (by simp [hN]) hA
 rcases hh with ⟨e2,e3⟩ | ⟨_,_,hren⟩
 case inr => exact absurd hren hnr
 subst e1 e2 e3
 conv => cbv
 refine cfr (rNeedAny_lx kd m) [] (fun r h' n' hrr => ?_)
 obtain ⟨⟨v,b,e1,hv⟩,e2,e3⟩ := hrr
 subst e1 e2 e3
 have hb : b = true := need_det hv hv2
 subst hb
 conv => cbv
 refine callF_frame allocS_nil [] rfl (by simp [hmapOk,nget,hget,renB,okB,renV,renVs,rn,okVs,okV]) rfl rfl (fun r h' n' ⟨e1,e2,e3⟩ => ?_)
 subst e1 e2 e3
 conv => cbv
 refine cfr (awake21_lx o ho) [(0,0)] (fun r h' n' ⟨e1,e2,e3⟩ => ?_)
 subst e1 e2 e3
 conv => cbv
 refine Br.no (show ¬ e = 0 from he) ?_
 conv => cbv
 refine Br.yes (show (0 : Int) = 0 from rfl) ?_
 conv => cbv
 refine Br.yes (show (0 : Int) = 0 from rfl) ?_
 conv => cbv
 refine callF_frame heapS_nil [] rfl (by simp [hmapOk,nget,hget,renB,okB,renV,renVs,rn,okVs,okV]) rfl rfl (fun r h' n' ⟨e1,e2,e3⟩ => ?_)
 subst e1 e2 e3
 conv => cbv
 refine callF_frame collectS_nil [] rfl (by simp [hmapOk,nget,hget,renB,okB,renV,renVs,rn,okVs,okV]) rfl rfl (fun r h' n' ⟨e1,e2,e3⟩ => ?_)
 subst e1 e2 e3
 conv => cbv
 refine RetF.mk [.p (.bool true)] [(0,.fix 0 o)] 1 (Re.at [(0,0)] []) rfl rfl
theorem storeRefuses_1 (o : Unit → Obj) (ho : IsPow o) (N0 st0 as0 kd m : Int) (q0 : 1 ≤ st0) (q1 : ¬ (st0 ≤ 100)) : CallF (fun _ => Tryz.prog) 6 [.agg [i6 N0,i6 st0,i6 as0],i6 kd,i6 m] [(0,.fix 0 o)] 1 (fun r _ _ => r = .p (.bool true)) := by
 refine callF_of_body tok Tryz.func6 (by kernel_rfl) rfl rfl rfl ?_; conv => cbv
 refine cfr (newS_bad N0 st0 as0 (by unfold COk; omega)) [] (fun r h' n' hrr => ?_)
 obtain ⟨⟨e,e1,he⟩,e2,e3⟩ := hrr
 subst e1 e2 e3
 conv => cbv
 refine Br.yes (show 1 ≤ st0 from q0) ?_
 conv => cbv
 refine Br.no (show ¬ (st0 ≤ 100) from q1) ?_
 conv => cbv
 obtain ⟨z0,hz0⟩ : ∃ z0 : ByteArray,z0 = ⟨(enc []).toArray⟩ := ⟨_,rfl⟩
 obtain ⟨N,hN⟩ : ∃ N : Int,N = 100 := ⟨_,rfl⟩
 obtain ⟨W,hW⟩ : ∃ W : Int,W = 32 * N := ⟨_,rfl⟩
 obtain ⟨st,hst⟩ : ∃ N : Int,N = 100 := ⟨_,rfl⟩
 obtain ⟨as_,has⟩ : ∃ N : Int,N = 0 := ⟨_,rfl⟩
 obtain ⟨L0,hL0⟩ : ∃ L0,L0 = rpv (List.replicate N.toNat ((0,[]) : Rw)) := ⟨_,rfl⟩
 obtain ⟨D0,hD0⟩ : ∃ D0,D0 = ipv (List.replicate W.toNat (0 : Int)) := ⟨_,rfl⟩
 have hM0 := HM.new (by omega : 2 ≤ N) (by omega) hW hL0 hD0 hD0 hz0
 obtain ⟨R0,hR0⟩ : ∃ R0,R0 = List.replicate N.toNat ((0,[]) : Rw) := ⟨_,rfl⟩
 obtain ⟨ws0,hws0⟩ : ∃ ws0,ws0 = List.replicate W.toNat (0 : Int) := ⟨_,rfl⟩
 rw [← hR0,← hws0] at hM0
 have hCO : COk N st as_ := ⟨by omega,by omega,by omega,by omega⟩
 have hB0 : Bare0 N ⟨R0,ws0,ws0,[],false,0,0,0⟩ := ⟨hM0.good false 0 0 (by omega) (by omega) ⟨by omega,by omega⟩ (by omega),hR0,rfl⟩
 refine callF_frame wide_lx [] rfl (by simp [hmapOk,nget,hget,renB,okB,renV,renVs,rn,okVs,okV]) rfl rfl (fun r h' n' ⟨e1,e2,e3⟩ => ?_)
 subst e1 e2 e3
 conv => cbv
 refine CallF.le (args0 := [.agg [i6 N,i6 st,i6 as_]]) (cfr (newS_lx N W st as_ hCO (by omega) (by omega) hW L0 D0 D0 z0 hL0 hD0 hD0 hz0) [] (fun r h' n' ⟨e1,e2,e3⟩ => ?_)) (by simp [ales,ale,pvle,I.val,hN,hst,has])
 subst e1 e2 e3
 conv => cbv
 refine CallF.re (args0 := [.ptr 2 (.lit 0),.p (.vsl (.sym 2) true [.int .i64 (.sym 5),.int .i64 (.sym 0),.int .i64 (.sym kd),.int .i64 (.sym m)]),.p (.vsl (.sym 0) true [])]) (h' := [(2,.mix [.ptr 3 (.lit 0),i6 st,i6 as_]),hpA 3 4 8 9 3 W 0 0 0,hpB 4 5 7 3 W,hpC 5 6 137 2 N,hpP 6 L0,hpP 7 D0,hpF 8 z0 false,hpP 9 D0,(0,.fix 0 o)]) (Re.at [(0,0),(1,1),(2,2),(3,3),(4,4),(5,5),(6,6),(7,7),(8,8),(9,9)] []) (cfr (alloc21_lx R0 ws0 ws0 [] N W 0 0 0 L0 D0 D0 z0 false hM0 o ho st as_ hCO hB0.g (by decide) [(5,0),(kd,m)] 2 [.int .i64 (.sym 5),.int .i64 (.sym 0),.int .i64 (.sym kd),.int .i64 (.sym m)] rfl rfl (by simp) [] 0 [] rfl rfl (by decide)) [(0,2),(1,3),(2,4),(3,5),(4,6),(5,7),(6,8),(7,9),(8,0)] (fun r h' n' hrr => ?_))
 rcases hrr with ⟨e1,hbad,e2,e3⟩ | hrr
 ·subst e1 e2 e3
  have hbad : ∃ v,NeedR kd m v false := by
   obtain ⟨p,hp,v,hv⟩ := hbad
   rcases List.mem_cons.1 hp with rfl | hp
   ·exfalso
    rcases hv with ⟨q,_⟩ | ⟨_,q,q2⟩
    ·exact absurd q (by decide)
    ·rw [q] at q2
     exact absurd (q2.2 (by decide)) (by decide)
   ·rw [List.mem_singleton.1 hp] at hv; exact ⟨v,hv⟩
  conv => cbv
  refine cfr (rNeedAny_lx kd m) [] (fun r h' n' hrr => ?_)
  obtain ⟨⟨v,b,e1,hv⟩,e2,e3⟩ := hrr
  subst e1 e2 e3
  obtain ⟨w,hw⟩ := hbad
  have hb : b = false := need_det hv hw
  subst hb
  conv => cbv
  refine callF_frame allocS_nil [] rfl (by simp [hmapOk,nget,hget,renB,okB,renV,renVs,rn,okVs,okV]) rfl rfl (fun r h' n' ⟨e1,e2,e3⟩ => ?_)
  subst e1 e2 e3
  conv => cbv
  refine cfr (awake21_lx o ho) [(0,0)] (fun r h' n' ⟨e1,e2,e3⟩ => ?_)
  subst e1 e2 e3
  conv => cbv
  refine Br.no (show ¬ e = 0 from he) ?_
  conv => cbv
  refine callF_frame heapS_nil [] rfl (by simp [hmapOk,nget,hget,renB,okB,renV,renVs,rn,okVs,okV]) rfl rfl (fun r h' n' ⟨e1,e2,e3⟩ => ?_)
  subst e1 e2 e3
  conv => cbv
  refine callF_frame collectS_nil [] rfl (by simp [hmapOk,nget,hget,renB,okB,renV,renVs,rn,okVs,okV]) rfl rfl (fun r h' n' ⟨e1,e2,e3⟩ => ?_)
  subst e1 e2 e3
  conv => cbv
  refine RetF.mk [.p (.bool true)] [(0,.fix 0 o)] 1 (Re.at [(0,0)] []) rfl rfl
 obtain ⟨X,x,out,e,mx,mg,T,cg,R1,ws1,C1,G1,ov1,ph1,sp1,cy1,L1,D1,Q1,z1,e1,hX,hh,h1,hT,hmx,hcg,hmg,hA⟩ := hrr
 obtain ⟨v2,hX2,hv2⟩ := sz_any hX
 subst hX2
 rw [has,Int.zero_mul] at hA
 obtain ⟨rfl,rfl,hAl,hnr⟩ := hB0.alloc (l := [(5,2),(kd,v2)]) hW hCO.1 (by
  intro p hp
  rcases List.mem_cons.1 hp with rfl | hp
  ·exact ⟨by decide,by decide,by decide,by decide⟩
  ·rw [List.mem_singleton.1 hp]; exact need_val hv2) (by simp [hN]) hA
 rcases hh with ⟨e2,e3⟩ | ⟨_,_,hren⟩
 case inr => exact absurd hren hnr
 subst e1 e2 e3
 conv => cbv
 refine cfr (rNeedAny_lx kd m) [] (fun r h' n' hrr => ?_)
 obtain ⟨⟨v,b,e1,hv⟩,e2,e3⟩ := hrr
 subst e1 e2 e3
 have hb : b = true := need_det hv hv2
 subst hb
 conv => cbv
 refine callF_frame allocS_nil [] rfl (by simp [hmapOk,nget,hget,renB,okB,renV,renVs,rn,okVs,okV]) rfl rfl (fun r h' n' ⟨e1,e2,e3⟩ => ?_)
 subst e1 e2 e3
 conv => cbv
 refine cfr (awake21_lx o ho) [(0,0)] (fun r h' n' ⟨e1,e2,e3⟩ => ?_)
 subst e1 e2 e3
 conv => cbv
 refine Br.no (show ¬ e = 0 from he) ?_
 conv => cbv
 refine Br.yes (show (0 : Int) = 0 from rfl) ?_
 conv => cbv
 refine Br.yes (show (0 : Int) = 0 from rfl) ?_
 conv => cbv
 refine callF_frame heapS_nil [] rfl (by simp [hmapOk,nget,hget,renB,okB,renV,renVs,rn,okVs,okV]) rfl rfl (fun r h' n' ⟨e1,e2,e3⟩ => ?_)
 subst e1 e2 e3
 conv => cbv
 refine callF_frame collectS_nil [] rfl (by simp [hmapOk,nget,hget,renB,okB,renV,renVs,rn,okVs,okV]) rfl rfl (fun r h' n' ⟨e1,e2,e3⟩ => ?_)
 subst e1 e2 e3
 conv => cbv
 refine RetF.mk [.p (.bool true)] [(0,.fix 0 o)] 1 (Re.at [(0,0)] []) rfl rfl
theorem storeRefuses_2 (o : Unit → Obj) (ho : IsPow o) (N0 st0 as0 kd m : Int) (q0 : 1 ≤ st0) (q1 : st0 ≤ 100) (q2 : ¬ (0 ≤ as0)) : CallF (fun _ => Tryz.prog) 6 [.agg [i6 N0,i6 st0,i6 as0],i6 kd,i6 m] [(0,.fix 0 o)] 1 (fun r _ _ => r = .p (.bool true)) := by
 refine callF_of_body tok Tryz.func6 (by kernel_rfl) rfl rfl rfl ?_; conv => cbv
 refine cfr (newS_bad N0 st0 as0 (by unfold COk; omega)) [] (fun r h' n' hrr => ?_)
 obtain ⟨⟨e,e1,he⟩,e2,e3⟩ := hrr
 subst e1 e2 e3
 conv => cbv
 refine Br.yes (show 1 ≤ st0 from q0) ?_
 conv => cbv
 refine Br.yes (show st0 ≤ 100 from q1) ?_
 conv => cbv
 refine Br.no (show ¬ (0 ≤ as0) from q2) ?_
 conv => cbv
 obtain ⟨z0,hz0⟩ : ∃ z0 : ByteArray,z0 = ⟨(enc []).toArray⟩ := ⟨_,rfl⟩
 obtain ⟨N,hN⟩ : ∃ N : Int,N = 100 := ⟨_,rfl⟩
 obtain ⟨W,hW⟩ : ∃ W : Int,W = 32 * N := ⟨_,rfl⟩
 obtain ⟨st,hst⟩ : ∃ N : Int,N = 100 := ⟨_,rfl⟩
 obtain ⟨as_,has⟩ : ∃ N : Int,N = 0 := ⟨_,rfl⟩
 obtain ⟨L0,hL0⟩ : ∃ L0,L0 = rpv (List.replicate N.toNat ((0,[]) : Rw)) := ⟨_,rfl⟩
 obtain ⟨D0,hD0⟩ : ∃ D0,D0 = ipv (List.replicate W.toNat (0 : Int)) := ⟨_,rfl⟩
 have hM0 := HM.new (by omega : 2 ≤ N) (by omega) hW hL0 hD0 hD0 hz0
 obtain ⟨R0,hR0⟩ : ∃ R0,R0 = List.replicate N.toNat ((0,[]) : Rw) := ⟨_,rfl⟩
 obtain ⟨ws0,hws0⟩ : ∃ ws0,ws0 = List.replicate W.toNat (0 : Int) := ⟨_,rfl⟩
 rw [← hR0,← hws0] at hM0
 have hCO : COk N st as_ := ⟨by omega,by omega,by omega,by omega⟩
 have hB0 : Bare0 N ⟨R0,ws0,ws0,[],false,0,0,0⟩ := ⟨hM0.good false 0 0 (by omega) (by omega) ⟨by omega,by omega⟩ (by omega),hR0,rfl⟩
 refine callF_frame wide_lx [] rfl (by simp [hmapOk,nget,hget,renB,okB,renV,renVs,rn,okVs,okV]) rfl rfl (fun r h' n' ⟨e1,e2,e3⟩ => ?_)
 subst e1 e2 e3
 conv => cbv
 refine CallF.le (args0 := [.agg [i6 N,i6 st,i6 as_]]) (cfr (newS_lx N W st as_ hCO (by omega) (by omega) hW L0 D0 D0 z0 hL0 hD0 hD0 hz0) [] (fun r h' n' ⟨e1,e2,e3⟩ => ?_)) (by simp [ales,ale,pvle,I.val,hN,hst,has])
 subst e1 e2 e3
 conv => cbv
 refine CallF.re (args0 := [.ptr 2 (.lit 0),.p (.vsl (.sym 2) true [.int .i64 (.sym 5),.int .i64 (.sym 0),.int .i64 (.sym kd),.int .i64 (.sym m)]),.p (.vsl (.sym 0) true [])]) (h' := [(2,.mix [.ptr 3 (.lit 0),i6 st,i6 as_]),hpA 3 4 8 9 3 W 0 0 0,hpB 4 5 7 3 W,hpC 5 6 137 2 N,hpP 6 L0,hpP 7 D0,hpF 8 z0 false,hpP 9 D0,(0,.fix 0 o)]) (Re.at [(0,0),(1,1),(2,2),(3,3),(4,4),(5,5),(6,6),(7,7),(8,8),(9,9)] []) (cfr (alloc21_lx R0 ws0 ws0 [] N W 0 0 0 L0 D0 D0 z0 false hM0 o ho st as_ hCO hB0.g (by decide) [(5,0),(kd,m)] 2 [.int .i64 (.sym 5),.int .i64 (.sym 0),.int .i64 (.sym kd),.int .i64 (.sym m)] rfl rfl (by simp) [] 0 [] rfl rfl (by decide)) [(0,2),(1,3),(2,4),(3,5),(4,6),(5,7),(6,8),(7,9),(8,0)] (fun r h' n' hrr => ?_))
 rcases hrr with ⟨e1,hbad,e2,e3⟩ | hrr
 ·subst e1 e2 e3
  have hbad : ∃ v,NeedR kd m v false := by
   obtain ⟨p,hp,v,hv⟩ := hbad
   rcases List.mem_cons.1 hp with rfl | hp
   ·exfalso
    rcases hv with ⟨q,_⟩ | ⟨_,q,q2⟩
    ·exact absurd q (by decide)
    ·rw [q] at q2
     exact absurd (q2.2 (by decide)) (by decide)
   ·rw [List.mem_singleton.1 hp] at hv; exact ⟨v,hv⟩
  conv => cbv
  refine cfr (rNeedAny_lx kd m) [] (fun r h' n' hrr => ?_)
  obtain ⟨⟨v,b,e1,hv⟩,e2,e3⟩ := hrr
  subst e1 e2 e3
  obtain ⟨w,hw⟩ := hbad
  have hb : b = false := need_det hv hw
  subst hb
  conv => cbv
  refine callF_frame allocS_nil [] rfl (by simp [hmapOk,nget,hget,renB,okB,renV,renVs,rn,okVs,okV]) rfl rfl (fun r h' n' ⟨e1,e2,e3⟩ => ?_)
  subst e1 e2 e3
  conv => cbv
  refine cfr (awake21_lx o ho) [(0,0)] (fun r h' n' ⟨e1,e2,e3⟩ => ?_)
  subst e1 e2 e3
  conv => cbv
  refine Br.no (show ¬ e = 0 from he) ?_
  conv => cbv
  refine callF_frame heapS_nil [] rfl (by simp [hmapOk,nget,hget,renB,okB,renV,renVs,rn,okVs,okV]) rfl rfl (fun r h' n' ⟨e1,e2,e3⟩ => ?_)
  subst e1 e2 e3
  conv => cbv
  refine callF_frame collectS_nil [] rfl (by simp [hmapOk,nget,hget,renB,okB,renV,renVs,rn,okVs,okV]) rfl rfl (fun r h' n' ⟨e1,e2,e3⟩ => ?_)
  subst e1 e2 e3
  conv => cbv
  refine RetF.mk [.p (.bool true)] [(0,.fix 0 o)] 1 (Re.at [(0,0)] []) rfl rfl
 obtain ⟨X,x,out,e,mx,mg,T,cg,R1,ws1,C1,G1,ov1,ph1,sp1,cy1,L1,D1,Q1,z1,e1,hX,hh,h1,hT,hmx,hcg,hmg,hA⟩ := hrr
 obtain ⟨v2,hX2,hv2⟩ := sz_any hX
 subst hX2
 rw [has,Int.zero_mul] at hA
 obtain ⟨rfl,rfl,hAl,hnr⟩ := hB0.alloc (l := [(5,2),(kd,v2)]) hW hCO.1 (by
  intro p hp
  rcases List.mem_cons.1 hp with rfl | hp
  ·exact ⟨by decide,by decide,by decide,by decide⟩
  ·rw [List.mem_singleton.1 hp]; exact need_val hv2) (by simp [hN]) hA
 rcases hh with ⟨e2,e3⟩ | ⟨_,_,hren⟩
 case inr => exact absurd hren hnr
 subst e1 e2 e3
 conv => cbv
 refine cfr (rNeedAny_lx kd m) [] (fun r h' n' hrr => ?_)
 obtain ⟨⟨v,b,e1,hv⟩,e2,e3⟩ := hrr
 subst e1 e2 e3
 have hb : b = true := need_det hv hv2
 subst hb
 conv => cbv
 refine callF_frame allocS_nil [] rfl (by simp [hmapOk,nget,hget,renB,okB,renV,renVs,rn,okVs,okV]) rfl rfl (fun r h' n' ⟨e1,e2,e3⟩ => ?_)
 subst e1 e2 e3
 conv => cbv
 refine cfr (awake21_lx o ho) [(0,0)] (fun r h' n' ⟨e1,e2,e3⟩ => ?_)
 subst e1 e2 e3
 conv => cbv
 refine Br.no (show ¬ e = 0 from he) ?_
 conv => cbv
 refine Br.yes (show (0 : Int) = 0 from rfl) ?_
 conv => cbv
 refine Br.yes (show (0 : Int) = 0 from rfl) ?_
 conv => cbv
 refine callF_frame heapS_nil [] rfl (by simp [hmapOk,nget,hget,renB,okB,renV,renVs,rn,okVs,okV]) rfl rfl (fun r h' n' ⟨e1,e2,e3⟩ => ?_)
 subst e1 e2 e3
 conv => cbv
 refine callF_frame collectS_nil [] rfl (by simp [hmapOk,nget,hget,renB,okB,renV,renVs,rn,okVs,okV]) rfl rfl (fun r h' n' ⟨e1,e2,e3⟩ => ?_)
 subst e1 e2 e3
 conv => cbv
 refine RetF.mk [.p (.bool true)] [(0,.fix 0 o)] 1 (Re.at [(0,0)] []) rfl rfl
end Go.Proofs.YtpbhcdbkmmjimaaGreatDoor
