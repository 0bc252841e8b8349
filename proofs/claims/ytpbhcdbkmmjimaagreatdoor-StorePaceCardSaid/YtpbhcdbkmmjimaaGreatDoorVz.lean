/-
  Layer 21: StorePace.
-/
import Derived.Test.YtpbhcdbkmmjimaaGreatDoorVw
import Derived.Test.YtpbhcdbkmmjimaaGreatDoorVy
namespace Go.Proofs.YtpbhcdbkmmjimaaGreatDoor
open Go Go.LX
set_option maxRecDepth 100000
set_option linter.unusedVariables false
set_option linter.unusedSimpArgs false
set_option maxHeartbeats 32000000
theorem sz_box {X : List Int} (h : Sz [(5,0)] X) : X = [2] := by
 obtain ⟨h1,h2⟩ := h
 match X,h1 with
 | [a],_ =>
  obtain ⟨v,e,q⟩ := h2 0 _ rfl
  cases e
  rcases q with ⟨q,_⟩ | ⟨_,q,_⟩
  ·exact absurd q (by decide)
  ·rw [show a = 2 from q]
theorem storePace_law (o : Unit → Obj) (ho : IsPow o) (a0 a1 a2 : Int) : CallF (fun _ => Tryz.prog) 7 [i6 a0,i6 a1,i6 a2] [(0,.fix 0 o)] 1 (fun r _ _ => r = .p (.bool true)) := by
 refine callF_of_body tok Tryz.func7 (by kernel_rfl) rfl rfl rfl ?_; conv => cbv
 refine Fit.wrap fun xn_st hxn => ?_
 have hyn : 0 ≤ xn_st := by rw [show xn_st = IntKind.u64.wrap a0 from hxn]; simp [IntKind.wrap,IntKind.bits,IntKind.signed]; omega
 clear hxn
 conv => cbv
 refine Sum.mk fun tn_st htn => ?_
 have htn : tn_st = xn_st % 100 := (show tn_st = xn_st.tmod 100 from htn).trans (Int.tmod_eq_emod_of_nonneg hyn)
 conv => cbv
 refine Fit.mk (by show (-9223372036854775808 : Int) ≤ tn_st; omega) (by show tn_st ≤ 9223372036854775807; omega) fun un_st hun => ?_
 have hun : un_st = tn_st := hun
 conv => cbv
 refine Fit.mk (by show (-9223372036854775808 : Int) ≤ 1 + un_st; omega) (by show 1 + un_st ≤ 9223372036854775807; omega) fun st hst => ?_
 have hst : st = 1 + un_st := hst
 have hst0 : 1 ≤ st := by omega
 have hst1 : st ≤ 100 := by omega
 clear hst hun htn hyn
 conv => cbv
 refine Fit.wrap fun xn_as_ hxn => ?_
 have hyn : 0 ≤ xn_as_ := by rw [show xn_as_ = IntKind.u64.wrap a1 from hxn]; simp [IntKind.wrap,IntKind.bits,IntKind.signed]; omega
 clear hxn
 conv => cbv
 refine Sum.mk fun tn_as_ htn => ?_
 have htn : tn_as_ = xn_as_ % 9 := (show tn_as_ = xn_as_.tmod 9 from htn).trans (Int.tmod_eq_emod_of_nonneg hyn)
 conv => cbv
 refine Fit.mk (by show (-9223372036854775808 : Int) ≤ tn_as_; omega) (by show tn_as_ ≤ 9223372036854775807; omega) fun un_as_ hun => ?_
 have hun : un_as_ = tn_as_ := hun
 conv => cbv
 have has_0 : 0 ≤ un_as_ := by omega
 have has_1 : un_as_ ≤ 8 := by omega
 clear hun htn hyn
 conv => cbv
 refine Fit.wrap fun xn_n hxn => ?_
 have hyn : 0 ≤ xn_n := by rw [show xn_n = IntKind.u64.wrap a2 from hxn]; simp [IntKind.wrap,IntKind.bits,IntKind.signed]; omega
 clear hxn
 conv => cbv
 refine Sum.mk fun tn_n htn => ?_
 have htn : tn_n = xn_n % 30 := (show tn_n = xn_n.tmod 30 from htn).trans (Int.tmod_eq_emod_of_nonneg hyn)
 conv => cbv
 refine Fit.mk (by show (-9223372036854775808 : Int) ≤ tn_n; omega) (by show tn_n ≤ 9223372036854775807; omega) fun un_n hun => ?_
 have hun : un_n = tn_n := hun
 conv => cbv
 have hn0 : 0 ≤ un_n := by omega
 have hn1 : un_n ≤ 29 := by omega
 clear hun htn hyn
 conv => cbv
 obtain ⟨N,hN⟩ : ∃ N : Int,N = 10 := ⟨_,rfl⟩
 obtain ⟨as_,has⟩ : ∃ a : Int,a = un_as_ := ⟨_,rfl⟩
 have hCO : COk N st as_ := ⟨by omega,by omega,by omega,by omega⟩
 obtain ⟨z0,hz0⟩ : ∃ z0 : ByteArray,z0 = ⟨(enc []).toArray⟩ := ⟨_,rfl⟩
 obtain ⟨W,hW⟩ : ∃ W : Int,W = 32 * N := ⟨_,rfl⟩
 obtain ⟨L0,hL0⟩ : ∃ L0,L0 = rpv (List.replicate N.toNat ((0,[]) : Rw)) := ⟨_,rfl⟩
 obtain ⟨D0,hD0⟩ : ∃ D0,D0 = ipv (List.replicate W.toNat (0 : Int)) := ⟨_,rfl⟩
 have hM0 := HM.new (by omega : 2 ≤ N) (by omega) hW hL0 hD0 hD0 hz0
 obtain ⟨R0,hR0⟩ : ∃ R0,R0 = List.replicate N.toNat ((0,[]) : Rw) := ⟨_,rfl⟩
 obtain ⟨ws0,hws0⟩ : ∃ ws0,ws0 = List.replicate W.toNat (0 : Int) := ⟨_,rfl⟩
 rw [← hR0,← hws0] at hM0
 have hB0 : Bare0 N ⟨R0,ws0,ws0,[],false,0,0,0⟩ := ⟨hM0.good false 0 0 (by omega) (by omega) ⟨by omega,by omega⟩ (by omega),hR0,rfl⟩
 refine CallF.le (args0 := [.agg [i6 N,i6 st,i6 as_]]) (cfr (newS_lx N W st as_ hCO (by omega) (by omega) hW L0 D0 D0 z0 hL0 hD0 hD0 hz0) [] (fun r h' n' ⟨e1,e2,e3⟩ => ?_)) (by simp [ales,ale,pvle,I.val,hN,has])
 subst e1 e2 e3
 conv => cbv
 refine cfr (awake21_lx o ho) [(0,0)] (fun r h' n' ⟨e1,e2,e3⟩ => ?_)
 subst e1 e2 e3
 conv => cbv
 refine cfr (heapS_lx R0 ws0 ws0 [] N W 0 0 0 L0 D0 D0 z0 false st as_) [(0,1),(1,2),(2,3),(3,4),(4,5),(5,6),(6,7),(7,8)] (fun r h' n' ⟨e1,e2,e3⟩ => ?_)
 subst e1 e2 e3
 conv => cbv
 refine cfr (heapS_lx R0 ws0 ws0 [] N W 0 0 0 L0 D0 D0 z0 false st as_) [(0,1),(1,2),(2,3),(3,4),(4,5),(5,6),(6,7),(7,8)] (fun r h' n' ⟨e1,e2,e3⟩ => ?_)
 subst e1 e2 e3
 conv => cbv
 refine cfr (arena_lx R0 ws0 ws0 [] N W 0 0 0 L0 D0 D0 z0 false) [(0,2),(1,3),(2,4),(3,5),(4,6),(5,7),(6,8)] (fun r h' n' ⟨e1,e2,e3⟩ => ?_)
 subst e1 e2 e3
 conv => cbv
 refine LoopF.mk (fun kk s => ∃ (i m ph1 sp1 cy1 : Int) (R1 : List Rw) (ws1 C1 G1 : List Int) (ov1 : Bool) (L1 D1 Q1 cr : List PV) (z1 : ByteArray) (l : List Int),s = ⟨.p (.int .i64 (.sym st)) :: .undef :: .p (.int .i64 (.sym un_n)) :: (undefs 4 ++ .ptr 1 (.lit 0) :: .undef :: .sl 9 3 1 (.lit 0) (.sym m) :: .p (.int .i64 (.sym i)) :: undefs 134),[(1,.mix [.ptr 2 (.lit 0),i6 st,i6 as_]),hpA 2 3 7 8 3 W ph1 sp1 cy1,hpB 3 4 6 3 W,hpC 4 5 137 2 N,hpP 5 L1,hpP 6 D1,hpF 7 z1 ov1,hpP 8 Q1,(0,.fix 0 o),hpP 9 cr],10⟩ ∧ 0 ≤ i ∧ i ≤ un_n ∧ HM R1 ws1 C1 G1 N W L1 D1 Q1 z1 ∧ PaceI N ⟨R1,ws1,C1,G1,ov1,ph1,sp1,cy1⟩ l ∧ cr = ipv l ∧ m = l.length ∧ m = i ∧ 0 ≤ cy1 ∧ cy1 ≤ 7000 * i ∧ kk = (un_n - i).toNat) un_n.toNat _
  (Re.at [(0,0),(1,1),(2,2),(3,3),(4,4),(5,5),(6,6),(7,7),(8,8)] [9]) ⟨0,0,0,0,0,R0,ws0,ws0,[],false,L0,D0,D0,[],z0,[],rfl,by omega,by omega,hM0,PaceI.new hB0,rfl,rfl,rfl,by omega,by omega,by omega⟩ ?_
 clear hM0 hB0 hR0 hws0 hL0 hD0 hz0
 rintro kk s ⟨i,m,ph1,sp1,cy1,R1,ws1,C1,G1,ov1,L1,D1,Q1,cr,z1,l,rfl,hi0,hi1,h1,hI,hcr,hml,hmi,hcy0,hcy1,hkk⟩
 have hcrl : cr.length = l.length := by rw [hcr,ipv_length]
 conv => cbv
 refine Br.mk (fun q => ?_) (fun q => ?_)
 case refine_2 =>
  conv => cbv
  refine RetF.mk [.p (.bool true)] [(0,.fix 0 o)] 1 (Re.at [(0,0)] []) rfl rfl
 have q : i < un_n := q
 conv => cbv
 refine cfr (heapS_lx R1 ws1 C1 G1 N W ph1 sp1 cy1 L1 D1 Q1 z1 ov1 st as_) [(0,1),(1,2),(2,3),(3,4),(4,5),(5,6),(6,7),(7,8)] (fun r h' n' ⟨e1,e2,e3⟩ => ?_)
 subst e1 e2 e3
 conv => cbv
 refine cfr (arena_lx R1 ws1 C1 G1 N W ph1 sp1 cy1 L1 D1 Q1 z1 ov1) [(0,2),(1,3),(2,4),(3,5),(4,6),(5,7),(6,8)] (fun r h' n' ⟨e1,e2,e3⟩ => ?_)
 subst e1 e2 e3
 conv => cbv
 obtain ⟨u,hu⟩ : ∃ u : Int,u = usedW R1 := ⟨_,rfl⟩
 have hub := usedW_bd (R := R1) (fun e he => (h1.a.rows e he).1)
 rw [← hu] at hub
 have hNR := h1.n
 have hsW : 0 ≤ st * W ∧ st * W ≤ 100 * 4096 := ⟨Int.mul_nonneg (by omega) (by omega),Int.mul_le_mul hCO.2.1 (by omega) (by omega) (by decide)⟩
 refine cfr (usedA_lx R1 ws1 N W L1 D1 h1.l h1.d h1.n h1.r h1.a h1.w u hu) [(0,3),(1,4),(2,5),(3,6)] (fun r h' n' ⟨e1,e2,e3⟩ => ?_)
 subst e1 e2 e3
 conv => cbv
 refine Fit.mk (by show (-9223372036854775808 : Int) ≤ 100 * u; omega) (by show 100 * u ≤ 9223372036854775807; omega) fun u2 hu2 => ?_
 have hu2 : u2 = 100 * u := hu2
 conv => cbv
 refine cfr (heapS_lx R1 ws1 C1 G1 N W ph1 sp1 cy1 L1 D1 Q1 z1 ov1 st as_) [(0,1),(1,2),(2,3),(3,4),(4,5),(5,6),(6,7),(7,8)] (fun r h' n' ⟨e1,e2,e3⟩ => ?_)
 subst e1 e2 e3
 conv => cbv
 refine cfr (arena_lx R1 ws1 C1 G1 N W ph1 sp1 cy1 L1 D1 Q1 z1 ov1) [(0,2),(1,3),(2,4),(3,5),(4,6),(5,7),(6,8)] (fun r h' n' ⟨e1,e2,e3⟩ => ?_)
 subst e1 e2 e3
 conv => cbv
 refine cfr (wordsA_lx R1 ws1 N W L1 D1 h1.l h1.d h1.n h1.r h1.a h1.w) [(0,3),(1,4),(2,5),(3,6)] (fun r h' n' ⟨e1,e2,e3⟩ => ?_)
 subst e1 e2 e3
 conv => cbv
 refine Fit.mk (by show (-9223372036854775808 : Int) ≤ st * W; omega) (by show st * W ≤ 9223372036854775807; omega) fun w2 hw2 => ?_
 have hw2 : w2 = st * W := hw2
 conv => cbv
 refine Br.mk (fun q2 => ?_) (fun q2 => ?_)
 ·have hdue : st * W ≤ 100 * usedW R1 := by have q2 : w2 ≤ u2 := q2; rw [← hu]; omega
  conv => cbv
  refine cfr (heapS_lx R1 ws1 C1 G1 N W ph1 sp1 cy1 L1 D1 Q1 z1 ov1 st as_) [(0,1),(1,2),(2,3),(3,4),(4,5),(5,6),(6,7),(7,8)] (fun r h' n' ⟨e1,e2,e3⟩ => ?_)
  subst e1 e2 e3
  conv => cbv
  refine cfr (cyclesH_lx R1 ws1 C1 G1 N W ph1 sp1 cy1 L1 D1 Q1 z1 ov1) [(0,2),(1,3),(2,4),(3,5),(4,6),(5,7),(6,8)] (fun r h' n' ⟨e1,e2,e3⟩ => ?_)
  subst e1 e2 e3
  conv => cbv
  refine cfr (heapS_lx R1 ws1 C1 G1 N W ph1 sp1 cy1 L1 D1 Q1 z1 ov1 st as_) [(0,1),(1,2),(2,3),(3,4),(4,5),(5,6),(6,7),(7,8)] (fun r h' n' ⟨e1,e2,e3⟩ => ?_)
  subst e1 e2 e3
  conv => cbv
  refine cfr (phase_lx R1 ws1 C1 G1 N W ph1 sp1 cy1 L1 D1 Q1 z1 ov1) [(0,2),(1,3),(2,4),(3,5),(4,6),(5,7),(6,8)] (fun r h' n' ⟨e1,e2,e3⟩ => ?_)
  subst e1 e2 e3
  conv => cbv
  refine CallF.re (args0 := [.ptr 1 (.lit 0),.p (.vsl (.sym 1) true [.int .i64 (.sym 5),.int .i64 (.sym 0)]),.sl 9 3 1 (.lit 0) (.sym m)]) (h' := [(1,.mix [.ptr 2 (.lit 0),i6 st,i6 as_]),hpA 2 3 7 8 3 W ph1 sp1 cy1,hpB 3 4 6 3 W,hpC 4 5 137 2 N,hpP 5 L1,hpP 6 D1,hpF 7 z1 ov1,hpP 8 Q1,(0,.fix 0 o),hpP 9 cr]) (Re.at [(0,0),(1,1),(2,2),(3,3),(4,4),(5,5),(6,6),(7,7),(8,8),(9,9)] []) (cfr (allocB_lx R1 ws1 C1 G1 N W ph1 sp1 cy1 L1 D1 Q1 z1 ov1 h1 o ho st as_ hCO hI.g (by omega) [(5,0)] 1 [.int .i64 (.sym 5),.int .i64 (.sym 0)] rfl rfl (by decide) l m cr hcr hml (by omega)) [(0,1),(1,2),(2,3),(3,4),(4,5),(5,6),(6,7),(7,8),(8,0),(9,9)] (fun r h' n' hrr => ?_))
  rcases hrr with ⟨_,⟨p,hp,v,hv⟩,_⟩ | hrr
  ·exfalso
   rw [List.mem_singleton.1 hp] at hv
   rcases hv with ⟨q,_⟩ | ⟨_,q,q2⟩
   ·exact absurd q (by decide)
   ·rw [q] at q2
    exact absurd (q2.2 (by decide)) (by decide)
  obtain ⟨X,x,out,e,mx,mg,T,cg,R2,ws2,C2,G2,ov2,ph2,sp2,cy2,L2,D2,Q2,z2,e1,hX,hh,h2,hT,hmx,hcg,hmg,hA⟩ := hrr
  have hX2 := sz_box hX
  subst hX2
  have hgd := hA.good h1.w hI.g
  obtain ⟨rfl,rfl,a,rfl,hI2,hph⟩ := hI.step h1.w (by omega) hA
  have hcyb : cy2 ≤ cy1 + 7000 := hgd.2.1
  have hcy20 : 0 ≤ cy2 := hI2.g.y
  subst hmg hcg hmx hT
  rcases hh with ⟨e2,e3⟩ | ⟨e2,e3,_⟩
  ·subst e1 e2 e3
   conv => cbv
   refine Br.no (fun w => w rfl) ?_
   conv => cbv
   refine Br.no (fun w => w rfl) ?_
   conv => cbv
   refine Br.no (fun w => w rfl) ?_
   conv => cbv
   refine Br.mk (fun qp => ?_) (fun qp => ?_)
   ·have qp : ph1 = 0 := qp
    have hne := (hph qp).2 hdue
    conv => cbv
    refine cfr (heapS_lx R2 ws2 C2 G2 N W ph2 sp2 cy2 L2 D2 Q2 z2 ov2 st as_) [(0,1),(1,2),(2,3),(3,4),(4,5),(5,6),(6,7),(7,8)] (fun r h' n' ⟨e1,e2,e3⟩ => ?_)
    subst e1 e2 e3
    conv => cbv
    refine cfr (phase_lx R2 ws2 C2 G2 N W ph2 sp2 cy2 L2 D2 Q2 z2 ov2) [(0,2),(1,3),(2,4),(3,5),(4,6),(5,7),(6,8)] (fun r h' n' ⟨e1,e2,e3⟩ => ?_)
    subst e1 e2 e3
    conv => cbv
    refine Br.mk (fun qr => ?_) (fun qr => ?_)
    ·have qr : ph2 = 0 := qr
     conv => cbv
     refine cfr (heapS_lx R2 ws2 C2 G2 N W ph2 sp2 cy2 L2 D2 Q2 z2 ov2 st as_) [(0,1),(1,2),(2,3),(3,4),(4,5),(5,6),(6,7),(7,8)] (fun r h' n' ⟨e1,e2,e3⟩ => ?_)
     subst e1 e2 e3
     conv => cbv
     refine cfr (cyclesH_lx R2 ws2 C2 G2 N W ph2 sp2 cy2 L2 D2 Q2 z2 ov2) [(0,2),(1,3),(2,4),(3,5),(4,6),(5,7),(6,8)] (fun r h' n' ⟨e1,e2,e3⟩ => ?_)
     subst e1 e2 e3
     conv => cbv
     refine Br.no (fun w => hne ⟨qr,w⟩) ?_
     conv => cbv
     refine Need.mk ⟨by decide,by decide⟩ ?_
     conv => cbv
     refine Cell.at 0 _ rfl rfl rfl ?_
     conv => cbv
     refine Room.new rfl ?_
     conv => cbv
     refine Room.new ⟨by show (cr.length : Int) = m * 1; omega,by show (m + 1) * 8 ≤ 140737488355328; omega,by show m + 1 ≤ 9223372036854775807; omega⟩ ?_
     conv => cbv
     refine Upd.mk fun c5 hc5 => ?_
     have hc5 : c5 = ipv (l ++ [a]) := by rw [show c5 = cr ++ [.int .i64 (.sym a)] from hc5,← ipv_app,← hcr]; rfl
     conv => cbv
     refine Sum.mk fun m5 hm5 => ?_
     have hm5 : m5 = ((l ++ [a]).length : Int) := by rw [show m5 = m + 1 from hm5,hml,List.length_append]; rfl
     conv => cbv
     refine Fit.mk (by show (-9223372036854775808 : Int) ≤ i + 1; omega) (by show i + 1 ≤ 9223372036854775807; omega) fun i2 hi2 => ?_
     have hi2 : i2 = i + 1 := hi2
     have hm6 : m5 = i2 := by rw [hm5,List.length_append]; show ((l.length + 1 : Nat) : Int) = i2; omega
     conv => cbv
     refine Again.mk (un_n - i2).toNat _ (by omega) (Re.at [(0,0),(1,1),(2,2),(3,3),(4,4),(5,5),(6,6),(7,7),(8,8),(12,9)] []) ⟨i2,m5,ph2,sp2,cy2,R2,ws2,C2,G2,ov2,L2,D2,Q2,c5,z2,l ++ [a],rfl,by omega,by omega,h2,hI2,hc5,hm5,hm6,hcy20,by omega,rfl⟩
    ·conv => cbv
     refine Need.mk ⟨by decide,by decide⟩ ?_
     conv => cbv
     refine Cell.at 0 _ rfl rfl rfl ?_
     conv => cbv
     refine Room.new rfl ?_
     conv => cbv
     refine Room.new ⟨by show (cr.length : Int) = m * 1; omega,by show (m + 1) * 8 ≤ 140737488355328; omega,by show m + 1 ≤ 9223372036854775807; omega⟩ ?_
     conv => cbv
     refine Upd.mk fun c5 hc5 => ?_
     have hc5 : c5 = ipv (l ++ [a]) := by rw [show c5 = cr ++ [.int .i64 (.sym a)] from hc5,← ipv_app,← hcr]; rfl
     conv => cbv
     refine Sum.mk fun m5 hm5 => ?_
     have hm5 : m5 = ((l ++ [a]).length : Int) := by rw [show m5 = m + 1 from hm5,hml,List.length_append]; rfl
     conv => cbv
     refine Fit.mk (by show (-9223372036854775808 : Int) ≤ i + 1; omega) (by show i + 1 ≤ 9223372036854775807; omega) fun i2 hi2 => ?_
     have hi2 : i2 = i + 1 := hi2
     have hm6 : m5 = i2 := by rw [hm5,List.length_append]; show ((l.length + 1 : Nat) : Int) = i2; omega
     conv => cbv
     refine Again.mk (un_n - i2).toNat _ (by omega) (Re.at [(0,0),(1,1),(2,2),(3,3),(4,4),(5,5),(6,6),(7,7),(8,8),(12,9)] []) ⟨i2,m5,ph2,sp2,cy2,R2,ws2,C2,G2,ov2,L2,D2,Q2,c5,z2,l ++ [a],rfl,by omega,by omega,h2,hI2,hc5,hm5,hm6,hcy20,by omega,rfl⟩
   ·conv => cbv
    refine Need.mk ⟨by decide,by decide⟩ ?_
    conv => cbv
    refine Cell.at 0 _ rfl rfl rfl ?_
    conv => cbv
    refine Room.new rfl ?_
    conv => cbv
    refine Room.new ⟨by show (cr.length : Int) = m * 1; omega,by show (m + 1) * 8 ≤ 140737488355328; omega,by show m + 1 ≤ 9223372036854775807; omega⟩ ?_
    conv => cbv
    refine Upd.mk fun c5 hc5 => ?_
    have hc5 : c5 = ipv (l ++ [a]) := by rw [show c5 = cr ++ [.int .i64 (.sym a)] from hc5,← ipv_app,← hcr]; rfl
    conv => cbv
    refine Sum.mk fun m5 hm5 => ?_
    have hm5 : m5 = ((l ++ [a]).length : Int) := by rw [show m5 = m + 1 from hm5,hml,List.length_append]; rfl
    conv => cbv
    refine Fit.mk (by show (-9223372036854775808 : Int) ≤ i + 1; omega) (by show i + 1 ≤ 9223372036854775807; omega) fun i2 hi2 => ?_
    have hi2 : i2 = i + 1 := hi2
    have hm6 : m5 = i2 := by rw [hm5,List.length_append]; show ((l.length + 1 : Nat) : Int) = i2; omega
    conv => cbv
    refine Again.mk (un_n - i2).toNat _ (by omega) (Re.at [(0,0),(1,1),(2,2),(3,3),(4,4),(5,5),(6,6),(7,7),(8,8),(12,9)] []) ⟨i2,m5,ph2,sp2,cy2,R2,ws2,C2,G2,ov2,L2,D2,Q2,c5,z2,l ++ [a],rfl,by omega,by omega,h2,hI2,hc5,hm5,hm6,hcy20,by omega,rfl⟩
  ·subst e1 e2 e3
   conv => cbv
   refine Br.no (fun w => w rfl) ?_
   conv => cbv
   refine Br.no (fun w => w rfl) ?_
   conv => cbv
   refine Br.no (fun w => w rfl) ?_
   conv => cbv
   refine Br.mk (fun qp => ?_) (fun qp => ?_)
   ·have qp : ph1 = 0 := qp
    have hne := (hph qp).2 hdue
    conv => cbv
    refine cfr (heapS_lx R2 ws2 C2 G2 N W ph2 sp2 cy2 L2 D2 Q2 z2 ov2 st as_) [(0,1),(1,2),(2,3),(3,4),(4,5),(5,6),(6,11),(7,8)] (fun r h' n' ⟨e1,e2,e3⟩ => ?_)
    subst e1 e2 e3
    conv => cbv
    refine cfr (phase_lx R2 ws2 C2 G2 N W ph2 sp2 cy2 L2 D2 Q2 z2 ov2) [(0,2),(1,3),(2,4),(3,5),(4,6),(5,11),(6,8)] (fun r h' n' ⟨e1,e2,e3⟩ => ?_)
    subst e1 e2 e3
    conv => cbv
    refine Br.mk (fun qr => ?_) (fun qr => ?_)
    ·have qr : ph2 = 0 := qr
     conv => cbv
     refine cfr (heapS_lx R2 ws2 C2 G2 N W ph2 sp2 cy2 L2 D2 Q2 z2 ov2 st as_) [(0,1),(1,2),(2,3),(3,4),(4,5),(5,6),(6,11),(7,8)] (fun r h' n' ⟨e1,e2,e3⟩ => ?_)
     subst e1 e2 e3
     conv => cbv
     refine cfr (cyclesH_lx R2 ws2 C2 G2 N W ph2 sp2 cy2 L2 D2 Q2 z2 ov2) [(0,2),(1,3),(2,4),(3,5),(4,6),(5,11),(6,8)] (fun r h' n' ⟨e1,e2,e3⟩ => ?_)
     subst e1 e2 e3
     conv => cbv
     refine Br.no (fun w => hne ⟨qr,w⟩) ?_
     conv => cbv
     refine Need.mk ⟨by decide,by decide⟩ ?_
     conv => cbv
     refine Cell.at 0 _ rfl rfl rfl ?_
     conv => cbv
     refine Room.new rfl ?_
     conv => cbv
     refine Room.new ⟨by show (cr.length : Int) = m * 1; omega,by show (m + 1) * 8 ≤ 140737488355328; omega,by show m + 1 ≤ 9223372036854775807; omega⟩ ?_
     conv => cbv
     refine Upd.mk fun c5 hc5 => ?_
     have hc5 : c5 = ipv (l ++ [a]) := by rw [show c5 = cr ++ [.int .i64 (.sym a)] from hc5,← ipv_app,← hcr]; rfl
     conv => cbv
     refine Sum.mk fun m5 hm5 => ?_
     have hm5 : m5 = ((l ++ [a]).length : Int) := by rw [show m5 = m + 1 from hm5,hml,List.length_append]; rfl
     conv => cbv
     refine Fit.mk (by show (-9223372036854775808 : Int) ≤ i + 1; omega) (by show i + 1 ≤ 9223372036854775807; omega) fun i2 hi2 => ?_
     have hi2 : i2 = i + 1 := hi2
     have hm6 : m5 = i2 := by rw [hm5,List.length_append]; show ((l.length + 1 : Nat) : Int) = i2; omega
     conv => cbv
     refine Again.mk (un_n - i2).toNat _ (by omega) (Re.at [(0,0),(1,1),(2,2),(3,3),(4,4),(5,5),(6,6),(8,8),(11,7),(13,9)] []) ⟨i2,m5,ph2,sp2,cy2,R2,ws2,C2,G2,ov2,L2,D2,Q2,c5,z2,l ++ [a],rfl,by omega,by omega,h2,hI2,hc5,hm5,hm6,hcy20,by omega,rfl⟩
    ·conv => cbv
     refine Need.mk ⟨by decide,by decide⟩ ?_
     conv => cbv
     refine Cell.at 0 _ rfl rfl rfl ?_
     conv => cbv
     refine Room.new rfl ?_
     conv => cbv
     refine Room.new ⟨by show (cr.length : Int) = m * 1; omega,by show (m + 1) * 8 ≤ 140737488355328; omega,by show m + 1 ≤ 9223372036854775807; omega⟩ ?_
     conv => cbv
     refine Upd.mk fun c5 hc5 => ?_
     have hc5 : c5 = ipv (l ++ [a]) := by rw [show c5 = cr ++ [.int .i64 (.sym a)] from hc5,← ipv_app,← hcr]; rfl
     conv => cbv
     refine Sum.mk fun m5 hm5 => ?_
     have hm5 : m5 = ((l ++ [a]).length : Int) := by rw [show m5 = m + 1 from hm5,hml,List.length_append]; rfl
     conv => cbv
     refine Fit.mk (by show (-9223372036854775808 : Int) ≤ i + 1; omega) (by show i + 1 ≤ 9223372036854775807; omega) fun i2 hi2 => ?_
     have hi2 : i2 = i + 1 := hi2
     have hm6 : m5 = i2 := by rw [hm5,List.length_append]; show ((l.length + 1 : Nat) : Int) = i2; omega
     conv => cbv
     refine Again.mk (un_n - i2).toNat _ (by omega) (Re.at [(0,0),(1,1),(2,2),(3,3),(4,4),(5,5),(6,6),(8,8),(11,7),(13,9)] []) ⟨i2,m5,ph2,sp2,cy2,R2,ws2,C2,G2,ov2,L2,D2,Q2,c5,z2,l ++ [a],rfl,by omega,by omega,h2,hI2,hc5,hm5,hm6,hcy20,by omega,rfl⟩
   ·conv => cbv
    refine Need.mk ⟨by decide,by decide⟩ ?_
    conv => cbv
    refine Cell.at 0 _ rfl rfl rfl ?_
    conv => cbv
    refine Room.new rfl ?_
    conv => cbv
    refine Room.new ⟨by show (cr.length : Int) = m * 1; omega,by show (m + 1) * 8 ≤ 140737488355328; omega,by show m + 1 ≤ 9223372036854775807; omega⟩ ?_
    conv => cbv
    refine Upd.mk fun c5 hc5 => ?_
    have hc5 : c5 = ipv (l ++ [a]) := by rw [show c5 = cr ++ [.int .i64 (.sym a)] from hc5,← ipv_app,← hcr]; rfl
    conv => cbv
    refine Sum.mk fun m5 hm5 => ?_
    have hm5 : m5 = ((l ++ [a]).length : Int) := by rw [show m5 = m + 1 from hm5,hml,List.length_append]; rfl
    conv => cbv
    refine Fit.mk (by show (-9223372036854775808 : Int) ≤ i + 1; omega) (by show i + 1 ≤ 9223372036854775807; omega) fun i2 hi2 => ?_
    have hi2 : i2 = i + 1 := hi2
    have hm6 : m5 = i2 := by rw [hm5,List.length_append]; show ((l.length + 1 : Nat) : Int) = i2; omega
    conv => cbv
    refine Again.mk (un_n - i2).toNat _ (by omega) (Re.at [(0,0),(1,1),(2,2),(3,3),(4,4),(5,5),(6,6),(8,8),(11,7),(13,9)] []) ⟨i2,m5,ph2,sp2,cy2,R2,ws2,C2,G2,ov2,L2,D2,Q2,c5,z2,l ++ [a],rfl,by omega,by omega,h2,hI2,hc5,hm5,hm6,hcy20,by omega,rfl⟩
 ·have hdue : ¬ st * W ≤ 100 * usedW R1 := by have q2 : ¬ w2 ≤ u2 := q2; rw [← hu]; omega
  conv => cbv
  refine cfr (heapS_lx R1 ws1 C1 G1 N W ph1 sp1 cy1 L1 D1 Q1 z1 ov1 st as_) [(0,1),(1,2),(2,3),(3,4),(4,5),(5,6),(6,7),(7,8)] (fun r h' n' ⟨e1,e2,e3⟩ => ?_)
  subst e1 e2 e3
  conv => cbv
  refine cfr (cyclesH_lx R1 ws1 C1 G1 N W ph1 sp1 cy1 L1 D1 Q1 z1 ov1) [(0,2),(1,3),(2,4),(3,5),(4,6),(5,7),(6,8)] (fun r h' n' ⟨e1,e2,e3⟩ => ?_)
  subst e1 e2 e3
  conv => cbv
  refine cfr (heapS_lx R1 ws1 C1 G1 N W ph1 sp1 cy1 L1 D1 Q1 z1 ov1 st as_) [(0,1),(1,2),(2,3),(3,4),(4,5),(5,6),(6,7),(7,8)] (fun r h' n' ⟨e1,e2,e3⟩ => ?_)
  subst e1 e2 e3
  conv => cbv
  refine cfr (phase_lx R1 ws1 C1 G1 N W ph1 sp1 cy1 L1 D1 Q1 z1 ov1) [(0,2),(1,3),(2,4),(3,5),(4,6),(5,7),(6,8)] (fun r h' n' ⟨e1,e2,e3⟩ => ?_)
  subst e1 e2 e3
  conv => cbv
  refine CallF.re (args0 := [.ptr 1 (.lit 0),.p (.vsl (.sym 1) true [.int .i64 (.sym 5),.int .i64 (.sym 0)]),.sl 9 3 1 (.lit 0) (.sym m)]) (h' := [(1,.mix [.ptr 2 (.lit 0),i6 st,i6 as_]),hpA 2 3 7 8 3 W ph1 sp1 cy1,hpB 3 4 6 3 W,hpC 4 5 137 2 N,hpP 5 L1,hpP 6 D1,hpF 7 z1 ov1,hpP 8 Q1,(0,.fix 0 o),hpP 9 cr]) (Re.at [(0,0),(1,1),(2,2),(3,3),(4,4),(5,5),(6,6),(7,7),(8,8),(9,9)] []) (cfr (allocB_lx R1 ws1 C1 G1 N W ph1 sp1 cy1 L1 D1 Q1 z1 ov1 h1 o ho st as_ hCO hI.g (by omega) [(5,0)] 1 [.int .i64 (.sym 5),.int .i64 (.sym 0)] rfl rfl (by decide) l m cr hcr hml (by omega)) [(0,1),(1,2),(2,3),(3,4),(4,5),(5,6),(6,7),(7,8),(8,0),(9,9)] (fun r h' n' hrr => ?_))
  rcases hrr with ⟨_,⟨p,hp,v,hv⟩,_⟩ | hrr
  ·exfalso
   rw [List.mem_singleton.1 hp] at hv
   rcases hv with ⟨q,_⟩ | ⟨_,q,q2⟩
   ·exact absurd q (by decide)
   ·rw [q] at q2
    exact absurd (q2.2 (by decide)) (by decide)
  obtain ⟨X,x,out,e,mx,mg,T,cg,R2,ws2,C2,G2,ov2,ph2,sp2,cy2,L2,D2,Q2,z2,e1,hX,hh,h2,hT,hmx,hcg,hmg,hA⟩ := hrr
  have hX2 := sz_box hX
  subst hX2
  have hgd := hA.good h1.w hI.g
  obtain ⟨rfl,rfl,a,rfl,hI2,hph⟩ := hI.step h1.w (by omega) hA
  have hcyb : cy2 ≤ cy1 + 7000 := hgd.2.1
  have hcy20 : 0 ≤ cy2 := hI2.g.y
  subst hmg hcg hmx hT
  rcases hh with ⟨e2,e3⟩ | ⟨e2,e3,_⟩
  ·subst e1 e2 e3
   conv => cbv
   refine Br.no (fun w => w rfl) ?_
   conv => cbv
   refine Br.no (fun w => w rfl) ?_
   conv => cbv
   refine Br.no (fun w => w rfl) ?_
   conv => cbv
   refine Br.mk (fun qp => ?_) (fun qp => ?_)
   ·have qp : ph1 = 0 := qp
    obtain ⟨hp2,hc2⟩ := (hph qp).1 hdue
    have hp2 : ph2 = 0 := hp2
    have hc2 : cy2 = cy1 := hc2
    conv => cbv
    refine cfr (heapS_lx R2 ws2 C2 G2 N W ph2 sp2 cy2 L2 D2 Q2 z2 ov2 st as_) [(0,1),(1,2),(2,3),(3,4),(4,5),(5,6),(6,7),(7,8)] (fun r h' n' ⟨e1,e2,e3⟩ => ?_)
    subst e1 e2 e3
    conv => cbv
    refine cfr (phase_lx R2 ws2 C2 G2 N W ph2 sp2 cy2 L2 D2 Q2 z2 ov2) [(0,2),(1,3),(2,4),(3,5),(4,6),(5,7),(6,8)] (fun r h' n' ⟨e1,e2,e3⟩ => ?_)
    subst e1 e2 e3
    conv => cbv
    refine Br.no (fun w => w hp2) ?_
    conv => cbv
    refine cfr (heapS_lx R2 ws2 C2 G2 N W ph2 sp2 cy2 L2 D2 Q2 z2 ov2 st as_) [(0,1),(1,2),(2,3),(3,4),(4,5),(5,6),(6,7),(7,8)] (fun r h' n' ⟨e1,e2,e3⟩ => ?_)
    subst e1 e2 e3
    conv => cbv
    refine cfr (cyclesH_lx R2 ws2 C2 G2 N W ph2 sp2 cy2 L2 D2 Q2 z2 ov2) [(0,2),(1,3),(2,4),(3,5),(4,6),(5,7),(6,8)] (fun r h' n' ⟨e1,e2,e3⟩ => ?_)
    subst e1 e2 e3
    conv => cbv
    refine Br.no (fun w => w hc2) ?_
    conv => cbv
    refine Need.mk ⟨by decide,by decide⟩ ?_
    conv => cbv
    refine Cell.at 0 _ rfl rfl rfl ?_
    conv => cbv
    refine Room.new rfl ?_
    conv => cbv
    refine Room.new ⟨by show (cr.length : Int) = m * 1; omega,by show (m + 1) * 8 ≤ 140737488355328; omega,by show m + 1 ≤ 9223372036854775807; omega⟩ ?_
    conv => cbv
    refine Upd.mk fun c5 hc5 => ?_
    have hc5 : c5 = ipv (l ++ [a]) := by rw [show c5 = cr ++ [.int .i64 (.sym a)] from hc5,← ipv_app,← hcr]; rfl
    conv => cbv
    refine Sum.mk fun m5 hm5 => ?_
    have hm5 : m5 = ((l ++ [a]).length : Int) := by rw [show m5 = m + 1 from hm5,hml,List.length_append]; rfl
    conv => cbv
    refine Fit.mk (by show (-9223372036854775808 : Int) ≤ i + 1; omega) (by show i + 1 ≤ 9223372036854775807; omega) fun i2 hi2 => ?_
    have hi2 : i2 = i + 1 := hi2
    have hm6 : m5 = i2 := by rw [hm5,List.length_append]; show ((l.length + 1 : Nat) : Int) = i2; omega
    conv => cbv
    refine Again.mk (un_n - i2).toNat _ (by omega) (Re.at [(0,0),(1,1),(2,2),(3,3),(4,4),(5,5),(6,6),(7,7),(8,8),(12,9)] []) ⟨i2,m5,ph2,sp2,cy2,R2,ws2,C2,G2,ov2,L2,D2,Q2,c5,z2,l ++ [a],rfl,by omega,by omega,h2,hI2,hc5,hm5,hm6,hcy20,by omega,rfl⟩
   ·conv => cbv
    refine Need.mk ⟨by decide,by decide⟩ ?_
    conv => cbv
    refine Cell.at 0 _ rfl rfl rfl ?_
    conv => cbv
    refine Room.new rfl ?_
    conv => cbv
    refine Room.new ⟨by show (cr.length : Int) = m * 1; omega,by show (m + 1) * 8 ≤ 140737488355328; omega,by show m + 1 ≤ 9223372036854775807; omega⟩ ?_
    conv => cbv
    refine Upd.mk fun c5 hc5 => ?_
    have hc5 : c5 = ipv (l ++ [a]) := by rw [show c5 = cr ++ [.int .i64 (.sym a)] from hc5,← ipv_app,← hcr]; rfl
    conv => cbv
    refine Sum.mk fun m5 hm5 => ?_
    have hm5 : m5 = ((l ++ [a]).length : Int) := by rw [show m5 = m + 1 from hm5,hml,List.length_append]; rfl
    conv => cbv
    refine Fit.mk (by show (-9223372036854775808 : Int) ≤ i + 1; omega) (by show i + 1 ≤ 9223372036854775807; omega) fun i2 hi2 => ?_
    have hi2 : i2 = i + 1 := hi2
    have hm6 : m5 = i2 := by rw [hm5,List.length_append]; show ((l.length + 1 : Nat) : Int) = i2; omega
    conv => cbv
    refine Again.mk (un_n - i2).toNat _ (by omega) (Re.at [(0,0),(1,1),(2,2),(3,3),(4,4),(5,5),(6,6),(7,7),(8,8),(12,9)] []) ⟨i2,m5,ph2,sp2,cy2,R2,ws2,C2,G2,ov2,L2,D2,Q2,c5,z2,l ++ [a],rfl,by omega,by omega,h2,hI2,hc5,hm5,hm6,hcy20,by omega,rfl⟩
  ·subst e1 e2 e3
   conv => cbv
   refine Br.no (fun w => w rfl) ?_
   conv => cbv
   refine Br.no (fun w => w rfl) ?_
   conv => cbv
   refine Br.no (fun w => w rfl) ?_
   conv => cbv
   refine Br.mk (fun qp => ?_) (fun qp => ?_)
   ·have qp : ph1 = 0 := qp
    obtain ⟨hp2,hc2⟩ := (hph qp).1 hdue
    have hp2 : ph2 = 0 := hp2
    have hc2 : cy2 = cy1 := hc2
    conv => cbv
    refine cfr (heapS_lx R2 ws2 C2 G2 N W ph2 sp2 cy2 L2 D2 Q2 z2 ov2 st as_) [(0,1),(1,2),(2,3),(3,4),(4,5),(5,6),(6,11),(7,8)] (fun r h' n' ⟨e1,e2,e3⟩ => ?_)
    subst e1 e2 e3
    conv => cbv
    refine cfr (phase_lx R2 ws2 C2 G2 N W ph2 sp2 cy2 L2 D2 Q2 z2 ov2) [(0,2),(1,3),(2,4),(3,5),(4,6),(5,11),(6,8)] (fun r h' n' ⟨e1,e2,e3⟩ => ?_)
    subst e1 e2 e3
    conv => cbv
    refine Br.no (fun w => w hp2) ?_
    conv => cbv
    refine cfr (heapS_lx R2 ws2 C2 G2 N W ph2 sp2 cy2 L2 D2 Q2 z2 ov2 st as_) [(0,1),(1,2),(2,3),(3,4),(4,5),(5,6),(6,11),(7,8)] (fun r h' n' ⟨e1,e2,e3⟩ => ?_)
    subst e1 e2 e3
    conv => cbv
    refine cfr (cyclesH_lx R2 ws2 C2 G2 N W ph2 sp2 cy2 L2 D2 Q2 z2 ov2) [(0,2),(1,3),(2,4),(3,5),(4,6),(5,11),(6,8)] (fun r h' n' ⟨e1,e2,e3⟩ => ?_)
    subst e1 e2 e3
    conv => cbv
    refine Br.no (fun w => w hc2) ?_
    conv => cbv
    refine Need.mk ⟨by decide,by decide⟩ ?_
    conv => cbv
    refine Cell.at 0 _ rfl rfl rfl ?_
    conv => cbv
    refine Room.new rfl ?_
    conv => cbv
    refine Room.new ⟨by show (cr.length : Int) = m * 1; omega,by show (m + 1) * 8 ≤ 140737488355328; omega,by show m + 1 ≤ 9223372036854775807; omega⟩ ?_
    conv => cbv
    refine Upd.mk fun c5 hc5 => ?_
    have hc5 : c5 = ipv (l ++ [a]) := by rw [show c5 = cr ++ [.int .i64 (.sym a)] from hc5,← ipv_app,← hcr]; rfl
    conv => cbv
    refine Sum.mk fun m5 hm5 => ?_
    have hm5 : m5 = ((l ++ [a]).length : Int) := by rw [show m5 = m + 1 from hm5,hml,List.length_append]; rfl
    conv => cbv
    refine Fit.mk (by show (-9223372036854775808 : Int) ≤ i + 1; omega) (by show i + 1 ≤ 9223372036854775807; omega) fun i2 hi2 => ?_
    have hi2 : i2 = i + 1 := hi2
    have hm6 : m5 = i2 := by rw [hm5,List.length_append]; show ((l.length + 1 : Nat) : Int) = i2; omega
    conv => cbv
    refine Again.mk (un_n - i2).toNat _ (by omega) (Re.at [(0,0),(1,1),(2,2),(3,3),(4,4),(5,5),(6,6),(8,8),(11,7),(13,9)] []) ⟨i2,m5,ph2,sp2,cy2,R2,ws2,C2,G2,ov2,L2,D2,Q2,c5,z2,l ++ [a],rfl,by omega,by omega,h2,hI2,hc5,hm5,hm6,hcy20,by omega,rfl⟩
   ·conv => cbv
    refine Need.mk ⟨by decide,by decide⟩ ?_
    conv => cbv
    refine Cell.at 0 _ rfl rfl rfl ?_
    conv => cbv
    refine Room.new rfl ?_
    conv => cbv
    refine Room.new ⟨by show (cr.length : Int) = m * 1; omega,by show (m + 1) * 8 ≤ 140737488355328; omega,by show m + 1 ≤ 9223372036854775807; omega⟩ ?_
    conv => cbv
    refine Upd.mk fun c5 hc5 => ?_
    have hc5 : c5 = ipv (l ++ [a]) := by rw [show c5 = cr ++ [.int .i64 (.sym a)] from hc5,← ipv_app,← hcr]; rfl
    conv => cbv
    refine Sum.mk fun m5 hm5 => ?_
    have hm5 : m5 = ((l ++ [a]).length : Int) := by rw [show m5 = m + 1 from hm5,hml,List.length_append]; rfl
    conv => cbv
    refine Fit.mk (by show (-9223372036854775808 : Int) ≤ i + 1; omega) (by show i + 1 ≤ 9223372036854775807; omega) fun i2 hi2 => ?_
    have hi2 : i2 = i + 1 := hi2
    have hm6 : m5 = i2 := by rw [hm5,List.length_append]; show ((l.length + 1 : Nat) : Int) = i2; omega
    conv => cbv
    refine Again.mk (un_n - i2).toNat _ (by omega) (Re.at [(0,0),(1,1),(2,2),(3,3),(4,4),(5,5),(6,6),(8,8),(11,7),(13,9)] []) ⟨i2,m5,ph2,sp2,cy2,R2,ws2,C2,G2,ov2,L2,D2,Q2,c5,z2,l ++ [a],rfl,by omega,by omega,h2,hI2,hc5,hm5,hm6,hcy20,by omega,rfl⟩
end Go.Proofs.YtpbhcdbkmmjimaaGreatDoor
