/-
  The ground of the proof, part 9: the calculus and what is proved with it.
-/
import Derived.Test.YtkhfgngcoiablaaGreatDoorBh
import Derived.Test.YtkhfgngcoiablaaGreatDoorBc
namespace Go.Proofs.YtkhfgngcoiablaaGreatDoor
open Go Go.LX
set_option maxRecDepth 100000
set_option linter.unusedVariables false
set_option linter.unusedSimpArgs false
set_option maxHeartbeats 32000000
theorem pop_rm {q : Qs} {a s : Int} {d : Bool} {B l : List Int} (hq : q a d = s :: B) (hs : s ∈ l) : rmQ (updQ q a d B) l = rmQ q l := by
 funext c' d'
 unfold rmQ
 by_cases e : c' = a ∧ d' = d
 ·obtain ⟨rfl,rfl⟩ := e
  rw [updQ_same,hq,List.filter_cons_of_neg (by simpa using hs)]
 ·rw [updQ_ne e]
theorem sysPop {M : Hp} {q : Qs} (h : Sys M q) {a s : Int} {d : Bool} {B : List Int} (hq : q a d = s :: B) : Sys (relink M (updQ q a d B)) (updQ q a d B) := h.take (A := []) (by simpa using hq)
theorem alloc14_lx (R : List Rw) (ws vs C : List Int) (N W ph sp cy : Int) (L D Q : List PV) (z : ByteArray) (ov : Bool) (P B V Qr la : List PV) (m : Int) (M : Hp) (nc ng : Int) (cs gs : List PV) (o : Unit → Obj) (S : Bst R ws vs C N W ph L D Q z P B V Qr la m M) (kd n : Int) (hk : 0 ≤ n ∧ n ≤ 31 ∧ 1 ≤ kd ∧ kd ≤ 6) (hlen : lenK kd n.toNat) (hroom : objCount R < R.length) : CallF (fun _ => Tryz.prog) 14 [.ptr 16 (.lit 0),i6 kd,i6 n] [hpA 0 1 5 6 3 W ph sp cy,hpB 1 2 4 3 W,hpC 2 3 233 2 N,hpP 3 L,hpP 4 D,hpF 5 z ov,hpP 6 Q,hpR 7 8 13 3 W 14 ph sp cy,hpB 8 9 12 3 W,hpD 9 10 3 1 N 11 231 8 N,hpP 10 P,hpP 11 B,hpP 12 V,hpP 13 Qr,(14,.mix [.p (.vsl (.sym m) true la),.p (.bool ov)]),(15,.fix 0 o),(16,.mix [.ptr 0 (.lit 0),.ptr 7 (.lit 0),.sl 17 3 1 (.lit 0) (.sym nc),.sl 18 3 1 (.lit 0) (.sym ng)]),hpP 17 cs,hpP 18 gs] 19 (fun r h n' => ∃ (x : Int) (R' : List Rw) (ws' vs' : List Int) (L' D' P' B' V' : List PV),r = .p (.int .i64 (.sym x)) ∧ h = [hpA 0 1 5 6 3 W ph sp cy,hpB 1 2 4 3 W,hpC 2 3 233 2 N,hpP 3 L',hpP 4 D',hpF 5 z ov,hpP 6 Q,hpR 7 8 13 3 W 14 ph sp cy,hpB 8 9 12 3 W,hpD 9 10 3 1 N 11 231 8 N,hpP 10 P',hpP 11 B',hpP 12 V',hpP 13 Qr,(14,.mix [.p (.vsl (.sym m) true la),.p (.bool ov)]),(15,.fix 0 o),(16,.mix [.ptr 0 (.lit 0),.ptr 7 (.lit 0),.sl 17 3 1 (.lit 0) (.sym nc),.sl 18 3 1 (.lit 0) (.sym ng)]),hpP 17 cs,hpP 18 gs] ∧ n' = 19 ∧ Bst R' ws' vs' C N W ph L' D' Q z P' B' V' Qr la m (upd M x (kd,zerK kd n.toNat)) ∧ objCount R' = objCount R + 1 ∧ M x = Option.none ∧ 0 ≤ x ∧ x < W ∧ R'.length = R.length) := by
 refine callF_of_body tok Tryz.func14 (by kernel_rfl) rfl rfl rfl ?_; conv => cbv
 refine cfr (alloc9_lx R ws C [] N W ph sp cy L D Q z ov S.h kd n) iM7 (fun r h' n' hrr => ?_)
 obtain ⟨x,e,R',ws',C',L',D',Q',e1,e2,e3,h1,hT,hC⟩ := hrr
 subst e1 e2 e3
 conv => cbv
 refine cfr (ralloc9_lx R vs C [] N W ph sp cy P B V Qr la m ov S.r kd n) iZ0 (fun r h' n' hrr => ?_)
 obtain ⟨y,f,Y,vs',DC,P',B',V',Qr',e1,e2,e3,g1,hU,hD⟩ := hrr
 subst e1 e2 e3
 obtain ⟨q1,q2,q3,hS1,hl1⟩ := (S.c.toSim S.h.a S.r.a S.d).alloc hT hU
 subst q1 q2 q3
 obtain ⟨he,hM1,hc1,hx0,hx1,hx2,hx3⟩ := S.c.alloc S.h.a hroom hk hlen hT
 obtain ⟨q4,q5,q6,q7⟩ := Bst.colour S he h1 g1 hC hD
 subst q4 q5 q6 q7
 conv => cbv
 refine Br.no (show ¬ ¬ (x = x) from fun q => q rfl) ?_
 conv => cbv
 refine Br.no (show ¬ ¬ (e = 0) from fun q => q he) ?_
 conv => cbv
 refine Br.no (show ¬ ¬ (e = 0) from fun q => q he) ?_
 conv => cbv
 refine RetF.mk [i6 x] [hpA 0 1 5 6 3 W ph sp cy,hpB 1 2 4 3 W,hpC 2 3 233 2 N,hpP 3 L',hpP 4 D',hpF 5 z ov,hpP 6 Q,hpR 7 8 13 3 W 14 ph sp cy,hpB 8 9 12 3 W,hpD 9 10 3 1 N 11 231 8 N,hpP 10 P',hpP 11 B',hpP 12 V',hpP 13 Qr,(14,.mix [.p (.vsl (.sym m) true la),.p (.bool ov)]),(15,.fix 0 o),(16,.mix [.ptr 0 (.lit 0),.ptr 7 (.lit 0),.sl 17 3 1 (.lit 0) (.sym nc),.sl 18 3 1 (.lit 0) (.sym ng)]),hpP 17 cs,hpP 18 gs] 19 (Re.at [(0,0),(1,1),(2,2),(3,3),(4,4),(5,5),(6,6),(7,7),(8,8),(9,9),(10,10),(11,11),(12,12),(13,13),(14,14),(15,15),(16,16),(17,17),(18,18)] []) rfl ⟨x,R',ws',vs',L',D',P',B',V',rfl,rfl,rfl,⟨h1,g1,hM1,hM1.sim hS1,S.ph,S.w⟩,hc1,hx0,hx1,by rw [S.h.w,S.h.n]; exact hx2,hx3⟩
theorem made14_lx (o : Unit → Obj) (ho : IsPow o) (caps : List Int) (mc n : Int) (CL : List PV) (hCL : CL = ipv caps) (hmc : mc = caps.length) : CallF (fun _ => Tryz.prog) 12 [.p (.vsl (.sym mc) true CL),i6 n] [(0,.fix 0 o)] 1 (fun r h n' => ∃ (N W : Int) (C : List Int) (R : List Rw) (ws vs : List Int) (L D Q : List PV) (z : ByteArray) (P B V Qr : List PV) (M : Hp) (CS GS : List PV) (chs bufs grs : List Int) (nc ng : Int),r = .ptr 16 (.lit 0) ∧ h = [hpA 1 2 6 7 3 W 0 0 0,hpB 2 3 5 3 W,hpC 3 4 233 2 N,hpP 4 L,hpP 5 D,hpF 6 z false,hpP 7 Q,hpR 8 9 14 3 W 15 0 0 0,hpB 9 10 13 3 W,hpD 10 11 3 1 N 12 231 8 N,hpP 11 P,hpP 12 B,hpP 13 V,hpP 14 Qr,(15,.mix [.p (.vsl (.sym 0) true []),.p (.bool false)]),(0,.fix 0 o),(16,.mix [.ptr 1 (.lit 0),.ptr 8 (.lit 0),.sl 17 3 1 (.lit 0) (.sym nc),.sl 18 3 1 (.lit 0) (.sym ng)]),hpP 17 CS,hpP 18 GS] ∧ n' = 19 ∧ Bst R ws vs C N W 0 L D Q z P B V Qr [] 0 M ∧ Bn caps M chs bufs grs ∧ Sys M (fun _ _ => []) ∧ CS = ipv chs ∧ GS = ipv grs ∧ nc = (chs.length : Int) ∧ ng = (grs.length : Int) ∧ (nc = mc ∨ nc = 4) ∧ nc ≤ mc ∧ nc ≤ 4 ∧ ng = ngor n ∧ (objCount R : Int) ≤ 2 * nc + ng ∧ R.length = 60 ∧ W = 1920) := by
 refine callF_of_bodyB tok Tryz.func12 (by kernel_rfl) rfl rfl rfl [6] ?_; conv => cbv
 obtain ⟨N,hN⟩ : ∃ N : Int,N = 60 := ⟨_,rfl⟩
 obtain ⟨W,hW⟩ : ∃ W,W = 32 * N := ⟨_,rfl⟩
 obtain ⟨Rz,hRz⟩ : ∃ Rz,Rz = List.replicate N.toNat ((0,[]) : Rw) := ⟨_,rfl⟩
 obtain ⟨wz,hwz⟩ : ∃ wz,wz = List.replicate W.toNat (0 : Int) := ⟨_,rfl⟩
 obtain ⟨L0,hL0⟩ : ∃ L0,L0 = rpv Rz := ⟨_,rfl⟩
 obtain ⟨D0,hD0⟩ : ∃ D0,D0 = ipv wz := ⟨_,rfl⟩
 obtain ⟨z0,hz0⟩ : ∃ z0 : ByteArray,z0 = ⟨(enc []).toArray⟩ := ⟨_,rfl⟩
 have h0 : HM Rz wz wz [] N W L0 D0 D0 z0 := by rw [hRz,hwz] at *; exact HM.new (by omega) (by omega) hW hL0 hD0 hD0 hz0
 refine CallF.le (args0 := [i6 N]) (callF_frame (newH_lx N W (by omega) (by omega) hW L0 D0 D0 z0 (by rw [hL0,hRz]) (by rw [hD0,hwz]) (by rw [hD0,hwz]) hz0) [] rfl trivial rfl rfl (fun r h' n' ⟨e1,e2,e3⟩ => ?_)) (by simp [ales,ale,pvle,I.val,hN])
 subst e1 e2 e3
 conv => cbv
 refine CallF.le (args0 := [i6 N]) (callF_frame (rnewH_lx N W (by omega) (by omega) hW) [] rfl trivial rfl rfl (fun r h' n' hrr => ?_)) (by simp [ales,ale,pvle,I.val,hN])
 obtain ⟨P0,B0,V0,Qr0,e1,e2,e3,g0⟩ := hrr
 subst e1 e2 e3
 rw [← hRz,← hwz] at g0
 have hC0 : Cont Rz wz (fun _ => Option.none) := by rw [hRz,hwz]; exact Cont.new _ _
 have hlz : Rz.length = 60 := by rw [hRz,List.length_replicate]; omega
 have hcz : objCount Rz = 0 := by rw [hRz]; exact new_count _
 have hwz' : wz = List.replicate W.toNat 0 := hwz
 conv => cbv
 refine cfr (arena_lx Rz wz wz [] N W 0 0 0 L0 D0 D0 z0 false) [(0,1),(1,2),(2,3),(3,4),(4,5),(5,6),(6,7)] (fun r h' n' ⟨e1,e2,e3⟩ => ?_)
 subst e1 e2 e3
 conv => cbv
 refine JoinF.mk (fun s => ∃ (i : Int) (R : List Rw) (ws vs : List Int) (L D P B V : List PV) (M : Hp) (CS : List PV) (chs bufs : List Int),s = ⟨.p (.vsl (.sym mc) true CL) :: .p (.int .i64 (.sym n)) :: (undefs 3 ++ .ptr 1 (.lit 0) :: .undef :: .ptr 8 (.lit 0) :: .undef :: .ptr 16 (.lit 0) :: .undef :: undefs 108),[hpA 1 2 6 7 3 W 0 0 0,hpB 2 3 5 3 W,hpC 3 4 233 2 N,hpP 4 L,hpP 5 D,hpF 6 z0 false,hpP 7 D0,hpR 8 9 14 3 W 15 0 0 0,hpB 9 10 13 3 W,hpD 10 11 3 1 N 12 231 8 N,hpP 11 P,hpP 12 B,hpP 13 V,hpP 14 Qr0,(15,.mix [.p (.vsl (.sym 0) true []),.p (.bool false)]),(0,.fix 0 o),(16,.mix [.ptr 1 (.lit 0),.ptr 8 (.lit 0),.sl 17 3 1 (.lit 0) (.sym i),.sl 18 3 1 (.lit 0) (.sym 0)]),hpP 17 CS,(18,.pure true [])],19⟩ ∧ 0 ≤ i ∧ (i = mc ∨ i = 4) ∧ i ≤ mc ∧ i ≤ 4 ∧ Bst R ws vs wz N W 0 L D D0 z0 P B V Qr0 [] 0 M ∧ Bn caps M chs bufs [] ∧ Sys M (fun _ _ => []) ∧ CS = ipv chs ∧ i = chs.length ∧ objCount R ≤ 2 * i ∧ R.length = 60) ?_ ?_
 ·refine LoopF.mk (fun kk s => ∃ (i : Int) (R : List Rw) (ws vs : List Int) (L D P B V : List PV) (M : Hp) (CS : List PV) (chs bufs : List Int),s = ⟨.p (.vsl (.sym mc) true CL) :: .p (.int .i64 (.sym n)) :: (undefs 3 ++ .ptr 1 (.lit 0) :: .undef :: .ptr 8 (.lit 0) :: .undef :: .ptr 16 (.lit 0) :: .p (.int .i64 (.sym i)) :: undefs 108),[hpA 1 2 6 7 3 W 0 0 0,hpB 2 3 5 3 W,hpC 3 4 233 2 N,hpP 4 L,hpP 5 D,hpF 6 z0 false,hpP 7 D0,hpR 8 9 14 3 W 15 0 0 0,hpB 9 10 13 3 W,hpD 10 11 3 1 N 12 231 8 N,hpP 11 P,hpP 12 B,hpP 13 V,hpP 14 Qr0,(15,.mix [.p (.vsl (.sym 0) true []),.p (.bool false)]),(0,.fix 0 o),(16,.mix [.ptr 1 (.lit 0),.ptr 8 (.lit 0),.sl 17 3 1 (.lit 0) (.sym i),.sl 18 3 1 (.lit 0) (.sym 0)]),hpP 17 CS,(18,.pure true [])],19⟩ ∧ 0 ≤ i ∧ i ≤ mc ∧ i ≤ 4 ∧ kk = (4 - i).toNat ∧ Bst R ws vs wz N W 0 L D D0 z0 P B V Qr0 [] 0 M ∧ Bn caps M chs bufs [] ∧ Sys M (fun _ _ => []) ∧ CS = ipv chs ∧ i = chs.length ∧ objCount R ≤ 2 * i ∧ R.length = 60) 4 _
   (Re.at [(0,0),(1,1),(2,2),(3,3),(4,4),(5,5),(6,6),(7,7),(8,8),(9,9),(10,10),(11,11),(12,12),(13,13),(14,14),(15,15),(16,16)] [17,18]) ⟨0,Rz,wz,wz,L0,D0,P0,B0,V0,(fun _ => Option.none),[],[],[],rfl,by omega,by omega,by omega,by omega,⟨h0,g0,hC0,hC0,rfl,hwz'⟩,Bn.new _ _,Sys.new (fun a F e => by cases e) (fun a F e => by cases e),rfl,rfl,by omega,hlz⟩ ?_
  rintro kk s ⟨i,R,ws,vs,L,D,P,B,V,M,CS,chs,bufs,rfl,hi0,hi1,hi2,hkk,S,hB,hY,hcs,hil,hcnt,hR⟩
  have hil : i = (chs.length : Int) := hil
  have hcnt : (objCount R : Int) ≤ 2 * i := hcnt
  conv => cbv
  refine Br.mk (fun gi => ?_) (fun gi => ?_)
  ·have gi : i < mc := gi
   conv => cbv
   refine Br.mk (fun g4 => ?_) (fun g4 => ?_)
   ·have g4 : i < 4 := g4
    obtain ⟨cx,hcx⟩ : ∃ a,caps[i.toNat]? = some a := ⟨_,List.getElem?_eq_getElem (by omega)⟩
    have hcell : CL[i.toNat]? = some (.int .i64 (.sym cx)) := by rw [hCL]; exact ipv_get hcx
    conv => cbv
    refine Need.mk (show 0 ≤ i ∧ i < mc from ⟨hi0,gi⟩) ?_
    conv => cbv
    refine Cell.at i _ hcell (by simp [I.val]) rfl ?_
    conv => cbv
    refine Fit.wrap fun xn hxn => ?_
    have hxn : xn = IntKind.u64.wrap cx := hxn
    have hyn : 0 ≤ xn := by rw [hxn]; simp [IntKind.wrap,IntKind.bits,IntKind.signed]; omega
    conv => cbv
    refine Sum.mk fun tn htn => ?_
    have htn : tn = xn % 4 := (show tn = xn.tmod 4 from htn).trans (Int.tmod_eq_emod_of_nonneg hyn)
    conv => cbv
    refine fO (tn) fun cp hcp => ?_
    have hcp : cp = capW cx := by unfold capW; rw [← hxn,← htn]; exact hcp
    have hcb := capW_bd cx
    clear htn hyn
    conv => cbv
    refine clE (args0 := [.ptr 16 (.lit 0),i6 1,i6 9]) (cfr (alloc14_lx R ws vs wz N W 0 0 0 L D D0 z0 false P B V Qr0 [] 0 M i 0 CS [] o S 1 9 (by decide) ⟨fun _ => rfl,fun q => absurd q (by decide),fun q => absurd q (by decide)⟩ (by rw [hR]; omega)) iZ1 (fun r h' n' hrr => ?_))
    obtain ⟨at_,R1,ws1,vs1,L1,D1,P1,B1,V1,e1,e2,e3,S1,hk1,hx1,hp1,hq1,hl1⟩ := hrr
    subst e1 e2 e3
    have hR1 : R1.length = 60 := hl1.trans hR
    conv => cbv
    refine Br.mk (fun g0 => ?_) (fun g0 => ?_)
    ·have g0 : 0 < cp := g0
     conv => cbv
     refine clE (args0 := [.ptr 16 (.lit 0),i6 2,i6 cp]) (cfr (alloc14_lx R1 ws1 vs1 wz N W 0 0 0 L1 D1 D0 z0 false P1 B1 V1 Qr0 [] 0 _ i 0 CS [] o S1 2 cp (by omega) ⟨fun q => absurd q (by decide),fun q => absurd q (by decide),fun q => absurd q (by decide)⟩ (by rw [hR1]; omega)) iZ1 (fun r h' n' hrr => ?_))
     obtain ⟨bf,R2,ws2,vs2,L2,D2,P2,B2,V2,e1,e2,e3,S2,hk2,hx2,hp2,hq2,hl2⟩ := hrr
     subst e1 e2 e3
     have hR2 : R2.length = 60 := hl2.trans hR1
     conv => cbv
     have hab : at_ ≠ bf := fun q => by
      rw [← q,upd_same] at hx2
      cases hx2
     have hbfW : bf ≤ 5000 := by omega
     have hbb : ∀ x ∈ [cp,0,0,0,bf,-1,-1,-1,-1],b62 x := by
      simp only [List.forall_mem_cons]
      unfold b62
      exact ⟨by omega,by omega,by omega,by omega,by omega,by omega,by omega,by omega,by omega,fun x hx => by cases hx⟩
     have hpp : ∀ x ∈ [bf,-1,-1,-1,-1],-1 ≤ x := by
      simp only [List.forall_mem_cons]
      exact ⟨by omega,by omega,by omega,by omega,by omega,fun x hx => by cases hx⟩
     refine drawn_sound tok (by kernel_rfl) [(3,[6,5,4]),(7,[])] [0,1,2,4,5,6,3,7,8] (by kernel_rfl) ?_; conv => cbv
     refine clE (args0 := [.ptr 1 (.lit 0),i6 at_,.agg [i6 cp,i6 0,i6 0,i6 0,i6 bf,i6 (-1),i6 (-1),i6 (-1),i6 (-1)]]) (cfr (putChanM_lx R2 ws2 wz [] N W 0 0 0 L2 D2 D0 z0 false S2.h _ S2.c o ho rfl at_ cp 0 0 0 bf (-1) (-1) (-1) (-1) (zerK 1 9) ((upd_ne hab).trans (upd_same _ _ _)) rfl hbb hpp) iZ2 (fun r h' n' hrr => ?_))
     obtain ⟨e8,ws8,D8,e1,he8,e2,e3,h8,c8⟩ := hrr
     subst e1 e2 e3
     conv => cbv
     refine clE (args0 := [.ptr 8 (.lit 0),i6 at_,.agg [i6 cp,i6 0,i6 0,i6 0,i6 bf,i6 (-1),i6 (-1),i6 (-1),i6 (-1)]]) (cfr (rPutChanM_lx R2 vs2 wz [] N W 0 0 0 P2 B2 V2 Qr0 [] 0 false S2.r _ S2.d rfl at_ cp 0 0 0 bf (-1) (-1) (-1) (-1) (zerK 1 9) ((upd_ne hab).trans (upd_same _ _ _)) rfl hbb hpp) iZ3 (fun r h' n' hrr => ?_))
     obtain ⟨e9,vs9,V9,e1,he9,e2,e3,h9,c9⟩ := hrr
     subst e1 e2 e3
     conv => cbv
     refine Br.no (show ¬ ¬ (e8 = e9) from fun q => q (he8.trans he9.symm)) ?_
     conv => cbv
     have hcl : CS.length = chs.length := by rw [hcs,ipv_length]
     refine Room.new rfl ?_
     conv => cbv
     refine Room.new ⟨?_,?_,?_⟩ ?_
     ·show (CS.length : Int) = i * 1; omega
     ·show (i + 1) * 8 ≤ 140737488355328; omega
     ·show i + 1 ≤ 9223372036854775807; omega
     conv => cbv
     refine Upd.mk fun cells2 hcs2 => ?_
     have hcs2 : cells2 = CS ++ [.int .i64 (.sym at_)] := hcs2
     have hcs3 : cells2 = ipv (chs ++ [at_]) := by rw [hcs2,hcs,← ipv_app]; rfl
     conv => cbv
     refine Sum.mk fun j2 hj2 => ?_
     have hj2 : j2 = i + 1 := hj2
     conv => cbv
     refine fO (i + 1) fun i2 hiq => ?_
     have hiq : i2 = i + 1 := hiq
     obtain rfl : j2 = i2 := hj2.trans hiq.symm
     conv => cbv
     refine Again.mk (4 - j2).toNat _ (by omega) (Re.at [(0,0),(1,1),(2,2),(3,3),(4,4),(5,5),(6,6),(7,7),(8,8),(9,9),(10,10),(11,11),(12,12),(13,13),(14,14),(15,15),(16,16),(18,18),(21,17)] []) ⟨j2,R2,ws8,vs9,L2,D8,P2,B2,V9,_,cells2,chs ++ [at_],bufs ++ [_],rfl,by omega,by omega,by omega,rfl,⟨h8,h9,c8,c9,rfl,hwz'⟩,by have := hB.chan1 (x := cx) (c := at_) (b := bf) (by rw [show chs.length = i.toNat by omega]; exact hcx) (by rw [← hcp]; exact g0) hx1 _ hx2; rw [← hcp] at this; exact this,((hY.fresh hx1).fresh hx2).updv rfl (fun F _ => rfl) (fun c d h => (by cases h)) ⟨fun _ => rfl,fun q => absurd (show (1 : Int) = 3 from q) (by decide)⟩,hcs3,by rw [List.length_append]; show j2 = ((chs.length + 1 : Nat) : Int); omega,(show (objCount R2 : Int) ≤ 2 * j2 by omega),hR2⟩
    ·have g0 : ¬ 0 < cp := g0
     conv => cbv
     have hbb : ∀ x ∈ [cp,0,0,0,(-1),-1,-1,-1,-1],b62 x := by
      simp only [List.forall_mem_cons]
      unfold b62
      exact ⟨by omega,by omega,by omega,by omega,by omega,by omega,by omega,by omega,by omega,fun x hx => by cases hx⟩
     have hpp : ∀ x ∈ [(-1),-1,-1,-1,-1],-1 ≤ x := by
      simp only [List.forall_mem_cons]
      exact ⟨by omega,by omega,by omega,by omega,by omega,fun x hx => by cases hx⟩
     refine drawn_sound tok (by kernel_rfl) [(3,[6,5,4]),(7,[])] [0,1,2,4,5,6,3,7,8] (by kernel_rfl) ?_; conv => cbv
     refine clE (args0 := [.ptr 1 (.lit 0),i6 at_,.agg [i6 cp,i6 0,i6 0,i6 0,i6 (-1),i6 (-1),i6 (-1),i6 (-1),i6 (-1)]]) (cfr (putChanM_lx R1 ws1 wz [] N W 0 0 0 L1 D1 D0 z0 false S1.h _ S1.c o ho rfl at_ cp 0 0 0 (-1) (-1) (-1) (-1) (-1) (zerK 1 9) (upd_same _ _ _) rfl hbb hpp) iZ2 (fun r h' n' hrr => ?_))
     obtain ⟨e8,ws8,D8,e1,he8,e2,e3,h8,c8⟩ := hrr
     subst e1 e2 e3
     conv => cbv
     refine clE (args0 := [.ptr 8 (.lit 0),i6 at_,.agg [i6 cp,i6 0,i6 0,i6 0,i6 (-1),i6 (-1),i6 (-1),i6 (-1),i6 (-1)]]) (cfr (rPutChanM_lx R1 vs1 wz [] N W 0 0 0 P1 B1 V1 Qr0 [] 0 false S1.r _ S1.d rfl at_ cp 0 0 0 (-1) (-1) (-1) (-1) (-1) (zerK 1 9) (upd_same _ _ _) rfl hbb hpp) iZ3 (fun r h' n' hrr => ?_))
     obtain ⟨e9,vs9,V9,e1,he9,e2,e3,h9,c9⟩ := hrr
     subst e1 e2 e3
     conv => cbv
     refine Br.no (show ¬ ¬ (e8 = e9) from fun q => q (he8.trans he9.symm)) ?_
     conv => cbv
     have hcl : CS.length = chs.length := by rw [hcs,ipv_length]
     refine Room.new rfl ?_
     conv => cbv
     refine Room.new ⟨?_,?_,?_⟩ ?_
     ·show (CS.length : Int) = i * 1; omega
     ·show (i + 1) * 8 ≤ 140737488355328; omega
     ·show i + 1 ≤ 9223372036854775807; omega
     conv => cbv
     refine Upd.mk fun cells2 hcs2 => ?_
     have hcs2 : cells2 = CS ++ [.int .i64 (.sym at_)] := hcs2
     have hcs3 : cells2 = ipv (chs ++ [at_]) := by rw [hcs2,hcs,← ipv_app]; rfl
     conv => cbv
     refine Sum.mk fun j2 hj2 => ?_
     have hj2 : j2 = i + 1 := hj2
     conv => cbv
     refine fO (i + 1) fun i2 hiq => ?_
     have hiq : i2 = i + 1 := hiq
     obtain rfl : j2 = i2 := hj2.trans hiq.symm
     conv => cbv
     refine Again.mk (4 - j2).toNat _ (by omega) (Re.at [(0,0),(1,1),(2,2),(3,3),(4,4),(5,5),(6,6),(7,7),(8,8),(9,9),(10,10),(11,11),(12,12),(13,13),(14,14),(15,15),(16,16),(18,18),(21,17)] []) ⟨j2,R1,ws8,vs9,L1,D8,P1,B1,V9,_,cells2,chs ++ [at_],bufs ++ [_],rfl,by omega,by omega,by omega,rfl,⟨h8,h9,c8,c9,rfl,hwz'⟩,by have := hB.chan0 (x := cx) (c := at_) (by rw [show chs.length = i.toNat by omega]; exact hcx) (by rw [← hcp]; omega) hx1 (1,zerK 1 (9 : Int).toNat); rw [← hcp] at this; exact this,(hY.fresh hx1).updv rfl (fun F _ => rfl) (fun c d h => (by cases h)) ⟨fun _ => rfl,fun q => absurd (show (1 : Int) = 3 from q) (by decide)⟩,hcs3,by rw [List.length_append]; show j2 = ((chs.length + 1 : Nat) : Int); omega,(show (objCount R1 : Int) ≤ 2 * j2 by omega),hR1⟩
   ·have g4 : ¬ i < 4 := g4
    conv => cbv
    refine Joined.mk _ (Re.at [(0,0),(1,1),(2,2),(3,3),(4,4),(5,5),(6,6),(7,7),(8,8),(9,9),(10,10),(11,11),(12,12),(13,13),(14,14),(15,15),(16,16),(17,17),(18,18)] []) ⟨i,R,ws,vs,L,D,P,B,V,M,CS,chs,bufs,rfl,hi0,by omega,hi1,hi2,S,hB,hY,hcs,hil,hcnt,hR⟩
  ·have gi : ¬ i < mc := gi
   conv => cbv
   refine Joined.mk _ (Re.at [(0,0),(1,1),(2,2),(3,3),(4,4),(5,5),(6,6),(7,7),(8,8),(9,9),(10,10),(11,11),(12,12),(13,13),(14,14),(15,15),(16,16),(17,17),(18,18)] []) ⟨i,R,ws,vs,L,D,P,B,V,M,CS,chs,bufs,rfl,hi0,by omega,hi1,hi2,S,hB,hY,hcs,hil,hcnt,hR⟩
 ·rintro s ⟨i,R,ws,vs,L,D,P,B,V,M,CS,chs,bufs,rfl,hi0,him,hi1,hi2,S,hB,hY,hcs,hil,hcnt,hR⟩
  have hil : i = (chs.length : Int) := hil
  have hcnt : (objCount R : Int) ≤ 2 * i := hcnt
  conv => cbv
  obtain ⟨ng,hng⟩ : ∃ ng,ng = ngor n := ⟨_,rfl⟩
  have hngb := ngor_bd n
  rw [← hng] at hngb
  refine LoopF.mk (fun kk s => ∃ (j : Int) (R : List Rw) (ws vs : List Int) (L D P B V : List PV) (M : Hp) (GS : List PV) (grs : List Int),s = ⟨.p (.vsl (.sym mc) true CL) :: .p (.int .i64 (.sym n)) :: (undefs 3 ++ .ptr 1 (.lit 0) :: .undef :: .ptr 8 (.lit 0) :: .undef :: .ptr 16 (.lit 0) :: (undefs 3 ++ .p (.int .i64 (.sym j)) :: undefs 105)),[hpA 1 2 6 7 3 W 0 0 0,hpB 2 3 5 3 W,hpC 3 4 233 2 N,hpP 4 L,hpP 5 D,hpF 6 z0 false,hpP 7 D0,hpR 8 9 14 3 W 15 0 0 0,hpB 9 10 13 3 W,hpD 10 11 3 1 N 12 231 8 N,hpP 11 P,hpP 12 B,hpP 13 V,hpP 14 Qr0,(15,.mix [.p (.vsl (.sym 0) true []),.p (.bool false)]),(0,.fix 0 o),(16,.mix [.ptr 1 (.lit 0),.ptr 8 (.lit 0),.sl 17 3 1 (.lit 0) (.sym i),.sl 18 3 1 (.lit 0) (.sym j)]),hpP 17 CS,hpP 18 GS],19⟩ ∧ 0 ≤ j ∧ j ≤ ng ∧ kk = (ng - j).toNat ∧ Bst R ws vs wz N W 0 L D D0 z0 P B V Qr0 [] 0 M ∧ Bn caps M chs bufs grs ∧ Sys M (fun _ _ => []) ∧ GS = ipv grs ∧ j = grs.length ∧ objCount R ≤ 2 * i + j ∧ R.length = 60) ng.toNat _
   (Re.at [(0,0),(1,1),(2,2),(3,3),(4,4),(5,5),(6,6),(7,7),(8,8),(9,9),(10,10),(11,11),(12,12),(13,13),(14,14),(15,15),(16,16),(17,17),(18,18)] []) ⟨0,R,ws,vs,L,D,P,B,V,M,[],[],rfl,by omega,by omega,by omega,S,hB,hY,rfl,rfl,(show (objCount R : Int) ≤ 2 * i + 0 by omega),hR⟩ ?_
  clear S hB hY hcnt hR
  rintro kk s ⟨j,R,ws,vs,L,D,P,B,V,M,GS,grs,rfl,hj0,hj1,hkk,S,hB,hY,hgs,hjl,hcnt,hR⟩
  have hjl : j = (grs.length : Int) := hjl
  have hcnt : (objCount R : Int) ≤ 2 * i + j := hcnt
  conv => cbv
  refine Fit.wrap fun xn hxn => ?_
  have hxn : xn = IntKind.u64.wrap n := hxn
  have hyn : 0 ≤ xn := by rw [hxn]; simp [IntKind.wrap,IntKind.bits,IntKind.signed]; omega
  conv => cbv
  refine Sum.mk fun tn htn => ?_
  have htn : tn = xn % 6 := (show tn = xn.tmod 6 from htn).trans (Int.tmod_eq_emod_of_nonneg hyn)
  conv => cbv
  refine fO (tn) fun un hun => ?_
  have hun : un = tn := hun
  conv => cbv
  refine fO (1 + un) fun ng2 hng2 => ?_
  have hng2 : ng2 = 1 + un := hng2
  obtain rfl : ng = ng2 := by rw [hng,hng2,hun,htn,hxn]; rfl
  clear hng2 hun htn hyn hxn
  conv => cbv
  refine Br.mk (fun gj => ?_) (fun gj => ?_)
  ·have gj : j < ng := gj
   conv => cbv
   refine clE (args0 := [.ptr 16 (.lit 0),i6 4,i6 10]) (cfr (alloc14_lx R ws vs wz N W 0 0 0 L D D0 z0 false P B V Qr0 [] 0 M i j CS GS o S 4 10 (by decide) ⟨fun q => absurd q (by decide),fun q => absurd q (by decide),fun _ => rfl⟩ (by rw [hR]; omega)) iZ1 (fun r h' n' hrr => ?_))
   obtain ⟨at_,R1,ws1,vs1,L1,D1,P1,B1,V1,e1,e2,e3,S1,hk1,hx1,hp1,hq1,hl1⟩ := hrr
   subst e1 e2 e3
   have hR1 : R1.length = 60 := hl1.trans hR
   conv => cbv
   have hbb : ∀ x ∈ [j,0,0,-1],b62 x := by
    simp only [List.forall_mem_cons]
    unfold b62
    exact ⟨by omega,by omega,by omega,by omega,fun x hx => by cases hx⟩
   have hw0 : ∀ x ∈ [0,0,0,0,0,(0 : Int)],-9223372036854775808 ≤ x ∧ x ≤ 9223372036854775807 := by decide
   have hpp : ∀ x ∈ [(-1 : Int)],-1 ≤ x := by decide
   refine drawn_sound tok (by kernel_rfl) [(3,[6,5,4]),(7,[])] [0,1,2,4,5,6,3,7,8] (by kernel_rfl) ?_; conv => cbv
   refine clE (args0 := [.ptr 1 (.lit 0),i6 at_,.agg [i6 j,i6 0,i6 0,i6 0,i6 0,i6 0,i6 0,i6 0,i6 0,i6 (-1)]]) (cfr (putGorM_lx R1 ws1 wz [] N W 0 0 0 L1 D1 D0 z0 false S1.h _ S1.c o ho rfl at_ j 0 0 0 0 0 0 0 0 (-1) (zerK 4 10) (upd_same _ _ _) rfl hbb hw0 hpp) iZ2 (fun r h' n' hrr => ?_))
   obtain ⟨e8,ws8,D8,e1,he8,e2,e3,h8,c8⟩ := hrr
   subst e1 e2 e3
   conv => cbv
   refine clE (args0 := [.ptr 8 (.lit 0),i6 at_,.agg [i6 j,i6 0,i6 0,i6 0,i6 0,i6 0,i6 0,i6 0,i6 0,i6 (-1)]]) (cfr (rPutGorM_lx R1 vs1 wz [] N W 0 0 0 P1 B1 V1 Qr0 [] 0 false S1.r _ S1.d rfl at_ j 0 0 0 0 0 0 0 0 (-1) (zerK 4 10) (upd_same _ _ _) rfl hbb hw0 hpp) iZ3 (fun r h' n' hrr => ?_))
   obtain ⟨e9,vs9,V9,e1,he9,e2,e3,h9,c9⟩ := hrr
   subst e1 e2 e3
   conv => cbv
   refine Br.no (show ¬ ¬ (e8 = e9) from fun q => q (he8.trans he9.symm)) ?_
   conv => cbv
   have hcl : GS.length = grs.length := by rw [hgs,ipv_length]
   refine Room.new rfl ?_
   conv => cbv
   refine Room.new ⟨?_,?_,?_⟩ ?_
   ·show (GS.length : Int) = j * 1; omega
   ·show (j + 1) * 8 ≤ 140737488355328; omega
   ·show j + 1 ≤ 9223372036854775807; omega
   conv => cbv
   refine Upd.mk fun cells2 hcs2 => ?_
   have hcs2 : cells2 = GS ++ [.int .i64 (.sym at_)] := hcs2
   have hcs3 : cells2 = ipv (grs ++ [at_]) := by rw [hcs2,hgs,← ipv_app]; rfl
   conv => cbv
   refine Sum.mk fun j2 hj2 => ?_
   have hj2 : j2 = j + 1 := hj2
   conv => cbv
   refine fO (j + 1) fun i2 hiq => ?_
   have hiq : i2 = j + 1 := hiq
   obtain rfl : j2 = i2 := hj2.trans hiq.symm
   conv => cbv
   refine Again.mk (ng - j2).toNat _ (by omega) (Re.at [(0,0),(1,1),(2,2),(3,3),(4,4),(5,5),(6,6),(7,7),(8,8),(9,9),(10,10),(11,11),(12,12),(13,13),(14,14),(15,15),(16,16),(17,17),(21,18)] []) ⟨j2,R1,ws8,vs9,L1,D8,P1,B1,V9,_,cells2,grs ++ [at_],rfl,by omega,by omega,rfl,⟨h8,h9,c8,c9,rfl,hwz'⟩,hB.gor hjl hx1 _,(hY.fresh hx1).updv rfl (fun F e => absurd (Option.some.inj ((upd_same _ _ _).symm.trans e)) (fun q => by cases q)) (fun c d h => (by cases h)) ⟨fun q => absurd (show (4 : Int) = 1 from q) (by decide),fun q => absurd (show (4 : Int) = 3 from q) (by decide)⟩,hcs3,by rw [List.length_append]; show j2 = ((grs.length + 1 : Nat) : Int); omega,(show (objCount R1 : Int) ≤ 2 * i + j2 by omega),hR1⟩
  ·have gj : ¬ j < ng := gj
   conv => cbv
   refine RetF.mk [.ptr 16 (.lit 0)] [hpA 1 2 6 7 3 W 0 0 0,hpB 2 3 5 3 W,hpC 3 4 233 2 N,hpP 4 L,hpP 5 D,hpF 6 z0 false,hpP 7 D0,hpR 8 9 14 3 W 15 0 0 0,hpB 9 10 13 3 W,hpD 10 11 3 1 N 12 231 8 N,hpP 11 P,hpP 12 B,hpP 13 V,hpP 14 Qr0,(15,.mix [.p (.vsl (.sym 0) true []),.p (.bool false)]),(0,.fix 0 o),(16,.mix [.ptr 1 (.lit 0),.ptr 8 (.lit 0),.sl 17 3 1 (.lit 0) (.sym i),.sl 18 3 1 (.lit 0) (.sym j)]),hpP 17 CS,hpP 18 GS] 19 (Re.at [(0,0),(1,1),(2,2),(3,3),(4,4),(5,5),(6,6),(7,7),(8,8),(9,9),(10,10),(11,11),(12,12),(13,13),(14,14),(15,15),(16,16),(17,17),(18,18)] []) rfl ⟨N,W,wz,R,ws,vs,L,D,D0,z0,P,B,V,Qr0,M,CS,GS,chs,bufs,grs,i,j,rfl,rfl,rfl,S,hB,hY,hcs,hgs,hil,hjl,him,hi1,hi2,by omega,by omega,hR,by omega⟩
theorem ch14_lx (R : List Rw) (ws vs C : List Int) (N W ph sp cy : Int) (L D Q : List PV) (z : ByteArray) (ov : Bool) (P B V Qr la : List PV) (m : Int) (M : Hp) (nc ng : Int) (cs gs : List PV) (o : Unit → Obj) (n : Int) (l : List Int) (hl : cs = ipv l) (hn : nc = l.length) (h0 : 0 < nc) (hb : nc ≤ 100) : CallF (fun _ => Tryz.prog) 21 [.ptr 16 (.lit 0),i6 n] [hpA 0 1 5 6 3 W ph sp cy,hpB 1 2 4 3 W,hpC 2 3 233 2 N,hpP 3 L,hpP 4 D,hpF 5 z ov,hpP 6 Q,hpR 7 8 13 3 W 14 ph sp cy,hpB 8 9 12 3 W,hpD 9 10 3 1 N 11 231 8 N,hpP 10 P,hpP 11 B,hpP 12 V,hpP 13 Qr,(14,.mix [.p (.vsl (.sym m) true la),.p (.bool ov)]),(15,.fix 0 o),(16,.mix [.ptr 0 (.lit 0),.ptr 7 (.lit 0),.sl 17 3 1 (.lit 0) (.sym nc),.sl 18 3 1 (.lit 0) (.sym ng)]),hpP 17 cs,hpP 18 gs] 19 (fun r h n' => (∃ x : Int,r = .p (.int .i64 (.sym x)) ∧ l[(IntKind.u64.wrap n % nc).toNat]? = some x) ∧ h = [hpA 0 1 5 6 3 W ph sp cy,hpB 1 2 4 3 W,hpC 2 3 233 2 N,hpP 3 L,hpP 4 D,hpF 5 z ov,hpP 6 Q,hpR 7 8 13 3 W 14 ph sp cy,hpB 8 9 12 3 W,hpD 9 10 3 1 N 11 231 8 N,hpP 10 P,hpP 11 B,hpP 12 V,hpP 13 Qr,(14,.mix [.p (.vsl (.sym m) true la),.p (.bool ov)]),(15,.fix 0 o),(16,.mix [.ptr 0 (.lit 0),.ptr 7 (.lit 0),.sl 17 3 1 (.lit 0) (.sym nc),.sl 18 3 1 (.lit 0) (.sym ng)]),hpP 17 cs,hpP 18 gs] ∧ n' = 19) := by
 refine callF_of_body tok Tryz.func21 (by kernel_rfl) rfl rfl rfl ?_; conv => cbv
 refine Br.no (show ¬ nc = 0 by omega) ?_
 conv => cbv
 refine drawn_sound tok (by kernel_rfl) [] [0,1,2,3,4,5,6,7,8,9,10,11,12,13,14,15,16] (by kernel_rfl) ?_; conv => cbv
 refine Fit.wrap fun xn hxn => ?_
 have hxn : xn = IntKind.u64.wrap n := hxn
 have hyn : 0 ≤ xn := by rw [hxn]; simp [IntKind.wrap,IntKind.bits,IntKind.signed]; omega
 conv => cbv
 refine Fit.mk (by show (0 : Int) ≤ nc; omega) (by show nc ≤ 18446744073709551615; omega) fun c2 hc2 => ?_
 have hc2 : c2 = nc := hc2
 conv => cbv
 refine Need.mk (show ¬ c2 = 0 by omega) ?_
 conv => cbv
 refine Sum.mk fun tn htn => ?_
 have htn : tn = xn % nc := (show tn = xn.tmod c2 from htn).trans (by rw [hc2]; exact Int.tmod_eq_emod_of_nonneg hyn)
 have ht0 := Int.emod_nonneg xn (show nc ≠ 0 by omega)
 have ht1 := Int.emod_lt_of_pos xn h0
 conv => cbv
 refine fO (tn) fun i hi => ?_
 have hi : i = tn := hi
 obtain ⟨x,hx⟩ : ∃ x,l[i.toNat]? = some x := ⟨_,List.getElem?_eq_getElem (by omega)⟩
 have hcell : cs[i.toNat]? = some (.int .i64 (.sym x)) := by rw [hl]; exact ipv_get hx
 conv => cbv
 refine Need.mk (show 0 ≤ i ∧ i < nc by omega) ?_
 conv => cbv
 refine Cell.at i _ hcell (by simp [I.val]) rfl ?_
 conv => cbv
 refine RetF.mk [i6 x] [hpA 0 1 5 6 3 W ph sp cy,hpB 1 2 4 3 W,hpC 2 3 233 2 N,hpP 3 L,hpP 4 D,hpF 5 z ov,hpP 6 Q,hpR 7 8 13 3 W 14 ph sp cy,hpB 8 9 12 3 W,hpD 9 10 3 1 N 11 231 8 N,hpP 10 P,hpP 11 B,hpP 12 V,hpP 13 Qr,(14,.mix [.p (.vsl (.sym m) true la),.p (.bool ov)]),(15,.fix 0 o),(16,.mix [.ptr 0 (.lit 0),.ptr 7 (.lit 0),.sl 17 3 1 (.lit 0) (.sym nc),.sl 18 3 1 (.lit 0) (.sym ng)]),hpP 17 cs,hpP 18 gs] 19 (Re.at [(0,0),(1,1),(2,2),(3,3),(4,4),(5,5),(6,6),(7,7),(8,8),(9,9),(10,10),(11,11),(12,12),(13,13),(14,14),(15,15),(16,16),(17,17),(18,18)] []) rfl ⟨⟨x,rfl,by rw [← hxn,← htn,← hi]; exact hx⟩,rfl,rfl⟩
theorem gor14_lx (R : List Rw) (ws vs C : List Int) (N W ph sp cy : Int) (L D Q : List PV) (z : ByteArray) (ov : Bool) (P B V Qr la : List PV) (m : Int) (M : Hp) (nc ng : Int) (cs gs : List PV) (o : Unit → Obj) (n : Int) (l : List Int) (hl : gs = ipv l) (hn : ng = l.length) (h0 : 0 < ng) (hb : ng ≤ 100) : CallF (fun _ => Tryz.prog) 16 [.ptr 16 (.lit 0),i6 n] [hpA 0 1 5 6 3 W ph sp cy,hpB 1 2 4 3 W,hpC 2 3 233 2 N,hpP 3 L,hpP 4 D,hpF 5 z ov,hpP 6 Q,hpR 7 8 13 3 W 14 ph sp cy,hpB 8 9 12 3 W,hpD 9 10 3 1 N 11 231 8 N,hpP 10 P,hpP 11 B,hpP 12 V,hpP 13 Qr,(14,.mix [.p (.vsl (.sym m) true la),.p (.bool ov)]),(15,.fix 0 o),(16,.mix [.ptr 0 (.lit 0),.ptr 7 (.lit 0),.sl 17 3 1 (.lit 0) (.sym nc),.sl 18 3 1 (.lit 0) (.sym ng)]),hpP 17 cs,hpP 18 gs] 19 (fun r h n' => (∃ x : Int,r = .p (.int .i64 (.sym x)) ∧ l[(IntKind.u64.wrap n % ng).toNat]? = some x) ∧ h = [hpA 0 1 5 6 3 W ph sp cy,hpB 1 2 4 3 W,hpC 2 3 233 2 N,hpP 3 L,hpP 4 D,hpF 5 z ov,hpP 6 Q,hpR 7 8 13 3 W 14 ph sp cy,hpB 8 9 12 3 W,hpD 9 10 3 1 N 11 231 8 N,hpP 10 P,hpP 11 B,hpP 12 V,hpP 13 Qr,(14,.mix [.p (.vsl (.sym m) true la),.p (.bool ov)]),(15,.fix 0 o),(16,.mix [.ptr 0 (.lit 0),.ptr 7 (.lit 0),.sl 17 3 1 (.lit 0) (.sym nc),.sl 18 3 1 (.lit 0) (.sym ng)]),hpP 17 cs,hpP 18 gs] ∧ n' = 19) := by
 refine callF_of_body tok Tryz.func16 (by kernel_rfl) rfl rfl rfl ?_; conv => cbv
 refine drawn_sound tok (by kernel_rfl) [] [0,1,2,3,4,5,6,7,8,9,10,11,12,13,14,15,16] (by kernel_rfl) ?_; conv => cbv
 refine Fit.wrap fun xn hxn => ?_
 have hxn : xn = IntKind.u64.wrap n := hxn
 have hyn : 0 ≤ xn := by rw [hxn]; simp [IntKind.wrap,IntKind.bits,IntKind.signed]; omega
 conv => cbv
 refine Fit.mk (by show (0 : Int) ≤ ng; omega) (by show ng ≤ 18446744073709551615; omega) fun c2 hc2 => ?_
 have hc2 : c2 = ng := hc2
 conv => cbv
 refine Need.mk (show ¬ c2 = 0 by omega) ?_
 conv => cbv
 refine Sum.mk fun tn htn => ?_
 have htn : tn = xn % ng := (show tn = xn.tmod c2 from htn).trans (by rw [hc2]; exact Int.tmod_eq_emod_of_nonneg hyn)
 have ht0 := Int.emod_nonneg xn (show ng ≠ 0 by omega)
 have ht1 := Int.emod_lt_of_pos xn h0
 conv => cbv
 refine fO (tn) fun i hi => ?_
 have hi : i = tn := hi
 obtain ⟨x,hx⟩ : ∃ x,l[i.toNat]? = some x := ⟨_,List.getElem?_eq_getElem (by omega)⟩
 have hcell : gs[i.toNat]? = some (.int .i64 (.sym x)) := by rw [hl]; exact ipv_get hx
 conv => cbv
 refine Need.mk (show 0 ≤ i ∧ i < ng by omega) ?_
 conv => cbv
 refine Cell.at i _ hcell (by simp [I.val]) rfl ?_
 conv => cbv
 refine RetF.mk [i6 x] [hpA 0 1 5 6 3 W ph sp cy,hpB 1 2 4 3 W,hpC 2 3 233 2 N,hpP 3 L,hpP 4 D,hpF 5 z ov,hpP 6 Q,hpR 7 8 13 3 W 14 ph sp cy,hpB 8 9 12 3 W,hpD 9 10 3 1 N 11 231 8 N,hpP 10 P,hpP 11 B,hpP 12 V,hpP 13 Qr,(14,.mix [.p (.vsl (.sym m) true la),.p (.bool ov)]),(15,.fix 0 o),(16,.mix [.ptr 0 (.lit 0),.ptr 7 (.lit 0),.sl 17 3 1 (.lit 0) (.sym nc),.sl 18 3 1 (.lit 0) (.sym ng)]),hpP 17 cs,hpP 18 gs] 19 (Re.at [(0,0),(1,1),(2,2),(3,3),(4,4),(5,5),(6,6),(7,7),(8,8),(9,9),(10,10),(11,11),(12,12),(13,13),(14,14),(15,15),(16,16),(17,17),(18,18)] []) rfl ⟨⟨x,rfl,by rw [← hxn,← htn,← hi]; exact hx⟩,rfl,rfl⟩
theorem allocT14_lx (R : List Rw) (ws vs C : List Int) (N W ph sp cy : Int) (L D Q : List PV) (z : ByteArray) (ov : Bool) (P B V Qr la : List PV) (m : Int) (M M2 : Hp) (nc ng : Int) (cs gs : List PV) (o : Unit → Obj) (S : Bs2 R ws vs C N W ph L D Q z P B V Qr la m M M2) (kd n : Int) (hk : 0 ≤ n ∧ n ≤ 31 ∧ 1 ≤ kd ∧ kd ≤ 6) (hlen : lenK kd n.toNat) (hroom : objCount R < R.length) : CallF (fun _ => Tryz.prog) 14 [.ptr 16 (.lit 0),i6 kd,i6 n] [hpA 0 1 5 6 3 W ph sp cy,hpB 1 2 4 3 W,hpC 2 3 233 2 N,hpP 3 L,hpP 4 D,hpF 5 z ov,hpP 6 Q,hpR 7 8 13 3 W 14 ph sp cy,hpB 8 9 12 3 W,hpD 9 10 3 1 N 11 231 8 N,hpP 10 P,hpP 11 B,hpP 12 V,hpP 13 Qr,(14,.mix [.p (.vsl (.sym m) true la),.p (.bool ov)]),(15,.fix 0 o),(16,.mix [.ptr 0 (.lit 0),.ptr 7 (.lit 0),.sl 17 3 1 (.lit 0) (.sym nc),.sl 18 3 1 (.lit 0) (.sym ng)]),hpP 17 cs,hpP 18 gs] 19 (fun r h n' => ∃ (x : Int) (R' : List Rw) (ws' vs' : List Int) (L' D' P' B' V' : List PV),r = .p (.int .i64 (.sym x)) ∧ h = [hpA 0 1 5 6 3 W ph sp cy,hpB 1 2 4 3 W,hpC 2 3 233 2 N,hpP 3 L',hpP 4 D',hpF 5 z ov,hpP 6 Q,hpR 7 8 13 3 W 14 ph sp cy,hpB 8 9 12 3 W,hpD 9 10 3 1 N 11 231 8 N,hpP 10 P',hpP 11 B',hpP 12 V',hpP 13 Qr,(14,.mix [.p (.vsl (.sym m) true la),.p (.bool ov)]),(15,.fix 0 o),(16,.mix [.ptr 0 (.lit 0),.ptr 7 (.lit 0),.sl 17 3 1 (.lit 0) (.sym nc),.sl 18 3 1 (.lit 0) (.sym ng)]),hpP 17 cs,hpP 18 gs] ∧ n' = 19 ∧ Bs2 R' ws' vs' C N W ph L' D' Q z P' B' V' Qr la m (upd M x (kd,zerK kd n.toNat)) (upd M2 x (kd,zerK kd n.toNat)) ∧ objCount R' = objCount R + 1 ∧ M x = Option.none ∧ M2 x = Option.none ∧ 0 ≤ x ∧ x < W ∧ R'.length = R.length) := by
 refine callF_of_body tok Tryz.func14 (by kernel_rfl) rfl rfl rfl ?_; conv => cbv
 refine cfr (alloc9_lx R ws C [] N W ph sp cy L D Q z ov S.h kd n) iM7 (fun r h' n' hrr => ?_)
 obtain ⟨x,e,R',ws',C',L',D',Q',e1,e2,e3,h1,hT,hC⟩ := hrr
 subst e1 e2 e3
 conv => cbv
 refine cfr (ralloc9_lx R vs C [] N W ph sp cy P B V Qr la m ov S.r kd n) iZ0 (fun r h' n' hrr => ?_)
 obtain ⟨y,f,Y,vs',DC,P',B',V',Qr',e1,e2,e3,g1,hU,hD⟩ := hrr
 subst e1 e2 e3
 obtain ⟨he,q1,q2,q3,hM1,hM2,hc1,hx0,hy0,hx1,hx2,hx3⟩ := S.alloc hroom hk hlen hT hU
 subst q1 q2 q3
 obtain ⟨q4,q5,q6,q7⟩ := Bs2.colour S he h1 g1 hC hD
 subst q4 q5 q6 q7
 conv => cbv
 refine Br.no (show ¬ ¬ (x = x) from fun q => q rfl) ?_
 conv => cbv
 refine Br.no (show ¬ ¬ (e = 0) from fun q => q he) ?_
 conv => cbv
 refine Br.no (show ¬ ¬ (e = 0) from fun q => q he) ?_
 conv => cbv
 refine RetF.mk [i6 x] [hpA 0 1 5 6 3 W ph sp cy,hpB 1 2 4 3 W,hpC 2 3 233 2 N,hpP 3 L',hpP 4 D',hpF 5 z ov,hpP 6 Q,hpR 7 8 13 3 W 14 ph sp cy,hpB 8 9 12 3 W,hpD 9 10 3 1 N 11 231 8 N,hpP 10 P',hpP 11 B',hpP 12 V',hpP 13 Qr,(14,.mix [.p (.vsl (.sym m) true la),.p (.bool ov)]),(15,.fix 0 o),(16,.mix [.ptr 0 (.lit 0),.ptr 7 (.lit 0),.sl 17 3 1 (.lit 0) (.sym nc),.sl 18 3 1 (.lit 0) (.sym ng)]),hpP 17 cs,hpP 18 gs] 19 (Re.at [(0,0),(1,1),(2,2),(3,3),(4,4),(5,5),(6,6),(7,7),(8,8),(9,9),(10,10),(11,11),(12,12),(13,13),(14,14),(15,15),(16,16),(17,17),(18,18)] []) rfl ⟨x,R',ws',vs',L',D',P',B',V',rfl,rfl,rfl,⟨h1,g1,hM1,hM2,S.ph,S.w⟩,hc1,hx0,hy0,hx1,by rw [S.h.w,S.h.n]; exact hx2,hx3⟩
theorem wait14_lx (R : List Rw) (ws vs C : List Int) (N W ph sp cy : Int) (L D Q : List PV) (z : ByteArray) (ov : Bool) (P B V Qr la : List PV) (m : Int) (K K2 : Hp) (q : Qs) (nc ng : Int) (cs gs : List PV) (o : Unit → Obj) (S : Bs2 R ws vs C N W ph L D Q z P B V Qr la m (relink K q) (relink K2 q)) (ho : IsPow o) (hY : Sys (relink K q) q) (hY2 : Sys (relink K2 q) q) (g v tq x0 x1 x2 x3 x4 x5 x6 x7 x8 x9 : Int) (hg : K g = some (4,[x0,x1,x2,x3,x4,x5,x6,x7,x8,x9])) (hg2 : K2 g = some (4,[x0,x1,x2,x3,x4,x5,x6,x7,x8,x9])) (hst : x1 = 0) (ps : List (Int × Bool)) (hps : ∀ p ∈ ps,(∃ F,K p.1 = some (1,F)) ∧ ∃ F,K2 p.1 = some (1,F)) (hpl : ps.length ≤ 3) (hv : -9223372036854775808 ≤ v ∧ v + 2 * ps.length ≤ 9223372036854775809) (htq : 0 ≤ tq ∧ tq ≤ 1000) (hroom : objCount R + ps.length ≤ R.length) (mc : Int) (hmc : mc = ps.length) (CH SN : List PV) (hCH : CH = ipv (ps.map Prod.fst)) (hSN : SN = ps.map fun p => PV.bool p.2) : CallF (fun _ => Tryz.prog) 42 [.ptr 16 (.lit 0),i6 g,.p (.vsl (.sym mc) true CH),.p (.vsl (.sym mc) true SN),i6 v,i6 tq] [hpA 0 1 5 6 3 W ph sp cy,hpB 1 2 4 3 W,hpC 2 3 233 2 N,hpP 3 L,hpP 4 D,hpF 5 z ov,hpP 6 Q,hpR 7 8 13 3 W 14 ph sp cy,hpB 8 9 12 3 W,hpD 9 10 3 1 N 11 231 8 N,hpP 10 P,hpP 11 B,hpP 12 V,hpP 13 Qr,(14,.mix [.p (.vsl (.sym m) true la),.p (.bool ov)]),(15,.fix 0 o),(16,.mix [.ptr 0 (.lit 0),.ptr 7 (.lit 0),.sl 17 3 1 (.lit 0) (.sym nc),.sl 18 3 1 (.lit 0) (.sym ng)]),hpP 17 cs,hpP 18 gs] 19 (fun r h n' => ∃ (xs : List Int) (R' : List Rw) (ws' vs' : List Int) (L' D' P' B' V' : List PV),r = .p (.bool true) ∧ h = [hpA 0 1 5 6 3 W ph sp cy,hpB 1 2 4 3 W,hpC 2 3 233 2 N,hpP 3 L',hpP 4 D',hpF 5 z ov,hpP 6 Q,hpR 7 8 13 3 W 14 ph sp cy,hpB 8 9 12 3 W,hpD 9 10 3 1 N 11 231 8 N,hpP 10 P',hpP 11 B',hpP 12 V',hpP 13 Qr,(14,.mix [.p (.vsl (.sym m) true la),.p (.bool ov)]),(15,.fix 0 o),(16,.mix [.ptr 0 (.lit 0),.ptr 7 (.lit 0),.sl 17 3 1 (.lit 0) (.sym nc),.sl 18 3 1 (.lit 0) (.sym ng)]),hpP 17 cs,hpP 18 gs] ∧ n' = 19 ∧ Bs2 R' ws' vs' C N W ph L' D' Q z P' B' V' Qr la m (relink (waitB g v tq ps xs [x0,1,x2,x3,x4,x5,x6,x7,x8,hdQ xs] K) (addQ ps xs q)) (relink (waitB g v tq ps xs [x0,1,x2,x3,x4,x5,x6,x7,x8,hdQ xs] K2) (addQ ps xs q)) ∧ Sys (relink (waitB g v tq ps xs [x0,1,x2,x3,x4,x5,x6,x7,x8,hdQ xs] K) (addQ ps xs q)) (addQ ps xs q) ∧ Sys (relink (waitB g v tq ps xs [x0,1,x2,x3,x4,x5,x6,x7,x8,hdQ xs] K2) (addQ ps xs q)) (addQ ps xs q) ∧ xs.length = ps.length ∧ xs.Nodup ∧ (∀ x ∈ xs,K x = Option.none ∧ K2 x = Option.none) ∧ objCount R' = objCount R + ps.length ∧ R'.length = R.length) := by
 refine callF_of_body tok Tryz.func42 (by kernel_rfl) rfl rfl rfl ?_; conv => cbv
 refine cfr (rgorM_lx R vs C [] N W ph sp cy P B V Qr la m ov S.r _ S.d g x0 x1 x2 x3 x4 x5 x6 x7 x8 x9 (relink_other hg2 ⟨by decide,by decide⟩)) iZ0 (fun r h' n' hrr => ?_)
 obtain ⟨⟨e0,e1,he0⟩,e2,e3⟩ := hrr
 subst e1 e2 e3
 conv => cbv
 refine Br.no (show ¬ ¬ (x1 = 0) from fun q => q hst) ?_
 conv => cbv
 refine LoopF.mk (fun kk s => ∃ (i : Int) (R1 : List Rw) (ws1 vs1 : List Int) (L1 D1 P1 B1 V1 : List PV) (J J2 : Hp) (q1 : Qs) (dn : List Int) (rest : List (Int × Bool)) (LS : List PV),s = ⟨.ptr 16 (.lit 0) :: .p (.int .i64 (.sym g)) :: .p (.vsl (.sym mc) true CH) :: .p (.vsl (.sym mc) true SN) :: .p (.int .i64 (.sym v)) :: .p (.int .i64 (.sym tq)) :: (undefs 9 ++ .sl 20 3 1 (.lit 0) (.sym i) :: .p (.int .i64 (.sym i)) :: undefs 106),[hpA 0 1 5 6 3 W ph sp cy,hpB 1 2 4 3 W,hpC 2 3 233 2 N,hpP 3 L1,hpP 4 D1,hpF 5 z ov,hpP 6 Q,hpR 7 8 13 3 W 14 ph sp cy,hpB 8 9 12 3 W,hpD 9 10 3 1 N 11 231 8 N,hpP 10 P1,hpP 11 B1,hpP 12 V1,hpP 13 Qr,(14,.mix [.p (.vsl (.sym m) true la),.p (.bool ov)]),(15,.fix 0 o),(16,.mix [.ptr 0 (.lit 0),.ptr 7 (.lit 0),.sl 17 3 1 (.lit 0) (.sym nc),.sl 18 3 1 (.lit 0) (.sym ng)]),hpP 17 cs,hpP 18 gs,hpP 20 LS],21⟩ ∧ LS = ipv dn ∧ i = dn.length ∧ kk = rest.length ∧ ps.length = dn.length + rest.length ∧ (∀ j : Nat,rest[j]? = ps[dn.length + j]?) ∧ (∀ xs,addS g v tq 0 ps (dn ++ xs) K = addS g v tq i rest xs J) ∧ (∀ xs,addS g v tq 0 ps (dn ++ xs) K2 = addS g v tq i rest xs J2) ∧ (∀ xs,addQ ps (dn ++ xs) q = addQ rest xs q1) ∧ Bs2 R1 ws1 vs1 C N W ph L1 D1 Q z P1 B1 V1 Qr la m (relink J q1) (relink J2 q1) ∧ Sys (relink J q1) q1 ∧ Sys (relink J2 q1) q1 ∧ dn.Nodup ∧ (∀ x ∈ dn,K x = Option.none ∧ K2 x = Option.none ∧ IsSu J x ∧ IsSu J2 x) ∧ J g = K g ∧ J2 g = K2 g ∧ (∀ p ∈ rest,(∃ F,J p.1 = some (1,F)) ∧ ∃ F,J2 p.1 = some (1,F)) ∧ (∀ a,J a = Option.none → K a = Option.none) ∧ (∀ a,J2 a = Option.none → K2 a = Option.none) ∧ objCount R1 = objCount R + dn.length ∧ R1.length = R.length) ps.length _
  (Re.at [(0,0),(1,1),(2,2),(3,3),(4,4),(5,5),(6,6),(7,7),(8,8),(9,9),(10,10),(11,11),(12,12),(13,13),(14,14),(15,15),(16,16),(17,17),(18,18)] [20]) ⟨0,R,ws,vs,L,D,P,B,V,K,K2,q,[],ps,[],rfl,rfl,rfl,rfl,by simp,fun j => by simp,fun xs => rfl,fun xs => rfl,fun xs => rfl,S,hY,hY2,List.nodup_nil,fun x hx => (by cases hx),rfl,rfl,hps,fun a h => h,fun a h => h,rfl,rfl⟩ ?_
 rintro kk s ⟨i,R1,ws1,vs1,L1,D1,P1,B1,V1,J,J2,q1,dn,rest,LS,rfl,hLS,hi,hkk,hpl2,hrest,hS1,hS2,hQ1,S1,hY1,hY3,hnd,hdn,hJg,hJ2g,hch,hJn,hJ2n,hcnt,hRl⟩
 clear S hY hY2
 have hi : i = (dn.length : Int) := hi
 have hi0 : (0 : Int) ≤ i := by omega
 conv => cbv
 rcases rest with _ | ⟨⟨c,d⟩,rest⟩
 ·have hpl3 : dn.length = ps.length := by simpa using hpl2.symm
  refine Br.no (show ¬ (i < mc) by omega) ?_
  conv => cbv
  have hgdn : g ∉ dn := fun k => by
   have := (hdn g k).1
   rw [hg] at this
   cases this
  have hJg1 := relink_other (q := q1) (hJg.trans hg) ⟨by decide,by decide⟩
  have hJg2 := relink_other (q := q1) (hJ2g.trans hg2) ⟨by decide,by decide⟩
  have hsu1 : ∀ x ∈ dn,IsSu (relink J q1) x := fun x hx => rl_isSu (hdn x hx).2.2.1
  have hsu2 : ∀ x ∈ dn,IsSu (relink J2 q1) x := fun x hx => rl_isSu (hdn x hx).2.2.2
  refine drawn_sound tok (by kernel_rfl) [(6,[12,11,10,9,8,7]),(13,[])] [0,1,2,3,4,5,7,8,9,10,11,12,6,13,14,15] (by kernel_rfl) ?_; conv => cbv
  refine cfr (parkS_lx R1 ws1 C [] N W ph sp cy L1 D1 Q z ov S1.h _ S1.c q1 hY1 o ho S1.ph g x0 x1 x2 x3 x4 x5 x6 x7 x8 x9 dn i LS hLS hi (by omega) hJg1 hsu1) [(0,0),(1,1),(2,2),(3,3),(4,4),(5,5),(6,6),(7,15),(8,20)] (fun r h' n' hrr => ?_)
  obtain ⟨e8,he8,ws3,D3,e1,e2,e3,h3,c3⟩ := hrr
  subst e1 e2 e3
  conv => cbv
  refine CallF.re (args0 := [.ptr 7 (.lit 0),i6 g,.p (.vsl (.sym i) true LS)]) (h' := [hpA 0 1 5 6 3 W ph sp cy,hpB 1 2 4 3 W,hpC 2 3 233 2 N,hpP 3 L1,hpP 4 D3,hpF 5 z ov,hpP 6 Q,hpR 7 8 13 3 W 14 ph sp cy,hpB 8 9 12 3 W,hpD 9 10 3 1 N 11 231 8 N,hpP 10 P1,hpP 11 B1,hpP 12 V1,hpP 13 Qr,(14,.mix [.p (.vsl (.sym m) true la),.p (.bool ov)]),(15,.fix 0 o),(16,.mix [.ptr 0 (.lit 0),.ptr 7 (.lit 0),.sl 17 3 1 (.lit 0) (.sym nc),.sl 18 3 1 (.lit 0) (.sym ng)]),hpP 17 cs,hpP 18 gs]) (Re.at [(0,0),(1,1),(2,2),(3,3),(4,4),(5,5),(6,6),(7,7),(8,8),(9,9),(10,10),(11,11),(12,12),(13,13),(14,14),(15,15),(16,16),(17,17),(18,18)] []) (cfr (rpark_lx R1 vs1 C [] N W ph sp cy P1 B1 V1 Qr la m ov S1.r _ S1.d q1 hY3 S1.ph g x0 x1 x2 x3 x4 x5 x6 x7 x8 x9 dn i LS hLS hi (by omega) hJg2 hsu2) iZ0 (fun r h' n' hrr => ?_))
  obtain ⟨e9,he9,vs3,V3,e1,e2,e3,g3,d3⟩ := hrr
  subst e1 e2 e3
  conv => cbv
  refine Br.yes (show e8 = e9 from he8.trans he9.symm) ?_
  conv => cbv
  have hJ : J = addS g v tq 0 ps dn K := by
   have := hS1 []
   rw [List.append_nil] at this
   exact this.symm
  have hJ2 : J2 = addS g v tq 0 ps dn K2 := by
   have := hS2 []
   rw [List.append_nil] at this
   exact this.symm
  have hQ : q1 = addQ ps dn q := by
   have := hQ1 []
   rw [List.append_nil] at this
   exact this.symm
  have hk1 : upd (parkM (relink J q1) dn) g (4,[x0,1,x2,x3,x4,x5,x6,x7,x8,hdQ dn]) = relink (waitB g v tq ps dn [x0,1,x2,x3,x4,x5,x6,x7,x8,hdQ dn] K) (addQ ps dn q) := by
   rw [rl_parkM (fun x hx => (hdn x hx).2.2.1),rl_ot ⟨by decide,by decide⟩,hJ,hQ]
   rfl
  have hk2 : upd (parkM (relink J2 q1) dn) g (4,[x0,1,x2,x3,x4,x5,x6,x7,x8,hdQ dn]) = relink (waitB g v tq ps dn [x0,1,x2,x3,x4,x5,x6,x7,x8,hdQ dn] K2) (addQ ps dn q) := by
   rw [rl_parkM (fun x hx => (hdn x hx).2.2.2),rl_ot ⟨by decide,by decide⟩,hJ2,hQ]
   rfl
  have hs1 := sysOther (F := [x0,1,x2,x3,x4,x5,x6,x7,x8,hdQ dn]) (sysParkM hY1 hsu1) ((parkM_ne hgdn).trans hJg1) ⟨by decide,by decide⟩
  have hs2 := sysOther (F := [x0,1,x2,x3,x4,x5,x6,x7,x8,hdQ dn]) (sysParkM hY3 hsu2) ((parkM_ne hgdn).trans hJg2) ⟨by decide,by decide⟩
  rw [hk1] at hs1 c3
  rw [hk2] at hs2 d3
  rw [hQ] at hs1 hs2
  refine RetF.mk [.p (.bool true)] [hpA 0 1 5 6 3 W ph sp cy,hpB 1 2 4 3 W,hpC 2 3 233 2 N,hpP 3 L1,hpP 4 D3,hpF 5 z ov,hpP 6 Q,hpR 7 8 13 3 W 14 ph sp cy,hpB 8 9 12 3 W,hpD 9 10 3 1 N 11 231 8 N,hpP 10 P1,hpP 11 B1,hpP 12 V3,hpP 13 Qr,(14,.mix [.p (.vsl (.sym m) true la),.p (.bool ov)]),(15,.fix 0 o),(16,.mix [.ptr 0 (.lit 0),.ptr 7 (.lit 0),.sl 17 3 1 (.lit 0) (.sym nc),.sl 18 3 1 (.lit 0) (.sym ng)]),hpP 17 cs,hpP 18 gs] 19 (Re.at [(0,0),(1,1),(2,2),(3,3),(4,4),(5,5),(6,6),(7,7),(8,8),(9,9),(10,10),(11,11),(12,12),(13,13),(14,14),(15,15),(16,16),(17,17),(18,18)] []) rfl ⟨dn,R1,ws3,vs3,L1,D3,P1,B1,V3,rfl,rfl,rfl,⟨h3,g3,c3,d3,S1.ph,S1.w⟩,hs1,hs2,hpl3,hnd,fun x hx => ⟨(hdn x hx).1,(hdn x hx).2.1⟩,by rw [hcnt,hpl3],hRl⟩
 ·have hp0 : ps[dn.length]? = some (c,d) := by have := hrest 0; simpa using this.symm
  have hlt := (List.getElem?_eq_some_iff.1 hp0).1
  have hcellC : CH[i.toNat]? = some (.int .i64 (.sym c)) := by
   rw [hCH,show i.toNat = dn.length by omega]
   exact ipv_get (by rw [List.getElem?_map,hp0]; rfl)
  have hcellS : SN[i.toNat]? = some (.bool d) := by rw [hSN,show i.toNat = dn.length by omega,List.getElem?_map,hp0]; rfl
  refine Br.yes (show i < mc by omega) ?_
  conv => cbv
  refine Need.mk (show 0 ≤ i ∧ i < mc by omega) ?_
  conv => cbv
  refine Cell.at i _ hcellC (by simp [I.val]) rfl ?_
  conv => cbv
  refine fO (2 * i) fun i2 hi2 => ?_
  have hi2 : i2 = 2 * i := hi2
  conv => cbv
  refine fO (v + i2) fun vi hvi => ?_
  have hvi : vi = v + 2 * i := by rw [← hi2]; exact hvi
  conv => cbv
  refine fO (tq + i) fun ti hti => ?_
  have hti : ti = tq + i := hti
  conv => cbv
  refine Need.mk (show 0 ≤ i ∧ i < mc by omega) ?_
  conv => cbv
  refine Cell.at i _ hcellS (by simp [I.val]) rfl ?_
  obtain ⟨⟨Fc,hJc⟩,Fc2,hJ2c⟩ := hch (c,d) List.mem_cons_self
  obtain ⟨Gc,hMc0⟩ := rl_chan (q := q1) ⟨Fc,hJc⟩
  have hcl := S1.c.len S1.h.a hMc0
  have hJg1 := hJg.trans hg
  have hJg2 := hJ2g.trans hg2
  have hgl := S1.c.len S1.h.a (relink_other (q := q1) hJg1 ⟨by decide,by decide⟩)
  have hRr := S1.h.r
  cases d with
  | false =>
   conv => cbv
   refine clE (args0 := [.ptr 16 (.lit 0),i6 3,i6 7]) (cfr (allocT14_lx R1 ws1 vs1 C N W ph sp cy L1 D1 Q z ov P1 B1 V1 Qr la m (relink J q1) (relink J2 q1) nc ng cs gs o S1 3 7 (by decide) ⟨fun k => absurd k (by decide),fun _ => rfl,fun k => absurd k (by decide)⟩ (by rw [hcnt,hRl]; simp at hpl2; omega)) iM19 (fun r h' n' hrr => ?_))
   obtain ⟨x,R2,ws2,vs2,L2,D2,P2,B2,V2,e1,e2,e3,S2,hk2,hx2,hy2,hp2,hq2,hl2⟩ := hrr
   subst e1 e2 e3
   obtain ⟨hYa,hns⟩ := newSu2 (g := g) (c := c) (w := vi) (p := ti) (r := i) (m := -1) hY1 hx2
   obtain ⟨hYb,hns2⟩ := newSu2 (g := g) (c := c) (w := vi) (p := ti) (r := i) (m := -1) hY3 hy2
   rw [rl_su (hns c)] at hYa
   rw [rl_su (hns2 c)] at hYb
   have hJx := rl_none hx2
   have hJ2x := rl_none hy2
   have hxc : x ≠ c := fun e => by rw [e,hJc] at hJx; cases hJx
   have hxc2 : x ≠ c := hxc
   have hbb : ∀ q ∈ [g,c,-1,ti,i,-1],b62 q := by
    simp only [List.forall_mem_cons]
    unfold b62
    exact ⟨by omega,by omega,by omega,by omega,by omega,by omega,fun x hx => by cases hx⟩
   have hww : ∀ q ∈ [vi],-9223372036854775808 ≤ q ∧ q ≤ 9223372036854775807 := by
    intro q hq
    rw [List.mem_singleton.1 hq,hvi]
    simp at hpl2
    omega
   have hpp : ∀ q ∈ [g,c,-1,-1],-1 ≤ q := by
    simp only [List.forall_mem_cons]
    exact ⟨by omega,by omega,by omega,by omega,fun x hx => by cases hx⟩
   conv => cbv
   refine drawn_sound tok (by kernel_rfl) [(6,[12,11,10,9,8,7]),(13,[]),(29,[42,41,40,39,38,37,36,35,34,33,32,31,30]),(43,[])] [0,1,2,3,4,5,7,8,9,10,11,12,6,13,14,15,16,17,18,19,20,21,22,23,24,25,26,27,28,30,31,32,33,34,35,36,37,38,39,40,41,42,29,43,44,45] (drawnOKF_ok (by kernel_rfl)) ?_; conv => cbv
   refine clE (args0 := [.ptr 0 (.lit 0),i6 x,.agg [i6 g,i6 c,i6 vi,i6 (-1),i6 ti,i6 i,i6 (-1)]]) (cfr (putSudogM_lx R2 ws2 C [] N W ph sp cy L2 D2 Q z ov S2.h _ S2.c o ho S2.ph x g c vi (-1) ti i (-1) (zerK 3 7) (upd_same _ _ _) rfl hbb hww hpp) iZ4 (fun r h' n' hrr => ?_))
   obtain ⟨e8,ws3,D3,e1,he8,e2,e3,h3,c3⟩ := hrr
   subst e1 e2 e3
   rw [upd_upd2,rl_su (hns c)] at c3
   conv => cbv
   refine clE (args0 := [.ptr 7 (.lit 0),i6 x,.agg [i6 g,i6 c,i6 vi,i6 (-1),i6 ti,i6 i,i6 (-1)]]) (cfr (rPutSudogM_lx R2 vs2 C [] N W ph sp cy P2 B2 V2 Qr la m ov S2.r _ S2.d S2.ph x g c vi (-1) ti i (-1) (zerK 3 7) (upd_same _ _ _) rfl hbb hww hpp) iZ0 (fun r h' n' hrr => ?_))
   obtain ⟨e9,vs3,V3,e1,he9,e2,e3,g3,d3⟩ := hrr
   subst e1 e2 e3
   rw [upd_upd2,rl_su (hns2 c)] at d3
   conv => cbv
   refine Br.no (show ¬ ¬ (e8 = e9) from fun q => q (he8.trans he9.symm)) ?_
   conv => cbv
   refine Need.mk (show 0 ≤ i ∧ i < mc by omega) ?_
   conv => cbv
   refine Cell.at i _ hcellC (by simp [I.val]) rfl ?_
   conv => cbv
   refine Need.mk (show 0 ≤ i ∧ i < mc by omega) ?_
   conv => cbv
   refine Cell.at i _ hcellS (by simp [I.val]) rfl ?_
   conv => cbv
   refine Need.mk (show 0 ≤ i ∧ i < mc by omega) ?_
   conv => cbv
   refine Cell.at i _ hcellC (by simp [I.val]) rfl ?_
   conv => cbv
   refine Need.mk (show 0 ≤ i ∧ i < mc by omega) ?_
   conv => cbv
   refine Cell.at i _ hcellS (by simp [I.val]) rfl ?_
   conv => cbv
   have hMx : relink (upd J x (3,[g,c,vi,(-1),ti,i,(-1)])) q1 x = some (3,[g,c,vi,(-1),ti,i,(-1)]) := by rw [relink_get (upd_same _ _ _),lnk_sudog,nxtQ_not (hns c)]
   have hMx2 : relink (upd J2 x (3,[g,c,vi,(-1),ti,i,(-1)])) q1 x = some (3,[g,c,vi,(-1),ti,i,(-1)]) := by rw [relink_get (upd_same _ _ _),lnk_sudog,nxtQ_not (hns2 c)]
   obtain ⟨Gp,hGp⟩ := rl_chan (q := q1) (M := upd J x (3,[g,c,vi,(-1),ti,i,(-1)])) (a := c) ⟨Fc,by rw [upd_ne hxc.symm]; exact hJc⟩
   obtain ⟨y0,y1,y2,y3,y4,y5,y6,y7,y8,rfl⟩ := hch9 hYa c Gp hGp
   obtain ⟨Gq,hGq⟩ := rl_chan (q := q1) (M := upd J2 x (3,[g,c,vi,(-1),ti,i,(-1)])) (a := c) ⟨Fc2,by rw [upd_ne hxc.symm]; exact hJ2c⟩
   obtain ⟨u0,u1,u2,u3,u4,u5,u6,u7,u8,rfl⟩ := hch9 hYb c Gq hGq
   refine cfr (listPush0_lx R2 ws3 C [] N W ph sp cy L2 D3 Q z ov h3 _ c3 q1 hYa o ho S2.ph (hch9 hYa) (hsu7 hYa) c x y0 y1 y2 y3 y4 y5 y6 y7 y8 g vi (-1) ti i (-1) hGp hMx (hns c)) iZ4 (fun r h' n' hrr => ?_)
   obtain ⟨e10,ws4,D4,e1,he10,e2,e3,h4,c4⟩ := hrr
   subst e1 e2 e3
   rw [relink_relink] at c4
   conv => cbv
   refine cfr (rPush0_lx R2 vs3 C [] N W ph sp cy P2 B2 V3 Qr la m ov g3 _ d3 q1 hYb S2.ph c x u0 u1 u2 u3 u4 u5 u6 u7 u8 g vi (-1) ti i (-1) hGq hMx2 (hns2 c)) iZ0 (fun r h' n' hrr => ?_)
   obtain ⟨e11,vs4,V4,e1,he11,e2,e3,g4,d4⟩ := hrr
   subst e1 e2 e3
   rw [relink_relink] at d4
   have hYp := (hYa.push (d := false) hGp hMx (hns c)).1
   have hYq := (hYb.push (d := false) hGq hMx2 (hns2 c)).1
   rw [relink_relink] at hYp hYq
   conv => cbv
   refine Br.no (show ¬ ¬ (e10 = e11) from fun q => q (he10.trans he11.symm)) ?_
   conv => cbv
   have hxg : g ≠ x := fun e => by rw [← e,hJg1] at hJx; cases hJx
   have hLl : LS.length = dn.length := by rw [hLS,ipv_length]
   have hi3 : i < 3 := by simp at hpl2; omega
   refine Room.new rfl ?_
   conv => cbv
   refine Room.new ⟨?_,?_,?_⟩ ?_
   ·show (LS.length : Int) = i * 1; omega
   ·show (i + 1) * 8 ≤ 140737488355328; omega
   ·show i + 1 ≤ 9223372036854775807; omega
   conv => cbv
   refine Upd.mk fun LS2 hLS2 => ?_
   have hLS2 : LS2 = LS ++ [.int .i64 (.sym x)] := hLS2
   have hLS3 : LS2 = ipv (dn ++ [x]) := by rw [hLS2,hLS,← ipv_app]; rfl
   conv => cbv
   refine Sum.mk fun j2 hj2 => ?_
   have hj2 : j2 = i + 1 := hj2
   conv => cbv
   refine fO (i + 1) fun j3 hj3 => ?_
   obtain rfl : j2 = j3 := hj2.trans (show j3 = i + 1 from hj3).symm
   conv => cbv
   have hxdn : x ∉ dn := fun k => by
    obtain ⟨_,_,⟨_,_,_,_,_,_,_,e⟩,_⟩ := hdn x k
    rw [hJx] at e
    cases e
   refine Again.mk rest.length _ (by rw [hkk]; exact Nat.lt_succ_self _) (Re.at [(0,0),(1,1),(2,2),(3,3),(4,4),(5,5),(6,6),(7,7),(8,8),(9,9),(10,10),(11,11),(12,12),(13,13),(14,14),(15,15),(16,16),(17,17),(18,18),(23,20)] []) ⟨j2,R2,ws4,vs4,L2,D4,P2,B2,V4,upd J x (3,[g,c,vi,(-1),ti,i,(-1)]),upd J2 x (3,[g,c,vi,(-1),ti,i,(-1)]),updQ q1 c false (q1 c false ++ [x]),dn ++ [x],rest,LS2,rfl,hLS3,by rw [List.length_append]; show j2 = ((dn.length + 1 : Nat) : Int); omega,rfl,by simp at hpl2 ⊢; omega,fun j => by
     have := hrest (j + 1)
     rw [List.getElem?_cons_succ] at this
     rw [this,List.length_append]
     congr 1
     simp; omega,fun xs => by
     have := hS1 (x :: xs)
     rw [List.append_assoc,List.singleton_append,this,hvi,hti,hj2]; rfl,fun xs => by
     have := hS2 (x :: xs)
     rw [List.append_assoc,List.singleton_append,this,hvi,hti,hj2]; rfl,fun xs => by
     have := hQ1 (x :: xs)
     rw [List.append_assoc,List.singleton_append,this]; rfl,⟨h4,g4,c4,d4,S2.ph,S2.w⟩,hYp,hYq,List.nodup_append.2 ⟨hnd,by simp,fun a ha b hb => by simp at hb; subst hb; exact fun e => hxdn (e ▸ ha)⟩,fun y hy => by
     rcases List.mem_append.1 hy with k | k
     ·obtain ⟨k1,k2,k3,k4⟩ := hdn y k
      exact ⟨k1,k2,suUpd k3,suUpd k4⟩
     ·rw [List.mem_singleton.1 k]
      exact ⟨hJn x hJx,hJ2n x hJ2x,⟨_,_,_,_,_,_,_,upd_same _ _ _⟩,⟨_,_,_,_,_,_,_,upd_same _ _ _⟩⟩,by rw [upd_ne hxg]; exact hJg,by rw [upd_ne hxg]; exact hJ2g,fun p hp => ⟨chUpd hJx (hch p (List.mem_cons_of_mem _ hp)).1,chUpd hJ2x (hch p (List.mem_cons_of_mem _ hp)).2⟩,fun a ha => noneUpd hJn ha,fun a ha => noneUpd hJ2n ha,by rw [hk2,hcnt,List.length_append]; simp; omega,hl2.trans hRl⟩
  | true =>
   conv => cbv
   refine clE (args0 := [.ptr 16 (.lit 0),i6 3,i6 7]) (cfr (allocT14_lx R1 ws1 vs1 C N W ph sp cy L1 D1 Q z ov P1 B1 V1 Qr la m (relink J q1) (relink J2 q1) nc ng cs gs o S1 3 7 (by decide) ⟨fun k => absurd k (by decide),fun _ => rfl,fun k => absurd k (by decide)⟩ (by rw [hcnt,hRl]; simp at hpl2; omega)) iM19 (fun r h' n' hrr => ?_))
   obtain ⟨x,R2,ws2,vs2,L2,D2,P2,B2,V2,e1,e2,e3,S2,hk2,hx2,hy2,hp2,hq2,hl2⟩ := hrr
   subst e1 e2 e3
   obtain ⟨hYa,hns⟩ := newSu2 (g := g) (c := c) (w := vi) (p := ti) (r := (-1)) (m := -1) hY1 hx2
   obtain ⟨hYb,hns2⟩ := newSu2 (g := g) (c := c) (w := vi) (p := ti) (r := (-1)) (m := -1) hY3 hy2
   rw [rl_su (hns c)] at hYa
   rw [rl_su (hns2 c)] at hYb
   have hJx := rl_none hx2
   have hJ2x := rl_none hy2
   have hxc : x ≠ c := fun e => by rw [e,hJc] at hJx; cases hJx
   have hxc2 : x ≠ c := hxc
   have hbb : ∀ q ∈ [g,c,-1,ti,(-1),-1],b62 q := by
    simp only [List.forall_mem_cons]
    unfold b62
    exact ⟨by omega,by omega,by omega,by omega,by omega,by omega,fun x hx => by cases hx⟩
   have hww : ∀ q ∈ [vi],-9223372036854775808 ≤ q ∧ q ≤ 9223372036854775807 := by
    intro q hq
    rw [List.mem_singleton.1 hq,hvi]
    simp at hpl2
    omega
   have hpp : ∀ q ∈ [g,c,-1,-1],-1 ≤ q := by
    simp only [List.forall_mem_cons]
    exact ⟨by omega,by omega,by omega,by omega,fun x hx => by cases hx⟩
   conv => cbv
   refine drawn_sound tok (by kernel_rfl) [(6,[12,11,10,9,8,7]),(13,[]),(29,[42,41,40,39,38,37,36,35,34,33,32,31,30]),(43,[])] [0,1,2,3,4,5,7,8,9,10,11,12,6,13,14,15,16,17,18,19,20,21,22,23,24,25,26,27,28,30,31,32,33,34,35,36,37,38,39,40,41,42,29,43,44,45] (drawnOKF_ok (by kernel_rfl)) ?_; conv => cbv
   refine clE (args0 := [.ptr 0 (.lit 0),i6 x,.agg [i6 g,i6 c,i6 vi,i6 (-1),i6 ti,i6 (-1),i6 (-1)]]) (cfr (putSudogM_lx R2 ws2 C [] N W ph sp cy L2 D2 Q z ov S2.h _ S2.c o ho S2.ph x g c vi (-1) ti (-1) (-1) (zerK 3 7) (upd_same _ _ _) rfl hbb hww hpp) iZ4 (fun r h' n' hrr => ?_))
   obtain ⟨e8,ws3,D3,e1,he8,e2,e3,h3,c3⟩ := hrr
   subst e1 e2 e3
   rw [upd_upd2,rl_su (hns c)] at c3
   conv => cbv
   refine clE (args0 := [.ptr 7 (.lit 0),i6 x,.agg [i6 g,i6 c,i6 vi,i6 (-1),i6 ti,i6 (-1),i6 (-1)]]) (cfr (rPutSudogM_lx R2 vs2 C [] N W ph sp cy P2 B2 V2 Qr la m ov S2.r _ S2.d S2.ph x g c vi (-1) ti (-1) (-1) (zerK 3 7) (upd_same _ _ _) rfl hbb hww hpp) iZ0 (fun r h' n' hrr => ?_))
   obtain ⟨e9,vs3,V3,e1,he9,e2,e3,g3,d3⟩ := hrr
   subst e1 e2 e3
   rw [upd_upd2,rl_su (hns2 c)] at d3
   conv => cbv
   refine Br.no (show ¬ ¬ (e8 = e9) from fun q => q (he8.trans he9.symm)) ?_
   conv => cbv
   refine Need.mk (show 0 ≤ i ∧ i < mc by omega) ?_
   conv => cbv
   refine Cell.at i _ hcellC (by simp [I.val]) rfl ?_
   conv => cbv
   refine Need.mk (show 0 ≤ i ∧ i < mc by omega) ?_
   conv => cbv
   refine Cell.at i _ hcellS (by simp [I.val]) rfl ?_
   conv => cbv
   refine Need.mk (show 0 ≤ i ∧ i < mc by omega) ?_
   conv => cbv
   refine Cell.at i _ hcellC (by simp [I.val]) rfl ?_
   conv => cbv
   refine Need.mk (show 0 ≤ i ∧ i < mc by omega) ?_
   conv => cbv
   refine Cell.at i _ hcellS (by simp [I.val]) rfl ?_
   conv => cbv
   have hMx : relink (upd J x (3,[g,c,vi,(-1),ti,(-1),(-1)])) q1 x = some (3,[g,c,vi,(-1),ti,(-1),(-1)]) := by rw [relink_get (upd_same _ _ _),lnk_sudog,nxtQ_not (hns c)]
   have hMx2 : relink (upd J2 x (3,[g,c,vi,(-1),ti,(-1),(-1)])) q1 x = some (3,[g,c,vi,(-1),ti,(-1),(-1)]) := by rw [relink_get (upd_same _ _ _),lnk_sudog,nxtQ_not (hns2 c)]
   obtain ⟨Gp,hGp⟩ := rl_chan (q := q1) (M := upd J x (3,[g,c,vi,(-1),ti,(-1),(-1)])) (a := c) ⟨Fc,by rw [upd_ne hxc.symm]; exact hJc⟩
   obtain ⟨y0,y1,y2,y3,y4,y5,y6,y7,y8,rfl⟩ := hch9 hYa c Gp hGp
   obtain ⟨Gq,hGq⟩ := rl_chan (q := q1) (M := upd J2 x (3,[g,c,vi,(-1),ti,(-1),(-1)])) (a := c) ⟨Fc2,by rw [upd_ne hxc.symm]; exact hJ2c⟩
   obtain ⟨u0,u1,u2,u3,u4,u5,u6,u7,u8,rfl⟩ := hch9 hYb c Gq hGq
   refine cfr (listPush1_lx R2 ws3 C [] N W ph sp cy L2 D3 Q z ov h3 _ c3 q1 hYa o ho S2.ph (hch9 hYa) (hsu7 hYa) c x y0 y1 y2 y3 y4 y5 y6 y7 y8 g vi (-1) ti (-1) (-1) hGp hMx (hns c)) iZ4 (fun r h' n' hrr => ?_)
   obtain ⟨e10,ws4,D4,e1,he10,e2,e3,h4,c4⟩ := hrr
   subst e1 e2 e3
   rw [relink_relink] at c4
   conv => cbv
   refine cfr (rPush1_lx R2 vs3 C [] N W ph sp cy P2 B2 V3 Qr la m ov g3 _ d3 q1 hYb S2.ph c x u0 u1 u2 u3 u4 u5 u6 u7 u8 g vi (-1) ti (-1) (-1) hGq hMx2 (hns2 c)) iZ0 (fun r h' n' hrr => ?_)
   obtain ⟨e11,vs4,V4,e1,he11,e2,e3,g4,d4⟩ := hrr
   subst e1 e2 e3
   rw [relink_relink] at d4
   have hYp := (hYa.push (d := true) hGp hMx (hns c)).1
   have hYq := (hYb.push (d := true) hGq hMx2 (hns2 c)).1
   rw [relink_relink] at hYp hYq
   conv => cbv
   refine Br.no (show ¬ ¬ (e10 = e11) from fun q => q (he10.trans he11.symm)) ?_
   conv => cbv
   have hxg : g ≠ x := fun e => by rw [← e,hJg1] at hJx; cases hJx
   have hLl : LS.length = dn.length := by rw [hLS,ipv_length]
   have hi3 : i < 3 := by simp at hpl2; omega
   refine Room.new rfl ?_
   conv => cbv
   refine Room.new ⟨?_,?_,?_⟩ ?_
   ·show (LS.length : Int) = i * 1; omega
   ·show (i + 1) * 8 ≤ 140737488355328; omega
   ·show i + 1 ≤ 9223372036854775807; omega
   conv => cbv
   refine Upd.mk fun LS2 hLS2 => ?_
   have hLS2 : LS2 = LS ++ [.int .i64 (.sym x)] := hLS2
   have hLS3 : LS2 = ipv (dn ++ [x]) := by rw [hLS2,hLS,← ipv_app]; rfl
   conv => cbv
   refine Sum.mk fun j2 hj2 => ?_
   have hj2 : j2 = i + 1 := hj2
   conv => cbv
   refine fO (i + 1) fun j3 hj3 => ?_
   obtain rfl : j2 = j3 := hj2.trans (show j3 = i + 1 from hj3).symm
   conv => cbv
   have hxdn : x ∉ dn := fun k => by
    obtain ⟨_,_,⟨_,_,_,_,_,_,_,e⟩,_⟩ := hdn x k
    rw [hJx] at e
    cases e
   refine Again.mk rest.length _ (by rw [hkk]; exact Nat.lt_succ_self _) (Re.at [(0,0),(1,1),(2,2),(3,3),(4,4),(5,5),(6,6),(7,7),(8,8),(9,9),(10,10),(11,11),(12,12),(13,13),(14,14),(15,15),(16,16),(17,17),(18,18),(23,20)] []) ⟨j2,R2,ws4,vs4,L2,D4,P2,B2,V4,upd J x (3,[g,c,vi,(-1),ti,(-1),(-1)]),upd J2 x (3,[g,c,vi,(-1),ti,(-1),(-1)]),updQ q1 c true (q1 c true ++ [x]),dn ++ [x],rest,LS2,rfl,hLS3,by rw [List.length_append]; show j2 = ((dn.length + 1 : Nat) : Int); omega,rfl,by simp at hpl2 ⊢; omega,fun j => by
     have := hrest (j + 1)
     rw [List.getElem?_cons_succ] at this
     rw [this,List.length_append]
     congr 1
     simp; omega,fun xs => by
     have := hS1 (x :: xs)
     rw [List.append_assoc,List.singleton_append,this,hvi,hti,hj2]; rfl,fun xs => by
     have := hS2 (x :: xs)
     rw [List.append_assoc,List.singleton_append,this,hvi,hti,hj2]; rfl,fun xs => by
     have := hQ1 (x :: xs)
     rw [List.append_assoc,List.singleton_append,this]; rfl,⟨h4,g4,c4,d4,S2.ph,S2.w⟩,hYp,hYq,List.nodup_append.2 ⟨hnd,by simp,fun a ha b hb => by simp at hb; subst hb; exact fun e => hxdn (e ▸ ha)⟩,fun y hy => by
     rcases List.mem_append.1 hy with k | k
     ·obtain ⟨k1,k2,k3,k4⟩ := hdn y k
      exact ⟨k1,k2,suUpd k3,suUpd k4⟩
     ·rw [List.mem_singleton.1 k]
      exact ⟨hJn x hJx,hJ2n x hJ2x,⟨_,_,_,_,_,_,_,upd_same _ _ _⟩,⟨_,_,_,_,_,_,_,upd_same _ _ _⟩⟩,by rw [upd_ne hxg]; exact hJg,by rw [upd_ne hxg]; exact hJ2g,fun p hp => ⟨chUpd hJx (hch p (List.mem_cons_of_mem _ hp)).1,chUpd hJ2x (hch p (List.mem_cons_of_mem _ hp)).2⟩,fun a ha => noneUpd hJn ha,fun a ha => noneUpd hJ2n ha,by rw [hk2,hcnt,List.length_append]; simp; omega,hl2.trans hRl⟩
theorem awake14_lx (o : Unit → Obj) (ho : IsPow o) : CallF (fun _ => Tryz.prog) 13 [] [(0,.fix 0 o)] 1 (fun r h n => r = .p (.bool true) ∧ h = [(0,.fix 0 o)] ∧ n = 1) := by
 refine callF_of_body tok Tryz.func13 (by kernel_rfl) rfl rfl rfl ?_; conv => cbv
 refine CallF.re (args0 := [.p (.vsl (.sym 1) true [.int .i64 (.sym 0)]),i6 1]) (h' := [(0,.fix 0 o)]) (Re.at [(0,0)] []) (cfr (made14_lx o ho [0] 1 1 [.int .i64 (.sym 0)] rfl rfl) [(0,0)] (fun r h' n' hrr => ?_))
 obtain ⟨N,W,C,R,ws,vs,L,D,Q,z,P,B,V,Qr,M,CS,GS,chs,bufs,grs,nc,ng,e1,e2,e3,S,hB,hY,hcs,hgs,hnc,hng,hnm,hn1,hn4,hngo,hcnt,hR,hW⟩ := hrr
 subst e1 e2 e3
 conv => cbv
 have hnc1 : nc = 1 := by omega
 obtain ⟨c,hcc⟩ := chA1 hnc hnc1
 have hc0 : chs[0]? = some c := by rw [hcc]; rfl
 obtain ⟨b,hb0,hBC⟩ := hB.ch 0 c 0 hc0 rfl
 have hMc := hBC.c
 rw [capS (by decide)] at hMc
 have hcl := S.c.len S.h.a hMc
 have hcw : atW (2 * c + 1) = c := atW_ptr c
 have hngb := ngor_bd 1
 obtain ⟨g,hg0⟩ : ∃ g,grs[0]? = some g := ⟨_,List.getElem?_eq_getElem (by omega)⟩
 have hMg : M g = some (4,[0,0,0,0,0,0,0,0,0,-1]) := hB.gr 0 g hg0
 have hgl := S.c.len S.h.a hMg
 have hgc : g ≠ c := fun q => by rw [q,hMc] at hMg; cases hMg
 refine clE (args0 := [.ptr 17 (.lit 0),i6 0]) (cfr (gor14_lx R ws vs C N W 0 0 0 L D Q z false P B V Qr [] 0 M nc ng CS GS o 0 grs hgs hng (by omega) (by omega)) iZ5 (fun r h' n' hrr => ?_))
 obtain ⟨⟨x1,e1,hx1⟩,e2,e3⟩ := hrr
 subst e1 e2 e3
 conv => cbv
 obtain rfl : g = x1 := (ix0 hx1 hg0).symm
 refine clE (args0 := [.ptr 17 (.lit 0),i6 0]) (cfr (ch14_lx R ws vs C N W 0 0 0 L D Q z false P B V Qr [] 0 M nc ng CS GS o 0 chs hcs hnc (by omega) (by omega)) iZ5 (fun r h' n' hrr => ?_))
 obtain ⟨⟨x2,e1,hx2⟩,e2,e3⟩ := hrr
 subst e1 e2 e3
 conv => cbv
 obtain rfl : c = x2 := (ix0 hx2 hc0).symm
 have S2 : Bs2 R ws vs C N W 0 L D Q z P B V Qr [] 0 (relink M (fun _ _ => [])) (relink M (fun _ _ => [])) := by rw [hY.ln]; exact S.two
 have hY2 : Sys (relink M (fun _ _ => [])) (fun _ _ => []) := by rw [hY.ln]; exact hY
 refine CallF.re (args0 := [.ptr 17 (.lit 0),i6 g,.p (.vsl (.sym 1) true [.int .i64 (.sym c)]),.p (.vsl (.sym 1) true [.bool false]),i6 0,i6 5]) (h' := [(0,.fix 0 o),hpA 2 3 7 8 3 W 0 0 0,hpB 3 4 6 3 W,hpC 4 5 233 2 N,hpP 5 L,hpP 6 D,hpF 7 z false,hpP 8 Q,hpR 9 10 15 3 W 16 0 0 0,hpB 10 11 14 3 W,hpD 11 12 3 1 N 13 231 8 N,hpP 12 P,hpP 13 B,hpP 14 V,hpP 15 Qr,(16,.mix [.p (.vsl (.sym 0) true []),.p (.bool false)]),(0,.fix 0 o),(17,.mix [.ptr 2 (.lit 0),.ptr 9 (.lit 0),.sl 18 3 1 (.lit 0) (.sym nc),.sl 19 3 1 (.lit 0) (.sym ng)]),hpP 18 CS,hpP 19 GS]) (Re.at [(0,0),(2,2),(3,3),(4,4),(5,5),(6,6),(7,7),(8,8),(9,9),(10,10),(11,11),(12,12),(13,13),(14,14),(15,15),(16,16),(17,17),(18,18),(19,19)] []) (cfr (wait14_lx R ws vs C N W 0 0 0 L D Q z false P B V Qr [] 0 M M (fun _ _ => []) nc ng CS GS o S2 ho hY2 hY2 g 0 5 0 0 0 0 0 0 0 0 0 (-1) hMg hMg rfl [(c,false)] (by simp [hMc]) (by simp) (by simp) (by decide) (by simp; omega) 1 rfl [.int .i64 (.sym c)] [.bool false] rfl rfl) iZ5 (fun r h' n' hrr => ?_))
 obtain ⟨xs,R3,ws3,vs3,L3,D3,P3,B3,V3,e1,e2,e3,S3,hY3,hY4,hxl,hxn,hxK,hk3,hl3⟩ := hrr
 subst e1 e2 e3
 conv => cbv
 obtain ⟨x,rfl⟩ : ∃ x,xs = [x] := by
  match xs,hxl with
  | [x],_ => exact ⟨x,rfl⟩
 obtain ⟨hMx,_⟩ := hxK x (by simp)
 have hxg : x ≠ g := fun e => by rw [e,hMg] at hMx; cases hMx
 have hxc : c ≠ x := fun e => by rw [← e,hMc] at hMx; cases hMx
 have hKx := waitB_1 (v := 0) (tq := 5) (c := c) (d := false) (gF := [0,1,0,0,0,0,0,0,0,hdQ [x]]) (B := M) hxg
 have hKc := (waitB_ne (g := g) (v := 0) (tq := 5) (ps := [(c,false)]) (xs := [x]) (gF := [0,1,0,0,0,0,0,0,0,hdQ [x]]) (B := M) (a := c) hgc.symm (by simp [hxc])).trans hMc
 have hKg := waitB_g g (0) (5) [(c,false)] [x] [0,1,0,0,0,0,0,0,0,hdQ [x]] M
 have hKo : ∀ a,a ≠ g → a ≠ x → waitB g (0) (5) [(c,false)] [x] [0,1,0,0,0,0,0,0,0,hdQ [x]] M a = M a := fun a h1 h2 => waitB_ne h1 (by simp [h2])
 have hq1 : addQ [(c,false)] [x] (fun _ _ => []) c false = [x] := by rw [q0_one,updQ_same]
 have hqn : addQ [(c,false)] [x] (fun _ _ => []) c (!false) = [] := by rw [q0_one,updQ_ne (by simp)]
 have hqa : ∀ a e y,y ∈ addQ [(c,false)] [x] (fun _ _ => []) a e → y ∈ [x] := fun a e y hy => by
  rw [q0_one] at hy
  by_cases k : a = c ∧ e = false
  ·obtain ⟨rfl,rfl⟩ := k; rw [updQ_same] at hy; exact hy
  ·rw [updQ_ne k] at hy; cases hy
 have hh3 := S3.h
 have hc3 := S3.c
 generalize hK1 : waitB g (0) (5) [(c,false)] [x] [0,1,0,0,0,0,0,0,0,hdQ [x]] M = K1 at hKx hKc hKg hKo hc3 hY3
 generalize hQ1 : addQ [(c,false)] [x] (fun _ _ => []) = q1 at hq1 hqn hqa hc3 hY3
 have hKn : K1 (-1) = none := rl_none (neg_none hh3.a hc3)
 have hmor := mor1 (q := q1) hKx hKc hKn
 have hrm := rmQ_all hqa
 obtain ⟨n1,hMx3⟩ := relink_su (q := q1) hKx
 have hMc3 := relink_ch (q := q1) hKc
 have hMg3 := relink_other (q := q1) hKg ⟨by decide,by decide⟩
 have hY5 := sysFilt hY3 [x]
 rw [relink_relink,hrm] at hY5
 have hMc5 : relink K1 (fun _ _ => []) c = _ := relink_ch hKc
 have hMg5 := relink_other (q := fun _ _ => []) hKg ⟨by decide,by decide⟩
 clear hK1 hQ1 hxK hxl S2 hY2 S3 hY4 S
 refine drawn_sound tok (by kernel_rfl) [(5,[3,2,1,0]),(6,[])] [0,1,2,3,4,5,6,7,8,9,10,11] (by kernel_rfl) ?_; conv => cbv
 refine clE (args0 := [.ptr 17 (.lit 0),i6 0]) (cfr (ch14_lx R3 ws3 vs3 C N W 0 0 0 L3 D3 Q z false P3 B3 V3 Qr [] 0 M nc ng CS GS o 0 chs hcs hnc (by omega) (by omega)) iZ5 (fun r h' n' hrr => ?_))
 obtain ⟨⟨x3,e1,hx3⟩,e2,e3⟩ := hrr
 subst e1 e2 e3
 conv => cbv
 obtain rfl : c = x3 := (ix0 hx3 hc0).symm
 have hq1' : q1 c false = x :: [] := hq1
 refine cfr (listPop0_lx R3 ws3 C [] N W 0 0 0 L3 D3 Q z false hh3 (relink K1 q1) hc3 q1 hY3 o ho rfl (hch9 hY3) (hsu7 hY3) c x 0 0 0 0 b _ _ _ _ g 0 n1 5 0 (-1) [] hq1' hMc3 hMx3) [(0,2),(1,3),(2,4),(3,5),(4,6),(5,7),(6,8),(7,0)] (fun r h' n' hrr => ?_)
 obtain ⟨ws4,D4,e1,e2,e3,hh4,hc4⟩ := hrr
 subst e1 e2 e3
 conv => cbv
 obtain ⟨n2,hMx4⟩ := relink_su (q := updQ q1 c false []) hMx3
 have hMg4 := relink_other (q := updQ q1 c false []) hMg3 ⟨by decide,by decide⟩
 have hmor4 := morRel (q := updQ q1 c false []) hmor
 have hY4 := sysPop hY3 hq1'
 refine clE (args0 := [.ptr 2 (.lit 0),i6 x,i6 8]) (cfr (wake_lx R3 ws4 C [] N W 0 0 0 L3 D4 Q z false hh4 _ hc4 _ hY4 o ho rfl x 8 (by decide) g c 0 n2 5 0 (-1) 0 1 0 0 0 0 0 0 0 _ [x] hMx4 hMg4 hmor4 (by simp)) [(0,2),(1,3),(2,4),(3,5),(4,6),(5,7),(6,8),(7,0)] (fun r h' n' hrr => ?_))
 obtain ⟨e5,he5,ws5,D5,e1,e2,e3,hh5,hc5⟩ := hrr
 subst e1 e2 e3
 conv => cbv
 rw [relink_relink,pop_rm hq1' (by simp),relink_relink,hrm] at hc5
 have hgf : ([0,0,5] ++ setR 0 8 [0,0,0,0,0,0] ++ [-1] : List Int) = [0,0,5,8,0,0,0,0,0,-1] := rfl
 rw [hgf] at hc5
 obtain ⟨M5,hM5⟩ : ∃ M5,M5 = upd (relink K1 (fun _ _ => [])) g (4,[0,0,5,8,0,0,0,0,0,-1]) := ⟨_,rfl⟩
 rw [← hM5] at hc5
 have hM5g : M5 g = some (4,[0,0,5,8,0,0,0,0,0,-1]) := by rw [hM5]; exact upd_same _ _ _
 refine cfr (gorM_lx R3 ws5 C [] N W 0 0 0 L3 D5 Q z false hh5 M5 hc5 g 0 0 5 8 0 0 0 0 0 (-1) hM5g) [(0,2),(1,3),(2,4),(3,5),(4,6),(5,7),(6,8)] (fun r h' n' hrr => ?_)
 obtain ⟨⟨e6,e1,he6⟩,e2,e3⟩ := hrr
 subst e1 e2 e3
 conv => cbv
 refine Br.yes (show e5 = 0 from he5) ?_
 conv => cbv
 refine Br.yes (show e6 = 0 from he6) ?_
 conv => cbv
 refine clE (args0 := [.ptr 17 (.lit 0),i6 0]) (cfr (gor14_lx R3 ws5 vs3 C N W 0 0 0 L3 D5 Q z false P3 B3 V3 Qr [] 0 M nc ng CS GS o 0 grs hgs hng (by omega) (by omega)) iZ5 (fun r h' n' hrr => ?_))
 obtain ⟨⟨x9,e1,hx9⟩,e2,e3⟩ := hrr
 subst e1 e2 e3
 conv => cbv
 obtain rfl : g = x9 := (ix0 hx9 hg0).symm
 refine Br.yes (show g = g from rfl) ?_
 conv => cbv
 refine Br.yes (show (5 : Int) = 5 from rfl) ?_
 conv => cbv
 refine Need.mk (show (0 : Int) ≤ 0 ∧ (0 : Int) < 6 by omega) ?_
 conv => cbv
 refine Br.yes (show (8 : Int) = 8 from rfl) ?_
 conv => cbv
 refine Br.yes (show (0 : Int) = 0 from rfl) ?_
 conv => cbv
 refine Br.yes (show (-1 : Int) = -1 from rfl) ?_
 conv => cbv
 refine RetF.mk [.p (.bool true)] [(0,.fix 0 o)] 1 (Re.at [(0,0)] []) rfl ⟨rfl,rfl,rfl⟩
theorem nodup_ne {l : List Int} (h : l.Nodup) {i j : Nat} {a b : Int} (ha : l[i]? = some a) (hb : l[j]? = some b) (hij : i ≠ j) : a ≠ b := fun e => by
 subst e
 obtain ⟨h1,h2⟩ := List.getElem?_eq_some_iff.1 ha
 obtain ⟨h3,h4⟩ := List.getElem?_eq_some_iff.1 hb
 exact hij ((List.getElem_inj h).1 (h2.trans h4.symm))
structure Wt2 (K : Hp) (ch ch' : Nat → Int × Bool) (vv tq : Nat → Int) (grs xs ys : List Int) (lo : Nat) : Prop where
 su : ∀ (j : Nat) (x y : Int),lo ≤ j → xs[j]? = some x → ys[j]? = some y → ∃ g,grs[j]? = some g ∧ K x = some (3,[g,(ch j).1,vv j,-1,tq j,if (ch j).2 then -1 else 0,y]) ∧ K y = some (3,[g,(ch' j).1,vv j + 2,-1,tq j + 1,if (ch' j).2 then -1 else 1,-1])
 gw : ∀ (j : Nat) (g : Int),lo ≤ j → j < xs.length → grs[j]? = some g → ∃ x,xs[j]? = some x ∧ K g = some (4,[(j : Int),1,0,0,0,0,0,0,0,x])
 gr : ∀ (j : Nat) (g : Int),xs.length ≤ j → grs[j]? = some g → K g = some (4,[(j : Int),0,0,0,0,0,0,0,0,-1])
 nd : (xs ++ ys).Nodup
 gd : grs.Nodup
 ln : ys.length = xs.length
theorem Wt2.nil {K : Hp} {ch ch' : Nat → Int × Bool} {vv tq : Nat → Int} {grs : List Int} (hg : ∀ (j : Nat) (g : Int),grs[j]? = some g → K g = some (4,[(j : Int),0,0,0,0,0,0,0,0,-1])) (hd : grs.Nodup) : Wt2 K ch ch' vv tq grs [] [] 0 :=
 ⟨fun j x y _ h => by simp at h,fun j g _ h _ => by simp at h,fun j g _ h => hg j g h,List.nodup_nil,hd,rfl⟩
theorem Wt2.add {K : Hp} {ch ch' : Nat → Int × Bool} {vv tq : Nat → Int} {grs xs ys : List Int} (h : Wt2 K ch ch' vv tq grs xs ys 0) {g x y v i n : Int} {c c' : Int} {d d' : Bool} (hg : grs[xs.length]? = some g) (hx : K x = none) (hy : K y = none) (hxy : x ≠ y) (hv : v = vv xs.length) (hi : i = tq xs.length) (hn : n = (xs.length : Int)) (hc : ch xs.length = (c,d)) (hc' : ch' xs.length = (c',d')) :
  Wt2 (waitB g v i [(c,d),(c',d')] [x,y] [n,1,0,0,0,0,0,0,0,hdQ [x,y]] K) ch ch' vv tq grs (xs ++ [x]) (ys ++ [y]) 0 := by
 have hKg := h.gr _ _ (Nat.le_refl _) hg
 have hxg : x ≠ g := fun e => by rw [e,hKg] at hx; cases hx
 have hyg : y ≠ g := fun e => by rw [e,hKg] at hy; cases hy
 obtain ⟨k1,k1b⟩ := waitB_2 (v := v) (tq := i) (c := c) (d := d) (c' := c') (d' := d') (gF := [n,1,0,0,0,0,0,0,0,hdQ [x,y]]) (B := K) hxg hyg hxy
 have k2 := waitB_g g v i [(c,d),(c',d')] [x,y] [n,1,0,0,0,0,0,0,0,hdQ [x,y]] K
 have k3 : ∀ a,a ≠ g → a ≠ x → a ≠ y → waitB g v i [(c,d),(c',d')] [x,y] [n,1,0,0,0,0,0,0,0,hdQ [x,y]] K a = K a := fun a h1 h2 h3 => waitB_ne h1 (by simp [h2,h3])
 generalize waitB g v i [(c,d),(c',d')] [x,y] [n,1,0,0,0,0,0,0,0,hdQ [x,y]] K = K' at k1 k1b k2 k3
 subst hv hi hn
 have some_of : ∀ {a : Int},K a ≠ none → a ≠ x ∧ a ≠ y := fun {a} ha => ⟨fun e => ha (by rw [e]; exact hx),fun e => ha (by rw [e]; exact hy)⟩
 have inX : ∀ {a : Int},a ∈ xs → K a ≠ none := fun {a} ha => by
  obtain ⟨j,hj⟩ := List.getElem?_of_mem ha
  have hjl := (List.getElem?_eq_some_iff.1 hj).1
  obtain ⟨g',_,h2,_⟩ := h.su j a _ (Nat.zero_le _) hj (List.getElem?_eq_getElem (by rw [h.ln]; exact hjl))
  rw [h2]; exact fun e => by cases e
 have inY : ∀ {a : Int},a ∈ ys → K a ≠ none := fun {a} ha => by
  obtain ⟨j,hj⟩ := List.getElem?_of_mem ha
  have hjl := (List.getElem?_eq_some_iff.1 hj).1
  obtain ⟨g',_,_,h2⟩ := h.su j _ a (Nat.zero_le _) (List.getElem?_eq_getElem (by rw [← h.ln]; exact hjl)) hj
  rw [h2]; exact fun e => by cases e
 refine ⟨fun j a b _ ha hb => ?_,fun j g' _ hj hg' => ?_,fun j g' hj hg' => ?_,?_,h.gd,by rw [List.length_append,List.length_append,h.ln]; rfl⟩
 ·by_cases hjl : j < xs.length
  ·rw [List.getElem?_append_left hjl] at ha
   rw [List.getElem?_append_left (by rw [h.ln]; exact hjl)] at hb
   obtain ⟨g',h1,h2,h3⟩ := h.su j a b (Nat.zero_le _) ha hb
   obtain ⟨q1,q2⟩ := some_of (a := a) (by rw [h2]; exact fun e => by cases e)
   obtain ⟨q3,q4⟩ := some_of (a := b) (by rw [h3]; exact fun e => by cases e)
   have e1 : a ≠ g := fun e => by rw [e,hKg] at h2; cases h2
   have e2 : b ≠ g := fun e => by rw [e,hKg] at h3; cases h3
   exact ⟨g',h1,(k3 a e1 q1 q2).trans h2,(k3 b e2 q3 q4).trans h3⟩
  ·have hj : j = xs.length := by have := (List.getElem?_eq_some_iff.1 ha).1; simp at this; omega
   subst hj
   rw [List.getElem?_append_right (by omega)] at ha
   rw [List.getElem?_append_right (by rw [h.ln]; omega),h.ln] at hb
   simp at ha hb
   subst ha hb
   refine ⟨g,hg,?_,?_⟩
   ·rw [hc]; exact k1
   ·rw [hc']; exact k1b
 ·rw [List.length_append,List.length_singleton] at hj
  by_cases e : j = xs.length
  ·subst e
   obtain rfl : g = g' := Option.some.inj (hg.symm.trans hg')
   exact ⟨x,by simp,k2⟩
  ·have hj2 : j < xs.length := by omega
   obtain ⟨b,h1,h2⟩ := h.gw j g' (Nat.zero_le _) hj2 hg'
   have e1 : g' ≠ g := nodup_ne h.gd hg' hg (by omega)
   obtain ⟨q1,q2⟩ := some_of (a := g') (by rw [h2]; exact fun e => by cases e)
   exact ⟨b,by rw [List.getElem?_append_left hj2]; exact h1,(k3 g' e1 q1 q2).trans h2⟩
 ·rw [List.length_append,List.length_singleton] at hj
  have h2 := h.gr j g' (by omega) hg'
  have e1 : g' ≠ g := nodup_ne h.gd hg' hg (by omega)
  obtain ⟨q1,q2⟩ := some_of (a := g') (by rw [h2]; exact fun e => by cases e)
  exact (k3 g' e1 q1 q2).trans h2
 ·have hnd := h.nd
  rw [List.nodup_append] at hnd ⊢
  obtain ⟨n1,n2,n3⟩ := hnd
  have hxx : x ∉ xs := fun e => inX e hx
  have hxy' : x ∉ ys := fun e => inY e hx
  have hyx : y ∉ xs := fun e => inX e hy
  have hyy : y ∉ ys := fun e => inY e hy
  refine ⟨?_,?_,?_⟩
  ·rw [List.nodup_append]
   refine ⟨n1,(by simp),fun a ha b hb e => ?_⟩
   rw [List.mem_singleton] at hb
   exact hxx (by rw [← hb,← e]; exact ha)
  ·rw [List.nodup_append]
   refine ⟨n2,(by simp),fun a ha b hb e => ?_⟩
   rw [List.mem_singleton] at hb
   exact hyy (by rw [← hb,← e]; exact ha)
  ·intro a ha b hb e
   subst e
   rw [List.mem_append,List.mem_singleton] at ha hb
   rcases ha with ha | ha <;> rcases hb with hb | hb
   ·exact n3 a ha a hb rfl
   ·exact hyx (by rw [← hb]; exact ha)
   ·exact hxy' (by rw [← ha]; exact hb)
   ·exact hxy (by rw [← ha,← hb])
structure Rows2 (q : Qs) (ch ch' : Nat → Int × Bool) (xs ys : List Int) : Prop where
 x : ∀ (j : Nat) (a : Int),xs[j]? = some a → a ∈ q (ch j).1 (ch j).2
 y : ∀ (j : Nat) (a : Int),ys[j]? = some a → a ∈ q (ch' j).1 (ch' j).2
 all : ∀ (c : Int) (d : Bool) (a : Int),a ∈ q c d → a ∈ xs ∨ a ∈ ys
theorem Rows2.nil {ch ch' : Nat → Int × Bool} : Rows2 (fun _ _ => []) ch ch' [] [] := ⟨fun j a h => by simp at h,fun j a h => by simp at h,fun c d a h => by cases h⟩
theorem addQ2_eq (q : Qs) (c c' x y : Int) (d d' : Bool) : addQ [(c,d),(c',d')] [x,y] q = updQ (updQ q c d (q c d ++ [x])) c' d' (updQ q c d (q c d ++ [x]) c' d' ++ [y]) := rfl
theorem updQ_app {q : Qs} {c c2 a x : Int} {d d2 : Bool} (h : a ∈ q c2 d2) : a ∈ updQ q c d (q c d ++ [x]) c2 d2 := by
 by_cases k : c2 = c ∧ d2 = d
 ·obtain ⟨rfl,rfl⟩ := k; rw [updQ_same]; exact List.mem_append_left _ h
 ·rw [updQ_ne k]; exact h
theorem updQ_app_inv {q : Qs} {c c2 a x : Int} {d d2 : Bool} (h : a ∈ updQ q c d (q c d ++ [x]) c2 d2) : a ∈ q c2 d2 ∨ a = x := by
 by_cases k : c2 = c ∧ d2 = d
 ·obtain ⟨rfl,rfl⟩ := k; rw [updQ_same,List.mem_append,List.mem_singleton] at h; exact h
 ·rw [updQ_ne k] at h; exact .inl h
theorem Rows2.add {q : Qs} {ch ch' : Nat → Int × Bool} {xs ys : List Int} (h : Rows2 q ch ch' xs ys) (hl : ys.length = xs.length) {c c' x y : Int} {d d' : Bool} (hc : ch xs.length = (c,d)) (hc' : ch' xs.length = (c',d')) : Rows2 (addQ [(c,d),(c',d')] [x,y] q) ch ch' (xs ++ [x]) (ys ++ [y]) := by
 rw [addQ2_eq]
 have hx0 : x ∈ updQ q c d (q c d ++ [x]) c d := by rw [updQ_same]; simp
 refine ⟨fun j a ha => ?_,fun j a ha => ?_,fun c2 d2 a ha => ?_⟩
 ·by_cases hj : j < xs.length
  ·rw [List.getElem?_append_left hj] at ha
   exact updQ_app (updQ_app (h.x j a ha))
  ·have e : j = xs.length := by have := (List.getElem?_eq_some_iff.1 ha).1; simp at this; omega
   subst e
   simp at ha
   subst ha
   rw [hc]
   exact updQ_app hx0
 ·by_cases hj : j < ys.length
  ·rw [List.getElem?_append_left hj] at ha
   exact updQ_app (updQ_app (h.y j a ha))
  ·have e : j = ys.length := by have := (List.getElem?_eq_some_iff.1 ha).1; simp at this; omega
   subst e
   simp at ha
   subst ha
   rw [hl,hc',updQ_same]
   simp
 ·rcases updQ_app_inv ha with ha | ha
  ·rcases updQ_app_inv ha with ha | ha
   ·rcases h.all c2 d2 a ha with q | q
    ·exact .inl (List.mem_append_left _ q)
    ·exact .inr (List.mem_append_left _ q)
   ·exact .inl (by rw [ha]; simp)
  ·exact .inr (by rw [ha]; simp)
theorem len_rm1 {l : List Int} (hn : l.Nodup) (x : Int) : (l.filter (fun a => decide (a ≠ x))).length + (if x ∈ l then 1 else 0) = l.length := by
 induction l with
 | nil => rfl
 | cons b l ih =>
  rw [List.nodup_cons] at hn
  have ih := ih hn.2
  by_cases e : b = x
  ·subst e
   rw [if_neg hn.1] at ih
   rw [List.filter_cons_of_neg (by simp),if_pos List.mem_cons_self,List.length_cons]
   omega
  ·rw [List.filter_cons_of_pos (by simpa using e),List.length_cons,List.length_cons]
   by_cases hm : x ∈ l
   ·rw [if_pos hm] at ih; rw [if_pos (List.mem_cons_of_mem _ hm)]; omega
   ·rw [if_neg hm] at ih; rw [if_neg (fun k => (List.mem_cons.1 k).elim (fun k => e k.symm) hm)]; omega
theorem len_rm2 {l : List Int} (hn : l.Nodup) {x y : Int} (hxy : x ≠ y) : (l.filter (fun a => decide (a ∉ [x,y]))).length + (if x ∈ l then 1 else 0) + (if y ∈ l then 1 else 0) = l.length := by
 have e : l.filter (fun a => decide (a ∉ [x,y])) = (l.filter (fun a => decide (a ≠ x))).filter (fun a => decide (a ≠ y)) := by
  rw [List.filter_filter]
  congr 1
  funext a
  by_cases h1 : a = x <;> by_cases h2 : a = y <;> simp [h1,h2]
 have h1 := len_rm1 hn x
 have h2 := len_rm1 (l := l.filter (fun a => decide (a ≠ x))) (List.filter_sublist.nodup hn) y
 rw [← e] at h2
 have h3 : (y ∈ l.filter (fun a => decide (a ≠ x))) ↔ y ∈ l := by
  rw [List.mem_filter]
  exact ⟨fun k => k.1,fun k => ⟨k,by simpa using hxy.symm⟩⟩
 by_cases hy : y ∈ l
 ·rw [if_pos (h3.2 hy)] at h2; rw [if_pos hy]; omega
 ·rw [if_neg (fun k => hy (h3.1 k))] at h2; rw [if_neg hy]; omega
def waits (q : Qs) (c : Int) : Nat := (q c true).length + (q c false).length
theorem one_row {M : Hp} {q : Qs} (hY : Sys M q) {x c : Int} {d : Bool} (hx : x ∈ q c d) (c2 : Int) : (if x ∈ q c2 true then 1 else 0) + (if x ∈ q c2 false then 1 else 0) = (if c2 = c then 1 else (0 : Nat)) := by
 have key : ∀ d2,x ∈ q c2 d2 → c2 = c := fun d2 h => by
  obtain ⟨g,w,n,p,r,m,e⟩ := hY.sg c2 d2 x h
  obtain ⟨g',w',n',p',r',m',e'⟩ := hY.sg c d x hx
  rw [e] at e'
  simp only [Option.some.injEq,Prod.mk.injEq,List.cons.injEq,true_and,and_true] at e'
  exact e'.2.1
 by_cases hc : c2 = c
 ·subst hc
  rw [if_pos rfl]
  cases d with
  | true => rw [if_pos hx,if_neg (fun k => hY.dj c2 x k hx)]
  | false => rw [if_pos hx,if_neg (fun k => hY.dj c2 x hx k)]
 ·rw [if_neg hc,if_neg (fun k => hc (key _ k)),if_neg (fun k => hc (key _ k))]
theorem waits_rm {M : Hp} {q : Qs} (hY : Sys M q) {x y c c' : Int} {d d' : Bool} (hxy : x ≠ y) (hx : x ∈ q c d) (hy : y ∈ q c' d') (c2 : Int) : waits (rmQ q [x,y]) c2 + ((if c2 = c then 1 else 0) + (if c2 = c' then 1 else 0)) = waits q c2 := by
 have h1 := len_rm2 (hY.nd c2 true) hxy
 have h2 := len_rm2 (hY.nd c2 false) hxy
 have h3 := one_row hY hx c2
 have h4 := one_row hY hy c2
 show ((q c2 true).filter _).length + ((q c2 false).filter _).length + _ = (q c2 true).length + (q c2 false).length
 omega
end Go.Proofs.YtkhfgngcoiablaaGreatDoor
