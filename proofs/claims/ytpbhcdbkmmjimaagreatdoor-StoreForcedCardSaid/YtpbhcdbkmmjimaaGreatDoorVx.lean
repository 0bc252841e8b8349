/-
  Layer 21: roots that stand in a block of their own.
-/
import Derived.Test.YtpbhcdbkmmjimaaGreatDoorBh
namespace Go.Proofs.YtpbhcdbkmmjimaaGreatDoor
open Go Go.LX
set_option maxRecDepth 100000
set_option linter.unusedVariables false
set_option linter.unusedSimpArgs false
set_option maxHeartbeats 32000000
theorem beginB_lx (R : List Rw) (ws C G : List Int) (N W ph sp cy : Int) (L D Q : List PV) (z : ByteArray) (ov : Bool) (h : HM R ws C G N W L D Q z) (o : Unit → Obj) (ho : IsPow o) (A : List Int) (k : Int) (rs : List PV) (hrs : rs = ipv A) (hk : k = A.length) (hA : (A.length : Int) < 1000000) (hph : ph = 0) : CallF (fun _ => Tryz.prog) 46 [.ptr 0 (.lit 0),.sl 8 3 1 (.lit 0) (.sym k)] [hpA 0 1 5 6 3 W ph sp cy,hpB 1 2 4 3 W,hpC 2 3 137 2 N,hpP 3 L,hpP 4 D,hpF 5 z ov,hpP 6 Q,(7,.fix 0 o),hpP 8 rs] 9 (fun r h n => ∃ (C' G' : List Int) (ov' : Bool) (Q' : List PV) (z' : ByteArray),r = .p (.int .i64 (.lit 0)) ∧ h = [hpA 0 1 9 6 3 W 1 sp cy,hpB 1 2 4 3 W,hpC 2 3 137 2 N,hpP 3 L,hpP 4 D,hpF 9 z' ov',hpP 6 Q',(7,.fix 0 o),hpP 8 rs] ∧ n = 10 ∧ HM R ws C' G' N W L D Q' z' ∧ (C',G',ov') = begS R W A) := by
 have hCl := h.c; have hWn := h.w; have hNr := h.n; have hRr := h.r
 have hQl : Q.length = C.length := by rw [h.q,ipv_length]
 have hrl : rs.length = A.length := by rw [hrs,ipv_length]
 refine callF_of_body tok Tryz.func46 (by kernel_rfl) rfl rfl rfl ?_; conv => cbv
 refine cfr (arena_lx R ws C G N W ph sp cy L D Q z ov) [(0,0),(1,1),(2,2),(3,3),(4,4),(5,5),(6,6)] (fun r h' n' ⟨e1,e2,e3⟩ => ?_)
 subst e1 e2 e3
 conv => cbv
 refine Br.mk (fun g => ?_) (fun g => ?_)
 case refine_1 =>
  have g : ph ≠ 0 := g
  exact absurd hph g
 conv => cbv
 refine Need.mk ⟨Int.le_refl _,by show 0 ≤ W; omega,by show 0 + W * 1 ≤ (Q.length : Int); omega⟩ ?_
 conv => cbv
 obtain ⟨Q0,hQ0⟩ : ∃ Q0,Q0 = ipv (List.replicate W.toNat 0) := ⟨_,rfl⟩
 refine Upd.mk fun Q2 hQ2 => ?_
 have hle : pvles Q2 Q0 := by
  have hQ2 : Q2 = updL Q 0 (repsP [.int .i64 (.lit 0)] W.toNat) := hQ2
  rw [hQ2,hQ0,h.q,show W.toNat = C.length by omega,← zer_all]
  exact upd_zer _ _ _ _ (pvles_refl _)
 unfold pvles at hle
 clear hQ2
 conv => cbv
 refine callF_frame greyNew_lx [] rfl (by simp [hmapOk,nget,hget,renB,okB,renV,renVs,rn,okVs,okV]) rfl rfl (fun r h' n' hrr => ?_)
 obtain ⟨z1,e1,e2,e3,hz1⟩ := hrr
 subst e1 e2 e3
 have hM0 : HM R ws (List.replicate W.toNat 0) [] N W L D Q0 z1 := ⟨h.a,h.k,h.n,h.r,h.w,h.l,h.d,hQ0,by rw [List.length_replicate]; omega,hz1,fun x hx => (by cases hx),Nat.zero_le _⟩
 conv => cbv
 refine LoopF.mk (fun kk s => ∃ (i : Int) (C' G' : List Int) (ov' : Bool) (Q' : List PV) (z' : ByteArray),s = ⟨.ptr 0 (.lit 0) :: (undefs 25 ++ .sl 8 3 1 (.lit 0) (.sym k) :: .p (.int .i64 (.sym k)) :: .p (.int .i64 (.sym i)) :: undefs 7),[hpA 0 1 9 6 3 W 1 sp cy,hpB 1 2 4 3 W,hpC 2 3 137 2 N,hpP 3 L,hpP 4 D,hpF 9 z' ov',hpP 6 Q',(7,.fix 0 o),hpP 8 rs],10⟩ ∧ 0 ≤ i ∧ i ≤ k ∧ HM R ws C' G' N W L D Q' z' ∧ (C',G',ov') = begS R W (A.take i.toNat) ∧ kk = (k - i).toNat) k.toNat _
  (Re.at [(0,0),(1,1),(2,2),(3,3),(4,4),(6,6),(7,7),(8,8),(9,9)] []) ⟨0,_,_,_,Q0,z1,rfl,by omega,by omega,hM0,rfl,by omega⟩ ?_
 rintro kk s ⟨i,C',G',ov',Q',z',rfl,hi0,hi1,h2,hS,hk2⟩
 conv => cbv
 refine Br.mk (fun gi => ?_) (fun gi => ?_)
 ·have gi : i < k := gi
  obtain ⟨k',rfl⟩ : ∃ k',kk = k' + 1 := ⟨kk - 1,by omega⟩
  obtain ⟨a,ha⟩ : ∃ a,A[i.toNat]? = some a := ⟨_,List.getElem?_eq_getElem (by omega)⟩
  have hc : rs[i.toNat]? = some (.int .i64 (.sym a)) := by rw [hrs]; exact ipv_get ha
  conv => cbv
  refine Need.mk ⟨hi0,gi⟩ ?_
  conv => cbv
  refine Cell.at i _ hc (by simp [I.val]) rfl ?_
  conv => cbv
  refine cfr (shade_lx R ws C' G' N W 1 sp cy L D Q' z' ov' h2 o ho a) [(0,0),(1,1),(2,2),(3,3),(4,4),(5,9),(6,6),(7,7)] (fun r h' n' hrr => ?_)
  obtain ⟨C2,G2,ov2,Q2,z2,e1,e2,e3,h3,hS2⟩ := hrr
  subst e1 e2 e3
  have hS3 : (C2,G2,ov2) = begS R W (A.take (i.toNat + 1)) := by
   rw [hS2,hS]
   unfold begS
   rw [List.take_add_one,ha,Option.toList_some,List.foldl_append]; rfl
  conv => cbv
  refine Fit.mk (by show (-9223372036854775808 : Int) ≤ i + 1; omega) (by show i + 1 ≤ 9223372036854775807; omega) fun i2 hi2 => ?_
  have hi2 : i2 = i + 1 := hi2
  rw [show i.toNat + 1 = i2.toNat by omega] at hS3
  conv => cbv
  refine Again.mk k' _ (Nat.lt_succ_self _) (Re.at [(0,0),(1,1),(2,2),(3,3),(4,4),(6,6),(7,7),(8,8),(9,9)] []) ⟨i2,C2,G2,ov2,Q2,z2,rfl,by omega,by omega,h3,hS3,by omega⟩
 ·have gi : ¬ i < k := gi
  rw [List.take_of_length_le (by omega)] at hS
  conv => cbv
  refine RetF.mk [.p (.int .i64 (.lit 0))] [hpA 0 1 9 6 3 W 1 sp cy,hpB 1 2 4 3 W,hpC 2 3 137 2 N,hpP 3 L,hpP 4 D,hpF 9 z' ov',hpP 6 Q',(7,.fix 0 o),hpP 8 rs] 10 (Re.at [(0,0),(1,1),(2,2),(3,3),(4,4),(6,6),(7,7),(8,8),(9,9)] []) rfl ⟨C',G',ov',Q',z',rfl,rfl,rfl,h2,hS⟩
theorem makeRoomB_lx (R : List Rw) (ws C G : List Int) (N W ph sp cy : Int) (L D Q : List PV) (z : ByteArray) (ov : Bool) (h : HM R ws C G N W L D Q z) (o : Unit → Obj) (ho : IsPow o) (hg : Good N ⟨R,ws,C,G,ov,ph,sp,cy⟩) (hcy : cy ≤ 800000000) (A : List Int) (j : Int) (ca : List PV) (hca : ca = ipv A) (hj : j = A.length) (hAl : A.length ≤ 100000) :
  CallF (fun _ => Tryz.prog) 59 [.ptr 0 (.lit 0),.sl 8 3 1 (.lit 0) (.sym j)] [hpA 0 1 5 6 3 W ph sp cy,hpB 1 2 4 3 W,hpC 2 3 137 2 N,hpP 3 L,hpP 4 D,hpF 5 z ov,hpP 6 Q,(7,.fix 0 o),hpP 8 ca] 9 (fun r h n => ∃ (out : List Gn) (m : Int) (cells : List PV) (Rh : List Rw) (wh Ch Gh : List Int) (ovh : Bool) (sp2 cy2 : Int) (Lh Dh Qh : List PV) (zh : ByteArray),r = .sl 10 40 4 (.lit 0) (.sym m) ∧ h = [hpA 0 1 9 6 3 W 0 sp2 cy2,hpB 1 2 4 3 W,hpC 2 3 137 2 N,hpP 3 Lh,hpP 4 Dh,hpF 9 zh ovh,hpP 6 Qh,(7,.fix 0 o),hpP 8 ca,hpP 10 cells] ∧ n = 11 ∧ HM Rh wh Ch Gh N W Lh Dh Qh zh ∧ cells = gpv out ∧ m = out.length ∧ Made W A ⟨R,ws,C,G,ov,ph,sp,cy⟩ out ⟨Rh,wh,Ch,Gh,ovh,0,sp2,cy2⟩) := by
 have hW := h.w
 have hW2 : W = 32 * N := hW
 refine callF_of_body tok Tryz.func59 (by kernel_rfl) rfl rfl rfl ?_; conv => cbv
 refine cfr (toTheEnd_lx R ws C G N W ph sp cy L D Q z ov h o ho hg (by omega)) [(0,0),(1,1),(2,2),(3,3),(4,4),(5,5),(6,6),(7,7)] (fun r h' n' hrr => ?_)
 obtain ⟨o1,m1,c1,k1,R1,ws1,C1,G1,ov1,sp1,cy1,L1,D1,Q1,z1,e1,e2,e3,h1,hc1,hm1,hM1⟩ := hrr
 subst e1 e2 e3
 obtain ⟨g1,_,hy1,_⟩ := hM1.good hW2 hg
 have hb1 := hM1.cyb hW2 hg
 conv => cbv
 refine callF_lend (clone_lx A j ca hj hca hAl) (by simp [lends,lendV,hget,I.val,pvle]) (fun r h' n' hrr => ?_) (fun r h' n' hrr => ?_)
 ·obtain ⟨T,e1,e2,e3,hT⟩ := hrr
  subst e1 e2
  exact ⟨trivial,fun u hu => by rw [hT] at hu; obtain ⟨y,_,rfl⟩ := List.mem_map.1 hu; exact trivial,trivial⟩
 obtain ⟨T,e1,e2,e3,hT⟩ := hrr
 subst e1 e2 e3
 conv => cbv
 refine callF_lend (keptOf_lx o1 m1 c1 hm1 hc1 (by omega)) (by simp [lends,lendV,hget,I.val,pvle]) (fun r h' n' hrr => ?_) (fun r h' n' hrr => ?_)
 ·obtain ⟨m2,T2,e1,e2,e3,hT2,hm2⟩ := hrr
  subst e1 e2
  exact ⟨trivial,fun u hu => by rw [hT2] at hu; obtain ⟨y,_,rfl⟩ := List.mem_map.1 hu; exact trivial,trivial⟩
 obtain ⟨m2,T2,e1,e2,e3,hT2,hm2⟩ := hrr
 subst e1 e2 e3
 conv => cbv
 have hTl : T.length = A.length := by rw [hT,ipv_length]
 have hT2l : T2.length = (keptOf o1).length := by rw [hT2,ipv_length]
 have hgk := gone_kept o1
 refine Room.new (by show (T2.length : Int) = m2 * 1; omega) ?_
 conv => cbv
 refine Room.new ⟨by show (T.length : Int) = j * 1; omega,by show (j + m2) * 8 ≤ 140737488355328; omega,by show j + m2 ≤ 9223372036854775807; omega⟩ ?_
 conv => cbv
 refine Upd.mk fun T3 hT3 => ?_
 have hT3 : T3 = ipv (A ++ keptOf o1) := by rw [show T3 = T ++ T2 from hT3,hT,hT2,← ipv_app]
 conv => cbv
 refine Sum.mk fun m3 hm3 => ?_
 have hm3 : m3 = ((A ++ keptOf o1).length : Int) := by rw [show m3 = j + m2 from hm3,hj,hm2,List.length_append]; rfl
 conv => cbv
 refine CallF.re (args0 := [.ptr 0 (.lit 0),.p (.vsl (.sym m3) true T3)]) (h' := [hpA 0 1 5 6 3 W 0 sp1 cy1,hpB 1 2 4 3 W,hpC 2 3 137 2 N,hpP 3 L1,hpP 4 D1,hpF 5 z1 ov1,hpP 6 Q1,(7,.fix 0 o),hpP 8 ca,hpP 9 c1]) (Re.at [(0,0),(1,1),(2,2),(3,3),(4,4),(5,5),(6,6),(7,7),(8,8),(9,9)] []) (cfr (begin_lx R1 ws1 C1 G1 N W 0 sp1 cy1 L1 D1 Q1 z1 ov1 h1 o ho (A ++ keptOf o1) m3 T3 hT3 hm3 (by rw [List.length_append]; omega) rfl) [(0,0),(1,1),(2,2),(3,3),(4,4),(5,5),(6,6),(7,7)] (fun r h' n' hrr => ?_))
 obtain ⟨C3,G3,ov3,Q3,z3,e1,e2,e3,h3,hb3⟩ := hrr
 subst e1 e2 e3
 have hB : Bgn W ⟨R1,ws1,C1,G1,ov1,0,sp1,cy1⟩ (A ++ keptOf o1) ⟨R1,ws1,C3,G3,ov3,1,sp1,cy1⟩ := ⟨rfl,rfl,rfl,rfl,rfl,(by have := h3.c; show (C3.length : Int) = W; exact this),hb3⟩
 conv => cbv
 have g3 := hB.good hW2 g1
 refine cfr (toTheEnd_lx R1 ws1 C3 G3 N W 1 sp1 cy1 L1 D1 Q3 z3 ov3 h3 o ho g3 (by have := hb1.1; show cy1 ≤ 900000000; have h9 : cy1 ≤ cy + 2177 := hb1.1; omega)) [(0,0),(1,1),(2,2),(3,3),(4,4),(5,13),(6,6),(7,7)] (fun r h' n' hrr => ?_)
 obtain ⟨o4,m4,c4,k4,R4,ws4,C4,G4,ov4,sp4,cy4,L4,D4,Q4,z4,e1,e2,e3,h4,hc4,hm4,hM4⟩ := hrr
 subst e1 e2 e3
 have hb4 := hM4.cyb hW2 g3
 have hl1 : c1.length = 4 * o1.length := by rw [hc1,gpv_length]
 have hl4 : c4.length = 4 * o4.length := by rw [hc4,gpv_length]
 conv => cbv
 refine Room.new (by show (c4.length : Int) = m4 * 4; omega) ?_
 conv => cbv
 refine Room.new ⟨by show (c1.length : Int) = m1 * 4; omega,by show (m1 + m4) * 48 ≤ 140737488355328; omega,by show m1 + m4 ≤ 9223372036854775807; omega⟩ ?_
 conv => cbv
 refine Upd.mk fun c5 hc5 => ?_
 have hc5 : c5 = gpv (o1 ++ o4) := by rw [show c5 = c1 ++ c4 from hc5,hc1,hc4,← gpv_app]
 conv => cbv
 refine Sum.mk fun m5 hm5 => ?_
 have hm5 : m5 = ((o1 ++ o4).length : Int) := by rw [show m5 = m1 + m4 from hm5,hm1,hm4,List.length_append]; rfl
 conv => cbv
 refine RetF.mk [.sl 10 40 4 (.lit 0) (.sym m5)] [hpA 0 1 9 6 3 W 0 sp4 cy4,hpB 1 2 4 3 W,hpC 2 3 137 2 N,hpP 3 L4,hpP 4 D4,hpF 9 z4 ov4,hpP 6 Q4,(7,.fix 0 o),hpP 8 ca,hpP 10 c5] 11 (Re.at [(0,0),(1,1),(2,2),(3,3),(4,4),(13,9),(6,6),(7,7),(8,8),(15,10)] []) rfl ⟨o1 ++ o4,m5,c5,R4,ws4,C4,G4,ov4,sp4,cy4,L4,D4,Q4,z4,rfl,rfl,rfl,h4,hc5,hm5,o1,o4,k1,k4,_,_,rfl,hM1,rfl,hB,hM4,rfl⟩
end Go.Proofs.YtpbhcdbkmmjimaaGreatDoor
