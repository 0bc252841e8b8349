/-
  Layer 12: RingPlays.
-/
import Derived.Test.YtjfdfbpgckilpaaGreatDoorUw
import Derived.Test.YtjfdfbpgckilpaaGreatDoorBi
import Derived.Test.YtjfdfbpgckilpaaGreatDoorMe12
import Derived.Test.YtjfdfbpgckilpaaGreatDoorBh
namespace Go.Proofs.YtjfdfbpgckilpaaGreatDoor
open Go Go.LX
set_option maxRecDepth 100000
set_option linter.unusedVariables false
set_option linter.unusedSimpArgs false
set_option maxHeartbeats 32000000
theorem chE12_lx (R : List Rw) (ws vs C G : List Int) (N W ph sp cy : Int) (L D Q : List PV) (z : ByteArray) (ov : Bool) (P B V Qr la : List PV) (m : Int) (h : HM R ws C G N W L D Q z) (hr : RM R vs C G N W P B V Qr la m) (hS : Sim R ws vs) (o : Unit → Obj) (nc ng : Int) (cs gs : List PV) (n : Int) (h0 : nc = 0) : CallF (fun _ => Tryz.prog) 26 [.ptr 16 (.lit 0),i6 n] [hpA 0 1 5 6 3 W ph sp cy,hpB 1 2 4 3 W,hpC 2 3 179 2 N,hpP 3 L,hpP 4 D,hpF 5 z ov,hpP 6 Q,hpR 7 8 13 3 W 14 ph sp cy,hpB 8 9 12 3 W,hpD 9 10 3 1 N 11 254 8 N,hpP 10 P,hpP 11 B,hpP 12 V,hpP 13 Qr,(14,.mix [.p (.vsl (.sym m) true la),.p (.bool ov)]),(15,.fix 0 o),(16,.mix [.ptr 0 (.lit 0),.ptr 7 (.lit 0),.sl 17 3 1 (.lit 0) (.sym nc),.sl 18 3 1 (.lit 0) (.sym ng)]),hpP 17 cs,hpP 18 gs] 19 (fun r h n' => r = .p (.int .i64 (.sym (-1))) ∧ h = [hpA 0 1 5 6 3 W ph sp cy,hpB 1 2 4 3 W,hpC 2 3 179 2 N,hpP 3 L,hpP 4 D,hpF 5 z ov,hpP 6 Q,hpR 7 8 13 3 W 14 ph sp cy,hpB 8 9 12 3 W,hpD 9 10 3 1 N 11 254 8 N,hpP 10 P,hpP 11 B,hpP 12 V,hpP 13 Qr,(14,.mix [.p (.vsl (.sym m) true la),.p (.bool ov)]),(15,.fix 0 o),(16,.mix [.ptr 0 (.lit 0),.ptr 7 (.lit 0),.sl 17 3 1 (.lit 0) (.sym nc),.sl 18 3 1 (.lit 0) (.sym ng)]),hpP 17 cs,hpP 18 gs] ∧ n' = 19) := by
 refine callF_of_body tok Tryz.func26 (by kernel_rfl) rfl rfl rfl ?_; conv => cbv
 refine Br.yes (show nc = 0 from h0) ?_
 conv => cbv
 refine RetF.mk [i6 (-1)] [hpA 0 1 5 6 3 W ph sp cy,hpB 1 2 4 3 W,hpC 2 3 179 2 N,hpP 3 L,hpP 4 D,hpF 5 z ov,hpP 6 Q,hpR 7 8 13 3 W 14 ph sp cy,hpB 8 9 12 3 W,hpD 9 10 3 1 N 11 254 8 N,hpP 10 P,hpP 11 B,hpP 12 V,hpP 13 Qr,(14,.mix [.p (.vsl (.sym m) true la),.p (.bool ov)]),(15,.fix 0 o),(16,.mix [.ptr 0 (.lit 0),.ptr 7 (.lit 0),.sl 17 3 1 (.lit 0) (.sym nc),.sl 18 3 1 (.lit 0) (.sym ng)]),hpP 17 cs,hpP 18 gs] 19 (Re.at [(0,0),(1,1),(2,2),(3,3),(4,4),(5,5),(6,6),(7,7),(8,8),(9,9),(10,10),(11,11),(12,12),(13,13),(14,14),(15,15),(16,16),(17,17),(18,18)] []) rfl ⟨rfl,rfl,rfl⟩
def th3 : List (Int × Int × Int) → List PV
 | [] => []
 | (x,y,z) :: l => .int .i64 (.sym x) :: .int .i64 (.sym y) :: .int .i64 (.sym z) :: th3 l
theorem th3_length : ∀ l,(th3 l).length = 3 * l.length
 | [] => rfl
 | (x,y,z) :: l => by simp [th3,th3_length l]; omega
theorem th3_get : ∀ (l : List (Int × Int × Int)) (i : Nat) (e : Int × Int × Int),l[i]? = some e → (th3 l)[3 * i]? = some (.int .i64 (.sym e.1)) ∧ (th3 l)[3 * i + 1]? = some (.int .i64 (.sym e.2.1)) ∧ (th3 l)[3 * i + 2]? = some (.int .i64 (.sym e.2.2))
 | [],i,e,h => by simp at h
 | (x,y,z) :: l,0,e,h => by simp at h; subst h; exact ⟨rfl,rfl,rfl⟩
 | (x,y,z) :: l,i + 1,e,h => by
  obtain ⟨h1,h2,h3⟩ := th3_get l i e (by simpa using h)
  rw [show 3 * (i + 1) = 3 * i + 3 by omega]
  exact ⟨by simpa [th3] using h1,by simpa [th3] using h2,by simpa [th3] using h3⟩
theorem chA12_lx (R : List Rw) (ws vs C G : List Int) (N W ph sp cy : Int) (L D Q : List PV) (z : ByteArray) (ov : Bool) (P B V Qr la : List PV) (m : Int) (h : HM R ws C G N W L D Q z) (hr : RM R vs C G N W P B V Qr la m) (hS : Sim R ws vs) (o : Unit → Obj) (nc ng : Int) (cs gs : List PV) (n : Int) (l : List Int) (hl : cs = ipv l) (hn : nc = l.length) (hb : nc ≤ 100) : CallF (fun _ => Tryz.prog) 26 [.ptr 16 (.lit 0),i6 n] [hpA 0 1 5 6 3 W ph sp cy,hpB 1 2 4 3 W,hpC 2 3 179 2 N,hpP 3 L,hpP 4 D,hpF 5 z ov,hpP 6 Q,hpR 7 8 13 3 W 14 ph sp cy,hpB 8 9 12 3 W,hpD 9 10 3 1 N 11 254 8 N,hpP 10 P,hpP 11 B,hpP 12 V,hpP 13 Qr,(14,.mix [.p (.vsl (.sym m) true la),.p (.bool ov)]),(15,.fix 0 o),(16,.mix [.ptr 0 (.lit 0),.ptr 7 (.lit 0),.sl 17 3 1 (.lit 0) (.sym nc),.sl 18 3 1 (.lit 0) (.sym ng)]),hpP 17 cs,hpP 18 gs] 19 (fun r h n' => (∃ x : Int,r = .p (.int .i64 (.sym x)) ∧ (x = -1 ∨ x ∈ l)) ∧ h = [hpA 0 1 5 6 3 W ph sp cy,hpB 1 2 4 3 W,hpC 2 3 179 2 N,hpP 3 L,hpP 4 D,hpF 5 z ov,hpP 6 Q,hpR 7 8 13 3 W 14 ph sp cy,hpB 8 9 12 3 W,hpD 9 10 3 1 N 11 254 8 N,hpP 10 P,hpP 11 B,hpP 12 V,hpP 13 Qr,(14,.mix [.p (.vsl (.sym m) true la),.p (.bool ov)]),(15,.fix 0 o),(16,.mix [.ptr 0 (.lit 0),.ptr 7 (.lit 0),.sl 17 3 1 (.lit 0) (.sym nc),.sl 18 3 1 (.lit 0) (.sym ng)]),hpP 17 cs,hpP 18 gs] ∧ n' = 19) := by
 by_cases h0 : nc = 0
 ·exact (chE12_lx R ws vs C G N W ph sp cy L D Q z ov P B V Qr la m h hr hS o nc ng cs gs n h0).mono fun r h n' ⟨e1,e2,e3⟩ => ⟨⟨-1,e1,.inl rfl⟩,e2,e3⟩
 ·have h1 : 0 < nc := by omega
  exact (ch12_lx R ws vs C N W ph sp cy L D Q z ov P B V Qr la m (fun _ => none) nc ng cs gs o n l hl hn h1 hb).mono fun r h n' ⟨⟨x,e1,hx⟩,e2,e3⟩ => ⟨⟨x,e1,.inr (List.mem_of_getElem? hx)⟩,e2,e3⟩
theorem ringPlays_law (o : Unit → Obj) (ho : IsPow o) (mc : Int) (caps : List Int) (CL : List PV) (hCL : CL = ipv caps) (hmc : mc = caps.length) (k1 : Int) (ops : List (Int × Int × Int)) (L1 : List PV) (hk1 : k1 = ops.length) (hL1 : L1 = th3 ops) (hkb : k1 ≤ 9223372036854775807) (hob : ∀ o ∈ ops,(-9223372036854775808 ≤ o.1 ∧ o.1 ≤ 9223372036854775807) ∧ (-9223372036854775808 ≤ o.2.1 ∧ o.2.1 ≤ 9223372036854775807) ∧ (-9223372036854775808 ≤ o.2.2 ∧ o.2.2 ≤ 9223372036854775807)) :
  CallF (fun _ => Tryz.prog) 4 [.p (.vsl (.sym mc) true CL),.p (.vsl (.sym k1) true L1)] [(0,.fix 0 o)] 1 (fun r _ _ => r = .p (.bool true)) := by
 have hL1l : L1.length = 3 * ops.length := by rw [hL1,th3_length]
 refine callF_of_bodyB tok Tryz.func4 (by kernel_rfl) rfl rfl rfl [10] ?_; conv => cbv
 refine CallF.le (args0 := [.p (.vsl (.sym mc) true CL),i6 1]) (cfr (made12_lx o ho caps mc 1 CL hCL hmc) [(0,0)] (fun r h' n' hrr => ?_)) (by simp [ales,ale,pvle,I.val])
 obtain ⟨N,W,C,R,ws,vs,L,D,Q,z,P,B,V,Qr,M,CS,GS,chs,bufs,grs,nc,ng,e1,e2,e3,hb,hBn,_,hCS,hGS,hnc,hng,_,_,hnc4,hngr,hcnt,hRl,hWv⟩ := hrr
 subst e1 e2 e3
 have hng1 : 0 < ng ∧ ng ≤ 100 := by rw [hngr]; exact ⟨by decide,by decide⟩
 conv => cbv
 refine cfr (awake12_lx o ho) [(0,0)] (fun r h' n' ⟨e1,e2,e3⟩ => ?_)
 subst e1 e2 e3
 conv => cbv
 have hS0 : Sim R ws vs := Cont.toSim hb.h.a hb.r.a hb.c hb.d
 have hSg0 : Sg chs R ws := Sg.init hBn hb.c
 have hM0 := hb.h
 have hR0 := hb.r
 have hgb : ∀ g ∈ grs,0 ≤ g ∧ g < 1920 := by
  intro g hg
  obtain ⟨j,hj⟩ := List.getElem?_of_mem hg
  obtain ⟨_,hH⟩ := hb.c.up _ _ _ (hBn.gr j g hj)
  have := hH.1.bounds hb.h.a
  omega
 clear hb hBn hngr hcnt
 refine LoopF.mk (fun kk s => ∃ (i : Int) (ph sp cy m : Int) (R : List Rw) (ws vs C G : List Int) (L D Q : List PV) (z : ByteArray) (ov : Bool) (P B V Qr la : List PV),s = ⟨.p (.vsl (.sym mc) true CL) :: .p (.vsl (.sym k1) true L1) :: (undefs 3 ++ .ptr 16 (.lit 0) :: .p (.int .i64 (.sym i)) :: undefs 148),[hpA 1 2 6 7 3 W ph sp cy,hpB 2 3 5 3 W,hpC 3 4 179 2 N,hpP 4 L,hpP 5 D,hpF 6 z ov,hpP 7 Q,hpR 8 9 14 3 W 15 ph sp cy,hpB 9 10 13 3 W,hpD 10 11 3 1 N 12 254 8 N,hpP 11 P,hpP 12 B,hpP 13 V,hpP 14 Qr,(15,.mix [.p (.vsl (.sym m) true la),.p (.bool ov)]),(0,.fix 0 o),(16,.mix [.ptr 1 (.lit 0),.ptr 8 (.lit 0),.sl 17 3 1 (.lit 0) (.sym nc),.sl 18 3 1 (.lit 0) (.sym ng)]),hpP 17 CS,hpP 18 GS],19⟩ ∧ HM R ws C G N W L D Q z ∧ RM R vs C G N W P B V Qr la m ∧ Sim R ws vs ∧ Sg chs R ws ∧ 0 ≤ i ∧ i ≤ 80 ∧ 0 ≤ sp ∧ sp ≤ i ∧ 0 ≤ cy ∧ cy ≤ i ∧ kk = (80 - i).toNat) 80 _
  (Re.at [(0,0),(1,1),(2,2),(3,3),(4,4),(5,5),(6,6),(7,7),(8,8),(9,9),(10,10),(11,11),(12,12),(13,13),(14,14),(15,15),(16,16),(17,17),(18,18)] []) ⟨0,0,0,0,0,R,ws,vs,C,[],L,D,Q,z,false,P,B,V,Qr,[],rfl,hM0,hR0,hS0,hSg0,by omega,by omega,by omega,by omega,by omega,by omega,by omega⟩ ?_
 clear hM0 hR0 hS0 hSg0
 rintro kk s ⟨i,ph,sp,cy,m,R,ws,vs,C,G,L,D,Q,z,ov,P,B,V,Qr,la,rfl,h,hr,hS,hSg,hi0,hi1,hs0,hs1,hc0,hc1,hkk⟩
 conv => cbv
 refine Br.mk (fun gi => ?_) (fun gi => ?_)
 case refine_2 =>
  conv => cbv
  refine RetF.mk [.p (.bool true)] [(0,.fix 0 o)] 1 (Re.at [(0,0)] []) rfl rfl
 have gi : i < k1 := gi
 conv => cbv
 refine Br.mk (fun gi2 => ?_) (fun gi2 => ?_)
 case refine_2 =>
  conv => cbv
  refine RetF.mk [.p (.bool true)] [(0,.fix 0 o)] 1 (Re.at [(0,0)] []) rfl rfl
 have gi2 : i < 80 := gi2
 obtain ⟨⟨kd,oc,ow⟩,ho3⟩ : ∃ o,ops[i.toNat]? = some o := ⟨_,List.getElem?_eq_getElem (by omega)⟩
 have hb3 := hob _ (List.mem_of_getElem? ho3)
 obtain ⟨c0,c1,c2⟩ := th3_get ops i.toNat _ ho3
 rw [← hL1] at c0 c1 c2
 dsimp only at c0 c1 c2 hb3
 conv => cbv
 refine Need.mk ⟨hi0,by show i < k1; omega⟩ ?_
 conv => cbv
 refine Sum.mk fun w hw => ?_
 have hw : w = i * 3 := hw
 conv => cbv
 refine Cell.at (w + 0) _ c0 rfl (by omega) ?_
 conv => cbv
 refine Cell.at (w + 1) _ c1 rfl (by omega) ?_
 conv => cbv
 refine Cell.at (w + 2) _ c2 rfl (by omega) ?_
 conv => cbv
 refine cfr (chA12_lx R ws vs C G N W ph sp cy L D Q z ov P B V Qr la m h hr hS o nc ng CS GS oc chs hCS hnc (by omega)) [(0,1),(1,2),(2,3),(3,4),(4,5),(5,6),(6,7),(7,8),(8,9),(9,10),(10,11),(11,12),(12,13),(13,14),(14,15),(15,0),(16,16),(17,17),(18,18)] (fun r h' n' hrr => ?_)
 obtain ⟨⟨ch,e1,hch⟩,e2,e3⟩ := hrr
 subst e1 e2 e3
 have hn3 : ∀ X y0 y1 y2 y3 y4 y5 y6 y7 y8,Kept R ws ch 1 9 → Wrds R ws ch X → [y0,y1,y2,y3,y4,y5,y6,y7,y8] = chanFs X → 0 ≤ y3 := by
  rcases hch with q | q
  ·intro X y0 y1 y2 y3 y4 y5 y6 y7 y8 hK
   have := hK.bounds h.a
   omega
  ·exact hSg.use q
 conv => cbv
 refine JoinF.mk (fun s => ∃ (ph sp cy m : Int) (R : List Rw) (ws vs C G : List Int) (L D Q : List PV) (z : ByteArray) (ov : Bool) (P B V Qr la : List PV),s = ⟨.p (.vsl (.sym mc) true CL) :: .p (.vsl (.sym k1) true L1) :: (undefs 3 ++ .ptr 16 (.lit 0) :: .p (.int .i64 (.sym i)) :: .undef :: .p (.int .i64 (.sym ch)) :: .p (.bool true) :: undefs 145),[hpA 1 2 6 7 3 W ph sp cy,hpB 2 3 5 3 W,hpC 3 4 179 2 N,hpP 4 L,hpP 5 D,hpF 6 z ov,hpP 7 Q,hpR 8 9 14 3 W 15 ph sp cy,hpB 9 10 13 3 W,hpD 10 11 3 1 N 12 254 8 N,hpP 11 P,hpP 12 B,hpP 13 V,hpP 14 Qr,(15,.mix [.p (.vsl (.sym m) true la),.p (.bool ov)]),(0,.fix 0 o),(16,.mix [.ptr 1 (.lit 0),.ptr 8 (.lit 0),.sl 17 3 1 (.lit 0) (.sym nc),.sl 18 3 1 (.lit 0) (.sym ng)]),hpP 17 CS,hpP 18 GS],19⟩ ∧ HM R ws C G N W L D Q z ∧ RM R vs C G N W P B V Qr la m ∧ Sim R ws vs ∧ Sg chs R ws ∧ 0 ≤ sp ∧ sp ≤ i + 1 ∧ 0 ≤ cy ∧ cy ≤ i + 1) ?_ ?_
 ·conv => cbv
  refine Br.mk (fun g1 => ?_) (fun g1 => ?_)
  ·have g1 : kd = 1 := g1
   conv => cbv
   refine cfr (ringTake_lx R ws C G N W ph sp cy L D Q z ov h o ho ch) [(0,1),(1,2),(2,3),(3,4),(4,5),(5,6),(6,7),(7,0)] (fun r h' n' hrr => ?_)
   obtain ⟨x1,f1,ws',C',G',ov',D',Q',z',e1,e2,e3,h2,hT1⟩ := hrr
   subst e1 e2 e3
   conv => cbv
   refine cfr (rTakeRing_lx R vs C G N W ph sp cy P B V Qr la m ov hr ch) [(0,8),(1,9),(2,10),(3,11),(4,12),(5,13),(6,14),(7,15)] (fun r h' n' hrr => ?_)
   obtain ⟨x2,f2,vs',C2,G2,ov2,V',Qr',la',m',e1,e2,e3,h3,hT2⟩ := hrr
   subst e1 e2 e3
   obtain ⟨k1x,k2x,k3x,hS2⟩ := hT1.sim hS hT2
   have hSg2 := hT1.sg hS.a hSg
   cases k3x
   conv => cbv
   refine Br.yes (show x1 = x2 from k1x) ?_
   conv => cbv
   refine Br.yes (show f1 = f2 from k2x) ?_
   conv => cbv
   refine Joined.mk _ (Re.at [(0,0),(1,1),(2,2),(3,3),(4,4),(5,5),(6,6),(7,7),(8,8),(9,9),(10,10),(11,11),(12,12),(13,13),(14,14),(15,15),(16,16),(17,17),(18,18)] []) ⟨ph,sp,cy,m',R,ws',vs',C',G',L,D',Q',z',ov',P,B,V',Qr',la',rfl,h2,h3,hS2,hSg2,hs0,by omega,hc0,by omega⟩
  ·have g1 : ¬ kd = 1 := g1
   conv => cbv
   refine Br.mk (fun g2 => ?_) (fun g2 => ?_)
   ·have g2 : kd = 2 := g2
    conv => cbv
    refine drawF_of_any (by kernel_rfl) ?_
    refine drawAny_split 5 12 (by kernel_rfl) ?_ ?_
    ·refine drawAny_split 6 12 (by kernel_rfl) ?_ ?_
     ·refine any_of_drawn tok [(5,[11,10,9,8,7,3,2,1,0]),(6,[11,10,9,8,7]),(12,[10,9,8,7]),(13,[])] [0,1,2,3,4,7,8,9,10,11,5,6,12,13,14,15] (by kernel_rfl) ?_
      conv => cbv
      by_cases hph : ph = 0
      ·subst hph
       refine CallF.re (args0 := [.ptr 1 (.lit 0),.sl 20 3 1 (.lit 0) (.sym 1)]) (h' := [hpA 1 2 6 7 3 W 0 sp cy,hpB 2 3 5 3 W,hpC 3 4 179 2 N,hpP 4 L,hpP 5 D,hpF 6 z ov,hpP 7 Q,hpR 8 9 14 3 W 15 0 sp cy,hpB 9 10 13 3 W,hpD 10 11 3 1 N 12 254 8 N,hpP 11 P,hpP 12 B,hpP 13 V,hpP 14 Qr,(15,.mix [.p (.vsl (.sym m) true la),.p (.bool ov)]),(0,.fix 0 o),(16,.mix [.ptr 1 (.lit 0),.ptr 8 (.lit 0),.sl 17 3 1 (.lit 0) (.sym nc),.sl 18 3 1 (.lit 0) (.sym ng)]),hpP 17 CS,hpP 18 GS,(19,.pure false [.int .i64 (.sym kd),.int .i64 (.sym oc),.int .i64 (.sym ow)]),(20,.pure false [.int .i64 (.sym ch)])]) (Re.at [(0,0),(1,1),(2,2),(3,3),(4,4),(5,5),(6,6),(7,7),(8,8),(9,9),(10,10),(11,11),(12,12),(13,13),(14,14),(15,15),(16,16),(17,17),(18,18),(19,19),(20,20)] []) (cfr (beginS_lx R ws C G N W 0 sp cy L D Q z ov h o ho [ch] 1 [.int .i64 (.sym ch)] rfl rfl (by simp) rfl) [(0,1),(1,2),(2,3),(3,4),(4,5),(5,6),(6,7),(7,0),(8,20)] (fun r h' n' hrr => ?_))
       obtain ⟨C',G',ov',Q',z',e1,e2,e3,h2,hb1⟩ := hrr
       subst e1 e2 e3
       conv => cbv
       refine CallF.re (args0 := [.ptr 8 (.lit 0),.sl 22 3 1 (.lit 0) (.sym 1)]) (h' := [hpA 1 2 21 7 3 W 1 sp cy,hpB 2 3 5 3 W,hpC 3 4 179 2 N,hpP 4 L,hpP 5 D,hpF 21 z' ov',hpP 7 Q',hpR 8 9 14 3 W 15 0 sp cy,hpB 9 10 13 3 W,hpD 10 11 3 1 N 12 254 8 N,hpP 11 P,hpP 12 B,hpP 13 V,hpP 14 Qr,(15,.mix [.p (.vsl (.sym m) true la),.p (.bool ov)]),(0,.fix 0 o),(16,.mix [.ptr 1 (.lit 0),.ptr 8 (.lit 0),.sl 17 3 1 (.lit 0) (.sym nc),.sl 18 3 1 (.lit 0) (.sym ng)]),hpP 17 CS,hpP 18 GS,(19,.pure false [.int .i64 (.sym kd),.int .i64 (.sym oc),.int .i64 (.sym ow)]),(22,.pure false [.int .i64 (.sym ch)])]) (Re.at [(0,0),(1,1),(2,2),(3,3),(4,4),(5,5),(7,7),(8,8),(9,9),(10,10),(11,11),(12,12),(13,13),(14,14),(15,15),(16,16),(17,17),(18,18),(19,19),(21,21),(22,22)] []) (cfr (rbeginS_lx R vs C G N W 0 sp cy P B V Qr la m ov hr [ch] 1 [.int .i64 (.sym ch)] rfl rfl (by simp) rfl) [(0,8),(1,9),(2,10),(3,11),(4,12),(5,13),(6,14),(7,15),(8,22)] (fun r h' n' hrr => ?_))
       obtain ⟨C2,G2,ov2,Qr',la',m',e1,e2,e3,h3,hb2⟩ := hrr
       subst e1 e2 e3
       conv => cbv
       obtain ⟨q1,q2,q3⟩ := three_eq hb1 hb2
       subst q1 q2 q3
       refine Joined.mk _ (Re.at [(0,0),(1,1),(2,2),(3,3),(4,4),(5,5),(7,7),(8,8),(9,9),(10,10),(11,11),(12,12),(13,13),(14,14),(16,16),(17,17),(18,18),(21,6),(23,15)] []) ⟨1,sp,cy,m',R,ws,vs,C',G',L,D,Q',z',ov',P,B,V,Qr',la',rfl,h2,h3,hS,hSg,hs0,by omega,hc0,by omega⟩
      ·refine CallF.re (args0 := [.ptr 1 (.lit 0),.undef]) (h' := [hpA 1 2 6 7 3 W ph sp cy,hpB 2 3 5 3 W,hpC 3 4 179 2 N,hpP 4 L,hpP 5 D,hpF 6 z ov,hpP 7 Q,hpR 8 9 14 3 W 15 ph sp cy,hpB 9 10 13 3 W,hpD 10 11 3 1 N 12 254 8 N,hpP 11 P,hpP 12 B,hpP 13 V,hpP 14 Qr,(15,.mix [.p (.vsl (.sym m) true la),.p (.bool ov)]),(0,.fix 0 o),(16,.mix [.ptr 1 (.lit 0),.ptr 8 (.lit 0),.sl 17 3 1 (.lit 0) (.sym nc),.sl 18 3 1 (.lit 0) (.sym ng)]),hpP 17 CS,hpP 18 GS]) (Re.at [(0,0),(1,1),(2,2),(3,3),(4,4),(5,5),(6,6),(7,7),(8,8),(9,9),(10,10),(11,11),(12,12),(13,13),(14,14),(15,15),(16,16),(17,17),(18,18)] []) (cfr (beginStateU_lx R ws C G N W ph sp cy L D Q z ov h hph) [(0,1),(1,2),(2,3),(3,4),(4,5),(5,6),(6,7)] (fun r h' n' ⟨e1,e2,e3⟩ => ?_))
       subst e1 e2 e3
       conv => cbv
       refine CallF.re (args0 := [.ptr 8 (.lit 0),.undef]) (h' := [hpA 1 2 6 7 3 W ph sp cy,hpB 2 3 5 3 W,hpC 3 4 179 2 N,hpP 4 L,hpP 5 D,hpF 6 z ov,hpP 7 Q,hpR 8 9 14 3 W 15 ph sp cy,hpB 9 10 13 3 W,hpD 10 11 3 1 N 12 254 8 N,hpP 11 P,hpP 12 B,hpP 13 V,hpP 14 Qr,(15,.mix [.p (.vsl (.sym m) true la),.p (.bool ov)]),(0,.fix 0 o),(16,.mix [.ptr 1 (.lit 0),.ptr 8 (.lit 0),.sl 17 3 1 (.lit 0) (.sym nc),.sl 18 3 1 (.lit 0) (.sym ng)]),hpP 17 CS,hpP 18 GS]) (Re.at [(0,0),(1,1),(2,2),(3,3),(4,4),(5,5),(6,6),(7,7),(8,8),(9,9),(10,10),(11,11),(12,12),(13,13),(14,14),(15,15),(16,16),(17,17),(18,18)] []) (cfr (rbeginStateU_lx R vs C G N W ph sp cy P B V Qr la m ov hr hph) [(0,8),(1,9),(2,10),(3,11),(4,12),(5,13),(6,14),(7,15)] (fun r h' n' ⟨e1,e2,e3⟩ => ?_))
       subst e1 e2 e3
       conv => cbv
       refine Joined.mk _ (Re.at [(0,0),(1,1),(2,2),(3,3),(4,4),(5,5),(6,6),(7,7),(8,8),(9,9),(10,10),(11,11),(12,12),(13,13),(14,14),(15,15),(16,16),(17,17),(18,18)] []) ⟨ph,sp,cy,m,R,ws,vs,C,G,L,D,Q,z,ov,P,B,V,Qr,la,rfl,h,hr,hS,hSg,hs0,by omega,hc0,by omega⟩
     ·refine any_of_drawn tok [(5,[11,10,9,8,7,3,2,1,0]),(12,[10,9,8,7,3,2,1,0]),(6,[10,9,8,7]),(13,[])] [0,1,2,3,4,7,8,9,10,11,5,12,6,13,14,15] (by kernel_rfl) ?_
      conv => cbv
      by_cases hph : ph = 0
      ·subst hph
       refine CallF.re (args0 := [.ptr 1 (.lit 0),.sl 20 3 1 (.lit 0) (.sym 1)]) (h' := [hpA 1 2 6 7 3 W 0 sp cy,hpB 2 3 5 3 W,hpC 3 4 179 2 N,hpP 4 L,hpP 5 D,hpF 6 z ov,hpP 7 Q,hpR 8 9 14 3 W 15 0 sp cy,hpB 9 10 13 3 W,hpD 10 11 3 1 N 12 254 8 N,hpP 11 P,hpP 12 B,hpP 13 V,hpP 14 Qr,(15,.mix [.p (.vsl (.sym m) true la),.p (.bool ov)]),(0,.fix 0 o),(16,.mix [.ptr 1 (.lit 0),.ptr 8 (.lit 0),.sl 17 3 1 (.lit 0) (.sym nc),.sl 18 3 1 (.lit 0) (.sym ng)]),hpP 17 CS,hpP 18 GS,(19,.pure false [.int .i64 (.sym kd),.int .i64 (.sym oc),.int .i64 (.sym ow)]),(20,.pure false [.int .i64 (.sym ch)]),(21,.pure false [.int .i64 (.sym ch)])]) (Re.at [(0,0),(1,1),(2,2),(3,3),(4,4),(5,5),(6,6),(7,7),(8,8),(9,9),(10,10),(11,11),(12,12),(13,13),(14,14),(15,15),(16,16),(17,17),(18,18),(19,19),(20,20),(21,21)] []) (cfr (beginS_lx R ws C G N W 0 sp cy L D Q z ov h o ho [ch] 1 [.int .i64 (.sym ch)] rfl rfl (by simp) rfl) [(0,1),(1,2),(2,3),(3,4),(4,5),(5,6),(6,7),(7,0),(8,20)] (fun r h' n' hrr => ?_))
       obtain ⟨C',G',ov',Q',z',e1,e2,e3,h2,hb1⟩ := hrr
       subst e1 e2 e3
       conv => cbv
       refine CallF.re (args0 := [.ptr 8 (.lit 0),.sl 21 3 1 (.lit 0) (.sym 1)]) (h' := [hpA 1 2 22 7 3 W 1 sp cy,hpB 2 3 5 3 W,hpC 3 4 179 2 N,hpP 4 L,hpP 5 D,hpF 22 z' ov',hpP 7 Q',hpR 8 9 14 3 W 15 0 sp cy,hpB 9 10 13 3 W,hpD 10 11 3 1 N 12 254 8 N,hpP 11 P,hpP 12 B,hpP 13 V,hpP 14 Qr,(15,.mix [.p (.vsl (.sym m) true la),.p (.bool ov)]),(0,.fix 0 o),(16,.mix [.ptr 1 (.lit 0),.ptr 8 (.lit 0),.sl 17 3 1 (.lit 0) (.sym nc),.sl 18 3 1 (.lit 0) (.sym ng)]),hpP 17 CS,hpP 18 GS,(19,.pure false [.int .i64 (.sym kd),.int .i64 (.sym oc),.int .i64 (.sym ow)]),(21,.pure false [.int .i64 (.sym ch)])]) (Re.at [(0,0),(1,1),(2,2),(3,3),(4,4),(5,5),(7,7),(8,8),(9,9),(10,10),(11,11),(12,12),(13,13),(14,14),(15,15),(16,16),(17,17),(18,18),(19,19),(21,21),(22,22)] []) (cfr (rbeginS_lx R vs C G N W 0 sp cy P B V Qr la m ov hr [ch] 1 [.int .i64 (.sym ch)] rfl rfl (by simp) rfl) [(0,8),(1,9),(2,10),(3,11),(4,12),(5,13),(6,14),(7,15),(8,21)] (fun r h' n' hrr => ?_))
       obtain ⟨C2,G2,ov2,Qr',la',m',e1,e2,e3,h3,hb2⟩ := hrr
       subst e1 e2 e3
       conv => cbv
       obtain ⟨q1,q2,q3⟩ := three_eq hb1 hb2
       subst q1 q2 q3
       refine Joined.mk _ (Re.at [(0,0),(1,1),(2,2),(3,3),(4,4),(5,5),(7,7),(8,8),(9,9),(10,10),(11,11),(12,12),(13,13),(14,14),(16,16),(17,17),(18,18),(22,6),(23,15)] []) ⟨1,sp,cy,m',R,ws,vs,C',G',L,D,Q',z',ov',P,B,V,Qr',la',rfl,h2,h3,hS,hSg,hs0,by omega,hc0,by omega⟩
      ·refine CallF.re (args0 := [.ptr 1 (.lit 0),.undef]) (h' := [hpA 1 2 6 7 3 W ph sp cy,hpB 2 3 5 3 W,hpC 3 4 179 2 N,hpP 4 L,hpP 5 D,hpF 6 z ov,hpP 7 Q,hpR 8 9 14 3 W 15 ph sp cy,hpB 9 10 13 3 W,hpD 10 11 3 1 N 12 254 8 N,hpP 11 P,hpP 12 B,hpP 13 V,hpP 14 Qr,(15,.mix [.p (.vsl (.sym m) true la),.p (.bool ov)]),(0,.fix 0 o),(16,.mix [.ptr 1 (.lit 0),.ptr 8 (.lit 0),.sl 17 3 1 (.lit 0) (.sym nc),.sl 18 3 1 (.lit 0) (.sym ng)]),hpP 17 CS,hpP 18 GS]) (Re.at [(0,0),(1,1),(2,2),(3,3),(4,4),(5,5),(6,6),(7,7),(8,8),(9,9),(10,10),(11,11),(12,12),(13,13),(14,14),(15,15),(16,16),(17,17),(18,18)] []) (cfr (beginStateU_lx R ws C G N W ph sp cy L D Q z ov h hph) [(0,1),(1,2),(2,3),(3,4),(4,5),(5,6),(6,7)] (fun r h' n' ⟨e1,e2,e3⟩ => ?_))
       subst e1 e2 e3
       conv => cbv
       refine CallF.re (args0 := [.ptr 8 (.lit 0),.undef]) (h' := [hpA 1 2 6 7 3 W ph sp cy,hpB 2 3 5 3 W,hpC 3 4 179 2 N,hpP 4 L,hpP 5 D,hpF 6 z ov,hpP 7 Q,hpR 8 9 14 3 W 15 ph sp cy,hpB 9 10 13 3 W,hpD 10 11 3 1 N 12 254 8 N,hpP 11 P,hpP 12 B,hpP 13 V,hpP 14 Qr,(15,.mix [.p (.vsl (.sym m) true la),.p (.bool ov)]),(0,.fix 0 o),(16,.mix [.ptr 1 (.lit 0),.ptr 8 (.lit 0),.sl 17 3 1 (.lit 0) (.sym nc),.sl 18 3 1 (.lit 0) (.sym ng)]),hpP 17 CS,hpP 18 GS]) (Re.at [(0,0),(1,1),(2,2),(3,3),(4,4),(5,5),(6,6),(7,7),(8,8),(9,9),(10,10),(11,11),(12,12),(13,13),(14,14),(15,15),(16,16),(17,17),(18,18)] []) (cfr (rbeginStateU_lx R vs C G N W ph sp cy P B V Qr la m ov hr hph) [(0,8),(1,9),(2,10),(3,11),(4,12),(5,13),(6,14),(7,15)] (fun r h' n' ⟨e1,e2,e3⟩ => ?_))
       subst e1 e2 e3
       conv => cbv
       refine Joined.mk _ (Re.at [(0,0),(1,1),(2,2),(3,3),(4,4),(5,5),(6,6),(7,7),(8,8),(9,9),(10,10),(11,11),(12,12),(13,13),(14,14),(15,15),(16,16),(17,17),(18,18)] []) ⟨ph,sp,cy,m,R,ws,vs,C,G,L,D,Q,z,ov,P,B,V,Qr,la,rfl,h,hr,hS,hSg,hs0,by omega,hc0,by omega⟩
    ·refine any_of_drawn tok [(12,[10,9,8,7,4,3,2,1,0]),(5,[10,9,8,7,3,2,1,0]),(6,[10,9,8,7]),(13,[])] [0,1,2,3,4,7,8,9,10,11,12,5,6,13,14,15] (by kernel_rfl) ?_
     conv => cbv
     by_cases hph : ph = 0
     ·subst hph
      refine CallF.re (args0 := [.ptr 1 (.lit 0),.sl 21 3 1 (.lit 0) (.sym 1)]) (h' := [hpA 1 2 6 7 3 W 0 sp cy,hpB 2 3 5 3 W,hpC 3 4 179 2 N,hpP 4 L,hpP 5 D,hpF 6 z ov,hpP 7 Q,hpR 8 9 14 3 W 15 0 sp cy,hpB 9 10 13 3 W,hpD 10 11 3 1 N 12 254 8 N,hpP 11 P,hpP 12 B,hpP 13 V,hpP 14 Qr,(15,.mix [.p (.vsl (.sym m) true la),.p (.bool ov)]),(0,.fix 0 o),(16,.mix [.ptr 1 (.lit 0),.ptr 8 (.lit 0),.sl 17 3 1 (.lit 0) (.sym nc),.sl 18 3 1 (.lit 0) (.sym ng)]),hpP 17 CS,hpP 18 GS,(19,.pure false [.int .i64 (.sym kd),.int .i64 (.sym oc),.int .i64 (.sym ow)]),(20,.pure false [.int .i64 (.sym ch)]),(21,.pure false [.int .i64 (.sym ch)])]) (Re.at [(0,0),(1,1),(2,2),(3,3),(4,4),(5,5),(6,6),(7,7),(8,8),(9,9),(10,10),(11,11),(12,12),(13,13),(14,14),(15,15),(16,16),(17,17),(18,18),(19,19),(20,20),(21,21)] []) (cfr (beginS_lx R ws C G N W 0 sp cy L D Q z ov h o ho [ch] 1 [.int .i64 (.sym ch)] rfl rfl (by simp) rfl) [(0,1),(1,2),(2,3),(3,4),(4,5),(5,6),(6,7),(7,0),(8,21)] (fun r h' n' hrr => ?_))
      obtain ⟨C',G',ov',Q',z',e1,e2,e3,h2,hb1⟩ := hrr
      subst e1 e2 e3
      conv => cbv
      refine CallF.re (args0 := [.ptr 8 (.lit 0),.sl 20 3 1 (.lit 0) (.sym 1)]) (h' := [hpA 1 2 22 7 3 W 1 sp cy,hpB 2 3 5 3 W,hpC 3 4 179 2 N,hpP 4 L,hpP 5 D,hpF 22 z' ov',hpP 7 Q',hpR 8 9 14 3 W 15 0 sp cy,hpB 9 10 13 3 W,hpD 10 11 3 1 N 12 254 8 N,hpP 11 P,hpP 12 B,hpP 13 V,hpP 14 Qr,(15,.mix [.p (.vsl (.sym m) true la),.p (.bool ov)]),(0,.fix 0 o),(16,.mix [.ptr 1 (.lit 0),.ptr 8 (.lit 0),.sl 17 3 1 (.lit 0) (.sym nc),.sl 18 3 1 (.lit 0) (.sym ng)]),hpP 17 CS,hpP 18 GS,(19,.pure false [.int .i64 (.sym kd),.int .i64 (.sym oc),.int .i64 (.sym ow)]),(20,.pure false [.int .i64 (.sym ch)])]) (Re.at [(0,0),(1,1),(2,2),(3,3),(4,4),(5,5),(7,7),(8,8),(9,9),(10,10),(11,11),(12,12),(13,13),(14,14),(15,15),(16,16),(17,17),(18,18),(19,19),(20,20),(22,22)] []) (cfr (rbeginS_lx R vs C G N W 0 sp cy P B V Qr la m ov hr [ch] 1 [.int .i64 (.sym ch)] rfl rfl (by simp) rfl) [(0,8),(1,9),(2,10),(3,11),(4,12),(5,13),(6,14),(7,15),(8,20)] (fun r h' n' hrr => ?_))
      obtain ⟨C2,G2,ov2,Qr',la',m',e1,e2,e3,h3,hb2⟩ := hrr
      subst e1 e2 e3
      conv => cbv
      obtain ⟨q1,q2,q3⟩ := three_eq hb1 hb2
      subst q1 q2 q3
      refine Joined.mk _ (Re.at [(0,0),(1,1),(2,2),(3,3),(4,4),(5,5),(7,7),(8,8),(9,9),(10,10),(11,11),(12,12),(13,13),(14,14),(16,16),(17,17),(18,18),(22,6),(23,15)] []) ⟨1,sp,cy,m',R,ws,vs,C',G',L,D,Q',z',ov',P,B,V,Qr',la',rfl,h2,h3,hS,hSg,hs0,by omega,hc0,by omega⟩
     ·refine CallF.re (args0 := [.ptr 1 (.lit 0),.undef]) (h' := [hpA 1 2 6 7 3 W ph sp cy,hpB 2 3 5 3 W,hpC 3 4 179 2 N,hpP 4 L,hpP 5 D,hpF 6 z ov,hpP 7 Q,hpR 8 9 14 3 W 15 ph sp cy,hpB 9 10 13 3 W,hpD 10 11 3 1 N 12 254 8 N,hpP 11 P,hpP 12 B,hpP 13 V,hpP 14 Qr,(15,.mix [.p (.vsl (.sym m) true la),.p (.bool ov)]),(0,.fix 0 o),(16,.mix [.ptr 1 (.lit 0),.ptr 8 (.lit 0),.sl 17 3 1 (.lit 0) (.sym nc),.sl 18 3 1 (.lit 0) (.sym ng)]),hpP 17 CS,hpP 18 GS]) (Re.at [(0,0),(1,1),(2,2),(3,3),(4,4),(5,5),(6,6),(7,7),(8,8),(9,9),(10,10),(11,11),(12,12),(13,13),(14,14),(15,15),(16,16),(17,17),(18,18)] []) (cfr (beginStateU_lx R ws C G N W ph sp cy L D Q z ov h hph) [(0,1),(1,2),(2,3),(3,4),(4,5),(5,6),(6,7)] (fun r h' n' ⟨e1,e2,e3⟩ => ?_))
      subst e1 e2 e3
      conv => cbv
      refine CallF.re (args0 := [.ptr 8 (.lit 0),.undef]) (h' := [hpA 1 2 6 7 3 W ph sp cy,hpB 2 3 5 3 W,hpC 3 4 179 2 N,hpP 4 L,hpP 5 D,hpF 6 z ov,hpP 7 Q,hpR 8 9 14 3 W 15 ph sp cy,hpB 9 10 13 3 W,hpD 10 11 3 1 N 12 254 8 N,hpP 11 P,hpP 12 B,hpP 13 V,hpP 14 Qr,(15,.mix [.p (.vsl (.sym m) true la),.p (.bool ov)]),(0,.fix 0 o),(16,.mix [.ptr 1 (.lit 0),.ptr 8 (.lit 0),.sl 17 3 1 (.lit 0) (.sym nc),.sl 18 3 1 (.lit 0) (.sym ng)]),hpP 17 CS,hpP 18 GS]) (Re.at [(0,0),(1,1),(2,2),(3,3),(4,4),(5,5),(6,6),(7,7),(8,8),(9,9),(10,10),(11,11),(12,12),(13,13),(14,14),(15,15),(16,16),(17,17),(18,18)] []) (cfr (rbeginStateU_lx R vs C G N W ph sp cy P B V Qr la m ov hr hph) [(0,8),(1,9),(2,10),(3,11),(4,12),(5,13),(6,14),(7,15)] (fun r h' n' ⟨e1,e2,e3⟩ => ?_))
      subst e1 e2 e3
      conv => cbv
      refine Joined.mk _ (Re.at [(0,0),(1,1),(2,2),(3,3),(4,4),(5,5),(6,6),(7,7),(8,8),(9,9),(10,10),(11,11),(12,12),(13,13),(14,14),(15,15),(16,16),(17,17),(18,18)] []) ⟨ph,sp,cy,m,R,ws,vs,C,G,L,D,Q,z,ov,P,B,V,Qr,la,rfl,h,hr,hS,hSg,hs0,by omega,hc0,by omega⟩
   ·have g2 : ¬ kd = 2 := g2
    conv => cbv
    refine Br.mk (fun g3 => ?_) (fun g3 => ?_)
    ·have g3 : kd = 3 := g3
     conv => cbv
     refine Br.mk (fun g4 => ?_) (fun g4 => ?_)
     ·have g4 : ph = 1 := g4
      conv => cbv
      refine cfr (step_lx R ws C G N W ph sp cy L D Q z ov h o ho ⟨hs0,by omega⟩ ⟨hc0,by omega⟩) [(0,1),(1,2),(2,3),(3,4),(4,5),(5,6),(6,7),(7,0)] (fun r h' n' hrr => ?_)
      obtain ⟨out,k,ph',sp',cy',R',ws',C',G',ov',cells,L',D',Q',z',e1,e2,e3,h2,hcs,hk,hst⟩ := hrr
      subst e1 e2 e3
      conv => cbv
      refine cfr (rstep_lx R vs C G N W ph sp cy P B V Qr la m ov hr ⟨hs0,by omega⟩ ⟨hc0,by omega⟩) [(0,8),(1,9),(2,10),(3,11),(4,12),(5,13),(6,14),(7,15)] (fun r h' n' hrr => ?_)
      obtain ⟨out2,k2,ph2,sp2,cy2,R2,vs',C2,G2,ov2,cells2,P',B',V',Qr',la',m',e1,e2,e3,h3,hcs2,hk2,hst2⟩ := hrr
      subst e1 e2 e3
      have hnm := stepd_nums hs0 hc0 hst
      have hSg2 := hSg.step hS.a g4 hst
      obtain ⟨q1,q2,q3,q4,q5,q6,q7,q8,hS2⟩ := step_sim hS hs0 hst hst2
      subst q1 q2 q3 q4 q5 q6 q7 q8
      conv => cbv
      refine Joined.mk _ (Re.at [(0,0),(1,1),(2,2),(3,3),(4,4),(5,5),(6,6),(7,7),(8,8),(9,9),(10,10),(11,11),(12,12),(13,13),(14,14),(15,15),(16,16),(17,17),(18,18)] []) ⟨ph',sp',cy',m',R',ws',vs',C',G',L',D',Q',z',ov',P',B',V',Qr',la',rfl,h2,h3,hS2,hSg2,hnm.1,by have := hnm.2.1; omega,hnm.2.2.1,by have := hnm.2.2.2; omega⟩
     ·conv => cbv
      refine Joined.mk _ (Re.at [(0,0),(1,1),(2,2),(3,3),(4,4),(5,5),(6,6),(7,7),(8,8),(9,9),(10,10),(11,11),(12,12),(13,13),(14,14),(15,15),(16,16),(17,17),(18,18)] []) ⟨ph,sp,cy,m,R,ws,vs,C,G,L,D,Q,z,ov,P,B,V,Qr,la,rfl,h,hr,hS,hSg,hs0,by omega,hc0,by omega⟩
    ·have g3 : ¬ kd = 3 := g3
     conv => cbv
     refine Sum.mk fun r3 hr3 => ?_
     conv => cbv
     refine Br.mk (fun g5 => ?_) (fun g5 => ?_)
     ·conv => cbv
      refine CallF.le (args0 := [.ptr 16 (.lit 0),i6 0]) (cfr (gor12_lx R ws vs C N W ph sp cy L D Q z ov P B V Qr la m (fun _ => none) nc ng CS GS o 0 grs hGS hng hng1.1 hng1.2) [(0,1),(1,2),(2,3),(3,4),(4,5),(5,6),(6,7),(7,8),(8,9),(9,10),(10,11),(11,12),(12,13),(13,14),(14,15),(15,0),(16,16),(17,17),(18,18)] (fun r h' n' hrr => ?_)) (by simp [ales,ale,pvle,I.val])
      obtain ⟨⟨gx,e1,hgx⟩,e2,e3⟩ := hrr
      subst e1 e2 e3
      have hgxb := hgb gx (List.mem_of_getElem? hgx)
      conv => cbv
      refine Fit.mk (by show (-9223372036854775808 : Int) ≤ 2 * gx; omega) (by show 2 * gx ≤ 9223372036854775807; omega) fun v1 hv1 => ?_
      have hv1 : v1 = 2 * gx := hv1
      conv => cbv
      refine Fit.mk (by show (-9223372036854775808 : Int) ≤ v1 + 1; omega) (by show v1 + 1 ≤ 9223372036854775807; omega) fun v2 hv2 => ?_
      have hv2 : v2 = v1 + 1 := hv2
      have hvb : -9223372036854775808 ≤ v2 ∧ v2 ≤ 9223372036854775807 := by omega
      conv => cbv
      refine drawn_sound tok (by kernel_rfl) [(6,[12,11,10,9,8,7]),(13,[])] [0,1,2,3,4,5,7,8,9,10,11,12,6,13,14,15] (by kernel_rfl) ?_; conv => cbv
      refine cfr (ringPut_lx R ws C G N W ph sp cy L D Q z ov h o ho ch v2 hvb) [(0,1),(1,2),(2,3),(3,4),(4,5),(5,6),(6,7),(7,0)] (fun r h' n' hrr => ?_)
      obtain ⟨f1,ws',C',G',ov',D',Q',z',e1,e2,e3,h2,hT1⟩ := hrr
      subst e1 e2 e3
      conv => cbv
      refine cfr (rPutRing_lx R vs C G N W ph sp cy P B V Qr la m ov hr ch v2 hvb) [(0,8),(1,9),(2,10),(3,11),(4,12),(5,13),(6,14),(7,15)] (fun r h' n' hrr => ?_)
      obtain ⟨f2,vs',C2,G2,ov2,V',Qr',la',m',e1,e2,e3,h3,hT2⟩ := hrr
      subst e1 e2 e3
      obtain ⟨k2x,k3x,hS2⟩ := hT1.sim hS hvb hn3 hT2
      have hSg2 := hT1.sg hS.a hn3 hSg hvb
      cases k3x
      obtain rfl := k2x
      conv => cbv
      refine Br.yes (show f1 = f1 from rfl) ?_
      conv => cbv
      refine Joined.mk _ (Re.at [(0,0),(1,1),(2,2),(3,3),(4,4),(5,5),(6,6),(7,7),(8,8),(9,9),(10,10),(11,11),(12,12),(13,13),(14,14),(15,15),(16,16),(17,17),(18,18)] []) ⟨ph,sp,cy,m',R,ws',vs',C',G',L,D',Q',z',ov',P,B,V',Qr',la',rfl,h2,h3,hS2,hSg2,hs0,by omega,hc0,by omega⟩
     ·have hvb := hb3.2.2
      conv => cbv
      refine drawn_sound tok (by kernel_rfl) [(6,[12,11,10,9,8,7]),(13,[])] [0,1,2,3,4,5,7,8,9,10,11,12,6,13,14,15] (by kernel_rfl) ?_; conv => cbv
      refine cfr (ringPut_lx R ws C G N W ph sp cy L D Q z ov h o ho ch ow hvb) [(0,1),(1,2),(2,3),(3,4),(4,5),(5,6),(6,7),(7,0)] (fun r h' n' hrr => ?_)
      obtain ⟨f1,ws',C',G',ov',D',Q',z',e1,e2,e3,h2,hT1⟩ := hrr
      subst e1 e2 e3
      conv => cbv
      refine cfr (rPutRing_lx R vs C G N W ph sp cy P B V Qr la m ov hr ch ow hvb) [(0,8),(1,9),(2,10),(3,11),(4,12),(5,13),(6,14),(7,15)] (fun r h' n' hrr => ?_)
      obtain ⟨f2,vs',C2,G2,ov2,V',Qr',la',m',e1,e2,e3,h3,hT2⟩ := hrr
      subst e1 e2 e3
      obtain ⟨k2x,k3x,hS2⟩ := hT1.sim hS hvb hn3 hT2
      have hSg2 := hT1.sg hS.a hn3 hSg hvb
      cases k3x
      obtain rfl := k2x
      conv => cbv
      refine Br.yes (show f1 = f1 from rfl) ?_
      conv => cbv
      refine Joined.mk _ (Re.at [(0,0),(1,1),(2,2),(3,3),(4,4),(5,5),(6,6),(7,7),(8,8),(9,9),(10,10),(11,11),(12,12),(13,13),(14,14),(15,15),(16,16),(17,17),(18,18)] []) ⟨ph,sp,cy,m',R,ws',vs',C',G',L,D',Q',z',ov',P,B,V',Qr',la',rfl,h2,h3,hS2,hSg2,hs0,by omega,hc0,by omega⟩
 clear h hr hS hSg hs0 hs1 hc0 hc1 hn3
 rintro s ⟨ph,sp,cy,m,R,ws,vs,C,G,L,D,Q,z,ov,P,B,V,Qr,la,rfl,h,hr,hS,hSg,hs0,hs1,hc0,hc1⟩
 conv => cbv
 refine drawn_sound tok (by kernel_rfl) [(4,[]),(13,[18,17,16,15,14]),(19,[]),(20,[])] [0,1,2,3,4,5,6,7,8,9,10,11,12,14,15,16,17,18,13,19,20,21,22] (by kernel_rfl) ?_; conv => cbv
 refine cfr (alike12_lx R ws vs C G N W ph sp cy L D Q z ov P B V Qr la m h hr hS o nc ng CS GS) [(0,1),(1,2),(2,3),(3,4),(4,5),(5,6),(6,7),(7,8),(8,9),(9,10),(10,11),(11,12),(12,13),(13,14),(14,15),(15,0),(16,16),(17,17),(18,18)] (fun r h' n' ⟨e1,e2,e3⟩ => ?_)
 subst e1 e2 e3
 conv => cbv
 refine cfr (ringAll_lx R ws C G N W ph sp cy L D Q z ov h ch) [(0,1),(1,2),(2,3),(3,4),(4,5),(5,6),(6,7)] (fun r h' n' hrr => ?_)
 obtain ⟨la1,ma,cl1,e1,e2,e3,hma,hcl1,hA1⟩ := hrr
 subst e1 e2 e3
 conv => cbv
 refine cfr (rAllRing_lx R vs C G N W ph sp cy P B V Qr la m ov hr ch) [(0,8),(1,9),(2,10),(3,11),(4,12),(5,13),(6,14),(7,15)] (fun r h' n' hrr => ?_)
 obtain ⟨la2,mb,cl2,e1,e2,e3,hmb,hcl2,hA2⟩ := hrr
 subst e1 e2 e3
 have hll := hA1.sim hS hA2
 have hmm : mb = ma := by rw [hmb,hma,hll]
 subst hmm
 have hl30 : la1.length ≤ 1000 := by
  cases hA1 with
  | no _ => exact Nat.zero_le _
  | none _ _ _ _ _ _ _ _ _ _ _ _ _ _ => exact Nat.zero_le _
  | ok _ _ _ _ _ _ _ _ _ _ _ _ _ h0 hK _ hl _ => have := hK.bounds h.a; omega
 conv => cbv
 refine callF_lend (plainE_true la1 mb cl1 cl2 hma hcl1 (by rw [hll]; exact hcl2) (by omega)) (by simp [lends,lendV,hget,I.val,pvle]) (fun r h' n' ⟨e1,e2,e3⟩ => by subst e1 e2; exact ⟨trivial,trivial⟩) (fun r h' n' ⟨e1,e2,e3⟩ => ?_)
 subst e1 e2 e3
 conv => cbv
 refine Fit.mk (by show (-9223372036854775808 : Int) ≤ i + 1; omega) (by show i + 1 ≤ 9223372036854775807; omega) fun i2 hi2 => ?_
 have hi2 : i2 = i + 1 := hi2
 conv => cbv
 refine Again.mk (80 - i2).toNat _ (by omega) (Re.at [(0,0),(1,1),(2,2),(3,3),(4,4),(5,5),(6,6),(7,7),(8,8),(9,9),(10,10),(11,11),(12,12),(13,13),(14,14),(15,15),(16,16),(17,17),(18,18)] []) ⟨i2,ph,sp,cy,m,R,ws,vs,C,G,L,D,Q,z,ov,P,B,V,Qr,la,rfl,h,hr,hS,hSg,by omega,by omega,hs0,by omega,hc0,by omega,rfl⟩
end Go.Proofs.YtjfdfbpgckilpaaGreatDoor
