/-
  The ground of the proof, part 10: the calculus and what is proved with it.
-/
import Derived.Test.YtjgbhpclmlcbbaaGreatDoorBi
namespace Go.Proofs.YtjgbhpclmlcbbaaGreatDoor
open Go Go.LX
set_option maxRecDepth 100000
set_option linter.unusedVariables false
set_option linter.unusedSimpArgs false
set_option maxHeartbeats 32000000
theorem allocT16_lx (R : List Rw) (ws vs C : List Int) (N W ph sp cy : Int) (L D Q : List PV) (z : ByteArray) (ov : Bool) (P B V Qr la : List PV) (m : Int) (M M2 : Hp) (nc ng : Int) (cs gs : List PV) (o : Unit → Obj) (S : Bs2 R ws vs C N W ph L D Q z P B V Qr la m M M2) (kd n : Int) (hk : 0 ≤ n ∧ n ≤ 31 ∧ 1 ≤ kd ∧ kd ≤ 6) (hlen : lenK kd n.toNat) (hroom : objCount R < R.length) : CallF (fun _ => Tryz.prog) 85 [.ptr 16 (.lit 0),i6 kd,i6 n] [hpA 0 1 5 6 3 W ph sp cy,hpB 1 2 4 3 W,hpC 2 3 214 2 N,hpP 3 L,hpP 4 D,hpF 5 z ov,hpP 6 Q,hpR 7 8 13 3 W 14 ph sp cy,hpB 8 9 12 3 W,hpD 9 10 3 1 N 11 209 8 N,hpP 10 P,hpP 11 B,hpP 12 V,hpP 13 Qr,(14,.mix [.p (.vsl (.sym m) true la),.p (.bool ov)]),(15,.fix 0 o),(16,.mix [.ptr 0 (.lit 0),.ptr 7 (.lit 0),.sl 17 3 1 (.lit 0) (.sym nc),.sl 18 3 1 (.lit 0) (.sym ng)]),hpP 17 cs,hpP 18 gs] 19 (fun r h n' => ∃ (x : Int) (R' : List Rw) (ws' vs' : List Int) (L' D' P' B' V' : List PV),r = .p (.int .i64 (.sym x)) ∧ h = [hpA 0 1 5 6 3 W ph sp cy,hpB 1 2 4 3 W,hpC 2 3 214 2 N,hpP 3 L',hpP 4 D',hpF 5 z ov,hpP 6 Q,hpR 7 8 13 3 W 14 ph sp cy,hpB 8 9 12 3 W,hpD 9 10 3 1 N 11 209 8 N,hpP 10 P',hpP 11 B',hpP 12 V',hpP 13 Qr,(14,.mix [.p (.vsl (.sym m) true la),.p (.bool ov)]),(15,.fix 0 o),(16,.mix [.ptr 0 (.lit 0),.ptr 7 (.lit 0),.sl 17 3 1 (.lit 0) (.sym nc),.sl 18 3 1 (.lit 0) (.sym ng)]),hpP 17 cs,hpP 18 gs] ∧ n' = 19 ∧ Bs2 R' ws' vs' C N W ph L' D' Q z P' B' V' Qr la m (upd M x (kd,zerK kd n.toNat)) (upd M2 x (kd,zerK kd n.toNat)) ∧ objCount R' = objCount R + 1 ∧ M x = Option.none ∧ M2 x = Option.none ∧ 0 ≤ x ∧ x < W ∧ R'.length = R.length) := by
 refine callF_of_body tok Tryz.func85 (by kernel_rfl) rfl rfl rfl ?_; conv => cbv
 refine cfr (alloc9_lx R ws C [] N W ph sp cy L D Q z ov S.h kd n) iM7 (fun r h' n' hrr => ?_)
 obtain ⟨x,e,R',ws',C',L',D',Q',e1,e2,e3,h1,hT,hC⟩ := hrr
 subst e1 e2 e3
 conv => cbv
 refine cfr (ralloc9_lx R vs C [] N W ph sp cy P B V Qr la m ov S.r kd n) iZ4 (fun r h' n' hrr => ?_)
 obtain ⟨y,f,Y,vs',DC,P',B',V',Qr',e1,e2,e3,g1,hU,hD⟩ := hrr
 subst e1 e2 e3
 obtain ⟨he,q1,q2,q3,hM1,hM2,hc1,hx0,hy0,hx1,hx2,hx3⟩ := S.alloc hroom hk hlen hT hU
 subst q1 q2 q3
 obtain ⟨q4,q5,q6,q7⟩ := Bs2.colour S he h1 g1 hC hD
 subst q4 q5 q6 q7
 conv => cbv
 refine Br.no (show ¬ ¬ (x = x) from fun q => q rfl) ?_
 conv => cbv
 refine Br.no (show ¬ ¬ (e = 0) from fun q => q he) ?_
 conv => cbv
 refine Br.no (show ¬ ¬ (e = 0) from fun q => q he) ?_
 conv => cbv
 refine RetF.mk [i6 x] [hpA 0 1 5 6 3 W ph sp cy,hpB 1 2 4 3 W,hpC 2 3 214 2 N,hpP 3 L',hpP 4 D',hpF 5 z ov,hpP 6 Q,hpR 7 8 13 3 W 14 ph sp cy,hpB 8 9 12 3 W,hpD 9 10 3 1 N 11 209 8 N,hpP 10 P',hpP 11 B',hpP 12 V',hpP 13 Qr,(14,.mix [.p (.vsl (.sym m) true la),.p (.bool ov)]),(15,.fix 0 o),(16,.mix [.ptr 0 (.lit 0),.ptr 7 (.lit 0),.sl 17 3 1 (.lit 0) (.sym nc),.sl 18 3 1 (.lit 0) (.sym ng)]),hpP 17 cs,hpP 18 gs] 19 (Re.at [(0,0),(1,1),(2,2),(3,3),(4,4),(5,5),(6,6),(7,7),(8,8),(9,9),(10,10),(11,11),(12,12),(13,13),(14,14),(15,15),(16,16),(17,17),(18,18)] []) rfl ⟨x,R',ws',vs',L',D',P',B',V',rfl,rfl,rfl,⟨h1,g1,hM1,hM2,S.ph,S.w⟩,hc1,hx0,hy0,hx1,by rw [S.h.w,S.h.n]; exact hx2,hx3⟩
theorem wait16_lx (R : List Rw) (ws vs C : List Int) (N W ph sp cy : Int) (L D Q : List PV) (z : ByteArray) (ov : Bool) (P B V Qr la : List PV) (m : Int) (K K2 : Hp) (q : Qs) (nc ng : Int) (cs gs : List PV) (o : Unit → Obj) (S : Bs2 R ws vs C N W ph L D Q z P B V Qr la m (relink K q) (relink K2 q)) (ho : IsPow o) (hY : Sys (relink K q) q) (hY2 : Sys (relink K2 q) q) (g v tq x0 x1 x2 x3 x4 x5 x6 x7 x8 x9 : Int) (hg : K g = some (4,[x0,x1,x2,x3,x4,x5,x6,x7,x8,x9])) (hg2 : K2 g = some (4,[x0,x1,x2,x3,x4,x5,x6,x7,x8,x9])) (hst : x1 = 0) (ps : List (Int × Bool)) (hps : ∀ p ∈ ps,(∃ F,K p.1 = some (1,F)) ∧ ∃ F,K2 p.1 = some (1,F)) (hpl : ps.length ≤ 3) (hv : -9223372036854775808 ≤ v ∧ v + 2 * ps.length ≤ 9223372036854775809) (htq : 0 ≤ tq ∧ tq ≤ 1000) (hroom : objCount R + ps.length ≤ R.length) (mc : Int) (hmc : mc = ps.length) (CH SN : List PV) (hCH : CH = ipv (ps.map Prod.fst)) (hSN : SN = ps.map fun p => PV.bool p.2) : CallF (fun _ => Tryz.prog) 36 [.ptr 16 (.lit 0),i6 g,.p (.vsl (.sym mc) true CH),.p (.vsl (.sym mc) true SN),i6 v,i6 tq] [hpA 0 1 5 6 3 W ph sp cy,hpB 1 2 4 3 W,hpC 2 3 214 2 N,hpP 3 L,hpP 4 D,hpF 5 z ov,hpP 6 Q,hpR 7 8 13 3 W 14 ph sp cy,hpB 8 9 12 3 W,hpD 9 10 3 1 N 11 209 8 N,hpP 10 P,hpP 11 B,hpP 12 V,hpP 13 Qr,(14,.mix [.p (.vsl (.sym m) true la),.p (.bool ov)]),(15,.fix 0 o),(16,.mix [.ptr 0 (.lit 0),.ptr 7 (.lit 0),.sl 17 3 1 (.lit 0) (.sym nc),.sl 18 3 1 (.lit 0) (.sym ng)]),hpP 17 cs,hpP 18 gs] 19 (fun r h n' => ∃ (xs : List Int) (R' : List Rw) (ws' vs' : List Int) (L' D' P' B' V' : List PV),r = .p (.bool true) ∧ h = [hpA 0 1 5 6 3 W ph sp cy,hpB 1 2 4 3 W,hpC 2 3 214 2 N,hpP 3 L',hpP 4 D',hpF 5 z ov,hpP 6 Q,hpR 7 8 13 3 W 14 ph sp cy,hpB 8 9 12 3 W,hpD 9 10 3 1 N 11 209 8 N,hpP 10 P',hpP 11 B',hpP 12 V',hpP 13 Qr,(14,.mix [.p (.vsl (.sym m) true la),.p (.bool ov)]),(15,.fix 0 o),(16,.mix [.ptr 0 (.lit 0),.ptr 7 (.lit 0),.sl 17 3 1 (.lit 0) (.sym nc),.sl 18 3 1 (.lit 0) (.sym ng)]),hpP 17 cs,hpP 18 gs] ∧ n' = 19 ∧ Bs2 R' ws' vs' C N W ph L' D' Q z P' B' V' Qr la m (relink (waitB g v tq ps xs [x0,1,x2,x3,x4,x5,x6,x7,x8,hdQ xs] K) (addQ ps xs q)) (relink (waitB g v tq ps xs [x0,1,x2,x3,x4,x5,x6,x7,x8,hdQ xs] K2) (addQ ps xs q)) ∧ Sys (relink (waitB g v tq ps xs [x0,1,x2,x3,x4,x5,x6,x7,x8,hdQ xs] K) (addQ ps xs q)) (addQ ps xs q) ∧ Sys (relink (waitB g v tq ps xs [x0,1,x2,x3,x4,x5,x6,x7,x8,hdQ xs] K2) (addQ ps xs q)) (addQ ps xs q) ∧ xs.length = ps.length ∧ xs.Nodup ∧ (∀ x ∈ xs,K x = Option.none ∧ K2 x = Option.none) ∧ objCount R' = objCount R + ps.length ∧ R'.length = R.length) := by
 refine callF_of_body tok Tryz.func36 (by kernel_rfl) rfl rfl rfl ?_; conv => cbv
 refine cfr (rgorM_lx R vs C [] N W ph sp cy P B V Qr la m ov S.r _ S.d g x0 x1 x2 x3 x4 x5 x6 x7 x8 x9 (relink_other hg2 ⟨by decide,by decide⟩)) iZ4 (fun r h' n' hrr => ?_)
 obtain ⟨⟨e0,e1,he0⟩,e2,e3⟩ := hrr
 subst e1 e2 e3
 conv => cbv
 refine Br.no (show ¬ ¬ (x1 = 0) from fun q => q hst) ?_
 conv => cbv
 refine LoopF.mk (fun kk s => ∃ (i : Int) (R1 : List Rw) (ws1 vs1 : List Int) (L1 D1 P1 B1 V1 : List PV) (J J2 : Hp) (q1 : Qs) (dn : List Int) (rest : List (Int × Bool)) (LS : List PV),s = ⟨.ptr 16 (.lit 0) :: .p (.int .i64 (.sym g)) :: .p (.vsl (.sym mc) true CH) :: .p (.vsl (.sym mc) true SN) :: .p (.int .i64 (.sym v)) :: .p (.int .i64 (.sym tq)) :: (undefs 9 ++ .sl 20 3 1 (.lit 0) (.sym i) :: .p (.int .i64 (.sym i)) :: undefs 106),[hpA 0 1 5 6 3 W ph sp cy,hpB 1 2 4 3 W,hpC 2 3 214 2 N,hpP 3 L1,hpP 4 D1,hpF 5 z ov,hpP 6 Q,hpR 7 8 13 3 W 14 ph sp cy,hpB 8 9 12 3 W,hpD 9 10 3 1 N 11 209 8 N,hpP 10 P1,hpP 11 B1,hpP 12 V1,hpP 13 Qr,(14,.mix [.p (.vsl (.sym m) true la),.p (.bool ov)]),(15,.fix 0 o),(16,.mix [.ptr 0 (.lit 0),.ptr 7 (.lit 0),.sl 17 3 1 (.lit 0) (.sym nc),.sl 18 3 1 (.lit 0) (.sym ng)]),hpP 17 cs,hpP 18 gs,hpP 20 LS],21⟩ ∧ LS = ipv dn ∧ i = dn.length ∧ kk = rest.length ∧ ps.length = dn.length + rest.length ∧ (∀ j : Nat,rest[j]? = ps[dn.length + j]?) ∧ (∀ xs,addS g v tq 0 ps (dn ++ xs) K = addS g v tq i rest xs J) ∧ (∀ xs,addS g v tq 0 ps (dn ++ xs) K2 = addS g v tq i rest xs J2) ∧ (∀ xs,addQ ps (dn ++ xs) q = addQ rest xs q1) ∧ Bs2 R1 ws1 vs1 C N W ph L1 D1 Q z P1 B1 V1 Qr la m (relink J q1) (relink J2 q1) ∧ Sys (relink J q1) q1 ∧ Sys (relink J2 q1) q1 ∧ dn.Nodup ∧ (∀ x ∈ dn,K x = Option.none ∧ K2 x = Option.none ∧ IsSu J x ∧ IsSu J2 x) ∧ J g = K g ∧ J2 g = K2 g ∧ (∀ p ∈ rest,(∃ F,J p.1 = some (1,F)) ∧ ∃ F,J2 p.1 = some (1,F)) ∧ (∀ a,J a = Option.none → K a = Option.none) ∧ (∀ a,J2 a = Option.none → K2 a = Option.none) ∧ objCount R1 = objCount R + dn.length ∧ R1.length = R.length) ps.length _
  (Re.at [(0,0),(1,1),(2,2),(3,3),(4,4),(5,5),(6,6),(7,7),(8,8),(9,9),(10,10),(11,11),(12,12),(13,13),(14,14),(15,15),(16,16),(17,17),(18,18)] [20]) ⟨0,R,ws,vs,L,D,P,B,V,K,K2,q,[],ps,[],rfl,rfl,rfl,rfl,by simp,fun j => by simp,fun xs => rfl,fun xs => rfl,fun xs => rfl,S,hY,hY2,List.nodup_nil,fun x hx => (by cases hx),rfl,rfl,hps,fun a h => h,fun a h => h,rfl,rfl⟩ ?_
 rintro kk s ⟨i,R1,ws1,vs1,L1,D1,P1,B1,V1,J,J2,q1,dn,rest,LS,rfl,hLS,hi,hkk,hpl2,hrest,hS1,hS2,hQ1,S1,hY1,hY3,hnd,hdn,hJg,hJ2g,hch,hJn,hJ2n,hcnt,hRl⟩
 clear S hY hY2
 have hi : i = (dn.length : Int) := hi
 have hi0 : (0 : Int) ≤ i := by omega
 conv => cbv
 rcases rest with _ | ⟨⟨c,d⟩,rest⟩
 ·have hpl3 : dn.length = ps.length := by simpa using hpl2.symm
  refine Br.no (show ¬ (i < mc) by omega) ?_
  conv => cbv
  have hgdn : g ∉ dn := fun k => by
   have := (hdn g k).1
   rw [hg] at this
   cases this
  have hJg1 := relink_other (q := q1) (hJg.trans hg) ⟨by decide,by decide⟩
  have hJg2 := relink_other (q := q1) (hJ2g.trans hg2) ⟨by decide,by decide⟩
  have hsu1 : ∀ x ∈ dn,IsSu (relink J q1) x := fun x hx => rl_isSu (hdn x hx).2.2.1
  have hsu2 : ∀ x ∈ dn,IsSu (relink J2 q1) x := fun x hx => rl_isSu (hdn x hx).2.2.2
  refine drawn_sound tok (by kernel_rfl) [(6,[12,11,10,9,8,7]),(13,[])] [0,1,2,3,4,5,7,8,9,10,11,12,6,13,14,15] (by kernel_rfl) ?_; conv => cbv
  refine cfr (parkS_lx R1 ws1 C [] N W ph sp cy L1 D1 Q z ov S1.h _ S1.c q1 hY1 o ho S1.ph g x0 x1 x2 x3 x4 x5 x6 x7 x8 x9 dn i LS hLS hi (by omega) hJg1 hsu1) [(0,0),(1,1),(2,2),(3,3),(4,4),(5,5),(6,6),(7,15),(8,20)] (fun r h' n' hrr => ?_)
  obtain ⟨e8,he8,ws3,D3,e1,e2,e3,h3,c3⟩ := hrr
  subst e1 e2 e3
  conv => cbv
  refine CallF.re (args0 := [.ptr 7 (.lit 0),i6 g,.p (.vsl (.sym i) true LS)]) (h' := [hpA 0 1 5 6 3 W ph sp cy,hpB 1 2 4 3 W,hpC 2 3 214 2 N,hpP 3 L1,hpP 4 D3,hpF 5 z ov,hpP 6 Q,hpR 7 8 13 3 W 14 ph sp cy,hpB 8 9 12 3 W,hpD 9 10 3 1 N 11 209 8 N,hpP 10 P1,hpP 11 B1,hpP 12 V1,hpP 13 Qr,(14,.mix [.p (.vsl (.sym m) true la),.p (.bool ov)]),(15,.fix 0 o),(16,.mix [.ptr 0 (.lit 0),.ptr 7 (.lit 0),.sl 17 3 1 (.lit 0) (.sym nc),.sl 18 3 1 (.lit 0) (.sym ng)]),hpP 17 cs,hpP 18 gs]) (Re.at [(0,0),(1,1),(2,2),(3,3),(4,4),(5,5),(6,6),(7,7),(8,8),(9,9),(10,10),(11,11),(12,12),(13,13),(14,14),(15,15),(16,16),(17,17),(18,18)] []) (cfr (rpark_lx R1 vs1 C [] N W ph sp cy P1 B1 V1 Qr la m ov S1.r _ S1.d q1 hY3 S1.ph g x0 x1 x2 x3 x4 x5 x6 x7 x8 x9 dn i LS hLS hi (by omega) hJg2 hsu2) iZ4 (fun r h' n' hrr => ?_))
  obtain ⟨e9,he9,vs3,V3,e1,e2,e3,g3,d3⟩ := hrr
  subst e1 e2 e3
  conv => cbv
  refine Br.yes (show e8 = e9 from he8.trans he9.symm) ?_
  conv => cbv
  have hJ : J = addS g v tq 0 ps dn K := by
   have := hS1 []
   rw [List.append_nil] at this
   exact this.symm
  have hJ2 : J2 = addS g v tq 0 ps dn K2 := by
   have := hS2 []
   rw [List.append_nil] at this
   exact this.symm
  have hQ : q1 = addQ ps dn q := by
   have := hQ1 []
   rw [List.append_nil] at this
   exact this.symm
  have hk1 : upd (parkM (relink J q1) dn) g (4,[x0,1,x2,x3,x4,x5,x6,x7,x8,hdQ dn]) = relink (waitB g v tq ps dn [x0,1,x2,x3,x4,x5,x6,x7,x8,hdQ dn] K) (addQ ps dn q) := by
   rw [rl_parkM (fun x hx => (hdn x hx).2.2.1),rl_ot ⟨by decide,by decide⟩,hJ,hQ]
   rfl
  have hk2 : upd (parkM (relink J2 q1) dn) g (4,[x0,1,x2,x3,x4,x5,x6,x7,x8,hdQ dn]) = relink (waitB g v tq ps dn [x0,1,x2,x3,x4,x5,x6,x7,x8,hdQ dn] K2) (addQ ps dn q) := by
   rw [rl_parkM (fun x hx => (hdn x hx).2.2.2),rl_ot ⟨by decide,by decide⟩,hJ2,hQ]
   rfl
  have hs1 := sysOther (F := [x0,1,x2,x3,x4,x5,x6,x7,x8,hdQ dn]) (sysParkM hY1 hsu1) ((parkM_ne hgdn).trans hJg1) ⟨by decide,by decide⟩
  have hs2 := sysOther (F := [x0,1,x2,x3,x4,x5,x6,x7,x8,hdQ dn]) (sysParkM hY3 hsu2) ((parkM_ne hgdn).trans hJg2) ⟨by decide,by decide⟩
  rw [hk1] at hs1 c3
  rw [hk2] at hs2 d3
  rw [hQ] at hs1 hs2
  refine RetF.mk [.p (.bool true)] [hpA 0 1 5 6 3 W ph sp cy,hpB 1 2 4 3 W,hpC 2 3 214 2 N,hpP 3 L1,hpP 4 D3,hpF 5 z ov,hpP 6 Q,hpR 7 8 13 3 W 14 ph sp cy,hpB 8 9 12 3 W,hpD 9 10 3 1 N 11 209 8 N,hpP 10 P1,hpP 11 B1,hpP 12 V3,hpP 13 Qr,(14,.mix [.p (.vsl (.sym m) true la),.p (.bool ov)]),(15,.fix 0 o),(16,.mix [.ptr 0 (.lit 0),.ptr 7 (.lit 0),.sl 17 3 1 (.lit 0) (.sym nc),.sl 18 3 1 (.lit 0) (.sym ng)]),hpP 17 cs,hpP 18 gs] 19 (Re.at [(0,0),(1,1),(2,2),(3,3),(4,4),(5,5),(6,6),(7,7),(8,8),(9,9),(10,10),(11,11),(12,12),(13,13),(14,14),(15,15),(16,16),(17,17),(18,18)] []) rfl ⟨dn,R1,ws3,vs3,L1,D3,P1,B1,V3,rfl,rfl,rfl,⟨h3,g3,c3,d3,S1.ph,S1.w⟩,hs1,hs2,hpl3,hnd,fun x hx => ⟨(hdn x hx).1,(hdn x hx).2.1⟩,by rw [hcnt,hpl3],hRl⟩
 ·have hp0 : ps[dn.length]? = some (c,d) := by have := hrest 0; simpa using this.symm
  have hlt := (List.getElem?_eq_some_iff.1 hp0).1
  have hcellC : CH[i.toNat]? = some (.int .i64 (.sym c)) := by
   rw [hCH,show i.toNat = dn.length by omega]
   exact ipv_get (by rw [List.getElem?_map,hp0]; rfl)
  have hcellS : SN[i.toNat]? = some (.bool d) := by rw [hSN,show i.toNat = dn.length by omega,List.getElem?_map,hp0]; rfl
  refine Br.yes (show i < mc by omega) ?_
  conv => cbv
  refine Need.mk (show 0 ≤ i ∧ i < mc by omega) ?_
  conv => cbv
  refine Cell.at i _ hcellC (by simp [I.val]) rfl ?_
  conv => cbv
  refine fO (2 * i) fun i2 hi2 => ?_
  have hi2 : i2 = 2 * i := hi2
  conv => cbv
  refine fO (v + i2) fun vi hvi => ?_
  have hvi : vi = v + 2 * i := by rw [← hi2]; exact hvi
  conv => cbv
  refine fO (tq + i) fun ti hti => ?_
  have hti : ti = tq + i := hti
  conv => cbv
  refine Need.mk (show 0 ≤ i ∧ i < mc by omega) ?_
  conv => cbv
  refine Cell.at i _ hcellS (by simp [I.val]) rfl ?_
  obtain ⟨⟨Fc,hJc⟩,Fc2,hJ2c⟩ := hch (c,d) List.mem_cons_self
  obtain ⟨Gc,hMc0⟩ := rl_chan (q := q1) ⟨Fc,hJc⟩
  have hcl := S1.c.len S1.h.a hMc0
  have hJg1 := hJg.trans hg
  have hJg2 := hJ2g.trans hg2
  have hgl := S1.c.len S1.h.a (relink_other (q := q1) hJg1 ⟨by decide,by decide⟩)
  have hRr := S1.h.r
  cases d with
  | false =>
   conv => cbv
   refine clE (args0 := [.ptr 16 (.lit 0),i6 3,i6 7]) (cfr (allocT16_lx R1 ws1 vs1 C N W ph sp cy L1 D1 Q z ov P1 B1 V1 Qr la m (relink J q1) (relink J2 q1) nc ng cs gs o S1 3 7 (by decide) ⟨fun k => absurd k (by decide),fun _ => rfl,fun k => absurd k (by decide)⟩ (by rw [hcnt,hRl]; simp at hpl2; omega)) iM19 (fun r h' n' hrr => ?_))
   obtain ⟨x,R2,ws2,vs2,L2,D2,P2,B2,V2,e1,e2,e3,S2,hk2,hx2,hy2,hp2,hq2,hl2⟩ := hrr
   subst e1 e2 e3
   obtain ⟨hYa,hns⟩ := newSu2 (g := g) (c := c) (w := vi) (p := ti) (r := i) (m := -1) hY1 hx2
   obtain ⟨hYb,hns2⟩ := newSu2 (g := g) (c := c) (w := vi) (p := ti) (r := i) (m := -1) hY3 hy2
   rw [rl_su (hns c)] at hYa
   rw [rl_su (hns2 c)] at hYb
   have hJx := rl_none hx2
   have hJ2x := rl_none hy2
   have hxc : x ≠ c := fun e => by rw [e,hJc] at hJx; cases hJx
   have hxc2 : x ≠ c := hxc
   have hbb : ∀ q ∈ [g,c,-1,ti,i,-1],b62 q := by
    simp only [List.forall_mem_cons]
    unfold b62
    exact ⟨by omega,by omega,by omega,by omega,by omega,by omega,fun x hx => by cases hx⟩
   have hww : ∀ q ∈ [vi],-9223372036854775808 ≤ q ∧ q ≤ 9223372036854775807 := by
    intro q hq
    rw [List.mem_singleton.1 hq,hvi]
    simp at hpl2
    omega
   have hpp : ∀ q ∈ [g,c,-1,-1],-1 ≤ q := by
    simp only [List.forall_mem_cons]
    exact ⟨by omega,by omega,by omega,by omega,fun x hx => by cases hx⟩
   conv => cbv
   refine drawn_sound tok (by kernel_rfl) [(6,[12,11,10,9,8,7]),(13,[]),(29,[42,41,40,39,38,37,36,35,34,33,32,31,30]),(43,[])] [0,1,2,3,4,5,7,8,9,10,11,12,6,13,14,15,16,17,18,19,20,21,22,23,24,25,26,27,28,30,31,32,33,34,35,36,37,38,39,40,41,42,29,43,44,45] (drawnOKF_ok (by kernel_rfl)) ?_; conv => cbv
   refine clE (args0 := [.ptr 0 (.lit 0),i6 x,.agg [i6 g,i6 c,i6 vi,i6 (-1),i6 ti,i6 i,i6 (-1)]]) (cfr (putSudogM_lx R2 ws2 C [] N W ph sp cy L2 D2 Q z ov S2.h _ S2.c o ho S2.ph x g c vi (-1) ti i (-1) (zerK 3 7) (upd_same _ _ _) rfl hbb hww hpp) iZ5 (fun r h' n' hrr => ?_))
   obtain ⟨e8,ws3,D3,e1,he8,e2,e3,h3,c3⟩ := hrr
   subst e1 e2 e3
   rw [upd_upd2,rl_su (hns c)] at c3
   conv => cbv
   refine clE (args0 := [.ptr 7 (.lit 0),i6 x,.agg [i6 g,i6 c,i6 vi,i6 (-1),i6 ti,i6 i,i6 (-1)]]) (cfr (rPutSudogM_lx R2 vs2 C [] N W ph sp cy P2 B2 V2 Qr la m ov S2.r _ S2.d S2.ph x g c vi (-1) ti i (-1) (zerK 3 7) (upd_same _ _ _) rfl hbb hww hpp) iZ4 (fun r h' n' hrr => ?_))
   obtain ⟨e9,vs3,V3,e1,he9,e2,e3,g3,d3⟩ := hrr
   subst e1 e2 e3
   rw [upd_upd2,rl_su (hns2 c)] at d3
   conv => cbv
   refine Br.no (show ¬ ¬ (e8 = e9) from fun q => q (he8.trans he9.symm)) ?_
   conv => cbv
   refine Need.mk (show 0 ≤ i ∧ i < mc by omega) ?_
   conv => cbv
   refine Cell.at i _ hcellC (by simp [I.val]) rfl ?_
   conv => cbv
   refine Need.mk (show 0 ≤ i ∧ i < mc by omega) ?_
   conv => cbv
   refine Cell.at i _ hcellS (by simp [I.val]) rfl ?_
   conv => cbv
   refine Need.mk (show 0 ≤ i ∧ i < mc by omega) ?_
   conv => cbv
   refine Cell.at i _ hcellC (by simp [I.val]) rfl ?_
   conv => cbv
   refine Need.mk (show 0 ≤ i ∧ i < mc by omega) ?_
   conv => cbv
   refine Cell.at i _ hcellS (by simp [I.val]) rfl ?_
   conv => cbv
   have hMx : relink (upd J x (3,[g,c,vi,(-1),ti,i,(-1)])) q1 x = some (3,[g,c,vi,(-1),ti,i,(-1)]) := by rw [relink_get (upd_same _ _ _),lnk_sudog,nxtQ_not (hns c)]
   have hMx2 : relink (upd J2 x (3,[g,c,vi,(-1),ti,i,(-1)])) q1 x = some (3,[g,c,vi,(-1),ti,i,(-1)]) := by rw [relink_get (upd_same _ _ _),lnk_sudog,nxtQ_not (hns2 c)]
   obtain ⟨Gp,hGp⟩ := rl_chan (q := q1) (M := upd J x (3,[g,c,vi,(-1),ti,i,(-1)])) (a := c) ⟨Fc,by rw [upd_ne hxc.symm]; exact hJc⟩
   obtain ⟨y0,y1,y2,y3,y4,y5,y6,y7,y8,rfl⟩ := hch9 hYa c Gp hGp
   obtain ⟨Gq,hGq⟩ := rl_chan (q := q1) (M := upd J2 x (3,[g,c,vi,(-1),ti,i,(-1)])) (a := c) ⟨Fc2,by rw [upd_ne hxc.symm]; exact hJ2c⟩
   obtain ⟨u0,u1,u2,u3,u4,u5,u6,u7,u8,rfl⟩ := hch9 hYb c Gq hGq
   refine cfr (listPush0_lx R2 ws3 C [] N W ph sp cy L2 D3 Q z ov h3 _ c3 q1 hYa o ho S2.ph (hch9 hYa) (hsu7 hYa) c x y0 y1 y2 y3 y4 y5 y6 y7 y8 g vi (-1) ti i (-1) hGp hMx (hns c)) iZ5 (fun r h' n' hrr => ?_)
   obtain ⟨e10,ws4,D4,e1,he10,e2,e3,h4,c4⟩ := hrr
   subst e1 e2 e3
   rw [relink_relink] at c4
   conv => cbv
   refine cfr (rPush0_lx R2 vs3 C [] N W ph sp cy P2 B2 V3 Qr la m ov g3 _ d3 q1 hYb S2.ph c x u0 u1 u2 u3 u4 u5 u6 u7 u8 g vi (-1) ti i (-1) hGq hMx2 (hns2 c)) iZ4 (fun r h' n' hrr => ?_)
   obtain ⟨e11,vs4,V4,e1,he11,e2,e3,g4,d4⟩ := hrr
   subst e1 e2 e3
   rw [relink_relink] at d4
   have hYp := (hYa.push (d := false) hGp hMx (hns c)).1
   have hYq := (hYb.push (d := false) hGq hMx2 (hns2 c)).1
   rw [relink_relink] at hYp hYq
   conv => cbv
   refine Br.no (show ¬ ¬ (e10 = e11) from fun q => q (he10.trans he11.symm)) ?_
   conv => cbv
   have hxg : g ≠ x := fun e => by rw [← e,hJg1] at hJx; cases hJx
   have hLl : LS.length = dn.length := by rw [hLS,ipv_length]
   have hi3 : i < 3 := by simp at hpl2; omega
   refine Room.new rfl ?_
   conv => cbv
   refine Room.new ⟨?_,?_,?_⟩ ?_
   ·show (LS.length : Int) = i * 1; omega
   ·show (i + 1) * 8 ≤ 140737488355328; omega
   ·show i + 1 ≤ 9223372036854775807; omega
   conv => cbv
   refine Upd.mk fun LS2 hLS2 => ?_
   have hLS2 : LS2 = LS ++ [.int .i64 (.sym x)] := hLS2
   have hLS3 : LS2 = ipv (dn ++ [x]) := by rw [hLS2,hLS,← ipv_app]; rfl
   conv => cbv
   refine Sum.mk fun j2 hj2 => ?_
   have hj2 : j2 = i + 1 := hj2
   conv => cbv
   refine fO (i + 1) fun j3 hj3 => ?_
   obtain rfl : j2 = j3 := hj2.trans (show j3 = i + 1 from hj3).symm
   conv => cbv
   have hxdn : x ∉ dn := fun k => by
    obtain ⟨_,_,⟨_,_,_,_,_,_,_,e⟩,_⟩ := hdn x k
    rw [hJx] at e
    cases e
   refine Again.mk rest.length _ (by rw [hkk]; exact Nat.lt_succ_self _) (Re.at [(0,0),(1,1),(2,2),(3,3),(4,4),(5,5),(6,6),(7,7),(8,8),(9,9),(10,10),(11,11),(12,12),(13,13),(14,14),(15,15),(16,16),(17,17),(18,18),(23,20)] []) ⟨j2,R2,ws4,vs4,L2,D4,P2,B2,V4,upd J x (3,[g,c,vi,(-1),ti,i,(-1)]),upd J2 x (3,[g,c,vi,(-1),ti,i,(-1)]),updQ q1 c false (q1 c false ++ [x]),dn ++ [x],rest,LS2,rfl,hLS3,by rw [List.length_append]; show j2 = ((dn.length + 1 : Nat) : Int); omega,rfl,by simp at hpl2 ⊢; omega,fun j => by
     have := hrest (j + 1)
     rw [List.getElem?_cons_succ] at this
     rw [this,List.length_append]
     congr 1
     simp; omega,fun xs => by
     have := hS1 (x :: xs)
     rw [List.append_assoc,List.singleton_append,this,hvi,hti,hj2]; rfl,fun xs => by
     have := hS2 (x :: xs)
     rw [List.append_assoc,List.singleton_append,this,hvi,hti,hj2]; rfl,fun xs => by
     have := hQ1 (x :: xs)
     rw [List.append_assoc,List.singleton_append,this]; rfl,⟨h4,g4,c4,d4,S2.ph,S2.w⟩,hYp,hYq,List.nodup_append.2 ⟨hnd,by simp,fun a ha b hb => by simp at hb; subst hb; exact fun e => hxdn (e ▸ ha)⟩,fun y hy => by
     rcases List.mem_append.1 hy with k | k
     ·obtain ⟨k1,k2,k3,k4⟩ := hdn y k
      exact ⟨k1,k2,suUpd k3,suUpd k4⟩
     ·rw [List.mem_singleton.1 k]
      exact ⟨hJn x hJx,hJ2n x hJ2x,⟨_,_,_,_,_,_,_,upd_same _ _ _⟩,⟨_,_,_,_,_,_,_,upd_same _ _ _⟩⟩,by rw [upd_ne hxg]; exact hJg,by rw [upd_ne hxg]; exact hJ2g,fun p hp => ⟨chUpd hJx (hch p (List.mem_cons_of_mem _ hp)).1,chUpd hJ2x (hch p (List.mem_cons_of_mem _ hp)).2⟩,fun a ha => noneUpd hJn ha,fun a ha => noneUpd hJ2n ha,by rw [hk2,hcnt,List.length_append]; simp; omega,hl2.trans hRl⟩
  | true =>
   conv => cbv
   refine clE (args0 := [.ptr 16 (.lit 0),i6 3,i6 7]) (cfr (allocT16_lx R1 ws1 vs1 C N W ph sp cy L1 D1 Q z ov P1 B1 V1 Qr la m (relink J q1) (relink J2 q1) nc ng cs gs o S1 3 7 (by decide) ⟨fun k => absurd k (by decide),fun _ => rfl,fun k => absurd k (by decide)⟩ (by rw [hcnt,hRl]; simp at hpl2; omega)) iM19 (fun r h' n' hrr => ?_))
   obtain ⟨x,R2,ws2,vs2,L2,D2,P2,B2,V2,e1,e2,e3,S2,hk2,hx2,hy2,hp2,hq2,hl2⟩ := hrr
   subst e1 e2 e3
   obtain ⟨hYa,hns⟩ := newSu2 (g := g) (c := c) (w := vi) (p := ti) (r := (-1)) (m := -1) hY1 hx2
   obtain ⟨hYb,hns2⟩ := newSu2 (g := g) (c := c) (w := vi) (p := ti) (r := (-1)) (m := -1) hY3 hy2
   rw [rl_su (hns c)] at hYa
   rw [rl_su (hns2 c)] at hYb
   have hJx := rl_none hx2
   have hJ2x := rl_none hy2
   have hxc : x ≠ c := fun e => by rw [e,hJc] at hJx; cases hJx
   have hxc2 : x ≠ c := hxc
   have hbb : ∀ q ∈ [g,c,-1,ti,(-1),-1],b62 q := by
    simp only [List.forall_mem_cons]
    unfold b62
    exact ⟨by omega,by omega,by omega,by omega,by omega,by omega,fun x hx => by cases hx⟩
   have hww : ∀ q ∈ [vi],-9223372036854775808 ≤ q ∧ q ≤ 9223372036854775807 := by
    intro q hq
    rw [List.mem_singleton.1 hq,hvi]
    simp at hpl2
    omega
   have hpp : ∀ q ∈ [g,c,-1,-1],-1 ≤ q := by
    simp only [List.forall_mem_cons]
    exact ⟨by omega,by omega,by omega,by omega,fun x hx => by cases hx⟩
   conv => cbv
   refine drawn_sound tok (by kernel_rfl) [(6,[12,11,10,9,8,7]),(13,[]),(29,[42,41,40,39,38,37,36,35,34,33,32,31,30]),(43,[])] [0,1,2,3,4,5,7,8,9,10,11,12,6,13,14,15,16,17,18,19,20,21,22,23,24,25,26,27,28,30,31,32,33,34,35,36,37,38,39,40,41,42,29,43,44,45] (drawnOKF_ok (by kernel_rfl)) ?_; conv => cbv
   refine clE (args0 := [.ptr 0 (.lit 0),i6 x,.agg [i6 g,i6 c,i6 vi,i6 (-1),i6 ti,i6 (-1),i6 (-1)]]) (cfr (putSudogM_lx R2 ws2 C [] N W ph sp cy L2 D2 Q z ov S2.h _ S2.c o ho S2.ph x g c vi (-1) ti (-1) (-1) (zerK 3 7) (upd_same _ _ _) rfl hbb hww hpp) iZ5 (fun r h' n' hrr => ?_))
   obtain ⟨e8,ws3,D3,e1,he8,e2,e3,h3,c3⟩ := hrr
   subst e1 e2 e3
   rw [upd_upd2,rl_su (hns c)] at c3
   conv => cbv
   refine clE (args0 := [.ptr 7 (.lit 0),i6 x,.agg [i6 g,i6 c,i6 vi,i6 (-1),i6 ti,i6 (-1),i6 (-1)]]) (cfr (rPutSudogM_lx R2 vs2 C [] N W ph sp cy P2 B2 V2 Qr la m ov S2.r _ S2.d S2.ph x g c vi (-1) ti (-1) (-1) (zerK 3 7) (upd_same _ _ _) rfl hbb hww hpp) iZ4 (fun r h' n' hrr => ?_))
   obtain ⟨e9,vs3,V3,e1,he9,e2,e3,g3,d3⟩ := hrr
   subst e1 e2 e3
   rw [upd_upd2,rl_su (hns2 c)] at d3
   conv => cbv
   refine Br.no (show ¬ ¬ (e8 = e9) from fun q => q (he8.trans he9.symm)) ?_
   conv => cbv
   refine Need.mk (show 0 ≤ i ∧ i < mc by omega) ?_
   conv => cbv
   refine Cell.at i _ hcellC (by simp [I.val]) rfl ?_
   conv => cbv
   refine Need.mk (show 0 ≤ i ∧ i < mc by omega) ?_
   conv => cbv
   refine Cell.at i _ hcellS (by simp [I.val]) rfl ?_
   conv => cbv
   refine Need.mk (show 0 ≤ i ∧ i < mc by omega) ?_
   conv => cbv
   refine Cell.at i _ hcellC (by simp [I.val]) rfl ?_
   conv => cbv
   refine Need.mk (show 0 ≤ i ∧ i < mc by omega) ?_
   conv => cbv
   refine Cell.at i _ hcellS (by simp [I.val]) rfl ?_
   conv => cbv
   have hMx : relink (upd J x (3,[g,c,vi,(-1),ti,(-1),(-1)])) q1 x = some (3,[g,c,vi,(-1),ti,(-1),(-1)]) := by rw [relink_get (upd_same _ _ _),lnk_sudog,nxtQ_not (hns c)]
   have hMx2 : relink (upd J2 x (3,[g,c,vi,(-1),ti,(-1),(-1)])) q1 x = some (3,[g,c,vi,(-1),ti,(-1),(-1)]) := by rw [relink_get (upd_same _ _ _),lnk_sudog,nxtQ_not (hns2 c)]
   obtain ⟨Gp,hGp⟩ := rl_chan (q := q1) (M := upd J x (3,[g,c,vi,(-1),ti,(-1),(-1)])) (a := c) ⟨Fc,by rw [upd_ne hxc.symm]; exact hJc⟩
   obtain ⟨y0,y1,y2,y3,y4,y5,y6,y7,y8,rfl⟩ := hch9 hYa c Gp hGp
   obtain ⟨Gq,hGq⟩ := rl_chan (q := q1) (M := upd J2 x (3,[g,c,vi,(-1),ti,(-1),(-1)])) (a := c) ⟨Fc2,by rw [upd_ne hxc.symm]; exact hJ2c⟩
   obtain ⟨u0,u1,u2,u3,u4,u5,u6,u7,u8,rfl⟩ := hch9 hYb c Gq hGq
   refine cfr (listPush1_lx R2 ws3 C [] N W ph sp cy L2 D3 Q z ov h3 _ c3 q1 hYa o ho S2.ph (hch9 hYa) (hsu7 hYa) c x y0 y1 y2 y3 y4 y5 y6 y7 y8 g vi (-1) ti (-1) (-1) hGp hMx (hns c)) iZ5 (fun r h' n' hrr => ?_)
   obtain ⟨e10,ws4,D4,e1,he10,e2,e3,h4,c4⟩ := hrr
   subst e1 e2 e3
   rw [relink_relink] at c4
   conv => cbv
   refine cfr (rPush1_lx R2 vs3 C [] N W ph sp cy P2 B2 V3 Qr la m ov g3 _ d3 q1 hYb S2.ph c x u0 u1 u2 u3 u4 u5 u6 u7 u8 g vi (-1) ti (-1) (-1) hGq hMx2 (hns2 c)) iZ4 (fun r h' n' hrr => ?_)
   obtain ⟨e11,vs4,V4,e1,he11,e2,e3,g4,d4⟩ := hrr
   subst e1 e2 e3
   rw [relink_relink] at d4
   have hYp := (hYa.push (d := true) hGp hMx (hns c)).1
   have hYq := (hYb.push (d := true) hGq hMx2 (hns2 c)).1
   rw [relink_relink] at hYp hYq
   conv => cbv
   refine Br.no (show ¬ ¬ (e10 = e11) from fun q => q (he10.trans he11.symm)) ?_
   conv => cbv
   have hxg : g ≠ x := fun e => by rw [← e,hJg1] at hJx; cases hJx
   have hLl : LS.length = dn.length := by rw [hLS,ipv_length]
   have hi3 : i < 3 := by simp at hpl2; omega
   refine Room.new rfl ?_
   conv => cbv
   refine Room.new ⟨?_,?_,?_⟩ ?_
   ·show (LS.length : Int) = i * 1; omega
   ·show (i + 1) * 8 ≤ 140737488355328; omega
   ·show i + 1 ≤ 9223372036854775807; omega
   conv => cbv
   refine Upd.mk fun LS2 hLS2 => ?_
   have hLS2 : LS2 = LS ++ [.int .i64 (.sym x)] := hLS2
   have hLS3 : LS2 = ipv (dn ++ [x]) := by rw [hLS2,hLS,← ipv_app]; rfl
   conv => cbv
   refine Sum.mk fun j2 hj2 => ?_
   have hj2 : j2 = i + 1 := hj2
   conv => cbv
   refine fO (i + 1) fun j3 hj3 => ?_
   obtain rfl : j2 = j3 := hj2.trans (show j3 = i + 1 from hj3).symm
   conv => cbv
   have hxdn : x ∉ dn := fun k => by
    obtain ⟨_,_,⟨_,_,_,_,_,_,_,e⟩,_⟩ := hdn x k
    rw [hJx] at e
    cases e
   refine Again.mk rest.length _ (by rw [hkk]; exact Nat.lt_succ_self _) (Re.at [(0,0),(1,1),(2,2),(3,3),(4,4),(5,5),(6,6),(7,7),(8,8),(9,9),(10,10),(11,11),(12,12),(13,13),(14,14),(15,15),(16,16),(17,17),(18,18),(23,20)] []) ⟨j2,R2,ws4,vs4,L2,D4,P2,B2,V4,upd J x (3,[g,c,vi,(-1),ti,(-1),(-1)]),upd J2 x (3,[g,c,vi,(-1),ti,(-1),(-1)]),updQ q1 c true (q1 c true ++ [x]),dn ++ [x],rest,LS2,rfl,hLS3,by rw [List.length_append]; show j2 = ((dn.length + 1 : Nat) : Int); omega,rfl,by simp at hpl2 ⊢; omega,fun j => by
     have := hrest (j + 1)
     rw [List.getElem?_cons_succ] at this
     rw [this,List.length_append]
     congr 1
     simp; omega,fun xs => by
     have := hS1 (x :: xs)
     rw [List.append_assoc,List.singleton_append,this,hvi,hti,hj2]; rfl,fun xs => by
     have := hS2 (x :: xs)
     rw [List.append_assoc,List.singleton_append,this,hvi,hti,hj2]; rfl,fun xs => by
     have := hQ1 (x :: xs)
     rw [List.append_assoc,List.singleton_append,this]; rfl,⟨h4,g4,c4,d4,S2.ph,S2.w⟩,hYp,hYq,List.nodup_append.2 ⟨hnd,by simp,fun a ha b hb => by simp at hb; subst hb; exact fun e => hxdn (e ▸ ha)⟩,fun y hy => by
     rcases List.mem_append.1 hy with k | k
     ·obtain ⟨k1,k2,k3,k4⟩ := hdn y k
      exact ⟨k1,k2,suUpd k3,suUpd k4⟩
     ·rw [List.mem_singleton.1 k]
      exact ⟨hJn x hJx,hJ2n x hJ2x,⟨_,_,_,_,_,_,_,upd_same _ _ _⟩,⟨_,_,_,_,_,_,_,upd_same _ _ _⟩⟩,by rw [upd_ne hxg]; exact hJg,by rw [upd_ne hxg]; exact hJ2g,fun p hp => ⟨chUpd hJx (hch p (List.mem_cons_of_mem _ hp)).1,chUpd hJ2x (hch p (List.mem_cons_of_mem _ hp)).2⟩,fun a ha => noneUpd hJn ha,fun a ha => noneUpd hJ2n ha,by rw [hk2,hcnt,List.length_append]; simp; omega,hl2.trans hRl⟩
theorem takeSent_lx (R : List Rw) (ws C G : List Int) (N W ph sp cy : Int) (L D Q : List PV) (z : ByteArray) (ov : Bool) (h : HM R ws C G N W L D Q z) (M : Hp) (hM : Cont R ws M) (o : Unit → Obj) (s g c wv n p r_ m_ : Int) (hMs : M s = some (3,[g,c,wv,n,p,r_,m_])) : CallF (fun _ => Tryz.prog) 90 [.ptr 0 (.lit 0),i6 s] (hS W ph sp cy N L D z ov Q o) 8 (fun r h n => r = .p (.int .i64 (.sym wv)) ∧ h = (hS W ph sp cy N L D z ov Q o) ∧ n = 8) := by
 refine callF_of_body tok Tryz.func90 (by kernel_rfl) rfl rfl rfl ?_; conv => cbv
 refine cfr (sudogM_lx R ws C G N W ph sp cy L D Q z ov h M hM s g c wv n p r_ m_ hMs) iM7 (fun r h' n' hrr => ?_)
 obtain ⟨⟨e0,e1,he0⟩,e2,e3⟩ := hrr
 subst e1 e2 e3
 conv => cbv
 refine RetF.mk [i6 wv] (hS W ph sp cy N L D z ov Q o) 8 (Re.at [(0,0),(1,1),(2,2),(3,3),(4,4),(5,5),(6,6),(7,7)] []) rfl ⟨rfl,rfl,rfl⟩
theorem takeWoken_lx (R : List Rw) (ws C G : List Int) (N W ph sp cy : Int) (L D Q : List PV) (z : ByteArray) (ov : Bool) (h : HM R ws C G N W L D Q z) (M : Hp) (hM : Cont R ws M) (q : Qs) (hY : Sys M q) (o : Unit → Obj) (ho : IsPow o) (hph : ph = 0) (s : Int) (g c wv n p r_ m_ x0 x1 x2 x3 x4 x5 x6 x7 x8 x9 : Int) (l : List Int) (hMs : M s = some (3,[g,c,wv,n,p,r_,m_])) (hMg : M g = some (4,[x0,x1,x2,x3,x4,x5,x6,x7,x8,x9])) (hl : Mor M x9 l) (hnd : l.Nodup) : CallF (fun _ => Tryz.prog) 91 [.ptr 0 (.lit 0),i6 s] (hS W ph sp cy N L D z ov Q o) 8 (fun r h n => ∃ (ws' : List Int) (D' : List PV),r = .p (.int .i64 (.sym g)) ∧ h = (hS W ph sp cy N L D' z ov Q o) ∧ n = 8 ∧ HM R ws' C G N W L D' Q z ∧ Cont R ws' (upd (relink M (rmQ q l)) g (4,[x0,0,p] ++ setR r_ 0 [x3,x4,x5,x6,x7,x8] ++ [-1]))) := by
 refine callF_of_body tok Tryz.func91 (by kernel_rfl) rfl rfl rfl ?_; conv => cbv
 refine clE (args0 := [i6 0]) (callF_frame (intV_lx 0 (by unfold b62; omega)) [] rfl trivial rfl rfl (fun r h' n' hrr => ?_))
 obtain ⟨⟨x0_,e1,hx0_⟩,e2,e3⟩ := hrr
 subst e1 e2 e3
 conv => cbv
 refine cfr (wake_lx R ws C G N W ph sp cy L D Q z ov h M hM q hY o ho hph s x0_ (by omega) g c wv n p r_ m_ x0 x1 x2 x3 x4 x5 x6 x7 x8 x9 l hMs hMg hl hnd) iM8 (fun r h' n' hrr => ?_)
 obtain ⟨e,he,ws1,D1,e1,e2,e3,h1,c1⟩ := hrr
 subst e1 e2 e3
 conv => cbv
 refine Br.no (show ¬ ¬ (e = 0) from fun q => q he) ?_
 conv => cbv
 rw [show x0_ = 0 by omega] at c1
 refine RetF.mk [i6 g] (hS W ph sp cy N L D1 z ov Q o) 8 (Re.at [(0,0),(1,1),(2,2),(3,3),(4,4),(5,5),(6,6),(7,7)] []) rfl ⟨ws1,D1,rfl,rfl,rfl,h1,c1⟩
theorem takeWakes_lx (R : List Rw) (ws C G : List Int) (N W ph sp cy : Int) (L D Q : List PV) (z : ByteArray) (ov : Bool) (h : HM R ws C G N W L D Q z) (M : Hp) (hM : Cont R ws M) (q : Qs) (hY : Sys M q) (o : Unit → Obj) (ho : IsPow o) (hph : ph = 0) (w : Int) (hw : (-9223372036854775808 ≤ w ∧ w ≤ 9223372036854775807)) (h0 : w ≠ 0) (a y0 y1 y2 y3 y4 y5 y6 y7 y8 : Int) (ha : atW w = a) (hMa : M a = some (1,[y0,y1,y2,y3,y4,y5,y6,y7,y8])) (s : Int) (g wv n p r_ m_ x0 x1 x2 x3 x4 x5 x6 x7 x8 x9 : Int) (l : List Int) (hMs : M s = some (3,[g,a,wv,n,p,r_,m_])) (hMg : M g = some (4,[x0,x1,x2,x3,x4,x5,x6,x7,x8,x9])) (hl : Mor M x9 l) (hnd : l.Nodup) (hsl : s ∈ l) (Bq : List Int) (hq : q a true = s :: Bq) (hcp : y0 ≤ 0 ∨ y2 ≤ 0) : CallF (fun _ => Tryz.prog) 38 [.ptr 0 (.lit 0),i6 w] (hS W ph sp cy N L D z ov Q o) 8 (fun r h n => ∃ (ws' : List Int) (D' : List PV),r = .tup [i6 wv,i6 g,i6 1] ∧ h = (hS W ph sp cy N L D' z ov Q o) ∧ n = 8 ∧ HM R ws' C G N W L D' Q z ∧ Cont R ws' (upd (relink M (rmQ q l)) g (4,[x0,0,p] ++ setR r_ 0 [x3,x4,x5,x6,x7,x8] ++ [-1]))) := by
 refine callF_of_body tok Tryz.func38 (by kernel_rfl) rfl rfl rfl ?_; conv => cbv
 refine cfr (see_is_lx R ws C G N W ph sp cy L D Q z ov h M hM w a y0 y1 y2 y3 y4 y5 y6 y7 y8 hw h0 ha hMa) iM7 (fun r h' n' ⟨e1,e2,e3⟩ => ?_)
 subst e1 e2 e3
 conv => cbv
 refine cfr (ringTakeZ_lx R ws C G N W ph sp cy L D Q z ov h M hM o ho hph a y0 y1 y2 y3 y4 y5 y6 y7 y8 hMa hcp) iM8 (fun r h' n' hrr => ?_)
 obtain ⟨v,e,e1,he,e2,e3⟩ := hrr
 subst e1 e2 e3
 conv => cbv
 refine Br.no (show ¬ e = 0 by omega) ?_
 conv => cbv
 refine cfr (listPop1_lx R ws C G N W ph sp cy L D Q z ov h M hM q hY o ho hph (hch9 hY) (hsu7 hY) a s y0 y1 y2 y3 y4 y5 y6 y7 y8 g wv n p r_ m_ Bq hq hMa hMs) iM8 (fun r h' n' hrr => ?_)
 obtain ⟨ws1,D1,e1,e2,e3,h1,c1⟩ := hrr
 subst e1 e2 e3
 conv => cbv
 obtain ⟨n1,hMs1⟩ := relink_su (q := updQ q a true Bq) hMs
 have hMg1 := relink_other (q := updQ q a true Bq) hMg ⟨by decide,by decide⟩
 have hl1 := morRel (q := updQ q a true Bq) hl
 refine cfr (takeSent_lx R ws1 C G N W ph sp cy L D1 Q z ov h1 _ c1 o s g a wv n1 p r_ m_ hMs1) iM8 (fun r h' n' ⟨e1,e2,e3⟩ => ?_)
 subst e1 e2 e3
 conv => cbv
 refine cfr (takeWoken_lx R ws1 C G N W ph sp cy L D1 Q z ov h1 _ c1 _ (sysPop hY hq) o ho hph s g a wv n1 p r_ m_ x0 x1 x2 x3 x4 x5 x6 x7 x8 x9 l hMs1 hMg1 hl1 hnd) iM8 (fun r h' n' hrr => ?_)
 obtain ⟨ws2,D2,e1,e2,e3,h2,c2⟩ := hrr
 subst e1 e2 e3
 conv => cbv
 rw [relink_relink,pop_rm hq hsl] at c2
 refine RetF.mk [i6 wv,i6 g,i6 1] (hS W ph sp cy N L D2 z ov Q o) 8 (Re.at [(0,0),(1,1),(2,2),(3,3),(4,4),(5,5),(6,6),(7,7)] []) rfl ⟨ws2,D2,rfl,rfl,rfl,h2,c2⟩
end Go.Proofs.YtjgbhpclmlcbbaaGreatDoor
