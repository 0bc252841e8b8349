/-
  Layer 21: both stores alike.
-/
import Derived.Test.YtcbombkaacjngaaGreatDoorV14
namespace Go.Proofs.YtcbombkaacjngaaGreatDoor
open Go Go.LX
set_option maxRecDepth 100000
set_option linter.unusedVariables false
set_option linter.unusedSimpArgs false
set_option maxHeartbeats 32000000
theorem plainE21 (A : List Int) (m : Int) (la lb : List PV) (hm : m = A.length) (ha : la = ipv A) (hb : lb = ipv A) (hA : (A.length : Int) < 1000000) :
  CallF (fun _ => Tryz.prog) 23 [.p (.vsl (.sym m) true la),.p (.vsl (.sym m) true lb)] [] 0 (fun r h n => r = .p (.bool true) ∧ h = [] ∧ n = 0) :=
 (plaini64_lx A A m m la lb hm hm (by rw [ha]; exact preI_ints A) (by rw [hb]; exact preI_ints A) hA).mono fun r h n ⟨⟨b,e1,h1⟩,e2,e3⟩ => ⟨by rw [e1,h1.2 rfl],e2,e3⟩
theorem alike21_lx (R : List Rw) (ws vs C G : List Int) (N W ph sp cy : Int) (L D Q : List PV) (z : ByteArray) (ov : Bool) (P B V Qr la : List PV) (m : Int) (h : HM R ws C G N W L D Q z) (hr : RM R vs C G N W P B V Qr la m) (hS : Sim R ws vs) (st as_ : Int) : CallF (fun _ => Tryz.prog) 24 [.ptr 0 (.lit 0),.ptr 8 (.lit 0)] [(0,.mix [.ptr 1 (.lit 0),i6 st,i6 as_]),hpA 1 2 6 7 3 W ph sp cy,hpB 2 3 5 3 W,hpC 3 4 270 2 N,hpP 4 L,hpP 5 D,hpF 6 z ov,hpP 7 Q,(8,.mix [.ptr 9 (.lit 0),i6 N,i6 st,i6 as_]),hpR 9 10 15 3 W 16 ph sp cy,hpB 10 11 14 3 W,hpD 11 12 3 1 N 13 203 8 N,hpP 12 P,hpP 13 B,hpP 14 V,hpP 15 Qr,(16,.mix [.p (.vsl (.sym m) true la),.p (.bool ov)])] 17 (fun r h n => r = .p (.bool true) ∧ h = [(0,.mix [.ptr 1 (.lit 0),i6 st,i6 as_]),hpA 1 2 6 7 3 W ph sp cy,hpB 2 3 5 3 W,hpC 3 4 270 2 N,hpP 4 L,hpP 5 D,hpF 6 z ov,hpP 7 Q,(8,.mix [.ptr 9 (.lit 0),i6 N,i6 st,i6 as_]),hpR 9 10 15 3 W 16 ph sp cy,hpB 10 11 14 3 W,hpD 11 12 3 1 N 13 203 8 N,hpP 12 P,hpP 13 B,hpP 14 V,hpP 15 Qr,(16,.mix [.p (.vsl (.sym m) true la),.p (.bool ov)])] ∧ n = 17) := by
 have hCl := h.c; have hWn := h.w; have hNr := h.n; have hRr := h.r
 have hQl : Qr.length = C.length := by rw [hr.q,ipv_length]
 obtain ⟨mo,hmo⟩ : ∃ m : Int,m = objCount R := ⟨_,rfl⟩
 refine callF_of_body tok Tryz.func24 (by kernel_rfl) rfl rfl rfl ?_; conv => cbv
 refine cfr (heapS_lx R ws C G N W ph sp cy L D Q z ov st as_) [(0,0),(1,1),(2,2),(3,3),(4,4),(5,5),(6,6),(7,7)] (fun r h' n' ⟨e1,e2,e3⟩ => ?_)
 subst e1 e2 e3
 conv => cbv
 refine cfr (robjects_lx mo R vs N W P B V hr.p hr.b hr.v hr.n hr.r hr.a hr.w hmo) [(0,10),(1,11),(2,12),(3,13),(4,14)] (fun r h' n' hrr => ?_)
 obtain ⟨O,e1,e2,e3,hO⟩ := hrr
 subst e1 e2 e3
 have hOl : (O.length : Int) = mo := by rw [hO,ipv_length,objs_length h.a.rows,hmo]
 have hO : O = ipv (objs R) := hO
 have hol : ((objs R).length : Int) = mo := by rw [← hOl,hO,ipv_length]
 have hob : mo ≤ 8000 := by have := objsTo_le R R.length; rw [objs_length h.a.rows] at this; omega
 conv => cbv
 refine drawn_sound tok (by kernel_rfl) [(4,[]),(9,[11]),(10,[11]),(12,[]),(17,[24,23,22,21,20,19,18]),(29,[36,35,34,33,32,31,30])] [0,1,2,3,4,5,6,7,8,11,9,10,12,13,14,15,16,18,19,20,21,22,23,24,17,25,26,27,28,30,31,32,33,34,35,36,29,37,38] (drawnOKF_ok (by kernel_rfl)) ?_; conv => cbv
 conv => cbv
 refine cfr (arena_lx R ws C G N W ph sp cy L D Q z ov) [(0,1),(1,2),(2,3),(3,4),(4,5),(5,6),(6,7)] (fun r h' n' ⟨e1,e2,e3⟩ => ?_)
 subst e1 e2 e3
 conv => cbv
 refine cfr (arena_lx R ws C G N W ph sp cy L D Q z ov) [(0,1),(1,2),(2,3),(3,4),(4,5),(5,6),(6,7)] (fun r h' n' ⟨e1,e2,e3⟩ => ?_)
 subst e1 e2 e3
 conv => cbv
 refine cfr (objects_lx mo R N W L D h.l h.n h.r h.a.rows h.w hmo) [(0,2),(1,3),(2,4),(3,5)] (fun r h' n' hrr => ?_)
 obtain ⟨O2,e1,e2,e3,hO2⟩ := hrr
 subst e1 e2 e3
 have hO2 : O2 = ipv (objs R) := hO2
 conv => cbv
 refine callF_lend (plainE21 (objs R) mo O2 O hol.symm hO2 hO (by omega)) (by simp [lends,lendV,hget,I.val,pvle]) (fun r h' n' ⟨e1,e2,e3⟩ => by subst e1 e2; exact ⟨trivial,trivial⟩) (fun r h' n' ⟨e1,e2,e3⟩ => ?_)
 subst e1 e2 e3
 conv => cbv
 refine cfr (phase_lx R ws C G N W ph sp cy L D Q z ov) [(0,1),(1,2),(2,3),(3,4),(4,5),(5,6),(6,7)] (fun r h' n' ⟨e1,e2,e3⟩ => ?_)
 subst e1 e2 e3
 conv => cbv
 refine Br.no (show ¬ (ph ≠ ph) from fun k => k rfl) ?_
 conv => cbv
 refine cfr (cyclesH_lx R ws C G N W ph sp cy L D Q z ov) [(0,1),(1,2),(2,3),(3,4),(4,5),(5,6),(6,7)] (fun r h' n' ⟨e1,e2,e3⟩ => ?_)
 subst e1 e2 e3
 conv => cbv
 refine Br.no (show ¬ (cy ≠ cy) from fun k => k rfl) ?_
 conv => cbv
 refine LoopF.mk (fun kk s => ∃ i : Int,s = ⟨.ptr 0 (.lit 0) :: .ptr 8 (.lit 0) :: (undefs 3 ++ .ptr 1 (.lit 0) :: .sl 17 3 1 (.lit 0) (.sym mo) :: .p (.int .i64 (.sym i)) :: undefs 147),[(0,.mix [.ptr 1 (.lit 0),i6 st,i6 as_]),hpA 1 2 6 7 3 W ph sp cy,hpB 2 3 5 3 W,hpC 3 4 270 2 N,hpP 4 L,hpP 5 D,hpF 6 z ov,hpP 7 Q,(8,.mix [.ptr 9 (.lit 0),i6 N,i6 st,i6 as_]),hpR 9 10 15 3 W 16 ph sp cy,hpB 10 11 14 3 W,hpD 11 12 3 1 N 13 203 8 N,hpP 12 P,hpP 13 B,hpP 14 V,hpP 15 Qr,(16,.mix [.p (.vsl (.sym m) true la),.p (.bool ov)]),hpP 17 O],18⟩ ∧ 0 ≤ i ∧ i ≤ mo ∧ kk = (mo - i).toNat) mo.toNat _
  (Re.at [(0,0),(1,1),(2,2),(3,3),(4,4),(5,5),(6,6),(7,7),(8,8),(9,9),(10,10),(11,11),(12,12),(13,13),(14,14),(15,15),(16,16),(17,17)] []) ⟨0,rfl,by omega,by omega,by omega⟩ ?_
 rintro kk s ⟨i,rfl,hi0,hi1,hkk⟩
 conv => cbv
 refine Br.mk (fun gi => ?_) (fun gi => ?_)
 ·have gi : i < mo := gi
  obtain ⟨k',rfl⟩ : ∃ k',kk = k' + 1 := ⟨kk - 1,by omega⟩
  obtain ⟨a,ha⟩ : ∃ a,(objs R)[i.toNat]? = some a := ⟨_,List.getElem?_eq_getElem (by omega)⟩
  have hc : O[i.toNat]? = some (.int .i64 (.sym a)) := by rw [hO]; exact ipv_get ha
  have hao := List.mem_of_getElem? ha
  have hab := obj_bd h.a hao
  obtain ⟨x,hx⟩ : ∃ x,C[a.toNat]? = some x := ⟨_,List.getElem?_eq_getElem (by omega)⟩
  have hq : Qr[a.toNat]? = some (.int .i64 (.sym x)) := by rw [hr.q]; exact ipv_get hx
  obtain ⟨k0,l0,hK⟩ := Kept.of hr.a ((obj_iff hr.a a).1 hao)
  have hll := hK.bounds hr.a
  conv => cbv
  refine drawn_sound tok (by kernel_rfl) [(5,[18,17,16,15,14,13,12,11,10,9,8,7,6]),(22,[38,37,36,35,34,33,32,31,30,29,28,26,25,24,23]),(27,[38,37,36,35,34,33,32,31,30,29,28]),(39,[])] [0,1,2,3,4,6,7,8,9,10,11,12,13,14,15,16,17,18,5,19,20,21,23,24,25,26,28,29,30,31,32,33,34,35,36,37,38,22,27,39,40,41] (drawnOKF_ok (by kernel_rfl)) ?_; conv => cbv
  conv => cbv
  refine Need.mk ⟨hi0,gi⟩ ?_
  conv => cbv
  refine Cell.at i _ hc (by simp [I.val]) rfl ?_
  conv => cbv
  refine Need.mk ⟨hi0,gi⟩ ?_
  conv => cbv
  refine Cell.at i _ hc (by simp [I.val]) rfl ?_
  conv => cbv
  refine Need.mk ⟨by show 0 ≤ a; omega,by show a < W; omega⟩ ?_
  conv => cbv
  refine Cell.at a _ hq (by simp [I.val]) rfl ?_
  conv => cbv
  refine cfr (colour_lx R ws C G N W ph sp cy L D Q z ov h a) [(0,1),(1,2),(2,3),(3,4),(4,5),(5,6),(6,7)] (fun r h' n' hrr => ?_)
  obtain ⟨c1,e1,e2,e3,hc1,_⟩ := hrr
  subst e1 e2 e3
  have hcx : c1 = x := Option.some.inj ((hc1 hao).symm.trans hx)
  conv => cbv
  refine Br.no (show ¬ (c1 ≠ x) from fun k => k hcx) ?_
  conv => cbv
  refine Need.mk ⟨hi0,gi⟩ ?_
  conv => cbv
  refine Cell.at i _ hc (by simp [I.val]) rfl ?_
  conv => cbv
  refine Need.mk ⟨hi0,gi⟩ ?_
  conv => cbv
  refine Cell.at i _ hc (by simp [I.val]) rfl ?_
  conv => cbv
  refine cfr (arena_lx R ws C G N W ph sp cy L D Q z ov) [(0,1),(1,2),(2,3),(3,4),(4,5),(5,6),(6,7)] (fun r h' n' ⟨e1,e2,e3⟩ => ?_)
  subst e1 e2 e3
  conv => cbv
  refine cfr (kind_lx R ws N a W L D h.l h.d h.n h.r h.a h.w) [(0,2),(1,3),(2,4),(3,5)] (fun r h' n' hrr => ?_)
  obtain ⟨x4,e1,e2,e3,hx1⟩ := hrr
  subst e1 e2 e3
  conv => cbv
  refine cfr (rkind_lx R vs N a W P B V hr.p hr.b hr.v hr.n hr.r hr.a hr.w) [(0,10),(1,11),(2,12),(3,13),(4,14)] (fun r h' n' hrr => ?_)
  obtain ⟨x5,e1,e2,e3,hx2⟩ := hrr
  subst e1 e2 e3
  have hkk9 := hS.kind hx1 hx2
  conv => cbv
  refine Br.no (show ¬ (x4 ≠ x5) from fun k => k hkk9) ?_
  conv => cbv
  clear hx1 hx2
  refine LoopF.mk (fun kq s => ∃ q : Int,s = ⟨.ptr 0 (.lit 0) :: .ptr 8 (.lit 0) :: (undefs 3 ++ .ptr 1 (.lit 0) :: .sl 17 3 1 (.lit 0) (.sym mo) :: .p (.int .i64 (.sym i)) :: .p (.int .i64 (.sym q)) :: undefs 146),[(0,.mix [.ptr 1 (.lit 0),i6 st,i6 as_]),hpA 1 2 6 7 3 W ph sp cy,hpB 2 3 5 3 W,hpC 3 4 270 2 N,hpP 4 L,hpP 5 D,hpF 6 z ov,hpP 7 Q,(8,.mix [.ptr 9 (.lit 0),i6 N,i6 st,i6 as_]),hpR 9 10 15 3 W 16 ph sp cy,hpB 10 11 14 3 W,hpD 11 12 3 1 N 13 203 8 N,hpP 12 P,hpP 13 B,hpP 14 V,hpP 15 Qr,(16,.mix [.p (.vsl (.sym m) true la),.p (.bool ov)]),hpP 17 O],18⟩ ∧ 0 ≤ q ∧ q ≤ 32 ∧ kq = (32 - q).toNat) 32 _
   (Re.at [(0,0),(1,1),(2,2),(3,3),(4,4),(5,5),(6,6),(7,7),(8,8),(9,9),(10,10),(11,11),(12,12),(13,13),(14,14),(15,15),(16,16),(17,17)] []) ⟨0,rfl,by omega,by omega,by omega⟩ ?_
  rintro kq s ⟨q,rfl,hq0,hq1,hkq⟩
  conv => cbv
  refine drawn_sound tok (by kernel_rfl) [(12,[0])] [0,1,2,3,4,5,6,7,8,9,10,11,12,13] (by kernel_rfl) ?_; conv => cbv
  conv => cbv
  refine Need.mk ⟨hi0,gi⟩ ?_
  conv => cbv
  refine Cell.at i _ hc (by simp [I.val]) rfl ?_
  conv => cbv
  refine cfr (rlen_lx R vs N a W P B V hr.p hr.b hr.v hr.n hr.r hr.a hr.w) [(0,10),(1,11),(2,12),(3,13),(4,14)] (fun r h' n' hrr => ?_)
  obtain ⟨y,e1,e2,e3,hy⟩ := hrr
  subst e1 e2 e3
  have hyl : y = l0 := lenR_of6 hK hy
  conv => cbv
  refine Br.mk (fun gq => ?_) (fun gq => ?_)
  ·have gq : q < y := gq
   obtain ⟨kq',rfl⟩ : ∃ k',kq = k' + 1 := ⟨kq - 1,by omega⟩
   conv => cbv
   refine Need.mk ⟨hi0,gi⟩ ?_
   conv => cbv
   refine Cell.at i _ hc (by simp [I.val]) rfl ?_
   conv => cbv
   refine cfr (load9_lx R ws C G N W ph sp cy L D Q z ov h a q) [(0,1),(1,2),(2,3),(3,4),(4,5),(5,6),(6,7)] (fun r h' n' hrr => ?_)
   obtain ⟨x8,f8,e1,e2,e3,hx8⟩ := hrr
   subst e1 e2 e3
   conv => cbv
   refine drawn_sound tok (by kernel_rfl) [(12,[])] [0,1,2,3,4,5,6,7,8,9,10,11,12,13,14,15,16,17] (by kernel_rfl) ?_; conv => cbv
   conv => cbv
   refine Need.mk ⟨hi0,gi⟩ ?_
   conv => cbv
   refine Cell.at i _ hc (by simp [I.val]) rfl ?_
   conv => cbv
   refine cfr (rload_lx q R vs N a W P B V hr.p hr.b hr.v hr.n hr.r hr.a hr.w) [(0,10),(1,11),(2,12),(3,13),(4,14)] (fun r h' n' hrr => ?_)
   obtain ⟨x9,f9,e1,e2,e3,hx9⟩ := hrr
   subst e1 e2 e3
   have hxx := (hS.load hx8 hx9).1
   conv => cbv
   refine Br.no (show ¬ (x8 ≠ x9) from fun k => k hxx) ?_
   conv => cbv
   refine Fit.mk (by show (-9223372036854775808 : Int) ≤ q + 1; omega) (by show q + 1 ≤ 9223372036854775807; omega) fun q2 hq2 => ?_
   have hq2 : q2 = q + 1 := hq2
   conv => cbv
   refine Again.mk kq' _ (Nat.lt_succ_self _) (Re.at [(0,0),(1,1),(2,2),(3,3),(4,4),(5,5),(6,6),(7,7),(8,8),(9,9),(10,10),(11,11),(12,12),(13,13),(14,14),(15,15),(16,16),(17,17)] []) ⟨q2,rfl,by omega,by omega,by omega⟩
  ·have gq : ¬ q < y := gq
   conv => cbv
   refine Fit.mk (by show (-9223372036854775808 : Int) ≤ i + 1; omega) (by show i + 1 ≤ 9223372036854775807; omega) fun i2 hi2 => ?_
   have hi2 : i2 = i + 1 := hi2
   conv => cbv
   refine Again.mk k' _ (Nat.lt_succ_self _) (Re.at [(0,0),(1,1),(2,2),(3,3),(4,4),(5,5),(6,6),(7,7),(8,8),(9,9),(10,10),(11,11),(12,12),(13,13),(14,14),(15,15),(16,16),(17,17)] []) ⟨i2,rfl,by omega,by omega,by omega⟩
 ·have gi : ¬ i < mo := gi
  conv => cbv
  refine RetF.mk [.p (.bool true)] [(0,.mix [.ptr 1 (.lit 0),i6 st,i6 as_]),hpA 1 2 6 7 3 W ph sp cy,hpB 2 3 5 3 W,hpC 3 4 270 2 N,hpP 4 L,hpP 5 D,hpF 6 z ov,hpP 7 Q,(8,.mix [.ptr 9 (.lit 0),i6 N,i6 st,i6 as_]),hpR 9 10 15 3 W 16 ph sp cy,hpB 10 11 14 3 W,hpD 11 12 3 1 N 13 203 8 N,hpP 12 P,hpP 13 B,hpP 14 V,hpP 15 Qr,(16,.mix [.p (.vsl (.sym m) true la),.p (.bool ov)])] 17 (Re.at [(0,0),(1,1),(2,2),(3,3),(4,4),(5,5),(6,6),(7,7),(8,8),(9,9),(10,10),(11,11),(12,12),(13,13),(14,14),(15,15),(16,16)] []) rfl ⟨rfl,rfl,rfl⟩
end Go.Proofs.YtcbombkaacjngaaGreatDoor
