/-
  Layer 21: StoreKeeps: the law.
-/
import Derived.Test.YtpbhcdbkmmjimaaGreatDoorV2
namespace Go.Proofs.YtpbhcdbkmmjimaaGreatDoor
open Go Go.LX
set_option maxRecDepth 100000
set_option linter.unusedVariables false
set_option linter.unusedSimpArgs false
set_option maxHeartbeats 32000000
theorem tmod_bd (a : Int) : -1000 < a.tmod 1000 ∧ a.tmod 1000 < 1000 := by
 have h : (a.tmod 1000).natAbs = a.natAbs % 1000 := Int.natAbs_tmod a 1000
 omega
theorem sz_buf {m : Int} {X : List Int} (h : Sz [(2,m)] X) : X = [m] := by
 obtain ⟨h1,h2⟩ := h
 match X,h1 with
 | [a],_ =>
  obtain ⟨v,e,q⟩ := h2 0 _ rfl
  cases e
  rcases q with ⟨_,⟨_,_,q,_⟩ | ⟨_,_,q⟩⟩ | ⟨q,_⟩
  ·rw [show a = m from q]
  ·cases q
  ·exact absurd rfl q
theorem vOf_at (z : List Int) (i : Int) {j : Nat} (hj : j < 10) : (vOf z i)[j]? = some (if (j : Int) < i then (match z[j]? with | some w => w.tmod 1000 * 2 | none => 0) else 0) := by
 rw [vOf,List.getElem?_map,List.getElem?_range hj]; rfl
theorem sz_gor1 {X : List Int} (h : Sz [(4,0)] X) : X = [10] := by
 obtain ⟨h1,h2⟩ := h
 match X,h1 with
 | [a],_ =>
  obtain ⟨v,e,q⟩ := h2 0 _ rfl
  cases e
  rcases q with ⟨q,_⟩ | ⟨_,q,_⟩
  ·exact absurd q (by decide)
  ·rw [show a = 10 from q]
theorem storeKeeps_law (o : Unit → Obj) (ho : IsPow o) (a0 b0 d0 a2 kz : Int) (z : List Int) (cz : List PV) (hcz : cz = ipv z) (hkz : kz = z.length) (hkb : kz ≤ 9223372036854775807) : CallF (fun _ => Tryz.prog) 9 [.agg [i6 a0,i6 b0,i6 d0],.p (.vsl (.sym kz) true cz),i6 a2] [(0,.fix 0 o)] 1 (fun r _ _ => r = .p (.bool true)) := by
 refine callF_of_bodyB tok Tryz.func9 (by kernel_rfl) rfl rfl rfl [10] ?_; conv => cbv
 refine cfr (config21_lx a0 b0 d0) [] (fun r h' n' hrr => ?_)
 obtain ⟨⟨c0,st,as_,e1,g0,g1,g2,g3,g4,g5⟩,e2,e3⟩ := hrr
 subst e1 e2 e3
 conv => cbv
 refine Sum.mk fun t5 ht5 => ?_
 have ht5 : t5 = c0 % 5 := (show t5 = c0.tmod 5 from ht5).trans (Int.tmod_eq_emod_of_nonneg (by omega))
 conv => cbv
 refine Fit.mk (by show (-9223372036854775808 : Int) ≤ 3 + t5; omega) (by show 3 + t5 ≤ 9223372036854775807; omega) fun N hN => ?_
 have hN : N = 3 + t5 := hN
 have hN3 : 3 ≤ N := by omega
 have hN7 : N ≤ 7 := by omega
 clear hN ht5
 conv => cbv
 refine Fit.wrap fun xn_n hxn => ?_
 have hyn : 0 ≤ xn_n := by rw [show xn_n = IntKind.u64.wrap a2 from hxn]; simp [IntKind.wrap,IntKind.bits,IntKind.signed]; omega
 clear hxn
 conv => cbv
 refine Sum.mk fun tn_n htn => ?_
 have htn : tn_n = xn_n % 120 := (show tn_n = xn_n.tmod 120 from htn).trans (Int.tmod_eq_emod_of_nonneg hyn)
 conv => cbv
 refine Fit.mk (by show (-9223372036854775808 : Int) ≤ tn_n; omega) (by show tn_n ≤ 9223372036854775807; omega) fun un_n hun => ?_
 have hun : un_n = tn_n := hun
 conv => cbv
 have hn0 : 0 ≤ un_n := by omega
 have hn1 : un_n ≤ 119 := by omega
 clear hun htn hyn
 conv => cbv
 have hCO : COk N st as_ := ⟨by omega,by omega,by omega,by omega⟩
 obtain ⟨z0,hz0⟩ : ∃ z0 : ByteArray,z0 = ⟨(enc []).toArray⟩ := ⟨_,rfl⟩
 obtain ⟨W,hW⟩ : ∃ W : Int,W = 32 * N := ⟨_,rfl⟩
 obtain ⟨L0,hL0⟩ : ∃ L0,L0 = rpv (List.replicate N.toNat ((0,[]) : Rw)) := ⟨_,rfl⟩
 obtain ⟨D0,hD0⟩ : ∃ D0,D0 = ipv (List.replicate W.toNat (0 : Int)) := ⟨_,rfl⟩
 have hM0 := HM.new (by omega : 2 ≤ N) (by omega) hW hL0 hD0 hD0 hz0
 obtain ⟨R0,hR0⟩ : ∃ R0,R0 = List.replicate N.toNat ((0,[]) : Rw) := ⟨_,rfl⟩
 obtain ⟨ws0,hws0⟩ : ∃ ws0,ws0 = List.replicate W.toNat (0 : Int) := ⟨_,rfl⟩
 rw [← hR0,← hws0] at hM0
 have hB0 : Bare0 N ⟨R0,ws0,ws0,[],false,0,0,0⟩ := ⟨hM0.good false 0 0 (by omega) (by omega) ⟨by omega,by omega⟩ (by omega),hR0,rfl⟩
 refine cfr (newS_lx N W st as_ hCO (by omega) (by omega) hW L0 D0 D0 z0 hL0 hD0 hD0 hz0) [] (fun r h' n' ⟨e1,e2,e3⟩ => ?_)
 subst e1 e2 e3
 conv => cbv
 refine cfr (awake21_lx o ho) [(0,0)] (fun r h' n' ⟨e1,e2,e3⟩ => ?_)
 subst e1 e2 e3
 conv => cbv
 refine cfr (heapS_lx R0 ws0 ws0 [] N W 0 0 0 L0 D0 D0 z0 false st as_) [(0,2),(1,3),(2,4),(3,5),(4,6),(5,7),(6,8),(7,9)] (fun r h' n' ⟨e1,e2,e3⟩ => ?_)
 subst e1 e2 e3
 conv => cbv
 refine CallF.re (args0 := [.ptr 2 (.lit 0),.p (.vsl (.sym 1) true [.int .i64 (.sym 4),.int .i64 (.sym 0)]),.p (.vsl (.sym 0) true [])]) (h' := [(2,.mix [.ptr 3 (.lit 0),i6 st,i6 as_]),hpA 3 4 8 9 3 W 0 0 0,hpB 4 5 7 3 W,hpC 5 6 137 2 N,hpP 6 L0,hpP 7 D0,hpF 8 z0 false,hpP 9 D0,(0,.fix 0 o)]) (Re.at [(0,0),(2,2),(3,3),(4,4),(5,5),(6,6),(7,7),(8,8),(9,9)] []) (cfr (alloc21_lx R0 ws0 ws0 [] N W 0 0 0 L0 D0 D0 z0 false hM0 o ho st as_ hCO hB0.g (by decide) [(4,0)] 1 [.int .i64 (.sym 4),.int .i64 (.sym 0)] rfl rfl (by decide) [] 0 [] rfl rfl (by decide)) [(0,2),(1,3),(2,4),(3,5),(4,6),(5,7),(6,8),(7,9),(8,0)] (fun r h' n' hrr => ?_))
 rcases hrr with ⟨_,⟨p,hp,v,hv⟩,_⟩ | hrr
 ·exfalso
  rw [List.mem_singleton.1 hp] at hv
  rcases hv with ⟨q,_⟩ | ⟨_,q,q2⟩
  ·exact absurd q (by decide)
  ·rw [q] at q2
   exact absurd (q2.2 (by decide)) (by decide)
 obtain ⟨X,x,out,e,mx,mg,T,cg,R1,ws1,C1,G1,ov1,ph1,sp1,cy1,L1,D1,Q1,z1,e1,hX,hh,h1,hT,hmx,hcg,hmg,hA⟩ := hrr
 have hX2 := sz_gor1 hX
 subst hX2
 obtain ⟨rfl,rfl,hAl,hnr⟩ := hB0.alloc2 (l := [(4,10)]) hW hCO.1 (by simp [Val]) (by simp; omega) hA
 rcases hh with ⟨e2,e3⟩ | ⟨_,_,hren⟩
 case inr => exact absurd hren hnr
 subst e1 e2 e3
 obtain ⟨hg1,hmo1,hxl⟩ := hAl.good hB0.g
 have hkd := hAl.kinds hB0.g
 have hxl := hxl rfl
 obtain ⟨a,rfl⟩ : ∃ a,x = [a] := by
  match x,hxl with
  | [a],_ => exact ⟨a,rfl⟩
 have hk1 : Kept R1 ws1 a 4 10 := hkd 0 a (4,10) rfl rfl
 have hp1 : ph1 = 0 := hmo1.ph
 subst hp1
 have hAn := Alone.new z hB0 hg1 hmo1 hk1
 have hsp1 : sp1 = 0 := hmo1.sp
 have hcy1 : cy1 = 0 := hmo1.cy
 have hmx1 : mx = 1 := hmx
 subst hmg hcg
 have hR1l := h1.n
 clear hA hAl hkd hmo1 hnr hX hM0 hB0 hR0 hws0 hL0 hD0 hz0
 conv => cbv
 refine Br.no (fun w => w rfl) ?_
 conv => cbv
 refine Br.no (fun w => w hmx1) ?_
 conv => cbv
 refine JoinF.mk (fun s => ∃ (iz : Int) (ws2 C2 G2 : List Int) (ov2 : Bool) (D2 Q2 : List PV) (z2 : ByteArray),s = ⟨.undef :: .p (.vsl (.sym kz) true cz) :: .p (.int .i64 (.sym un_n)) :: (undefs 4 ++ .ptr 1 (.lit 0) :: .undef :: .p (.vsl (.sym mx) true T) :: undefs 130),[(1,.mix [.ptr 2 (.lit 0),i6 st,i6 as_]),hpA 2 3 7 8 3 W 0 sp1 cy1,hpB 3 4 6 3 W,hpC 4 5 137 2 N,hpP 5 L1,hpP 6 D2,hpF 7 z2 ov2,hpP 8 Q2,(0,.fix 0 o)],9⟩ ∧ HM R1 ws2 C2 G2 N W L1 D2 Q2 z2 ∧ Alone R1 ws2 a (vOf z iz) ∧ ∀ j : Int,0 ≤ j → j < 10 → (j < iz ↔ j < kz)) ?_ ?_
 ·conv => cbv
  refine LoopF.mk (fun kk s => ∃ (i : Int) (ws2 C2 G2 : List Int) (ov2 : Bool) (D2 Q2 : List PV) (z2 : ByteArray),s = ⟨.undef :: .p (.vsl (.sym kz) true cz) :: .p (.int .i64 (.sym un_n)) :: (undefs 4 ++ .ptr 1 (.lit 0) :: .undef :: .p (.vsl (.sym mx) true T) :: (undefs 2 ++ .p (.int .i64 (.sym i)) :: undefs 127)),[(1,.mix [.ptr 2 (.lit 0),i6 st,i6 as_]),hpA 2 3 7 8 3 W 0 sp1 cy1,hpB 3 4 6 3 W,hpC 4 5 137 2 N,hpP 5 L1,hpP 6 D2,hpF 7 z2 ov2,hpP 8 Q2,(0,.fix 0 o)],9⟩ ∧ 0 ≤ i ∧ i ≤ 10 ∧ i ≤ kz ∧ HM R1 ws2 C2 G2 N W L1 D2 Q2 z2 ∧ Alone R1 ws2 a (vOf z i) ∧ kk = (10 - i).toNat) 10 _
   (Re.at [(0,0),(2,1),(3,2),(4,3),(5,4),(6,5),(7,6),(8,7),(9,8)] []) ⟨0,ws1,C1,G1,ov1,D1,Q1,z1,rfl,by omega,by omega,by omega,h1,hAn,by omega⟩ ?_
  clear h1 hAn
  rintro kk s ⟨i,ws2,C2,G2,ov2,D2,Q2,z2,rfl,hi0,hi1,hik,h2,hAn,hkk⟩
  have hczl : cz.length = z.length := by rw [hcz,ipv_length]
  conv => cbv
  refine Br.mk (fun q => ?_) (fun q => ?_)
  case refine_2 =>
   have q : ¬ i < kz := q
   conv => cbv
   refine Joined.mk _ (Re.at [(0,0),(1,1),(2,2),(3,3),(4,4),(5,5),(6,6),(7,7),(8,8)] []) ⟨i,ws2,C2,G2,ov2,D2,Q2,z2,rfl,h2,hAn,fun j hj0 hj1 => by omega⟩
  have q : i < kz := q
  conv => cbv
  refine Br.mk (fun q2 => ?_) (fun q2 => ?_)
  case refine_2 =>
   have q2 : ¬ i < 10 := q2
   conv => cbv
   refine Joined.mk _ (Re.at [(0,0),(1,1),(2,2),(3,3),(4,4),(5,5),(6,6),(7,7),(8,8)] []) ⟨i,ws2,C2,G2,ov2,D2,Q2,z2,rfl,h2,hAn,fun j hj0 hj1 => by omega⟩
  have q2 : i < 10 := q2
  conv => cbv
  obtain ⟨z5,hz5⟩ : ∃ w,z[i.toNat]? = some w := ⟨_,List.getElem?_eq_getElem (by omega)⟩
  have hcz5 : cz[i.toNat]? = some (.int .i64 (.sym z5)) := by rw [hcz]; exact ipv_get hz5
  have hT0 : T[0]? = some (.int .i64 (.sym a)) := by rw [hT]; rfl
  refine drawn_sound tok (by kernel_rfl) [(1,[10,9,8,7,6,5,4,3,2]),(11,[5,4,3,2]),(12,[])] [0,2,3,4,5,6,7,8,9,10,1,11,12] (by kernel_rfl) ?_; conv => cbv
  conv => cbv
  refine Need.mk ⟨by show (0 : Int) ≤ 0; omega,by show 0 < mx; omega⟩ ?_
  conv => cbv
  refine Cell.at 0 _ hT0 rfl rfl ?_
  conv => cbv
  refine Need.mk ⟨hi0,q⟩ ?_
  conv => cbv
  refine Cell.at i _ hcz5 (by simp [I.val]) rfl ?_
  conv => cbv
  refine Sum.mk fun t9 ht9 => ?_
  have ht9 : t9 = z5.tmod 1000 := ht9
  have htb := tmod_bd z5
  rw [← ht9] at htb
  conv => cbv
  refine cfr (heapS_lx R1 ws2 C2 G2 N W 0 sp1 cy1 L1 D2 Q2 z2 ov2 st as_) [(0,1),(1,2),(2,3),(3,4),(4,5),(5,6),(6,7),(7,8)] (fun r h' n' ⟨e1,e2,e3⟩ => ?_)
  subst e1 e2 e3
  conv => cbv
  refine cfr (rInt21_lx t9 (by omega)) [] (fun r h' n' hrr => ?_)
  obtain ⟨⟨x9,e1,hx9⟩,e2,e3⟩ := hrr
  subst e1 e2 e3
  conv => cbv
  refine cfr (store9_lx R1 ws2 C2 G2 N W 0 sp1 cy1 L1 D2 Q2 z2 ov2 h2 o ho a i x9 (by omega)) [(0,2),(1,3),(2,4),(3,5),(4,6),(5,7),(6,8),(7,0)] (fun r h' n' hrr => ?_)
  obtain ⟨es,ws3,C3,G3,ov3,D3,Q3,z3,e1,e2,e3,h3,hSt,_⟩ := hrr
  subst e1 e2 e3
  have hAn3 := hAn.stored h2.a ⟨hi0,q2⟩ hz5 (by rw [hx9,ht9]) hSt
  conv => cbv
  refine Fit.mk (by show (-9223372036854775808 : Int) ≤ i + 1; omega) (by show i + 1 ≤ 9223372036854775807; omega) fun i2 hi2 => ?_
  have hi2 : i2 = i + 1 := hi2
  rw [← hi2] at hAn3
  conv => cbv
  refine Again.mk (10 - i2).toNat _ (by omega) (Re.at [(0,0),(1,1),(2,2),(3,3),(4,4),(5,5),(6,6),(7,7),(8,8)] []) ⟨i2,ws3,C3,G3,ov3,D3,Q3,z3,rfl,by omega,by omega,by omega,h3,hAn3,by omega⟩
 clear h1 hAn
 rintro s ⟨iz,ws2,C2,G2,ov2,D2,Q2,z2,rfl,h2,hAn,hfin⟩
 conv => cbv
 have hKp := hAn.keep (i := iz) (h2.good ov2 sp1 cy1 (by omega) (by omega) ⟨by omega,by omega⟩ (by omega))
 refine LoopF.mk (fun kk s => ∃ (i ph3 sp3 cy3 : Int) (R3 : List Rw) (ws3 C3 G3 : List Int) (ov3 : Bool) (L3 D3 Q3 : List PV) (z3 : ByteArray),s = ⟨.undef :: .p (.vsl (.sym kz) true cz) :: .p (.int .i64 (.sym un_n)) :: (undefs 4 ++ .ptr 1 (.lit 0) :: .undef :: .p (.vsl (.sym mx) true T) :: (undefs 3 ++ .p (.int .i64 (.sym i)) :: undefs 126)),[(1,.mix [.ptr 2 (.lit 0),i6 st,i6 as_]),hpA 2 3 7 8 3 W ph3 sp3 cy3,hpB 3 4 6 3 W,hpC 4 5 137 2 N,hpP 5 L3,hpP 6 D3,hpF 7 z3 ov3,hpP 8 Q3,(0,.fix 0 o)],9⟩ ∧ 0 ≤ i ∧ i ≤ un_n ∧ HM R3 ws3 C3 G3 N W L3 D3 Q3 z3 ∧ KeepI N ⟨R3,ws3,C3,G3,ov3,ph3,sp3,cy3⟩ a (vOf z iz) ∧ 0 ≤ cy3 ∧ cy3 ≤ 7000 * i ∧ kk = (un_n - i).toNat) un_n.toNat _
  (Re.at [(0,0),(1,1),(2,2),(3,3),(4,4),(5,5),(6,6),(7,7),(8,8)] []) ⟨0,0,sp1,cy1,R1,ws2,C2,G2,ov2,L1,D2,Q2,z2,rfl,by omega,by omega,h2,hKp,by omega,by omega,by omega⟩ ?_
 clear h2 hAn hKp
 rintro kk s ⟨i,ph3,sp3,cy3,R3,ws3,C3,G3,ov3,L3,D3,Q3,z3,rfl,hi0,hi1,h3,hK,hcy0,hcyb,hkk⟩
 conv => cbv
 refine Br.mk (fun q => ?_) (fun q => ?_)
 case refine_2 =>
  conv => cbv
  refine LoopF.mk (fun kk s => ∃ (i : Int),s = ⟨.undef :: .p (.vsl (.sym kz) true cz) :: .p (.int .i64 (.sym un_n)) :: (undefs 4 ++ .ptr 1 (.lit 0) :: .undef :: .p (.vsl (.sym mx) true T) :: (undefs 7 ++ .p (.int .i64 (.sym i)) :: undefs 122)),[(1,.mix [.ptr 2 (.lit 0),i6 st,i6 as_]),hpA 2 3 7 8 3 W ph3 sp3 cy3,hpB 3 4 6 3 W,hpC 4 5 137 2 N,hpP 5 L3,hpP 6 D3,hpF 7 z3 ov3,hpP 8 Q3,(0,.fix 0 o)],9⟩ ∧ 0 ≤ i ∧ i ≤ 10 ∧ kk = (10 - i).toNat) 10 _
   (Re.at [(0,0),(1,1),(2,2),(3,3),(4,4),(5,5),(6,6),(7,7),(8,8)] []) ⟨0,rfl,by omega,by omega,by omega⟩ ?_
  clear hi0 hi1 hkk q
  rintro kk s ⟨i,rfl,hi0,hi1,hkk⟩
  conv => cbv
  refine Br.mk (fun q => ?_) (fun q => ?_)
  case refine_2 =>
   conv => cbv
   refine RetF.mk [.p (.bool true)] [(0,.fix 0 o)] 1 (Re.at [(0,0)] []) rfl rfl
  have q : i < 10 := q
  have hvz := vOf_at z iz (j := i.toNat) (by omega)
  rw [show ((i.toNat : Nat) : Int) = i by omega] at hvz
  have hfi := hfin i hi0 q
  conv => cbv
  refine Br.mk (fun q5 => ?_) (fun q5 => ?_)
  ·have q5 : i < kz := q5
   obtain ⟨z5,hz5⟩ : ∃ w,z[i.toNat]? = some w := ⟨_,List.getElem?_eq_getElem (by omega)⟩
   have hcz5 : cz[i.toNat]? = some (.int .i64 (.sym z5)) := by rw [hcz]; exact ipv_get hz5
   rw [if_pos (hfi.2 q5),hz5] at hvz
   dsimp only at hvz
   conv => cbv
   refine Need.mk ⟨hi0,q5⟩ ?_
   conv => cbv
   refine Cell.at i _ hcz5 (by simp [I.val]) rfl ?_
   conv => cbv
   refine Sum.mk fun t9 ht9 => ?_
   have ht9 : t9 = z5.tmod 1000 := ht9
   have htb := tmod_bd z5
   rw [← ht9] at htb hvz
   conv => cbv
   refine cfr (rInt21_lx t9 (by omega)) [] (fun r h' n' hrr => ?_)
   obtain ⟨⟨x9,e1,hx9⟩,e2,e3⟩ := hrr
   subst e1 e2 e3
   rw [← hx9] at hvz
   conv => cbv
   refine drawn_sound tok (by kernel_rfl) [(1,[5,4,3,2]),(6,[])] [0,2,3,4,5,1,6,7,8,9,10,11] (by kernel_rfl) ?_; conv => cbv
   conv => cbv
   refine Need.mk ⟨by show (0 : Int) ≤ 0; omega,by show 0 < mx; omega⟩ ?_
   conv => cbv
   refine Cell.at 0 _ (show T[0]? = some (.int .i64 (.sym a)) by rw [hT]; rfl) rfl rfl ?_
   conv => cbv
   refine cfr (heapS_lx R3 ws3 C3 G3 N W ph3 sp3 cy3 L3 D3 Q3 z3 ov3 st as_) [(0,1),(1,2),(2,3),(3,4),(4,5),(5,6),(6,7),(7,8)] (fun r h' n' ⟨e1,e2,e3⟩ => ?_)
   subst e1 e2 e3
   conv => cbv
   refine cfr (load9_lx R3 ws3 C3 G3 N W ph3 sp3 cy3 L3 D3 Q3 z3 ov3 h3 a i) [(0,2),(1,3),(2,4),(3,5),(4,6),(5,7),(6,8)] (fun r h' n' hrr => ?_)
   obtain ⟨x7,e7,e1,e2,e3,hL7⟩ := hrr
   subst e1 e2 e3
   have hv7 := (hK.v i.toNat _ hvz).1
   rw [show ((i.toNat : Nat) : Int) = i by omega] at hv7
   obtain ⟨rfl,rfl⟩ := loaded_e hv7 hL7
   conv => cbv
   refine Br.no (fun w => w rfl) ?_
   conv => cbv
   refine Br.no (fun w => w rfl) ?_
   conv => cbv
   refine Fit.mk (by show (-9223372036854775808 : Int) ≤ i + 1; omega) (by show i + 1 ≤ 9223372036854775807; omega) fun i2 hi2 => ?_
   have hi2 : i2 = i + 1 := hi2
   conv => cbv
   refine Again.mk (10 - i2).toNat _ (by omega) (Re.at [(0,0),(1,1),(2,2),(3,3),(4,4),(5,5),(6,6),(7,7),(8,8)] []) ⟨i2,rfl,by omega,by omega,by omega⟩
  ·have q5 : ¬ i < kz := q5
   rw [if_neg (fun w => q5 (hfi.1 w))] at hvz
   conv => cbv
   refine drawn_sound tok (by kernel_rfl) [(1,[5,4,3,2]),(6,[])] [0,2,3,4,5,1,6,7,8,9,10,11] (by kernel_rfl) ?_; conv => cbv
   conv => cbv
   refine Need.mk ⟨by show (0 : Int) ≤ 0; omega,by show 0 < mx; omega⟩ ?_
   conv => cbv
   refine Cell.at 0 _ (show T[0]? = some (.int .i64 (.sym a)) by rw [hT]; rfl) rfl rfl ?_
   conv => cbv
   refine cfr (heapS_lx R3 ws3 C3 G3 N W ph3 sp3 cy3 L3 D3 Q3 z3 ov3 st as_) [(0,1),(1,2),(2,3),(3,4),(4,5),(5,6),(6,7),(7,8)] (fun r h' n' ⟨e1,e2,e3⟩ => ?_)
   subst e1 e2 e3
   conv => cbv
   refine cfr (load9_lx R3 ws3 C3 G3 N W ph3 sp3 cy3 L3 D3 Q3 z3 ov3 h3 a i) [(0,2),(1,3),(2,4),(3,5),(4,6),(5,7),(6,8)] (fun r h' n' hrr => ?_)
   obtain ⟨x7,e7,e1,e2,e3,hL7⟩ := hrr
   subst e1 e2 e3
   have hv7 := (hK.v i.toNat _ hvz).1
   rw [show ((i.toNat : Nat) : Int) = i by omega] at hv7
   obtain ⟨rfl,rfl⟩ := loaded_e hv7 hL7
   conv => cbv
   refine Br.no (fun w => w rfl) ?_
   conv => cbv
   refine Br.no (fun w => w rfl) ?_
   conv => cbv
   refine Fit.mk (by show (-9223372036854775808 : Int) ≤ i + 1; omega) (by show i + 1 ≤ 9223372036854775807; omega) fun i2 hi2 => ?_
   have hi2 : i2 = i + 1 := hi2
   conv => cbv
   refine Again.mk (10 - i2).toNat _ (by omega) (Re.at [(0,0),(1,1),(2,2),(3,3),(4,4),(5,5),(6,6),(7,7),(8,8)] []) ⟨i2,rfl,by omega,by omega,by omega⟩
 have q : i < un_n := q
 conv => cbv
 refine Sum.mk fun t9 ht9 => ?_
 have ht9 : t9 = i % 3 := (show t9 = i.tmod 3 from ht9).trans (Int.tmod_eq_emod_of_nonneg hi0)
 conv => cbv
 refine Fit.mk (by show (-9223372036854775808 : Int) ≤ 1 + t9; omega) (by show 1 + t9 ≤ 9223372036854775807; omega) fun m9 hm9 => ?_
 have hm9 : m9 = 1 + t9 := hm9
 have hm90 : 1 ≤ m9 ∧ m9 ≤ 3 := by omega
 clear hm9 ht9
 conv => cbv
 refine CallF.re (args0 := [.ptr 1 (.lit 0),.p (.vsl (.sym 1) true [.int .i64 (.sym 2),.int .i64 (.sym m9)]),.p (.vsl (.sym mx) true T)]) (h' := [(1,.mix [.ptr 2 (.lit 0),i6 st,i6 as_]),hpA 2 3 7 8 3 W ph3 sp3 cy3,hpB 3 4 6 3 W,hpC 4 5 137 2 N,hpP 5 L3,hpP 6 D3,hpF 7 z3 ov3,hpP 8 Q3,(0,.fix 0 o)]) (Re.at [(0,0),(1,1),(2,2),(3,3),(4,4),(5,5),(6,6),(7,7),(8,8)] []) (cfr (alloc21_lx R3 ws3 C3 G3 N W ph3 sp3 cy3 L3 D3 Q3 z3 ov3 h3 o ho st as_ hCO hK.g (by omega) [(2,m9)] 1 [.int .i64 (.sym 2),.int .i64 (.sym m9)] rfl rfl (by simp) [a] mx T hT hmx (by simp)) [(0,1),(1,2),(2,3),(3,4),(4,5),(5,6),(6,7),(7,8),(8,0)] (fun r h' n' hrr => ?_))
 rcases hrr with ⟨_,⟨p,hp,v,hv⟩,_⟩ | hrr
 ·exfalso
  rw [List.mem_singleton.1 hp] at hv
  rcases hv with ⟨_,⟨_,_,_,q⟩ | ⟨q,_⟩⟩ | ⟨q,_⟩
  ·cases q
  ·exact q ⟨by show 0 ≤ m9; omega,by show m9 ≤ 3; omega⟩
  ·exact q rfl
 obtain ⟨X,x,out,e,mx4,mg,T4,cg,R4,ws4,C4,G4,ov4,ph4,sp4,cy4,L4,D4,Q4,z4,e1,hX,hh,h4,hT4,hmx4,hcg,hmg,hA⟩ := hrr
 have hX2 := sz_buf hX
 subst hX2
 have hgd := hA.good h3.w hK.g
 obtain ⟨rfl,hK4⟩ := hK.step h3.w hN3 (vOf_len _ _) (k := 2) (m := m9) ⟨by show 0 ≤ m9; omega,by show m9 ≤ 31; omega,by show (1 : Int) ≤ 2; omega,by show (2 : Int) ≤ 6; omega⟩ hA
 have hcyb4 : cy4 ≤ cy3 + 7000 := hgd.2.1
 have hcy40 : 0 ≤ cy4 := hK4.g.y
 rcases hh with ⟨e2,e3⟩ | ⟨e2,e3,_⟩
 ·subst e1 e2 e3
  conv => cbv
  refine Br.no (fun w => w rfl) ?_
  conv => cbv
  refine Fit.mk (by show (-9223372036854775808 : Int) ≤ i + 1; omega) (by show i + 1 ≤ 9223372036854775807; omega) fun i2 hi2 => ?_
  have hi2 : i2 = i + 1 := hi2
  conv => cbv
  refine Again.mk (un_n - i2).toNat _ (by omega) (Re.at [(0,0),(1,1),(2,2),(3,3),(4,4),(5,5),(6,6),(7,7),(8,8)] []) ⟨i2,ph4,sp4,cy4,R4,ws4,C4,G4,ov4,L4,D4,Q4,z4,rfl,by omega,by omega,h4,hK4,hcy40,by omega,rfl⟩
 ·subst e1 e2 e3
  conv => cbv
  refine Br.no (fun w => w rfl) ?_
  conv => cbv
  refine Fit.mk (by show (-9223372036854775808 : Int) ≤ i + 1; omega) (by show i + 1 ≤ 9223372036854775807; omega) fun i2 hi2 => ?_
  have hi2 : i2 = i + 1 := hi2
  conv => cbv
  refine Again.mk (un_n - i2).toNat _ (by omega) (Re.at [(0,0),(1,1),(2,2),(3,3),(4,4),(5,5),(6,6),(8,8),(10,7)] []) ⟨i2,ph4,sp4,cy4,R4,ws4,C4,G4,ov4,L4,D4,Q4,z4,rfl,by omega,by omega,h4,hK4,hcy40,by omega,rfl⟩
end Go.Proofs.YtpbhcdbkmmjimaaGreatDoor
