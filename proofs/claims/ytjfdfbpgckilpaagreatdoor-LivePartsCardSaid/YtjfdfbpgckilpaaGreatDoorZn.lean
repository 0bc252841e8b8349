/-
  Layer 22: LiveParts.
-/
import Derived.Test.YtjfdfbpgckilpaaGreatDoorBi
import Derived.Test.YtjfdfbpgckilpaaGreatDoorZm
import Derived.Test.YtjfdfbpgckilpaaGreatDoorBg
import Derived.Test.YtjfdfbpgckilpaaGreatDoorBf
import Derived.Test.YtjfdfbpgckilpaaGreatDoorBh
namespace Go.Proofs.YtjfdfbpgckilpaaGreatDoor
open Go Go.LX
set_option maxRecDepth 100000
set_option linter.unusedVariables false
set_option linter.unusedSimpArgs false
set_option maxHeartbeats 32000000
theorem liveParts_law (o : Unit → Obj) (ho : IsPow o) (k1 : Int) (ops : List (Int × Int × Int × Int × Int × Int)) (L1 : List PV) (hk1 : k1 = ops.length) (hL1 : L1 = sixes ops) (hkb : k1 ≤ 9223372036854775807) (hob : ∀ o ∈ ops,(-9223372036854775808 ≤ o.1 ∧ o.1 ≤ 9223372036854775807) ∧ (-9223372036854775808 ≤ o.2.1 ∧ o.2.1 ≤ 9223372036854775807) ∧ (-9223372036854775808 ≤ o.2.2.1 ∧ o.2.2.1 ≤ 9223372036854775807) ∧ (-9223372036854775808 ≤ o.2.2.2.1 ∧ o.2.2.2.1 ≤ 9223372036854775807) ∧ (-9223372036854775808 ≤ o.2.2.2.2.1 ∧ o.2.2.2.2.1 ≤ 9223372036854775807) ∧ (-9223372036854775808 ≤ o.2.2.2.2.2 ∧ o.2.2.2.2.2 ≤ 9223372036854775807)) (k2 : Int) (aa : List Int) (L2 : List PV) (hk2 : k2 = aa.length) (hL2 : L2 = ipv aa) (hkb2 : k2 ≤ 9223372036854775807) (hbaa : ∀ x ∈ aa,-9223372036854775808 ≤ x ∧ x ≤ 9223372036854775807) (k3 : Int) (bb : List Int) (L3 : List PV) (hk3 : k3 = bb.length) (hL3 : L3 = ipv bb) (hkb3 : k3 ≤ 9223372036854775807) (hbbb : ∀ x ∈ bb,-9223372036854775808 ≤ x ∧ x ≤ 9223372036854775807) :
  CallF (fun _ => Tryz.prog) 7 [.p (.vsl (.sym k1) true L1),.p (.vsl (.sym k2) true L2),.p (.vsl (.sym k3) true L3)] [(0,.fix 0 o)] 1 (fun r _ _ => r = .p (.bool true)) := by
 refine callF_of_bodyB tok Tryz.func7 (by kernel_rfl) rfl rfl rfl [6,10] ?_; conv => cbv
 refine cfr (built_lx o ho k1 ops L1 hk1 hL1 hkb hob (fun _ _ _ => True) trivial (fun _ _ _ _ _ _ _ _ _ _ _ => trivial)) [(0,0)] (fun r h' n' hrr => ?_)
 obtain ⟨N,W,m,R,ws,vs,C,G,L,D,Q,z,ov,P,B,V,Qr,la,e1,e2,e3,hN,hW,h,hr,hS,_⟩ := hrr
 subst e1 e2 e3
 conv => cbv
 refine cfr (awake22_lx o ho) [(0,0)] (fun r h' n' ⟨e1,e2,e3⟩ => ?_)
 subst e1 e2 e3
 conv => cbv
 refine Br.mk (fun g => ?_) (fun g => ?_)
 ·conv => cbv
  refine cfr (awake22_lx o ho) [(0,0)] (fun r h' n' ⟨e1,e2,e3⟩ => ?_)
  subst e1 e2 e3
  conv => cbv
  refine RetF.mk [.p (.bool true)] [(0,.fix 0 o)] 1 (Re.at [(0,0)] []) rfl rfl
 have ga : ¬ 30 < k2 := g
 conv => cbv
 refine Br.mk (fun g => ?_) (fun g => ?_)
 ·conv => cbv
  refine cfr (awake22_lx o ho) [(0,0)] (fun r h' n' ⟨e1,e2,e3⟩ => ?_)
  subst e1 e2 e3
  conv => cbv
  refine RetF.mk [.p (.bool true)] [(0,.fix 0 o)] 1 (Re.at [(0,0)] []) rfl rfl
 have gb : ¬ 30 < k3 := g
 obtain ⟨mo,hm⟩ : ∃ m : Int,m = objCount R := ⟨_,rfl⟩
 conv => cbv
 refine cfr (robjects_lx mo R vs N W P B V hr.p hr.b hr.v hr.n hr.r hr.a hr.w hm) [(0,9),(1,10),(2,11),(3,12),(4,13)] (fun r h' n' hrr => ?_)
 obtain ⟨E,e1,e2,e3,hE⟩ := hrr
 subst e1 e2 e3
 have hml : mo = (objs R).length := by rw [hm]; unfold objs; rw [objs_length hr.a.rows]
 have hE : E = ipv (objs R) := hE
 have hEl : E.length = (objs R).length := by rw [hE,ipv_length]
 have hNR := h.n
 have hob8 : (objs R).length ≤ 8 * R.length := objsTo_le R R.length
 have hasc : (objs R).Pairwise (· < ·) := objsTo_asc h.a.rows _
 conv => cbv
 refine JoinF.mk (fun s => ∃ (j : Int) (X : List Int) (T : List PV),s = ⟨.undef :: .p (.vsl (.sym k2) true L2) :: .p (.vsl (.sym k3) true L3) :: (undefs 4 ++ .ptr 1 (.lit 0) :: .undef :: .sl 8 3 1 (.lit 0) (.sym mo) :: .p (.vsl (.sym j) true T) :: .p .nils :: .undef :: undefs 177),[hpA 1 2 6 7 3 W 0 0 0,hpB 2 3 5 3 W,hpC 3 4 179 2 N,hpP 4 L,hpP 5 D,hpF 6 z ov,hpP 7 Q,(0,.fix 0 o),hpP 8 E],10⟩ ∧ T = ipv X ∧ j = X.length ∧ 0 ≤ j ∧ j ≤ 30) ?_ ?_
 ·conv => cbv
  refine LoopF.mk (fun kk s => ∃ (i j : Int) (X : List Int) (T : List PV),s = ⟨.undef :: .p (.vsl (.sym k2) true L2) :: .p (.vsl (.sym k3) true L3) :: (undefs 4 ++ .ptr 1 (.lit 0) :: .undef :: .sl 8 3 1 (.lit 0) (.sym mo) :: .sl 9 3 1 (.lit 0) (.sym j) :: .p .nils :: .p (.int .i64 (.sym i)) :: undefs 177),[hpA 1 2 6 7 3 W 0 0 0,hpB 2 3 5 3 W,hpC 3 4 179 2 N,hpP 4 L,hpP 5 D,hpF 6 z ov,hpP 7 Q,(0,.fix 0 o),hpP 8 E,hpP 9 T],10⟩ ∧ T = ipv X ∧ j = X.length ∧ 0 ≤ i ∧ i ≤ k2 ∧ j ≤ i ∧ kk = (k2 - i).toNat) k2.toNat _
   (Re.at [(0,0),(1,1),(2,2),(3,3),(4,4),(5,5),(6,6),(7,7),(16,8)] [9]) ⟨0,0,[],[],rfl,rfl,rfl,by omega,by omega,by omega,by omega⟩ ?_
  rintro kk s ⟨i,j,X,T,rfl,hT,hj,hi0,hi1,hji,hkk⟩
  have hTl : T.length = X.length := by rw [hT,ipv_length]
  conv => cbv
  refine Br.mk (fun q => ?_) (fun q => ?_)
  case refine_2 =>
   conv => cbv
   refine Joined.mk _ (Re.at [(0,0),(1,1),(2,2),(3,3),(4,4),(5,5),(6,6),(7,7),(8,8)] []) ⟨j,X,T,rfl,hT,hj,by omega,by omega⟩
  have q : i < k2 := q
  conv => cbv
  refine Br.mk (fun q2 => ?_) (fun q2 => ?_)
  case refine_2 =>
   conv => cbv
   refine Joined.mk _ (Re.at [(0,0),(1,1),(2,2),(3,3),(4,4),(5,5),(6,6),(7,7),(8,8)] []) ⟨j,X,T,rfl,hT,hj,by omega,by omega⟩
  have q2 : 0 < mo := q2
  obtain ⟨av,hav⟩ : ∃ a,aa[i.toNat]? = some a := ⟨_,List.getElem?_eq_getElem (by omega)⟩
  have hai : L2[i.toNat]? = some (.int .i64 (.sym av)) := by rw [hL2]; exact ipv_get hav
  obtain ⟨k',rfl⟩ : ∃ k',kk = k' + 1 := ⟨kk - 1,by omega⟩
  conv => cbv
  refine Need.mk (show 0 ≤ i ∧ i < k2 by omega) ?_
  conv => cbv
  refine Cell.at i _ hai (by simp [I.val]) rfl ?_
  conv => cbv
  refine Fit.wrap fun xw hxw => ?_
  have hxw : xw = IntKind.u64.wrap av := hxw
  have hyw : 0 ≤ xw := by rw [hxw]; simp [IntKind.wrap,IntKind.bits,IntKind.signed]; omega
  clear hxw
  conv => cbv
  refine Fit.mk (by show (0 : Int) ≤ mo; omega) (by show mo ≤ 18446744073709551615; omega) fun mw hmw => ?_
  have hmw : mw = mo := hmw
  conv => cbv
  refine Need.mk (show ¬ mw = 0 by omega) ?_
  conv => cbv
  refine Sum.mk fun tw htw => ?_
  have htw : tw = xw % mw := (show tw = xw.tmod mw from htw).trans (Int.tmod_eq_emod_of_nonneg hyw)
  have hta : 0 ≤ tw := by rw [htw]; exact Int.emod_nonneg _ (by omega)
  have htb : tw < mw := by rw [htw]; exact Int.emod_lt_of_pos _ (by omega)
  clear htw
  conv => cbv
  refine Fit.mk (by show (-9223372036854775808 : Int) ≤ tw; omega) (by show tw ≤ 9223372036854775807; omega) fun uw huw => ?_
  have huw : uw = tw := huw
  obtain ⟨ob,hob2⟩ : ∃ a,(objs R)[uw.toNat]? = some a := ⟨_,List.getElem?_eq_getElem (by omega)⟩
  have hEo : E[uw.toNat]? = some (.int .i64 (.sym ob)) := by rw [hE]; exact ipv_get hob2
  conv => cbv
  refine Need.mk (show 0 ≤ uw ∧ uw < mo by omega) ?_
  conv => cbv
  refine Cell.at uw _ hEo (by simp [I.val]) rfl ?_
  conv => cbv
  refine Room.new rfl ?_
  conv => cbv
  refine Room.new ⟨by show (T.length : Int) = j * 1; omega,by show (j + 1) * 8 ≤ 140737488355328; omega,by show j + 1 ≤ 9223372036854775807; omega⟩ ?_
  conv => cbv
  refine Upd.mk fun T2 hT2 => ?_
  have hT2 : T2 = ipv (X ++ [ob]) := by rw [show T2 = T ++ [.int .i64 (.sym ob)] from hT2,← ipv_app,← hT]; rfl
  conv => cbv
  refine Sum.mk fun j2 hj2 => ?_
  have hj2 : j2 = (X ++ [ob]).length := by rw [show j2 = j + 1 from hj2,hj,List.length_append]; rfl
  have hj3 : j2 = j + 1 := by rw [hj2,List.length_append,hj]; rfl
  conv => cbv
  refine Fit.mk (by show (-9223372036854775808 : Int) ≤ i + 1; omega) (by show i + 1 ≤ 9223372036854775807; omega) fun i2 hi2 => ?_
  have hi2 : i2 = i + 1 := hi2
  conv => cbv
  refine Again.mk k' _ (Nat.lt_succ_self _) (Re.at [(0,0),(1,1),(2,2),(3,3),(4,4),(5,5),(6,6),(7,7),(8,8),(11,9)] []) ⟨i2,j2,X ++ [ob],T2,rfl,hT2,hj2,by omega,by omega,by omega,by omega⟩
 rintro s ⟨jx,X,Tx,rfl,hTx,hjx,hjx0,hjx1⟩
 conv => cbv
 refine JoinF.mk (fun s => ∃ (j : Int) (X : List Int) (T : List PV),s = ⟨.undef :: .p (.vsl (.sym k2) true L2) :: .p (.vsl (.sym k3) true L3) :: (undefs 4 ++ .ptr 1 (.lit 0) :: .undef :: .sl 8 3 1 (.lit 0) (.sym mo) :: .p (.vsl (.sym jx) true Tx) :: .p (.vsl (.sym j) true T) :: .undef :: .undef :: undefs 176),[hpA 1 2 6 7 3 W 0 0 0,hpB 2 3 5 3 W,hpC 3 4 179 2 N,hpP 4 L,hpP 5 D,hpF 6 z ov,hpP 7 Q,(0,.fix 0 o),hpP 8 E],11⟩ ∧ T = ipv X ∧ j = X.length ∧ 0 ≤ j ∧ j ≤ 30) ?_ ?_
 ·conv => cbv
  refine LoopF.mk (fun kk s => ∃ (i j : Int) (X : List Int) (T : List PV),s = ⟨.undef :: .p (.vsl (.sym k2) true L2) :: .p (.vsl (.sym k3) true L3) :: (undefs 4 ++ .ptr 1 (.lit 0) :: .undef :: .sl 8 3 1 (.lit 0) (.sym mo) :: .p (.vsl (.sym jx) true Tx) :: .sl 10 3 1 (.lit 0) (.sym j) :: .undef :: .p (.int .i64 (.sym i)) :: undefs 176),[hpA 1 2 6 7 3 W 0 0 0,hpB 2 3 5 3 W,hpC 3 4 179 2 N,hpP 4 L,hpP 5 D,hpF 6 z ov,hpP 7 Q,(0,.fix 0 o),hpP 8 E,hpP 10 T],11⟩ ∧ T = ipv X ∧ j = X.length ∧ 0 ≤ i ∧ i ≤ k3 ∧ j ≤ i ∧ kk = (k3 - i).toNat) k3.toNat _
   (Re.at [(0,0),(1,1),(2,2),(3,3),(4,4),(5,5),(6,6),(7,7),(8,8)] [10]) ⟨0,0,[],[],rfl,rfl,rfl,by omega,by omega,by omega,by omega⟩ ?_
  rintro kk s ⟨i,j,X,T,rfl,hT,hj,hi0,hi1,hji,hkk⟩
  have hTl : T.length = X.length := by rw [hT,ipv_length]
  conv => cbv
  refine Br.mk (fun q => ?_) (fun q => ?_)
  case refine_2 =>
   conv => cbv
   refine Joined.mk _ (Re.at [(0,0),(1,1),(2,2),(3,3),(4,4),(5,5),(6,6),(7,7),(8,8)] []) ⟨j,X,T,rfl,hT,hj,by omega,by omega⟩
  have q : i < k3 := q
  conv => cbv
  refine Br.mk (fun q2 => ?_) (fun q2 => ?_)
  case refine_2 =>
   conv => cbv
   refine Joined.mk _ (Re.at [(0,0),(1,1),(2,2),(3,3),(4,4),(5,5),(6,6),(7,7),(8,8)] []) ⟨j,X,T,rfl,hT,hj,by omega,by omega⟩
  have q2 : 0 < mo := q2
  obtain ⟨av,hav⟩ : ∃ a,bb[i.toNat]? = some a := ⟨_,List.getElem?_eq_getElem (by omega)⟩
  have hai : L3[i.toNat]? = some (.int .i64 (.sym av)) := by rw [hL3]; exact ipv_get hav
  obtain ⟨k',rfl⟩ : ∃ k',kk = k' + 1 := ⟨kk - 1,by omega⟩
  conv => cbv
  refine Need.mk (show 0 ≤ i ∧ i < k3 by omega) ?_
  conv => cbv
  refine Cell.at i _ hai (by simp [I.val]) rfl ?_
  conv => cbv
  refine Fit.wrap fun xw hxw => ?_
  have hxw : xw = IntKind.u64.wrap av := hxw
  have hyw : 0 ≤ xw := by rw [hxw]; simp [IntKind.wrap,IntKind.bits,IntKind.signed]; omega
  clear hxw
  conv => cbv
  refine Fit.mk (by show (0 : Int) ≤ mo; omega) (by show mo ≤ 18446744073709551615; omega) fun mw hmw => ?_
  have hmw : mw = mo := hmw
  conv => cbv
  refine Need.mk (show ¬ mw = 0 by omega) ?_
  conv => cbv
  refine Sum.mk fun tw htw => ?_
  have htw : tw = xw % mw := (show tw = xw.tmod mw from htw).trans (Int.tmod_eq_emod_of_nonneg hyw)
  have hta : 0 ≤ tw := by rw [htw]; exact Int.emod_nonneg _ (by omega)
  have htb : tw < mw := by rw [htw]; exact Int.emod_lt_of_pos _ (by omega)
  clear htw
  conv => cbv
  refine Fit.mk (by show (-9223372036854775808 : Int) ≤ tw; omega) (by show tw ≤ 9223372036854775807; omega) fun uw huw => ?_
  have huw : uw = tw := huw
  obtain ⟨ob,hob2⟩ : ∃ a,(objs R)[uw.toNat]? = some a := ⟨_,List.getElem?_eq_getElem (by omega)⟩
  have hEo : E[uw.toNat]? = some (.int .i64 (.sym ob)) := by rw [hE]; exact ipv_get hob2
  conv => cbv
  refine Need.mk (show 0 ≤ uw ∧ uw < mo by omega) ?_
  conv => cbv
  refine Cell.at uw _ hEo (by simp [I.val]) rfl ?_
  conv => cbv
  refine Room.new rfl ?_
  conv => cbv
  refine Room.new ⟨by show (T.length : Int) = j * 1; omega,by show (j + 1) * 8 ≤ 140737488355328; omega,by show j + 1 ≤ 9223372036854775807; omega⟩ ?_
  conv => cbv
  refine Upd.mk fun T2 hT2 => ?_
  have hT2 : T2 = ipv (X ++ [ob]) := by rw [show T2 = T ++ [.int .i64 (.sym ob)] from hT2,← ipv_app,← hT]; rfl
  conv => cbv
  refine Sum.mk fun j2 hj2 => ?_
  have hj2 : j2 = (X ++ [ob]).length := by rw [show j2 = j + 1 from hj2,hj,List.length_append]; rfl
  have hj3 : j2 = j + 1 := by rw [hj2,List.length_append,hj]; rfl
  conv => cbv
  refine Fit.mk (by show (-9223372036854775808 : Int) ≤ i + 1; omega) (by show i + 1 ≤ 9223372036854775807; omega) fun i2 hi2 => ?_
  have hi2 : i2 = i + 1 := hi2
  conv => cbv
  refine Again.mk k' _ (Nat.lt_succ_self _) (Re.at [(0,0),(1,1),(2,2),(3,3),(4,4),(5,5),(6,6),(7,7),(8,8),(12,10)] []) ⟨i2,j2,X ++ [ob],T2,rfl,hT2,hj2,by omega,by omega,by omega,by omega⟩
 rintro s ⟨jy,Y,Ty,rfl,hTy,hjy,hjy0,hjy1⟩
 conv => cbv
 have hTxl : Tx.length = X.length := by rw [hTx,ipv_length]
 have hTyl : Ty.length = Y.length := by rw [hTy,ipv_length]
 refine cfr (reach_lx R ws C G N W 0 0 0 L D Q z ov h X jx Tx hjx hTx (by omega)) [(0,1),(1,2),(2,3),(3,4),(4,5),(5,6),(6,7)] (fun r h' n' hrr => ?_)
 obtain ⟨A1,i1,O1,e1,e2,e3,hO1,hi1,hAa1,hAm1⟩ := hrr
 subst e1 e2 e3
 conv => cbv
 refine cfr (reach_lx R ws C G N W 0 0 0 L D Q z ov h Y jy Ty hjy hTy (by omega)) [(0,1),(1,2),(2,3),(3,4),(4,5),(5,6),(6,7)] (fun r h' n' hrr => ?_)
 obtain ⟨A2,i2,O2,e1,e2,e3,hO2,hi2,hAa2,hAm2⟩ := hrr
 subst e1 e2 e3
 conv => cbv
 refine Need.mk (by show (Tx.length : Int) = jx * 1; omega) ?_
 conv => cbv
 refine Need.mk ⟨by show jx * 8 ≤ 140737488355328; omega,by show jx ≤ 9223372036854775807; omega⟩ ?_
 conv => cbv
 refine Need.mk (by show (Ty.length : Int) = jy * 1; omega) ?_
 conv => cbv
 refine Room.new ⟨by show (Tx.length : Int) = jx * 1; omega,by show (jx + jy) * 8 ≤ 140737488355328; omega,by show jx + jy ≤ 9223372036854775807; omega⟩ ?_
 conv => cbv
 refine Upd.mk fun TT hTT => ?_
 have hTT : TT = ipv (X ++ Y) := by rw [show TT = Tx ++ Ty from hTT,hTx,hTy,ipv_app]
 conv => cbv
 refine Sum.mk fun jb hjb => ?_
 have hjb : jb = (X ++ Y).length := by rw [show jb = jx + jy from hjb,List.length_append,hjx,hjy]; rfl
 have hXYl : (X ++ Y).length = X.length + Y.length := List.length_append
 conv => cbv
 refine CallF.re (args0 := [.ptr 1 (.lit 0),.p (.vsl (.sym jb) true TT)]) (h' := [hpA 1 2 6 7 3 W 0 0 0,hpB 2 3 5 3 W,hpC 3 4 179 2 N,hpP 4 L,hpP 5 D,hpF 6 z ov,hpP 7 Q,(0,.fix 0 o),hpP 8 E]) (Re.at [(0,0),(1,1),(2,2),(3,3),(4,4),(5,5),(6,6),(7,7),(8,8)] []) (cfr (reach_lx R ws C G N W 0 0 0 L D Q z ov h (X ++ Y) jb TT hjb hTT (by omega)) [(0,1),(1,2),(2,3),(3,4),(4,5),(5,6),(6,7)] (fun r h' n' hrr => ?_))
 obtain ⟨A3,i3,O3,e1,e2,e3,hO3,hi3,hAa3,hAm3⟩ := hrr
 subst e1 e2 e3
 conv => cbv
 refine cfr (lost_lx R ws C G N W 0 0 0 L D Q z ov h X jx Tx hjx hTx (by omega)) [(0,1),(1,2),(2,3),(3,4),(4,5),(5,6),(6,7)] (fun r h' n' hrr => ?_)
 obtain ⟨A4,i4,O4,e1,e2,e3,hO4,hi4,hAa4,hAm4⟩ := hrr
 subst e1 e2 e3
 conv => cbv
 refine LoopF.mk (fun kk s => ∃ i : Int,s = ⟨.undef :: .p (.vsl (.sym k2) true L2) :: (undefs 5 ++ .ptr 1 (.lit 0) :: .undef :: .sl 8 3 1 (.lit 0) (.sym mo) :: undefs 4 ++ .p (.vsl (.sym i1) true O1) :: .p (.vsl (.sym i2) true O2) :: .p (.vsl (.sym i3) true O3) :: .p (.vsl (.sym i4) true O4) :: .p (.int .i64 (.sym i)) :: undefs 171),[hpA 1 2 6 7 3 W 0 0 0,hpB 2 3 5 3 W,hpC 3 4 179 2 N,hpP 4 L,hpP 5 D,hpF 6 z ov,hpP 7 Q,(0,.fix 0 o),hpP 8 E],9⟩ ∧ 0 ≤ i ∧ i ≤ mo ∧ kk = (mo - i).toNat) mo.toNat _
  (Re.at [(0,0),(1,1),(2,2),(3,3),(4,4),(5,5),(6,6),(7,7),(8,8)] []) ⟨0,rfl,by omega,by omega,by omega⟩ ?_
 rintro kk s ⟨i,rfl,hi0,him,hkk⟩
 conv => cbv
 refine Br.mk (fun q => ?_) (fun q => ?_)
 case refine_2 =>
  have q : ¬ i < mo := q
  conv => cbv
  refine cfr (reach_lx R ws C G N W 0 0 0 L D Q z ov h A1 i1 O1 hi1 hO1 (by have := rising_le hAa1 (fun x hx => obj_bd h.a ((hAm1 x).1 hx).obj); omega)) [(0,1),(1,2),(2,3),(3,4),(4,5),(5,6),(6,7)] (fun r h' n' hrr => ?_)
  obtain ⟨B1,c1,U1,e1,e2,e3,hU1,hc1,hBa1,hBm1⟩ := hrr
  subst e1 e2 e3
  have hB1 : B1 = A1 := asc_eq hBa1 hAa1 (fun x => (hBm1 x).trans (Rch.again hAm1 x))
  have hBl : (B1.length : Int) < 1000000 := by
   have := rising_le hBa1 (fun x hx => obj_bd h.a ((hBm1 x).1 hx).obj)
   omega
  conv => cbv
  refine callF_frame (plaini64_lx B1 A1 c1 i1 U1 O1 hc1 hi1 (by rw [hU1]; exact preI_ints B1) (by rw [hO1]; exact preI_ints A1) hBl) [] rfl trivial rfl rfl (fun r h' n' hrr => ?_)
  obtain ⟨⟨b1,e1,hb1⟩,e2,e3⟩ := hrr
  subst e1 e2 e3
  obtain rfl : b1 = true := hb1.2 hB1
  conv => cbv
  refine CallF.nils1 (cfr (reach_lx R ws C G N W 0 0 0 L D Q z ov h [] 0 [] rfl rfl (by decide)) [(0,1),(1,2),(2,3),(3,4),(4,5),(5,6),(6,7)] (fun r h' n' hrr => ?_))
  obtain ⟨B2,c2,U2,e1,e2,e3,hU2,hc2,hBa2,hBm2⟩ := hrr
  subst e1 e2 e3
  have hc2z : c2 = 0 := by
   rw [hc2,show B2 = [] from List.eq_nil_iff_forall_not_mem.2 (fun x hx => ((hBm2 x).1 hx).nil)]; rfl
  conv => cbv
  refine Br.yes (show c2 = 0 from hc2z) ?_
  conv => cbv
  refine callF_frame (reachNil_lx aa k2 L2 hk2 hL2 (by omega)) [] rfl trivial rfl rfl (fun r h' n' ⟨e1,e2,e3⟩ => ?_)
  subst e1 e2 e3
  conv => cbv
  refine Br.yes (show (0 : Int) = 0 from rfl) ?_
  conv => cbv
  refine callF_frame (lostNil_lx aa k2 L2 hk2 hL2 (by omega)) [] rfl trivial rfl rfl (fun r h' n' ⟨e1,e2,e3⟩ => ?_)
  subst e1 e2 e3
  conv => cbv
  refine callF_frame (brokenNil_lx aa k2 L2 hk2 hL2 (by omega)) [] rfl trivial rfl rfl (fun r h' n' ⟨e1,e2,e3⟩ => ?_)
  subst e1 e2 e3
  conv => cbv
  refine RetF.mk [.p (.bool true)] [(0,.fix 0 o)] 1 (Re.at [(0,0)] []) rfl rfl
 have q : i < mo := q
 obtain ⟨x,hx⟩ : ∃ a,(objs R)[i.toNat]? = some a := ⟨_,List.getElem?_eq_getElem (by omega)⟩
 have hEx : E[i.toNat]? = some (.int .i64 (.sym x)) := by rw [hE]; exact ipv_get hx
 obtain ⟨k',rfl⟩ : ∃ k',kk = k' + 1 := ⟨kk - 1,by omega⟩
 conv => cbv
 have hl1 := rising_le hAa1 (fun x hx => obj_bd h.a ((hAm1 x).1 hx).obj)
 have hl2 := rising_le hAa2 (fun x hx => obj_bd h.a ((hAm2 x).1 hx).obj)
 have hl3 := rising_le hAa3 (fun x hx => obj_bd h.a ((hAm3 x).1 hx).obj)
 have hl4 := rising_le hAa4 (fun x hx => obj_bd h.a ((hAm4 x).1 hx).1)
 have hxo := List.mem_of_getElem? hx
 conv => cbv
 refine drawn_sound tok (by kernel_rfl) [(5,[10,9,8,7,6]),(11,[]),(19,[24,23,22,21,20]),(25,[]),(32,[])] [0,1,2,3,4,6,7,8,9,10,5,11,12,13,14,15,16,17,18,20,21,22,23,24,19,25,26,27,28,29,30,31,32,33,34,35] (by kernel_rfl) ?_; conv => cbv
 conv => cbv
 refine Need.mk (show 0 ≤ i ∧ i < mo by omega) ?_
 conv => cbv
 refine Cell.at i _ hEx (by simp [I.val]) rfl ?_
 conv => cbv
 refine Need.mk (show 0 ≤ i ∧ i < mo by omega) ?_
 conv => cbv
 refine Cell.at i _ hEx (by simp [I.val]) rfl ?_
 conv => cbv
 by_cases h1 : x ∈ A1
 ·have h3 : x ∈ A3 := (hAm3 x).2 (Rch.app.2 (.inl ((hAm1 x).1 h1)))
  have h4 : ¬ x ∈ A4 := fun q => ((hAm4 x).1 q).2 ((hAm1 x).1 h1)
  refine callF_frame (inL_lx A1 x i1 O1 true hi1 hO1 (by omega) ((decide_eq_true h1).symm)) [] rfl trivial rfl rfl (fun r h' n' ⟨e1,e2,e3⟩ => ?_)
  subst e1 e2 e3
  conv => cbv
  refine callF_frame (inL_lx A4 x i4 O4 false hi4 hO4 (by omega) ((decide_eq_false h4).symm)) [] rfl trivial rfl rfl (fun r h' n' ⟨e1,e2,e3⟩ => ?_)
  subst e1 e2 e3
  conv => cbv
  refine Need.mk (show 0 ≤ i ∧ i < mo by omega) ?_
  conv => cbv
  refine Cell.at i _ hEx (by simp [I.val]) rfl ?_
  conv => cbv
  refine Need.mk (show 0 ≤ i ∧ i < mo by omega) ?_
  conv => cbv
  refine Cell.at i _ hEx (by simp [I.val]) rfl ?_
  conv => cbv
  refine callF_frame (inL_lx A3 x i3 O3 true hi3 hO3 (by omega) ((decide_eq_true h3).symm)) [] rfl trivial rfl rfl (fun r h' n' ⟨e1,e2,e3⟩ => ?_)
  subst e1 e2 e3
  conv => cbv
  refine callF_frame (inL_lx A1 x i1 O1 true hi1 hO1 (by omega) ((decide_eq_true h1).symm)) [] rfl trivial rfl rfl (fun r h' n' ⟨e1,e2,e3⟩ => ?_)
  subst e1 e2 e3
  conv => cbv
  refine Fit.mk (by show (-9223372036854775808 : Int) ≤ i + 1; omega) (by show i + 1 ≤ 9223372036854775807; omega) fun ix hix => ?_
  have hix : ix = i + 1 := hix
  conv => cbv
  refine Again.mk k' _ (Nat.lt_succ_self _) (Re.at [(0,0),(1,1),(2,2),(3,3),(4,4),(5,5),(6,6),(7,7),(8,8)] []) ⟨ix,rfl,by omega,by omega,by omega⟩
 have h4 : x ∈ A4 := (hAm4 x).2 ⟨hxo,fun q => h1 ((hAm1 x).2 q)⟩
 refine callF_frame (inL_lx A1 x i1 O1 false hi1 hO1 (by omega) ((decide_eq_false h1).symm)) [] rfl trivial rfl rfl (fun r h' n' ⟨e1,e2,e3⟩ => ?_)
 subst e1 e2 e3
 conv => cbv
 refine callF_frame (inL_lx A4 x i4 O4 true hi4 hO4 (by omega) ((decide_eq_true h4).symm)) [] rfl trivial rfl rfl (fun r h' n' ⟨e1,e2,e3⟩ => ?_)
 subst e1 e2 e3
 conv => cbv
 refine Need.mk (show 0 ≤ i ∧ i < mo by omega) ?_
 conv => cbv
 refine Cell.at i _ hEx (by simp [I.val]) rfl ?_
 conv => cbv
 refine Need.mk (show 0 ≤ i ∧ i < mo by omega) ?_
 conv => cbv
 refine Cell.at i _ hEx (by simp [I.val]) rfl ?_
 conv => cbv
 by_cases h2 : x ∈ A2
 ·have h3 : x ∈ A3 := (hAm3 x).2 (Rch.app.2 (.inr ((hAm2 x).1 h2)))
  refine callF_frame (inL_lx A3 x i3 O3 true hi3 hO3 (by omega) ((decide_eq_true h3).symm)) [] rfl trivial rfl rfl (fun r h' n' ⟨e1,e2,e3⟩ => ?_)
  subst e1 e2 e3
  conv => cbv
  refine callF_frame (inL_lx A1 x i1 O1 false hi1 hO1 (by omega) ((decide_eq_false h1).symm)) [] rfl trivial rfl rfl (fun r h' n' ⟨e1,e2,e3⟩ => ?_)
  subst e1 e2 e3
  conv => cbv
  refine Need.mk (show 0 ≤ i ∧ i < mo by omega) ?_
  conv => cbv
  refine Cell.at i _ hEx (by simp [I.val]) rfl ?_
  conv => cbv
  refine callF_frame (inL_lx A2 x i2 O2 true hi2 hO2 (by omega) ((decide_eq_true h2).symm)) [] rfl trivial rfl rfl (fun r h' n' ⟨e1,e2,e3⟩ => ?_)
  subst e1 e2 e3
  conv => cbv
  refine Fit.mk (by show (-9223372036854775808 : Int) ≤ i + 1; omega) (by show i + 1 ≤ 9223372036854775807; omega) fun ix hix => ?_
  have hix : ix = i + 1 := hix
  conv => cbv
  refine Again.mk k' _ (Nat.lt_succ_self _) (Re.at [(0,0),(1,1),(2,2),(3,3),(4,4),(5,5),(6,6),(7,7),(8,8)] []) ⟨ix,rfl,by omega,by omega,by omega⟩
 have h3 : ¬ x ∈ A3 := fun q => by
  rcases Rch.app.1 ((hAm3 x).1 q) with w | w
  ·exact h1 ((hAm1 x).2 w)
  ·exact h2 ((hAm2 x).2 w)
 refine callF_frame (inL_lx A3 x i3 O3 false hi3 hO3 (by omega) ((decide_eq_false h3).symm)) [] rfl trivial rfl rfl (fun r h' n' ⟨e1,e2,e3⟩ => ?_)
 subst e1 e2 e3
 conv => cbv
 refine callF_frame (inL_lx A1 x i1 O1 false hi1 hO1 (by omega) ((decide_eq_false h1).symm)) [] rfl trivial rfl rfl (fun r h' n' ⟨e1,e2,e3⟩ => ?_)
 subst e1 e2 e3
 conv => cbv
 refine Need.mk (show 0 ≤ i ∧ i < mo by omega) ?_
 conv => cbv
 refine Cell.at i _ hEx (by simp [I.val]) rfl ?_
 conv => cbv
 refine callF_frame (inL_lx A2 x i2 O2 false hi2 hO2 (by omega) ((decide_eq_false h2).symm)) [] rfl trivial rfl rfl (fun r h' n' ⟨e1,e2,e3⟩ => ?_)
 subst e1 e2 e3
 conv => cbv
 refine Fit.mk (by show (-9223372036854775808 : Int) ≤ i + 1; omega) (by show i + 1 ≤ 9223372036854775807; omega) fun ix hix => ?_
 have hix : ix = i + 1 := hix
 conv => cbv
 refine Again.mk k' _ (Nat.lt_succ_self _) (Re.at [(0,0),(1,1),(2,2),(3,3),(4,4),(5,5),(6,6),(7,7),(8,8)] []) ⟨ix,rfl,by omega,by omega,by omega⟩
end Go.Proofs.YtjfdfbpgckilpaaGreatDoor
