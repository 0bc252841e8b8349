/-
  Layer 12: RingApart.
-/
import Derived.Test.YtkhfgngcoiablaaGreatDoorBg
import Derived.Test.YtkhfgngcoiablaaGreatDoorBh
import Derived.Test.YtkhfgngcoiablaaGreatDoorBf
namespace Go.Proofs.YtkhfgngcoiablaaGreatDoor
open Go Go.LX
set_option maxRecDepth 100000
set_option linter.unusedVariables false
set_option linter.unusedSimpArgs false
set_option maxHeartbeats 32000000
theorem chans2 {chs : List Int} {nc : Int} (hn : nc = (chs.length : Int)) (h1 : nc = 2) : ∃ c d,chs = [c,d] := by
 match chs with
 | [c,d] => exact ⟨c,d,rfl⟩
 | [] => simp at hn; omega
 | [_] => simp at hn; omega
 | _ :: _ :: _ :: _ => simp at hn; omega
theorem ringApart_law (o : Unit → Obj) (ho : IsPow o) (words turns : List Int) (mw mt : Int) (WL TL : List PV) (hWL : WL = ipv words) (hTL : TL = ipv turns) (hmw : mw = words.length) (hmt : mt = turns.length) (hwb : ∀ x ∈ words,-9223372036854775808 ≤ x ∧ x ≤ 9223372036854775807) (htb : ∀ x ∈ turns,-9223372036854775808 ≤ x ∧ x ≤ 9223372036854775807) : CallF (fun _ => Tryz.prog) 11 [.p (.vsl (.sym mw) true WL),.p (.vsl (.sym mt) true TL)] [(0,.fix 0 o)] 1 (fun r _ _ => r = .p (.bool true)) := by
 refine callF_of_bodyB tok Tryz.func11 (by kernel_rfl) rfl rfl rfl [9] ?_; conv => cbv
 refine CallF.re (args0 := [.p (.vsl (.sym 2) true [.int .i64 (.sym 3),.int .i64 (.sym 2)]),i6 1]) (h' := [(0,.fix 0 o)]) (Re.at [(0,0)] []) (cfr (made12_lx o ho [3,2] 2 1 [.int .i64 (.sym 3),.int .i64 (.sym 2)] rfl rfl) [(0,0)] (fun r h' n' hrr => ?_))
 obtain ⟨N,W,C,R,ws,vs,L,D,Q,z,P,B,V,Qr,M,CS,GS,chs,bufs,grs,nc,ng,e1,e2,e3,S,hB,hY,hcs,hgs,hnc,hng,hnm,hn1,hn4,hngo,hcnt,hR,hW⟩ := hrr
 subst e1 e2 e3
 conv => cbv
 refine cfr (awake12_lx o ho) [(0,0)] (fun r h' n' ⟨e1,e2,e3⟩ => ?_)
 subst e1 e2 e3
 conv => cbv
 have hnc1 : nc = 2 := by omega
 obtain ⟨c,d,hcc⟩ := chans2 hnc hnc1
 have hc0 : chs[0]? = some c := by rw [hcc]; rfl
 have hd0 : chs[1]? = some d := by rw [hcc]; rfl
 obtain ⟨b,hb0,hBC⟩ := hB.ch 0 c 3 hc0 rfl
 obtain ⟨b2,hb2,hBD⟩ := hB.ch 1 d 2 hd0 rfl
 have hMc := hBC.c
 have hMd := hBD.c
 rw [capW_small (by decide)] at hMc hMd
 have hMb : M b = some (2,[0,0,0]) := by
  rcases hBC.b with q | ⟨_,_,q⟩
  ·rw [capW_small (by decide)] at q; omega
  ·rw [capW_small (by decide)] at q; exact q
 have hMb2 : M b2 = some (2,[0,0]) := by
  rcases hBD.b with q | ⟨_,_,q⟩
  ·rw [capW_small (by decide)] at q; omega
  ·rw [capW_small (by decide)] at q; exact q
 have hcd : c ≠ d := fun q => by
  have := hB.nd
  rw [hcc,q] at this
  simp at this
 have hbb : b ≠ b2 := fun q => by rw [q,hMb2] at hMb; cases hMb
 have hcb : c ≠ b := fun q => by rw [q,hMb] at hMc; cases hMc
 have hcb2 : c ≠ b2 := fun q => by rw [q,hMb2] at hMc; cases hMc
 have hdb : d ≠ b := fun q => by rw [q,hMb] at hMd; cases hMd
 have hdb2 : d ≠ b2 := fun q => by rw [q,hMb2] at hMd; cases hMd
 have hRa0 := Ring1.nil hMc (.inr hMb) (by decide)
 have hRb0 := Ring1.nil hMd (.inr hMb2) (by decide)
 have hh := S.h
 have hc := S.c
 have hmw0 : 0 ≤ mw := by omega
 have hmt0 : 0 ≤ mt := by omega
 clear S hB hY hMc hMd hMb hMb2 hBC hBD
 refine LoopF.mk (fun kk s => ∃ (i : Int) (oa na sa ob nb sb : Int) (wa wb : List Int) (LA LB : List PV) (ws : List Int) (D : List PV) (M : Hp),s = ⟨.p (.vsl (.sym mw) true WL) :: .p (.vsl (.sym mt) true TL) :: (undefs 3 ++ .ptr 17 (.lit 0) :: .ptr 20 (.lit 0) :: .p (.int .i64 (.sym i)) :: undefs 156),[hpA 2 3 7 8 3 W 0 0 0,hpB 3 4 6 3 W,hpC 4 5 233 2 N,hpP 5 L,hpP 6 D,hpF 7 z false,hpP 8 Q,hpR 9 10 15 3 W 16 0 0 0,hpB 10 11 14 3 W,hpD 11 12 3 1 N 13 231 8 N,hpP 12 P,hpP 13 B,hpP 14 V,hpP 15 Qr,(16,.mix [.p (.vsl (.sym 0) true []),.p (.bool false)]),(0,.fix 0 o),(17,.mix [.ptr 2 (.lit 0),.ptr 9 (.lit 0),.sl 18 3 1 (.lit 0) (.sym nc),.sl 19 3 1 (.lit 0) (.sym ng)]),hpP 18 CS,hpP 19 GS,(20,.mix [.sl 21 3 1 (.sym oa) (.sym na),.sl 22 3 1 (.sym ob) (.sym nb)]),hpP 21 LA,hpP 22 LB],23⟩ ∧ 0 ≤ i ∧ i ≤ 40 ∧ kk = (40 - i).toNat ∧ na = wa.length ∧ 0 ≤ oa ∧ (LA.length : Int) = oa + na ∧ LA.drop oa.toNat = ipv wa ∧ oa ≤ i ∧ nb = wb.length ∧ 0 ≤ ob ∧ (LB.length : Int) = ob + nb ∧ LB.drop ob.toNat = ipv wb ∧ ob ≤ i ∧ HM R ws C [] N W L D Q z ∧ Cont R ws M ∧ Ring1 M c b 3 sa wa ∧ Ring1 M d b2 2 sb wb) 40 _
  (Re.at [(0,0),(2,2),(3,3),(4,4),(5,5),(6,6),(7,7),(8,8),(9,9),(10,10),(11,11),(12,12),(13,13),(14,14),(15,15),(16,16),(17,17),(18,18),(19,19),(20,20)] [21,22]) ⟨0,0,0,0,0,0,0,[],[],[],[],ws,D,M,rfl,by omega,by omega,by omega,rfl,by omega,rfl,rfl,by omega,rfl,by omega,rfl,rfl,by omega,hh,hc,hRa0,hRb0⟩ ?_
 clear hh hc hRa0 hRb0
 rintro kk s ⟨i,oa,na,sa,ob,nb,sb,wa,wb,LA,LB,ws,D,M,rfl,hi0,hi1,hkk,hna,hoa,hLa,hLda,hoa1,hnb,hob,hLb,hLdb,hob1,hh,hc,hRa,hRb⟩
 have hkk : kk = (40 - i).toNat := hkk
 conv => cbv
 refine Br.mk (fun gi => ?_) (fun gi => ?_)
 ·have gi : i < mt := gi
  conv => cbv
  refine Br.mk (fun gw => ?_) (fun gw => ?_)
  ·have gw : i < mw := gw
   conv => cbv
   refine Br.mk (fun g6 => ?_) (fun g6 => ?_)
   ·have g6 : i < 40 := g6
    obtain ⟨tv,htv⟩ : ∃ a,turns[i.toNat]? = some a := ⟨_,List.getElem?_eq_getElem (by omega)⟩
    have hcellt : TL[i.toNat]? = some (.int .i64 (.sym tv)) := by rw [hTL]; exact ipv_get htv
    obtain ⟨wv,hwv⟩ : ∃ a,words[i.toNat]? = some a := ⟨_,List.getElem?_eq_getElem (by omega)⟩
    have hcell : WL[i.toNat]? = some (.int .i64 (.sym wv)) := by rw [hWL]; exact ipv_get hwv
    have hwvb := hwb wv (List.mem_of_getElem? hwv)
    have hl3 := hRa.l
    have hl2 := hRb.l
    conv => cbv
    refine Need.mk (show 0 ≤ i ∧ i < mt from ⟨hi0,gi⟩) ?_
    conv => cbv
    refine Cell.at i _ hcellt (by simp [I.val]) rfl ?_
    conv => cbv
    refine Fit.wrap fun xn hxn => ?_
    have hxn : xn = IntKind.u64.wrap tv := hxn
    have hyn : 0 ≤ xn := by rw [hxn]; simp [IntKind.wrap,IntKind.bits,IntKind.signed]; omega
    clear hxn
    conv => cbv
    refine Sum.mk fun tn htn => ?_
    have htn : tn = xn % 2 := (show tn = xn.tmod 2 from htn).trans (Int.tmod_eq_emod_of_nonneg hyn)
    conv => cbv
    refine Fit.mk (by show (-9223372036854775808 : Int) ≤ tn; omega) (by show tn ≤ 9223372036854775807; omega) fun k hk => ?_
    have hk : k = tn := hk
    have hk0 : 0 ≤ k := by omega
    have hk1 : k < 2 := by omega
    clear hk htn hyn
    conv => cbv
    refine JoinF.mk (fun s => ∃ (oa na sa ob nb sb : Int) (wa wb : List Int) (LA LB : List PV) (ws : List Int) (D : List PV) (M : Hp),s = ⟨.p (.vsl (.sym mw) true WL) :: .p (.vsl (.sym mt) true TL) :: (undefs 3 ++ .ptr 17 (.lit 0) :: .ptr 20 (.lit 0) :: .p (.int .i64 (.sym i)) :: undefs 156),[hpA 2 3 7 8 3 W 0 0 0,hpB 3 4 6 3 W,hpC 4 5 233 2 N,hpP 5 L,hpP 6 D,hpF 7 z false,hpP 8 Q,hpR 9 10 15 3 W 16 0 0 0,hpB 10 11 14 3 W,hpD 11 12 3 1 N 13 231 8 N,hpP 12 P,hpP 13 B,hpP 14 V,hpP 15 Qr,(16,.mix [.p (.vsl (.sym 0) true []),.p (.bool false)]),(0,.fix 0 o),(17,.mix [.ptr 2 (.lit 0),.ptr 9 (.lit 0),.sl 18 3 1 (.lit 0) (.sym nc),.sl 19 3 1 (.lit 0) (.sym ng)]),hpP 18 CS,hpP 19 GS,(20,.mix [.sl 21 3 1 (.sym oa) (.sym na),.sl 22 3 1 (.sym ob) (.sym nb)]),hpP 21 LA,hpP 22 LB],23⟩ ∧ na = wa.length ∧ 0 ≤ oa ∧ (LA.length : Int) = oa + na ∧ LA.drop oa.toNat = ipv wa ∧ oa ≤ i + 1 ∧ nb = wb.length ∧ 0 ≤ ob ∧ (LB.length : Int) = ob + nb ∧ LB.drop ob.toNat = ipv wb ∧ ob ≤ i + 1 ∧ HM R ws C [] N W L D Q z ∧ Cont R ws M ∧ Ring1 M c b 3 sa wa ∧ Ring1 M d b2 2 sb wb) ?_ ?_
    ·conv => cbv
     refine Need.mk (show 0 ≤ i ∧ i < mt from ⟨hi0,gi⟩) ?_
     conv => cbv
     refine Cell.at i _ hcellt (by simp [I.val]) rfl ?_
     conv => cbv
     refine Sum.mk fun tm htm => ?_
     conv => cbv
     refine Br.mk (fun gt => ?_) (fun gt => ?_)
     ·have gt : tm = 0 := gt
      conv => cbv
      refine drawn_sound tok (by kernel_rfl) [(11,[])] [0,1,2,3,4,5,6,7,8,9,10,11,12,13,14,15,16] (by kernel_rfl) ?_; conv => cbv
      rcases (by omega : k = 0 ∨ k = 1) with hk | hk
      ·conv => cbv
       refine Need.mk (show 0 ≤ k ∧ k < nc by omega) ?_
       conv => cbv
       refine Cell.at k _ (show CS[k.toNat]? = some (.int .i64 (.sym c)) by rw [hcs,hk]; exact ipv_get hc0) (by simp [I.val]) rfl ?_
       conv => cbv
       refine CallF.le (args0 := [.ptr 2 (.lit 0),i6 c]) (cfr (ringTakeX_lx R ws C [] N W 0 0 0 L D Q z false hh M hc o ho rfl c b 3 sa na wa hRa hna) [(0,2),(1,3),(2,4),(3,5),(4,6),(5,7),(6,8),(7,0)] (fun r h' n' hrr => ?_)) (by simp [ales,ale,pvle,I.val])
       obtain ⟨v,e,ws1,D1,M1,e1,e2,e3,hh1,hc1,hf1,hres⟩ := hrr
       subst e1 e2 e3
       conv => cbv
       rcases hres with ⟨q1,q2,st2,tl,hwl,hR2⟩ | ⟨q1,q2,q3,hwl,hR2⟩
       ·have hcellL : LA[oa.toNat]? = some (.int .i64 (.sym v)) := by
         have : (LA.drop oa.toNat)[0]? = some (.int .i64 (.sym v)) := by rw [hLda,hwl]; rfl
         rw [List.getElem?_drop] at this
         exact this
        have hlt : wa.length = tl.length + 1 := by rw [hwl]; rfl
        have hLl' : ((LA.length : Nat) : Int) = oa + na := hLa
        have hnw' : na = ((wa.length : Nat) : Int) := hna
        refine Br.yes (show e = 0 from q2) ?_
        conv => cbv
        refine Need.mk (show 0 ≤ k ∧ k < 2 by omega) ?_
        conv => cbv
        refine WhichF.mk 0 (show k = 0 from hk) ?_
        conv => cbv
        refine Br.yes (show 0 < na from q1) ?_
        conv => cbv
        refine Br.yes (show e = 0 from q2) ?_
        conv => cbv
        refine Need.mk (show 0 ≤ k ∧ k < 2 by omega) ?_
        conv => cbv
        refine WhichF.mk 0 (show k = 0 from hk) ?_
        conv => cbv
        refine Need.mk (show (0 : Int) ≤ 0 ∧ 0 < na by omega) ?_
        conv => cbv
        refine Cell.mk _ (show LA[(oa + (0 : Nat)).toNat]? = _ by rw [show oa + ((0 : Nat) : Int) = oa by simp]; exact hcellL) ?_
        conv => cbv
        refine Br.no (show ¬ ¬ (v = v) from fun q => q rfl) ?_
        conv => cbv
        refine Br.yes (show e = 0 from q2) ?_
        conv => cbv
        refine Need.mk (show 0 ≤ k ∧ k < 2 by omega) ?_
        conv => cbv
        refine WhichF.mk 0 (show k = 0 from hk) ?_
        conv => cbv
        refine Room.new (show (0 : Int) ≤ 1 ∧ 1 ≤ na by omega) ?_
        conv => cbv
        refine Sum.mk fun o2 ho2 => ?_
        have ho2 : o2 = oa + 1 := ho2
        conv => cbv
        refine Sum.mk fun n2 hn2 => ?_
        have hn2 : n2 = na - 1 := hn2
        conv => cbv
        refine Need.mk (show 0 ≤ k ∧ k < 2 by omega) ?_
        conv => cbv
        refine WhichF.mk 0 (show k = 0 from hk) ?_
        conv => cbv
        refine Joined.mk _ (Re.at [(0,0),(2,2),(3,3),(4,4),(5,5),(6,6),(7,7),(8,8),(9,9),(10,10),(11,11),(12,12),(13,13),(14,14),(15,15),(16,16),(17,17),(18,18),(19,19),(20,20),(21,21),(22,22)] []) ⟨o2,n2,st2,ob,nb,sb,tl,wb,LA,LB,ws1,D1,M1,rfl,(show n2 = ((tl.length : Nat) : Int) by omega),by omega,(show ((LA.length : Nat) : Int) = o2 + n2 by omega),by rw [show o2.toNat = oa.toNat + 1 by omega,← List.drop_drop,hLda,hwl]; rfl,by omega,hnb,hob,hLb,hLdb,by omega,hh1,hc1,hR2,hRb.other hf1 hcd.symm hdb (.inr ⟨hcb2.symm,hbb.symm⟩)⟩
       ·refine Br.no (show ¬ e = 0 by omega) ?_
        conv => cbv
        refine Need.mk (show 0 ≤ k ∧ k < 2 by omega) ?_
        conv => cbv
        refine WhichF.mk 0 (show k = 0 from hk) ?_
        conv => cbv
        refine Br.no (show ¬ 0 < na from q1) ?_
        conv => cbv
        refine Br.no (show ¬ e = 0 by omega) ?_
        conv => cbv
        refine Br.no (show ¬ e = 0 by omega) ?_
        conv => cbv
        refine Joined.mk _ (Re.at [(0,0),(2,2),(3,3),(4,4),(5,5),(6,6),(7,7),(8,8),(9,9),(10,10),(11,11),(12,12),(13,13),(14,14),(15,15),(16,16),(17,17),(18,18),(19,19),(20,20),(21,21),(22,22)] []) ⟨oa,na,sa,ob,nb,sb,wa,wb,LA,LB,ws1,D1,M1,rfl,hna,hoa,hLa,hLda,by omega,hnb,hob,hLb,hLdb,by omega,hh1,hc1,hR2,hRb.other hf1 hcd.symm hdb (.inr ⟨hcb2.symm,hbb.symm⟩)⟩
      ·conv => cbv
       refine Need.mk (show 0 ≤ k ∧ k < nc by omega) ?_
       conv => cbv
       refine Cell.at k _ (show CS[k.toNat]? = some (.int .i64 (.sym d)) by rw [hcs,hk]; exact ipv_get hd0) (by simp [I.val]) rfl ?_
       conv => cbv
       refine CallF.le (args0 := [.ptr 2 (.lit 0),i6 d]) (cfr (ringTakeX_lx R ws C [] N W 0 0 0 L D Q z false hh M hc o ho rfl d b2 2 sb nb wb hRb hnb) [(0,2),(1,3),(2,4),(3,5),(4,6),(5,7),(6,8),(7,0)] (fun r h' n' hrr => ?_)) (by simp [ales,ale,pvle,I.val])
       obtain ⟨v,e,ws1,D1,M1,e1,e2,e3,hh1,hc1,hf1,hres⟩ := hrr
       subst e1 e2 e3
       conv => cbv
       rcases hres with ⟨q1,q2,st2,tl,hwl,hR2⟩ | ⟨q1,q2,q3,hwl,hR2⟩
       ·have hcellL : LB[ob.toNat]? = some (.int .i64 (.sym v)) := by
         have : (LB.drop ob.toNat)[0]? = some (.int .i64 (.sym v)) := by rw [hLdb,hwl]; rfl
         rw [List.getElem?_drop] at this
         exact this
        have hlt : wb.length = tl.length + 1 := by rw [hwl]; rfl
        have hLl' : ((LB.length : Nat) : Int) = ob + nb := hLb
        have hnw' : nb = ((wb.length : Nat) : Int) := hnb
        refine Br.yes (show e = 0 from q2) ?_
        conv => cbv
        refine Need.mk (show 0 ≤ k ∧ k < 2 by omega) ?_
        conv => cbv
        refine WhichF.mk 1 (show k = 1 from hk) ?_
        conv => cbv
        refine Br.yes (show 0 < nb from q1) ?_
        conv => cbv
        refine Br.yes (show e = 0 from q2) ?_
        conv => cbv
        refine Need.mk (show 0 ≤ k ∧ k < 2 by omega) ?_
        conv => cbv
        refine WhichF.mk 1 (show k = 1 from hk) ?_
        conv => cbv
        refine Need.mk (show (0 : Int) ≤ 0 ∧ 0 < nb by omega) ?_
        conv => cbv
        refine Cell.mk _ (show LB[(ob + (0 : Nat)).toNat]? = _ by rw [show ob + ((0 : Nat) : Int) = ob by simp]; exact hcellL) ?_
        conv => cbv
        refine Br.no (show ¬ ¬ (v = v) from fun q => q rfl) ?_
        conv => cbv
        refine Br.yes (show e = 0 from q2) ?_
        conv => cbv
        refine Need.mk (show 0 ≤ k ∧ k < 2 by omega) ?_
        conv => cbv
        refine WhichF.mk 1 (show k = 1 from hk) ?_
        conv => cbv
        refine Room.new (show (0 : Int) ≤ 1 ∧ 1 ≤ nb by omega) ?_
        conv => cbv
        refine Sum.mk fun o2 ho2 => ?_
        have ho2 : o2 = ob + 1 := ho2
        conv => cbv
        refine Sum.mk fun n2 hn2 => ?_
        have hn2 : n2 = nb - 1 := hn2
        conv => cbv
        refine Need.mk (show 0 ≤ k ∧ k < 2 by omega) ?_
        conv => cbv
        refine WhichF.mk 1 (show k = 1 from hk) ?_
        conv => cbv
        refine Joined.mk _ (Re.at [(0,0),(2,2),(3,3),(4,4),(5,5),(6,6),(7,7),(8,8),(9,9),(10,10),(11,11),(12,12),(13,13),(14,14),(15,15),(16,16),(17,17),(18,18),(19,19),(20,20),(21,21),(22,22)] []) ⟨oa,na,sa,o2,n2,st2,wa,tl,LA,LB,ws1,D1,M1,rfl,hna,hoa,hLa,hLda,by omega,(show n2 = ((tl.length : Nat) : Int) by omega),by omega,(show ((LB.length : Nat) : Int) = o2 + n2 by omega),by rw [show o2.toNat = ob.toNat + 1 by omega,← List.drop_drop,hLdb,hwl]; rfl,by omega,hh1,hc1,hRa.other hf1 hcd hcb2 (.inr ⟨hdb.symm,hbb⟩),hR2⟩
       ·refine Br.no (show ¬ e = 0 by omega) ?_
        conv => cbv
        refine Need.mk (show 0 ≤ k ∧ k < 2 by omega) ?_
        conv => cbv
        refine WhichF.mk 1 (show k = 1 from hk) ?_
        conv => cbv
        refine Br.no (show ¬ 0 < nb from q1) ?_
        conv => cbv
        refine Br.no (show ¬ e = 0 by omega) ?_
        conv => cbv
        refine Br.no (show ¬ e = 0 by omega) ?_
        conv => cbv
        refine Joined.mk _ (Re.at [(0,0),(2,2),(3,3),(4,4),(5,5),(6,6),(7,7),(8,8),(9,9),(10,10),(11,11),(12,12),(13,13),(14,14),(15,15),(16,16),(17,17),(18,18),(19,19),(20,20),(21,21),(22,22)] []) ⟨oa,na,sa,ob,nb,sb,wa,wb,LA,LB,ws1,D1,M1,rfl,hna,hoa,hLa,hLda,by omega,hnb,hob,hLb,hLdb,by omega,hh1,hc1,hRa.other hf1 hcd hcb2 (.inr ⟨hdb.symm,hbb⟩),hR2⟩
     ·have gt : ¬ tm = 0 := gt
      conv => cbv
      refine drawn_sound tok (by kernel_rfl) [(15,[])] [0,1,2,3,4,5,6,7,8,9,10,11,12,13,14,15,16] (by kernel_rfl) ?_; conv => cbv
      rcases (by omega : k = 0 ∨ k = 1) with hk | hk
      ·conv => cbv
       refine Need.mk (show 0 ≤ k ∧ k < nc by omega) ?_
       conv => cbv
       refine Cell.at k _ (show CS[k.toNat]? = some (.int .i64 (.sym c)) by rw [hcs,hk]; exact ipv_get hc0) (by simp [I.val]) rfl ?_
       conv => cbv
       refine Need.mk (show 0 ≤ i ∧ i < mw from ⟨hi0,gw⟩) ?_
       conv => cbv
       refine Cell.at i _ hcell (by simp [I.val]) rfl ?_
       conv => cbv
       refine CallF.le (args0 := [.ptr 2 (.lit 0),i6 c,i6 wv]) (cfr (ringPutX_lx R ws C [] N W 0 0 0 L D Q z false hh M hc o ho rfl c b 3 sa wv na wa hwvb hRa hna) [(0,2),(1,3),(2,4),(3,5),(4,6),(5,7),(6,8),(7,0)] (fun r h' n' hrr => ?_)) (by simp [ales,ale,pvle,I.val])
       obtain ⟨e,ws1,D1,M1,e1,e2,e3,hh1,hc1,hf1,hres⟩ := hrr
       subst e1 e2 e3
       conv => cbv
       rcases hres with ⟨q1,q2,hR2⟩ | ⟨q1,q2,hR2⟩
       ·refine Br.yes (show e = 0 from q2) ?_
        conv => cbv
        refine drawn_sound tok (by kernel_rfl) [(8,[3,2,1,0]),(9,[0]),(11,[])] [0,1,2,3,4,5,6,7,8,9,10,11] (by kernel_rfl) ?_; conv => cbv
        refine Need.mk (show 0 ≤ k ∧ k < 2 by omega) ?_
        conv => cbv
        refine WhichF.mk 0 (show k = 0 from hk) ?_
        conv => cbv
        refine Need.mk (show 0 ≤ i ∧ i < mw from ⟨hi0,gw⟩) ?_
        conv => cbv
        refine Cell.at i _ hcell (by simp [I.val]) rfl ?_
        conv => cbv
        refine Room.new rfl ?_
        conv => cbv
        refine Need.mk (show 0 ≤ oa ∧ 0 ≤ na ∧ (LA.length : Int) = oa + na * 1 ∧ (na + 1) * 8 ≤ 140737488355328 ∧ na + 1 ≤ 9223372036854775807 by omega) ?_
        conv => cbv
        refine ⟨?_,?_⟩
        ·refine Upd.mk fun L2 hL2 => ?_
         have hL2 : L2 = LA ++ [.int .i64 (.sym wv)] := hL2
         conv => cbv
         refine Sum.mk fun n2 hn2 => ?_
         have hn2 : n2 = na + 1 := hn2
         conv => cbv
         refine Need.mk (show 0 ≤ k ∧ k < 2 by omega) ?_
         conv => cbv
         refine WhichF.mk 0 (show k = 0 from hk) ?_
         conv => cbv
         refine Joined.mk _ (Re.at [(0,0),(2,2),(3,3),(4,4),(5,5),(6,6),(7,7),(8,8),(9,9),(10,10),(11,11),(12,12),(13,13),(14,14),(15,15),(16,16),(17,17),(18,18),(19,19),(20,20),(21,21),(22,22)] []) ⟨oa,n2,sa,ob,nb,sb,(wa ++ [wv]),wb,L2,LB,ws1,D1,M1,rfl,by rw [List.length_append,hn2,hna]; rfl,by omega,by rw [hL2,List.length_append,List.length_singleton]; push_cast; omega,by rw [hL2,List.drop_append_of_le_length (by omega),hLda,← ipv_app]; rfl,by omega,hnb,hob,hLb,hLdb,by omega,hh1,hc1,hR2,hRb.other hf1 hcd.symm hdb (.inr ⟨hcb2.symm,hbb.symm⟩)⟩
        ·refine Upd.mk fun L2 hL2 => ?_
         have hL2 : L2 = LA.drop oa.toNat ++ [.int .i64 (.sym wv)] := hL2
         conv => cbv
         refine Sum.mk fun n2 hn2 => ?_
         have hn2 : n2 = na + 1 := hn2
         conv => cbv
         refine Need.mk (show 0 ≤ k ∧ k < 2 by omega) ?_
         conv => cbv
         refine WhichF.mk 0 (show k = 0 from hk) ?_
         conv => cbv
         have hL3 : L2 = ipv (wa ++ [wv]) := by rw [hL2,hLda,← ipv_app]; rfl
         refine Joined.mk _ (Re.at [(0,0),(2,2),(3,3),(4,4),(5,5),(6,6),(7,7),(8,8),(9,9),(10,10),(11,11),(12,12),(13,13),(14,14),(15,15),(16,16),(17,17),(18,18),(19,19),(20,20),(24,21),(22,22)] []) ⟨0,n2,sa,ob,nb,sb,(wa ++ [wv]),wb,L2,LB,ws1,D1,M1,rfl,by rw [List.length_append,hn2,hna]; rfl,by omega,by rw [hL3,ipv_length,List.length_append,List.length_singleton]; push_cast; omega,by rw [hL3]; rfl,by omega,hnb,hob,hLb,hLdb,by omega,hh1,hc1,hR2,hRb.other hf1 hcd.symm hdb (.inr ⟨hcb2.symm,hbb.symm⟩)⟩
       ·refine Br.no (show ¬ e = 0 by omega) ?_
        conv => cbv
        refine Joined.mk _ (Re.at [(0,0),(2,2),(3,3),(4,4),(5,5),(6,6),(7,7),(8,8),(9,9),(10,10),(11,11),(12,12),(13,13),(14,14),(15,15),(16,16),(17,17),(18,18),(19,19),(20,20),(21,21),(22,22)] []) ⟨oa,na,sa,ob,nb,sb,wa,wb,LA,LB,ws1,D1,M1,rfl,hna,hoa,hLa,hLda,by omega,hnb,hob,hLb,hLdb,by omega,hh1,hc1,hR2,hRb.other hf1 hcd.symm hdb (.inr ⟨hcb2.symm,hbb.symm⟩)⟩
      ·conv => cbv
       refine Need.mk (show 0 ≤ k ∧ k < nc by omega) ?_
       conv => cbv
       refine Cell.at k _ (show CS[k.toNat]? = some (.int .i64 (.sym d)) by rw [hcs,hk]; exact ipv_get hd0) (by simp [I.val]) rfl ?_
       conv => cbv
       refine Need.mk (show 0 ≤ i ∧ i < mw from ⟨hi0,gw⟩) ?_
       conv => cbv
       refine Cell.at i _ hcell (by simp [I.val]) rfl ?_
       conv => cbv
       refine CallF.le (args0 := [.ptr 2 (.lit 0),i6 d,i6 wv]) (cfr (ringPutX_lx R ws C [] N W 0 0 0 L D Q z false hh M hc o ho rfl d b2 2 sb wv nb wb hwvb hRb hnb) [(0,2),(1,3),(2,4),(3,5),(4,6),(5,7),(6,8),(7,0)] (fun r h' n' hrr => ?_)) (by simp [ales,ale,pvle,I.val])
       obtain ⟨e,ws1,D1,M1,e1,e2,e3,hh1,hc1,hf1,hres⟩ := hrr
       subst e1 e2 e3
       conv => cbv
       rcases hres with ⟨q1,q2,hR2⟩ | ⟨q1,q2,hR2⟩
       ·refine Br.yes (show e = 0 from q2) ?_
        conv => cbv
        refine drawn_sound tok (by kernel_rfl) [(8,[3,2,1,0]),(9,[0]),(11,[])] [0,1,2,3,4,5,6,7,8,9,10,11] (by kernel_rfl) ?_; conv => cbv
        refine Need.mk (show 0 ≤ k ∧ k < 2 by omega) ?_
        conv => cbv
        refine WhichF.mk 1 (show k = 1 from hk) ?_
        conv => cbv
        refine Need.mk (show 0 ≤ i ∧ i < mw from ⟨hi0,gw⟩) ?_
        conv => cbv
        refine Cell.at i _ hcell (by simp [I.val]) rfl ?_
        conv => cbv
        refine Room.new rfl ?_
        conv => cbv
        refine Need.mk (show 0 ≤ ob ∧ 0 ≤ nb ∧ (LB.length : Int) = ob + nb * 1 ∧ (nb + 1) * 8 ≤ 140737488355328 ∧ nb + 1 ≤ 9223372036854775807 by omega) ?_
        conv => cbv
        refine ⟨?_,?_⟩
        ·refine Upd.mk fun L2 hL2 => ?_
         have hL2 : L2 = LB ++ [.int .i64 (.sym wv)] := hL2
         conv => cbv
         refine Sum.mk fun n2 hn2 => ?_
         have hn2 : n2 = nb + 1 := hn2
         conv => cbv
         refine Need.mk (show 0 ≤ k ∧ k < 2 by omega) ?_
         conv => cbv
         refine WhichF.mk 1 (show k = 1 from hk) ?_
         conv => cbv
         refine Joined.mk _ (Re.at [(0,0),(2,2),(3,3),(4,4),(5,5),(6,6),(7,7),(8,8),(9,9),(10,10),(11,11),(12,12),(13,13),(14,14),(15,15),(16,16),(17,17),(18,18),(19,19),(20,20),(21,21),(22,22)] []) ⟨oa,na,sa,ob,n2,sb,wa,(wb ++ [wv]),LA,L2,ws1,D1,M1,rfl,hna,hoa,hLa,hLda,by omega,by rw [List.length_append,hn2,hnb]; rfl,by omega,by rw [hL2,List.length_append,List.length_singleton]; push_cast; omega,by rw [hL2,List.drop_append_of_le_length (by omega),hLdb,← ipv_app]; rfl,by omega,hh1,hc1,hRa.other hf1 hcd hcb2 (.inr ⟨hdb.symm,hbb⟩),hR2⟩
        ·refine Upd.mk fun L2 hL2 => ?_
         have hL2 : L2 = LB.drop ob.toNat ++ [.int .i64 (.sym wv)] := hL2
         conv => cbv
         refine Sum.mk fun n2 hn2 => ?_
         have hn2 : n2 = nb + 1 := hn2
         conv => cbv
         refine Need.mk (show 0 ≤ k ∧ k < 2 by omega) ?_
         conv => cbv
         refine WhichF.mk 1 (show k = 1 from hk) ?_
         conv => cbv
         have hL3 : L2 = ipv (wb ++ [wv]) := by rw [hL2,hLdb,← ipv_app]; rfl
         refine Joined.mk _ (Re.at [(0,0),(2,2),(3,3),(4,4),(5,5),(6,6),(7,7),(8,8),(9,9),(10,10),(11,11),(12,12),(13,13),(14,14),(15,15),(16,16),(17,17),(18,18),(19,19),(20,20),(21,21),(24,22)] []) ⟨oa,na,sa,0,n2,sb,wa,(wb ++ [wv]),LA,L2,ws1,D1,M1,rfl,hna,hoa,hLa,hLda,by omega,by rw [List.length_append,hn2,hnb]; rfl,by omega,by rw [hL3,ipv_length,List.length_append,List.length_singleton]; push_cast; omega,by rw [hL3]; rfl,by omega,hh1,hc1,hRa.other hf1 hcd hcb2 (.inr ⟨hdb.symm,hbb⟩),hR2⟩
       ·refine Br.no (show ¬ e = 0 by omega) ?_
        conv => cbv
        refine Joined.mk _ (Re.at [(0,0),(2,2),(3,3),(4,4),(5,5),(6,6),(7,7),(8,8),(9,9),(10,10),(11,11),(12,12),(13,13),(14,14),(15,15),(16,16),(17,17),(18,18),(19,19),(20,20),(21,21),(22,22)] []) ⟨oa,na,sa,ob,nb,sb,wa,wb,LA,LB,ws1,D1,M1,rfl,hna,hoa,hLa,hLda,by omega,hnb,hob,hLb,hLdb,by omega,hh1,hc1,hRa.other hf1 hcd hcb2 (.inr ⟨hdb.symm,hbb⟩),hR2⟩
    ·clear hh hc hRa hRb hLa hLb hLda hLdb hna hnb hoa hob hoa1 hob1 hl3 hl2
     rintro s ⟨oa,na,sa,ob,nb,sb,wa,wb,LA,LB,ws,D,M,rfl,hna,hoa,hLa,hLda,hoa1,hnb,hob,hLb,hLdb,hob1,hh,hc,hRa,hRb⟩
     have hl3 := hRa.l
     have hl2 := hRb.l
     conv => cbv
     refine drawn_sound tok (by kernel_rfl) [(21,[23,22]),(24,[]),(38,[40,39]),(41,[])] [0,1,2,3,4,5,6,7,8,9,10,11,12,13,14,15,16,17,18,19,20,22,23,21,24,25,26,27,28,29,30,31,32,33,34,35,36,37,39,40,38,41,42,43] (drawnOKF_ok (by kernel_rfl)) ?_; conv => cbv
     refine Need.mk (show (0 : Int) ≤ 0 ∧ (0 : Int) < 2 by omega) ?_
     conv => cbv
     refine Br.no (show ¬ (3 < na) from by omega) ?_
     conv => cbv
     refine Need.mk (show (0 : Int) ≤ 1 ∧ (1 : Int) < 2 by omega) ?_
     conv => cbv
     refine Br.no (show ¬ (2 < nb) from by omega) ?_
     conv => cbv
     refine Need.mk (show (0 : Int) ≤ 0 ∧ (0 : Int) < nc by omega) ?_
     conv => cbv
     refine Cell.at 0 _ (show CS[((0 : Int)).toNat]? = some (.int .i64 (.sym c)) by rw [hcs]; exact ipv_get hc0) (by simp [I.val]) rfl ?_
     conv => cbv
     refine Need.mk (show (0 : Int) ≤ 0 ∧ (0 : Int) < 2 by omega) ?_
     conv => cbv
     refine cfr (ringAllX_lx R ws C [] N W 0 0 0 L D Q z false hh M hc c b 3 sa wa hRa) [(0,2),(1,3),(2,4),(3,5),(4,6),(5,7),(6,8)] (fun r h' n' hrr => ?_)
     obtain ⟨m2,cells,e1,e2,e3,hm2,hcel⟩ := hrr
     subst e1 e2 e3
     conv => cbv
     obtain rfl : na = m2 := hna.trans hm2.symm
     refine callF_lend (plainE_true wa na cells (ipv wa) hm2 hcel rfl (by omega)) (by
      simp only [lends,lendV,hget,I.val]
      exact ⟨⟨trivial,_,_,rfl,.inl (by rw [Int.toNat_zero,List.drop_zero]; exact List.prefix_refl _)⟩,⟨trivial,_,_,rfl,.inl (by rw [hLda]; exact List.prefix_refl _)⟩,trivial⟩) (fun r h' n' ⟨e1,e2,e3⟩ => by subst e1 e2; exact ⟨trivial,trivial⟩) (fun r h' n' ⟨e1,e2,e3⟩ => ?_)
     subst e1 e2 e3
     conv => cbv
     refine Need.mk (show (0 : Int) ≤ 1 ∧ (1 : Int) < nc by omega) ?_
     conv => cbv
     refine Cell.at 1 _ (show CS[((1 : Int)).toNat]? = some (.int .i64 (.sym d)) by rw [hcs]; exact ipv_get hd0) (by simp [I.val]) rfl ?_
     conv => cbv
     refine Need.mk (show (0 : Int) ≤ 1 ∧ (1 : Int) < 2 by omega) ?_
     conv => cbv
     refine cfr (ringAllX_lx R ws C [] N W 0 0 0 L D Q z false hh M hc d b2 2 sb wb hRb) [(0,2),(1,3),(2,4),(3,5),(4,6),(5,7),(6,8)] (fun r h' n' hrr => ?_)
     obtain ⟨m2,cells,e1,e2,e3,hm2,hcel⟩ := hrr
     subst e1 e2 e3
     conv => cbv
     obtain rfl : nb = m2 := hnb.trans hm2.symm
     refine callF_lend (plainE_true wb nb cells (ipv wb) hm2 hcel rfl (by omega)) (by
      simp only [lends,lendV,hget,I.val]
      exact ⟨⟨trivial,_,_,rfl,.inl (by rw [Int.toNat_zero,List.drop_zero]; exact List.prefix_refl _)⟩,⟨trivial,_,_,rfl,.inl (by rw [hLdb]; exact List.prefix_refl _)⟩,trivial⟩) (fun r h' n' ⟨e1,e2,e3⟩ => by subst e1 e2; exact ⟨trivial,trivial⟩) (fun r h' n' ⟨e1,e2,e3⟩ => ?_)
     subst e1 e2 e3
     conv => cbv
     refine Fit.mk (by show (-9223372036854775808 : Int) ≤ i + 1; omega) (by show i + 1 ≤ 9223372036854775807; omega) fun i2 hi2 => ?_
     have hi2 : i2 = i + 1 := hi2
     conv => cbv
     refine Again.mk (40 - i2).toNat _ (by omega) (Re.at [(0,0),(2,2),(3,3),(4,4),(5,5),(6,6),(7,7),(8,8),(9,9),(10,10),(11,11),(12,12),(13,13),(14,14),(15,15),(16,16),(17,17),(18,18),(19,19),(20,20),(21,21),(22,22)] []) ⟨i2,oa,na,sa,ob,nb,sb,wa,wb,LA,LB,ws,D,M,rfl,by omega,by omega,rfl,hna,hoa,hLa,hLda,by omega,hnb,hob,hLb,hLdb,by omega,hh,hc,hRa,hRb⟩
   ·have g6 : ¬ i < 40 := g6
    conv => cbv
    refine RetF.mk [.p (.bool true)] [(0,.fix 0 o)] 1 (Re.at [(0,0)] []) rfl rfl
  ·have gw : ¬ i < mw := gw
   conv => cbv
   refine RetF.mk [.p (.bool true)] [(0,.fix 0 o)] 1 (Re.at [(0,0)] []) rfl rfl
 ·have gi : ¬ i < mt := gi
  conv => cbv
  refine RetF.mk [.p (.bool true)] [(0,.fix 0 o)] 1 (Re.at [(0,0)] []) rfl rfl
end Go.Proofs.YtkhfgngcoiablaaGreatDoor
