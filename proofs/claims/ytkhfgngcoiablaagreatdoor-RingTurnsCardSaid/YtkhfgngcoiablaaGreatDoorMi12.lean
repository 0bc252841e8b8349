/-
  Layer 12: RingTurns.
-/
import Derived.Test.YtkhfgngcoiablaaGreatDoorBg
import Derived.Test.YtkhfgngcoiablaaGreatDoorBh
import Derived.Test.YtkhfgngcoiablaaGreatDoorBf
namespace Go.Proofs.YtkhfgngcoiablaaGreatDoor
open Go Go.LX
set_option maxRecDepth 100000
set_option linter.unusedVariables false
set_option linter.unusedSimpArgs false
set_option maxHeartbeats 32000000
theorem ringTurns_law (o : Unit → Obj) (ho : IsPow o) (cap : Int) (words turns : List Int) (mw mt : Int) (WL TL : List PV) (hWL : WL = ipv words) (hTL : TL = ipv turns) (hmw : mw = words.length) (hmt : mt = turns.length) (hwb : ∀ x ∈ words,-9223372036854775808 ≤ x ∧ x ≤ 9223372036854775807) (htb : ∀ x ∈ turns,-9223372036854775808 ≤ x ∧ x ≤ 9223372036854775807) : CallF (fun _ => Tryz.prog) 10 [i6 cap,.p (.vsl (.sym mw) true WL),.p (.vsl (.sym mt) true TL)] [(0,.fix 0 o)] 1 (fun r _ _ => r = .p (.bool true)) := by
 refine callF_of_bodyB tok Tryz.func10 (by kernel_rfl) rfl rfl rfl [10] ?_; conv => cbv
 refine Fit.wrap fun xn hxn => ?_
 have hxn : xn = IntKind.u64.wrap cap := hxn
 have hyn : 0 ≤ xn := by rw [hxn]; simp [IntKind.wrap,IntKind.bits,IntKind.signed]; omega
 clear hxn
 conv => cbv
 refine Sum.mk fun tn htn => ?_
 have htn : tn = xn % 4 := (show tn = xn.tmod 4 from htn).trans (Int.tmod_eq_emod_of_nonneg hyn)
 conv => cbv
 refine Fit.mk (by show (-9223372036854775808 : Int) ≤ tn; omega) (by show tn ≤ 9223372036854775807; omega) fun u hu => ?_
 have hu : u = tn := hu
 have hu0 : 0 ≤ u := by omega
 have hu1 : u < 4 := by omega
 clear hu htn hyn
 conv => cbv
 refine CallF.re (args0 := [.p (.vsl (.sym 1) true [.int .i64 (.sym u)]),i6 1]) (h' := [(0,.fix 0 o)]) (Re.at [(0,0)] []) (cfr (made12_lx o ho [u] 1 1 [.int .i64 (.sym u)] rfl rfl) [(0,0)] (fun r h' n' hrr => ?_))
 obtain ⟨N,W,C,R,ws,vs,L0,D,Q,z,P,B,V,Qr,M,CS,GS,chs,bufs,grs,nc,ng,e1,e2,e3,S,hB,hY,hcs,hgs,hnc,hng,hnm,hn1,hn4,hngo,hcnt,hR,hW⟩ := hrr
 subst e1 e2 e3
 conv => cbv
 refine cfr (awake12_lx o ho) [(0,0)] (fun r h' n' ⟨e1,e2,e3⟩ => ?_)
 subst e1 e2 e3
 conv => cbv
 have hnc1 : nc = 1 := by omega
 obtain ⟨c,hcc⟩ := chans1 hnc hnc1
 have hc0 : chs[0]? = some c := by rw [hcc]; rfl
 obtain ⟨b,hb0,hBC⟩ := hB.ch 0 c u hc0 rfl
 have hcs4 : capW u = u := capW_small (by omega)
 have hMc := hBC.c
 rw [hcs4] at hMc
 have hKB : u = 0 ∨ M b = some (2,List.replicate u.toNat 0) := by
  rcases hBC.b with q | ⟨_,_,q⟩
  ·rw [hcs4] at q; exact .inl (by omega)
  ·rw [hcs4] at q; exact .inr q
 have hR0 := Ring1.nil hMc hKB (by omega)
 have hh := S.h
 have hc := S.c
 have hmw0 : 0 ≤ mw := by omega
 have hmt0 : 0 ≤ mt := by omega
 clear S hB hY hMc hKB hBC
 refine LoopF.mk (fun kk s => ∃ (i nx ow nw st : Int) (wl : List Int) (L : List PV) (ws : List Int) (D : List PV) (M : Hp),s = ⟨.p (.int .i64 (.sym u)) :: .p (.vsl (.sym mw) true WL) :: .p (.vsl (.sym mt) true TL) :: (undefs 4 ++ .ptr 17 (.lit 0) :: .sl 20 3 1 (.sym ow) (.sym nw) :: .p (.int .i64 (.sym nx)) :: .p (.int .i64 (.sym i)) :: undefs 151),[hpA 2 3 7 8 3 W 0 0 0,hpB 3 4 6 3 W,hpC 4 5 233 2 N,hpP 5 L0,hpP 6 D,hpF 7 z false,hpP 8 Q,hpR 9 10 15 3 W 16 0 0 0,hpB 10 11 14 3 W,hpD 11 12 3 1 N 13 231 8 N,hpP 12 P,hpP 13 B,hpP 14 V,hpP 15 Qr,(16,.mix [.p (.vsl (.sym 0) true []),.p (.bool false)]),(0,.fix 0 o),(17,.mix [.ptr 2 (.lit 0),.ptr 9 (.lit 0),.sl 18 3 1 (.lit 0) (.sym nc),.sl 19 3 1 (.lit 0) (.sym ng)]),hpP 18 CS,hpP 19 GS,hpP 20 L],21⟩ ∧ 0 ≤ i ∧ i ≤ 60 ∧ kk = (60 - i).toNat ∧ 0 ≤ nx ∧ nx ≤ i ∧ ow ≤ i ∧ nw = wl.length ∧ 0 ≤ ow ∧ (L.length : Int) = ow + nw ∧ L.drop ow.toNat = ipv wl ∧ ow ≤ 60 ∧ HM R ws C [] N W L0 D Q z ∧ Cont R ws M ∧ Ring1 M c b u st wl) 60 _
  (Re.at [(0,0),(2,2),(3,3),(4,4),(5,5),(6,6),(7,7),(8,8),(9,9),(10,10),(11,11),(12,12),(13,13),(14,14),(15,15),(16,16),(17,17),(18,18),(19,19)] [20]) ⟨0,0,0,0,0,[],[],ws,D,M,rfl,by omega,by omega,by omega,by omega,by omega,by omega,rfl,by omega,rfl,rfl,by omega,hh,hc,hR0⟩ ?_
 clear hh hc hR0
 rintro kk s ⟨i,nx,ow,nw,st,wl,L,ws,D,M,rfl,hi0,hi1,hkk,hnx0,hnx1,how1,hnw,how,hLl,hLd,how2,hh,hc,hR1⟩
 have hkk : kk = (60 - i).toNat := hkk
 conv => cbv
 refine Br.mk (fun gi => ?_) (fun gi => ?_)
 ·have gi : i < mt := gi
  conv => cbv
  refine Br.mk (fun g6 => ?_) (fun g6 => ?_)
  ·have g6 : i < 60 := g6
   obtain ⟨tv,htv⟩ : ∃ a,turns[i.toNat]? = some a := ⟨_,List.getElem?_eq_getElem (by omega)⟩
   have hcellt : TL[i.toNat]? = some (.int .i64 (.sym tv)) := by rw [hTL]; exact ipv_get htv
   have hl3 := hR1.l
   conv => cbv
   refine JoinF.mk (fun s => ∃ (nx ow nw st : Int) (wl : List Int) (L : List PV) (ws : List Int) (D : List PV) (M : Hp),s = ⟨.p (.int .i64 (.sym u)) :: .p (.vsl (.sym mw) true WL) :: .p (.vsl (.sym mt) true TL) :: (undefs 4 ++ .ptr 17 (.lit 0) :: .sl 20 3 1 (.sym ow) (.sym nw) :: .p (.int .i64 (.sym nx)) :: .p (.int .i64 (.sym i)) :: undefs 151),[hpA 2 3 7 8 3 W 0 0 0,hpB 3 4 6 3 W,hpC 4 5 233 2 N,hpP 5 L0,hpP 6 D,hpF 7 z false,hpP 8 Q,hpR 9 10 15 3 W 16 0 0 0,hpB 10 11 14 3 W,hpD 11 12 3 1 N 13 231 8 N,hpP 12 P,hpP 13 B,hpP 14 V,hpP 15 Qr,(16,.mix [.p (.vsl (.sym 0) true []),.p (.bool false)]),(0,.fix 0 o),(17,.mix [.ptr 2 (.lit 0),.ptr 9 (.lit 0),.sl 18 3 1 (.lit 0) (.sym nc),.sl 19 3 1 (.lit 0) (.sym ng)]),hpP 18 CS,hpP 19 GS,hpP 20 L],21⟩ ∧ 0 ≤ nx ∧ nx ≤ i + 1 ∧ ow ≤ i + 1 ∧ nw = wl.length ∧ 0 ≤ ow ∧ (L.length : Int) = ow + nw ∧ L.drop ow.toNat = ipv wl ∧ ow ≤ 60 ∧ HM R ws C [] N W L0 D Q z ∧ Cont R ws M ∧ Ring1 M c b u st wl) ?_ ?_
   ·conv => cbv
    refine Need.mk (show 0 ≤ i ∧ i < mt from ⟨hi0,gi⟩) ?_
    conv => cbv
    refine Cell.at i _ hcellt (by simp [I.val]) rfl ?_
    conv => cbv
    refine Sum.mk fun tm htm => ?_
    conv => cbv
    refine Br.mk (fun gt => ?_) (fun gt => ?_)
    ·have gt : tm = 0 := gt
     conv => cbv
     refine Br.mk (fun gn => ?_) (fun gn => ?_)
     ·have gn : nx < mw := gn
      obtain ⟨wv,hwv⟩ : ∃ a,words[nx.toNat]? = some a := ⟨_,List.getElem?_eq_getElem (by omega)⟩
      have hcell : WL[nx.toNat]? = some (.int .i64 (.sym wv)) := by rw [hWL]; exact ipv_get hwv
      have hwvb := hwb wv (List.mem_of_getElem? hwv)
      conv => cbv
      refine drawn_sound tok (by kernel_rfl) [(5,[9,8,7,6,3,2,1,0]),(10,[])] [0,1,2,3,4,6,7,8,9,5,10,11] (by kernel_rfl) ?_; conv => cbv
      refine Need.mk (show 0 ≤ nx ∧ nx < mw from ⟨hnx0,gn⟩) ?_
      conv => cbv
      refine Cell.at nx _ hcell (by simp [I.val]) rfl ?_
      conv => cbv
      refine CallF.le (args0 := [.ptr 17 (.lit 0),i6 0]) (cfr (ch12_lx R ws vs C N W 0 0 0 L0 D Q z false P B V Qr [] 0 M nc ng CS GS o 0 chs hcs hnc (by omega) (by omega)) [(0,2),(1,3),(2,4),(3,5),(4,6),(5,7),(6,8),(7,9),(8,10),(9,11),(10,12),(11,13),(12,14),(13,15),(14,16),(15,0),(16,17),(17,18),(18,19)] (fun r h' n' hrr => ?_)) (by simp [ales,ale,pvle,I.val])
      obtain ⟨⟨x1,e1,hx1⟩,e2,e3⟩ := hrr
      subst e1 e2 e3
      conv => cbv
      obtain rfl : c = x1 := (ch0 hx1 hc0).symm
      refine CallF.le (args0 := [.ptr 2 (.lit 0),i6 c,i6 wv]) (cfr (ringPutX_lx R ws C [] N W 0 0 0 L0 D Q z false hh M hc o ho rfl c b u st wv nw wl hwvb hR1 hnw) [(0,2),(1,3),(2,4),(3,5),(4,6),(5,7),(6,8),(7,0)] (fun r h' n' hrr => ?_)) (by simp [ales,ale,pvle,I.val])
      obtain ⟨e,ws1,D1,M1,e1,e2,e3,hh1,hc1,hf1,hres⟩ := hrr
      subst e1 e2 e3
      conv => cbv
      rcases hres with ⟨q1,q2,hR2⟩ | ⟨q1,q2,hR2⟩
      ·refine Br.yes (show e = 0 from q2) ?_
       conv => cbv
       refine Br.yes (show nw < u from q1) ?_
       conv => cbv
       refine Br.no (show ¬ ¬ (e = 0) from fun q => q q2) ?_
       conv => cbv
       refine Br.yes (show e = 0 from q2) ?_
       conv => cbv
       refine Need.mk (show 0 ≤ nx ∧ nx < mw from ⟨hnx0,gn⟩) ?_
       conv => cbv
       refine Cell.at nx _ hcell (by simp [I.val]) rfl ?_
       conv => cbv
       refine Room.new rfl ?_
       conv => cbv
       refine Need.mk (show 0 ≤ ow ∧ 0 ≤ nw ∧ (L.length : Int) = ow + nw * 1 ∧ (nw + 1) * 8 ≤ 140737488355328 ∧ nw + 1 ≤ 9223372036854775807 by omega) ?_
       conv => cbv
       refine ⟨?_,?_⟩
       ·refine Upd.mk fun L2 hL2 => ?_
        have hL2 : L2 = L ++ [.int .i64 (.sym wv)] := hL2
        conv => cbv
        refine Sum.mk fun n2 hn2 => ?_
        have hn2 : n2 = nw + 1 := hn2
        conv => cbv
        refine Fit.mk (by show (-9223372036854775808 : Int) ≤ nx + 1; omega) (by show nx + 1 ≤ 9223372036854775807; omega) fun nx2 hnx2 => ?_
        have hnx2 : nx2 = nx + 1 := hnx2
        conv => cbv
        refine Joined.mk _ (Re.at [(0,0),(2,2),(3,3),(4,4),(5,5),(6,6),(7,7),(8,8),(9,9),(10,10),(11,11),(12,12),(13,13),(14,14),(15,15),(16,16),(17,17),(18,18),(19,19),(20,20)] []) ⟨nx2,ow,n2,st,wl ++ [wv],L2,ws1,D1,M1,rfl,by omega,by omega,by omega,by rw [List.length_append,hn2,hnw]; rfl,by omega,by rw [hL2,List.length_append,List.length_singleton]; push_cast; omega,by rw [hL2,List.drop_append_of_le_length (by omega),hLd,← ipv_app]; rfl,by omega,hh1,hc1,hR2⟩
       ·refine Upd.mk fun L2 hL2 => ?_
        have hL2 : L2 = L.drop ow.toNat ++ [.int .i64 (.sym wv)] := hL2
        conv => cbv
        refine Sum.mk fun n2 hn2 => ?_
        have hn2 : n2 = nw + 1 := hn2
        conv => cbv
        refine Fit.mk (by show (-9223372036854775808 : Int) ≤ nx + 1; omega) (by show nx + 1 ≤ 9223372036854775807; omega) fun nx2 hnx2 => ?_
        have hnx2 : nx2 = nx + 1 := hnx2
        conv => cbv
        have hL3 : L2 = ipv (wl ++ [wv]) := by rw [hL2,hLd,← ipv_app]; rfl
        refine Joined.mk _ (Re.at [(0,0),(2,2),(3,3),(4,4),(5,5),(6,6),(7,7),(8,8),(9,9),(10,10),(11,11),(12,12),(13,13),(14,14),(15,15),(16,16),(17,17),(18,18),(19,19),(22,20)] []) ⟨nx2,0,n2,st,wl ++ [wv],L2,ws1,D1,M1,rfl,by omega,by omega,by omega,by rw [List.length_append,hn2,hnw]; rfl,by omega,by rw [hL3,ipv_length,List.length_append,List.length_singleton]; push_cast; omega,by rw [hL3]; rfl,by omega,hh1,hc1,hR2⟩
      ·refine Br.no (show ¬ e = 0 by omega) ?_
       conv => cbv
       refine Br.no (show ¬ nw < u from q1) ?_
       conv => cbv
       refine Br.yes (show ¬ (e = 0) by omega) ?_
       conv => cbv
       refine Br.no (show ¬ ¬ (e = 9) from fun q => q q2) ?_
       conv => cbv
       refine Br.no (show ¬ e = 0 by omega) ?_
       conv => cbv
       refine Fit.mk (by show (-9223372036854775808 : Int) ≤ nx + 1; omega) (by show nx + 1 ≤ 9223372036854775807; omega) fun nx2 hnx2 => ?_
       have hnx2 : nx2 = nx + 1 := hnx2
       conv => cbv
       refine Joined.mk _ (Re.at [(0,0),(2,2),(3,3),(4,4),(5,5),(6,6),(7,7),(8,8),(9,9),(10,10),(11,11),(12,12),(13,13),(14,14),(15,15),(16,16),(17,17),(18,18),(19,19),(20,20)] []) ⟨nx2,ow,nw,st,wl,L,ws1,D1,M1,rfl,by omega,by omega,by omega,hnw,how,hLl,hLd,by omega,hh1,hc1,hR2⟩
     ·have gn : ¬ nx < mw := gn
      conv => cbv
      refine drawn_sound tok (by kernel_rfl) [(5,[3,2,1,0]),(6,[])] [0,1,2,3,4,5,6,7,8,9,10,11] (by kernel_rfl) ?_; conv => cbv
      refine CallF.le (args0 := [.ptr 17 (.lit 0),i6 0]) (cfr (ch12_lx R ws vs C N W 0 0 0 L0 D Q z false P B V Qr [] 0 M nc ng CS GS o 0 chs hcs hnc (by omega) (by omega)) [(0,2),(1,3),(2,4),(3,5),(4,6),(5,7),(6,8),(7,9),(8,10),(9,11),(10,12),(11,13),(12,14),(13,15),(14,16),(15,0),(16,17),(17,18),(18,19)] (fun r h' n' hrr => ?_)) (by simp [ales,ale,pvle,I.val])
      obtain ⟨⟨x3,e1,hx3⟩,e2,e3⟩ := hrr
      subst e1 e2 e3
      conv => cbv
      obtain rfl : c = x3 := (ch0 hx3 hc0).symm
      refine CallF.le (args0 := [.ptr 2 (.lit 0),i6 c]) (cfr (ringTakeX_lx R ws C [] N W 0 0 0 L0 D Q z false hh M hc o ho rfl c b u st nw wl hR1 hnw) [(0,2),(1,3),(2,4),(3,5),(4,6),(5,7),(6,8),(7,0)] (fun r h' n' hrr => ?_)) (by simp [ales,ale,pvle,I.val])
      obtain ⟨v,e,ws1,D1,M1,e1,e2,e3,hh1,hc1,hf1,hres⟩ := hrr
      subst e1 e2 e3
      conv => cbv
      rcases hres with ⟨q1,q2,st2,tl,hwl,hR2⟩ | ⟨q1,q2,q3,hwl,hR2⟩
      ·have hcellL : L[ow.toNat]? = some (.int .i64 (.sym v)) := by
        have : (L.drop ow.toNat)[0]? = some (.int .i64 (.sym v)) := by rw [hLd,hwl]; rfl
        rw [List.getElem?_drop] at this
        exact this
       refine Br.yes (show e = 0 from q2) ?_
       conv => cbv
       refine Br.yes (show 0 < nw from q1) ?_
       conv => cbv
       refine Br.yes (show e = 0 from q2) ?_
       conv => cbv
       refine Need.mk (show (0 : Int) ≤ 0 ∧ 0 < nw by omega) ?_
       conv => cbv
       refine Cell.mk _ (show L[(ow + (0 : Nat)).toNat]? = _ by rw [show ow + ((0 : Nat) : Int) = ow by simp]; exact hcellL) ?_
       conv => cbv
       refine Br.no (show ¬ ¬ (v = v) from fun q => q rfl) ?_
       conv => cbv
       refine Br.no (show ¬ ¬ (e = 0) from fun q => q q2) ?_
       conv => cbv
       refine Br.yes (show e = 0 from q2) ?_
       conv => cbv
       have hlt : wl.length = tl.length + 1 := by rw [hwl]; rfl
       have hLl' : ((L.length : Nat) : Int) = ow + nw := hLl
       have hnw' : nw = ((wl.length : Nat) : Int) := hnw
       refine Room.new (show (0 : Int) ≤ 1 ∧ 1 ≤ nw by omega) ?_
       conv => cbv
       refine Sum.mk fun o2 ho2 => ?_
       have ho2 : o2 = ow + 1 := ho2
       conv => cbv
       refine Sum.mk fun n2 hn2 => ?_
       have hn2 : n2 = nw - 1 := hn2
       conv => cbv
       refine Joined.mk _ (Re.at [(0,0),(2,2),(3,3),(4,4),(5,5),(6,6),(7,7),(8,8),(9,9),(10,10),(11,11),(12,12),(13,13),(14,14),(15,15),(16,16),(17,17),(18,18),(19,19),(20,20)] []) ⟨nx,o2,n2,st2,tl,L,ws1,D1,M1,rfl,by omega,by omega,by omega,(show n2 = ((tl.length : Nat) : Int) by omega),by omega,(show ((L.length : Nat) : Int) = o2 + n2 by omega),by rw [show o2.toNat = ow.toNat + 1 by omega,← List.drop_drop,hLd,hwl]; rfl,by omega,hh1,hc1,hR2⟩
      ·refine Br.no (show ¬ e = 0 by omega) ?_
       conv => cbv
       refine Br.no (show ¬ 0 < nw from q1) ?_
       conv => cbv
       refine Br.no (show ¬ e = 0 by omega) ?_
       conv => cbv
       refine Br.yes (show ¬ e = 0 by omega) ?_
       conv => cbv
       refine Br.no (show ¬ ¬ (e = 8) from fun q => q q2) ?_
       conv => cbv
       refine Br.no (show ¬ ¬ (v = 0) from fun q => q q3) ?_
       conv => cbv
       refine Br.no (show ¬ e = 0 by omega) ?_
       conv => cbv
       refine Joined.mk _ (Re.at [(0,0),(2,2),(3,3),(4,4),(5,5),(6,6),(7,7),(8,8),(9,9),(10,10),(11,11),(12,12),(13,13),(14,14),(15,15),(16,16),(17,17),(18,18),(19,19),(20,20)] []) ⟨nx,ow,nw,st,wl,L,ws1,D1,M1,rfl,by omega,by omega,by omega,hnw,how,hLl,hLd,by omega,hh1,hc1,hR2⟩
    ·have gt : ¬ tm = 0 := gt
     conv => cbv
     refine drawn_sound tok (by kernel_rfl) [(5,[3,2,1,0]),(6,[])] [0,1,2,3,4,5,6,7,8,9,10,11] (by kernel_rfl) ?_; conv => cbv
     refine CallF.le (args0 := [.ptr 17 (.lit 0),i6 0]) (cfr (ch12_lx R ws vs C N W 0 0 0 L0 D Q z false P B V Qr [] 0 M nc ng CS GS o 0 chs hcs hnc (by omega) (by omega)) [(0,2),(1,3),(2,4),(3,5),(4,6),(5,7),(6,8),(7,9),(8,10),(9,11),(10,12),(11,13),(12,14),(13,15),(14,16),(15,0),(16,17),(17,18),(18,19)] (fun r h' n' hrr => ?_)) (by simp [ales,ale,pvle,I.val])
     obtain ⟨⟨x3,e1,hx3⟩,e2,e3⟩ := hrr
     subst e1 e2 e3
     conv => cbv
     obtain rfl : c = x3 := (ch0 hx3 hc0).symm
     refine CallF.le (args0 := [.ptr 2 (.lit 0),i6 c]) (cfr (ringTakeX_lx R ws C [] N W 0 0 0 L0 D Q z false hh M hc o ho rfl c b u st nw wl hR1 hnw) [(0,2),(1,3),(2,4),(3,5),(4,6),(5,7),(6,8),(7,0)] (fun r h' n' hrr => ?_)) (by simp [ales,ale,pvle,I.val])
     obtain ⟨v,e,ws1,D1,M1,e1,e2,e3,hh1,hc1,hf1,hres⟩ := hrr
     subst e1 e2 e3
     conv => cbv
     rcases hres with ⟨q1,q2,st2,tl,hwl,hR2⟩ | ⟨q1,q2,q3,hwl,hR2⟩
     ·have hcellL : L[ow.toNat]? = some (.int .i64 (.sym v)) := by
       have : (L.drop ow.toNat)[0]? = some (.int .i64 (.sym v)) := by rw [hLd,hwl]; rfl
       rw [List.getElem?_drop] at this
       exact this
      refine Br.yes (show e = 0 from q2) ?_
      conv => cbv
      refine Br.yes (show 0 < nw from q1) ?_
      conv => cbv
      refine Br.yes (show e = 0 from q2) ?_
      conv => cbv
      refine Need.mk (show (0 : Int) ≤ 0 ∧ 0 < nw by omega) ?_
      conv => cbv
      refine Cell.mk _ (show L[(ow + (0 : Nat)).toNat]? = _ by rw [show ow + ((0 : Nat) : Int) = ow by simp]; exact hcellL) ?_
      conv => cbv
      refine Br.no (show ¬ ¬ (v = v) from fun q => q rfl) ?_
      conv => cbv
      refine Br.no (show ¬ ¬ (e = 0) from fun q => q q2) ?_
      conv => cbv
      refine Br.yes (show e = 0 from q2) ?_
      conv => cbv
      have hlt : wl.length = tl.length + 1 := by rw [hwl]; rfl
      have hLl' : ((L.length : Nat) : Int) = ow + nw := hLl
      have hnw' : nw = ((wl.length : Nat) : Int) := hnw
      refine Room.new (show (0 : Int) ≤ 1 ∧ 1 ≤ nw by omega) ?_
      conv => cbv
      refine Sum.mk fun o2 ho2 => ?_
      have ho2 : o2 = ow + 1 := ho2
      conv => cbv
      refine Sum.mk fun n2 hn2 => ?_
      have hn2 : n2 = nw - 1 := hn2
      conv => cbv
      refine Joined.mk _ (Re.at [(0,0),(2,2),(3,3),(4,4),(5,5),(6,6),(7,7),(8,8),(9,9),(10,10),(11,11),(12,12),(13,13),(14,14),(15,15),(16,16),(17,17),(18,18),(19,19),(20,20)] []) ⟨nx,o2,n2,st2,tl,L,ws1,D1,M1,rfl,by omega,by omega,by omega,(show n2 = ((tl.length : Nat) : Int) by omega),by omega,(show ((L.length : Nat) : Int) = o2 + n2 by omega),by rw [show o2.toNat = ow.toNat + 1 by omega,← List.drop_drop,hLd,hwl]; rfl,by omega,hh1,hc1,hR2⟩
     ·refine Br.no (show ¬ e = 0 by omega) ?_
      conv => cbv
      refine Br.no (show ¬ 0 < nw from q1) ?_
      conv => cbv
      refine Br.no (show ¬ e = 0 by omega) ?_
      conv => cbv
      refine Br.yes (show ¬ e = 0 by omega) ?_
      conv => cbv
      refine Br.no (show ¬ ¬ (e = 8) from fun q => q q2) ?_
      conv => cbv
      refine Br.no (show ¬ ¬ (v = 0) from fun q => q q3) ?_
      conv => cbv
      refine Br.no (show ¬ e = 0 by omega) ?_
      conv => cbv
      refine Joined.mk _ (Re.at [(0,0),(2,2),(3,3),(4,4),(5,5),(6,6),(7,7),(8,8),(9,9),(10,10),(11,11),(12,12),(13,13),(14,14),(15,15),(16,16),(17,17),(18,18),(19,19),(20,20)] []) ⟨nx,ow,nw,st,wl,L,ws1,D1,M1,rfl,by omega,by omega,by omega,hnw,how,hLl,hLd,by omega,hh1,hc1,hR2⟩
   ·clear hh hc hR1 hLl hLd hnw how hnx0 hnx1 hl3 how1 how2
    rintro s ⟨nx,ow,nw,st,wl,L,ws,D,M,rfl,hnx0,hnx1,how1,hnw,how,hLl,hLd,how2,hh,hc,hR1⟩
    have hl3 := hR1.l
    conv => cbv
    refine read_sound tok (by kernel_rfl) [0,2,3,4,5,6,7,8,9,10,11,12,13,14,15,16,17,18,19,20] [5,6] [(10,[9,8,7,6,5,4,3,2,1,0]),(11,[9])] [0,1,2,3,4,5,6,7,8,9,10,11,12] (by kernel_rfl) ?_
    conv => cbv
    refine ReadF.mk (.p (.int .i64 (.sym c))) (fun h' n' hbR hnR => CallF.le (args0 := [.ptr 17 (.lit 0),i6 0]) (callF_read ((ch12_lx R ws vs C N W 0 0 0 L0 D Q z false P B V Qr [] 0 M nc ng CS GS o 0 chs hcs hnc (by omega) (by omega)).mono (fun r h n ⟨⟨x,e1,hx⟩,e2,e3⟩ => ⟨by rw [e1,ch0 hx hc0],e2,e3⟩)) [(0,2),(1,3),(2,4),(3,5),(4,6),(5,7),(6,8),(7,9),(8,10),(9,11),(10,12),(11,13),(12,14),(13,15),(14,16),(15,0),(16,17),(17,18),(18,19)] (by simp [fok,nget,nback]; omega) (by simp [hmapOk,nget,hbR,hget,renB,okB,renV,renVs,rn,okVs,okV]) rfl rfl rfl rfl) (by simp [ales,ale,pvle,I.val])) ?_
    conv => cbv
    refine ReadF.mk (.tup [.agg [i6 u,i6 0,i6 nw,i6 st,i6 b,i6 (-1),i6 (-1),i6 (-1),i6 (-1)],i6 0]) (fun h' n' hbR hnR => CallF.le (args0 := [.ptr 2 (.lit 0),i6 c]) (callF_read ((chanM_lx R ws C [] N W 0 0 0 L0 D Q z false hh M hc c u 0 nw st b (-1) (-1) (-1) (-1) (by rw [hnw]; exact hR1.c)).mono (fun r h n ⟨⟨e,e1,he⟩,e2,e3⟩ => ⟨by rw [e1,he],e2,e3⟩)) [(0,2),(1,3),(2,4),(3,5),(4,6),(5,7),(6,8)] (by simp [fok,nget,nback]; omega) (by simp [hmapOk,nget,hbR,hget,renB,okB,renV,renVs,rn,okVs,okV]) rfl rfl rfl rfl) (by simp [ales,ale,pvle,I.val])) ?_
    conv => cbv
    refine drawn_sound tok (by kernel_rfl) [(15,[17,13,12,11,10]),(16,[17]),(18,[])] [0,1,2,3,4,5,6,7,8,9,10,11,12,13,14,17,15,16,18,19,20] (by kernel_rfl) ?_; conv => cbv
    refine Br.no (show ¬ (¬ ((0 : Int) = 0)) from fun q => q rfl) ?_
    conv => cbv
    refine Br.no (show ¬ (¬ (nw = nw)) from fun q => q rfl) ?_
    conv => cbv
    refine CallF.le (args0 := [.ptr 17 (.lit 0),i6 0]) (cfr (ch12_lx R ws vs C N W 0 0 0 L0 D Q z false P B V Qr [] 0 M nc ng CS GS o 0 chs hcs hnc (by omega) (by omega)) [(0,2),(1,3),(2,4),(3,5),(4,6),(5,7),(6,8),(7,9),(8,10),(9,11),(10,12),(11,13),(12,14),(13,15),(14,16),(15,0),(16,17),(17,18),(18,19)] (fun r h' n' hrr => ?_)) (by simp [ales,ale,pvle,I.val])
    obtain ⟨⟨x5,e1,hx5⟩,e2,e3⟩ := hrr
    subst e1 e2 e3
    conv => cbv
    obtain rfl : c = x5 := (ch0 hx5 hc0).symm
    refine cfr (ringAllX_lx R ws C [] N W 0 0 0 L0 D Q z false hh M hc c b u st wl hR1) [(0,2),(1,3),(2,4),(3,5),(4,6),(5,7),(6,8)] (fun r h' n' hrr => ?_)
    obtain ⟨m2,cells,e1,e2,e3,hm2,hcel⟩ := hrr
    subst e1 e2 e3
    conv => cbv
    obtain rfl : m2 = nw := hm2.trans hnw.symm
    refine callF_lend (plainE_true wl m2 cells (ipv wl) hm2 hcel rfl (by omega)) (by
     simp only [lends,lendV,hget,I.val]
     exact ⟨⟨trivial,_,_,rfl,.inl (by rw [Int.toNat_zero,List.drop_zero]; exact List.prefix_refl _)⟩,⟨trivial,_,_,rfl,.inl (by rw [hLd]; exact List.prefix_refl _)⟩,trivial⟩) (fun r h' n' ⟨e1,e2,e3⟩ => by subst e1 e2; exact ⟨trivial,trivial⟩) (fun r h' n' ⟨e1,e2,e3⟩ => ?_)
    subst e1 e2 e3
    conv => cbv
    refine Fit.mk (by show (-9223372036854775808 : Int) ≤ i + 1; omega) (by show i + 1 ≤ 9223372036854775807; omega) fun i2 hi2 => ?_
    have hi2 : i2 = i + 1 := hi2
    conv => cbv
    refine Again.mk (60 - i2).toNat _ (by omega) (Re.at [(0,0),(2,2),(3,3),(4,4),(5,5),(6,6),(7,7),(8,8),(9,9),(10,10),(11,11),(12,12),(13,13),(14,14),(15,15),(16,16),(17,17),(18,18),(19,19),(20,20)] []) ⟨i2,nx,ow,m2,st,wl,L,ws,D,M,rfl,by omega,by omega,rfl,hnx0,by omega,by omega,hnw,how,hLl,hLd,by omega,hh,hc,hR1⟩
  ·have g6 : ¬ i < 60 := g6
   conv => cbv
   refine RetF.mk [.p (.bool true)] [(0,.fix 0 o)] 1 (Re.at [(0,0)] []) rfl rfl
 ·have gi : ¬ i < mt := gi
  conv => cbv
  refine RetF.mk [.p (.bool true)] [(0,.fix 0 o)] 1 (Re.at [(0,0)] []) rfl rfl
end Go.Proofs.YtkhfgngcoiablaaGreatDoor
