/-
  Layer 17: ShutHolds.
-/
import Derived.Test.YtkhfgngcoiablaaGreatDoorBi
namespace Go.Proofs.YtkhfgngcoiablaaGreatDoor
open Go Go.LX
set_option maxRecDepth 100000
set_option linter.unusedVariables false
set_option linter.unusedSimpArgs false
set_option maxHeartbeats 32000000
theorem shutHolds_law (o : Unit → Obj) (ho : IsPow o) (n v : Int) (hvb : (-9223372036854775808 ≤ v ∧ v ≤ 9223372036854775807)) : CallF (fun _ => Tryz.prog) 5 [i6 n,i6 v] [(0,.fix 0 o)] 1 (fun r _ _ => r = .p (.bool true)) := by
 refine callF_of_body tok Tryz.func5 (by kernel_rfl) rfl rfl rfl ?_; conv => cbv
 refine Fit.wrap fun xn hxn => ?_
 have hxn : xn = IntKind.u64.wrap n := hxn
 have hyn : 0 ≤ xn := by rw [hxn]; simp [IntKind.wrap,IntKind.bits,IntKind.signed]; omega
 clear hxn
 conv => cbv
 refine Sum.mk fun tn htn => ?_
 have htn : tn = xn % 4 := (show tn = xn.tmod 4 from htn).trans (Int.tmod_eq_emod_of_nonneg hyn)
 conv => cbv
 refine fO (tn) fun u hu => ?_
 have hu : u = tn := hu
 have hu0 : 0 ≤ u := by omega
 have hu1 : u < 4 := by omega
 clear hu htn hyn
 conv => cbv
 refine CallF.re (args0 := [.p (.vsl (.sym 2) true [.int .i64 (.sym 3),.int .i64 (.sym 0)]),i6 1]) (h' := [(0,.fix 0 o)]) (Re.at [(0,0)] []) (cfr (made17_lx o ho [3,0] 2 1 [.int .i64 (.sym 3),.int .i64 (.sym 0)] rfl rfl) [(0,0)] (fun r h' n' hrr => ?_))
 obtain ⟨N,W,C,R,ws,vs,L,D,Q,z,P,B,V,Qr,M,CS,GS,chs,bufs,grs,nc,ng,e1,e2,e3,S,hB,hY,hcs,hgs,hnc,hng,hnm,hn1,hn4,hngo,hcnt,hR,hW⟩ := hrr
 subst e1 e2 e3
 conv => cbv
 refine cfr (awake17_lx o ho) [(0,0)] (fun r h' n' ⟨e1,e2,e3⟩ => ?_)
 subst e1 e2 e3
 conv => cbv
 have hnc1 : nc = 2 := by omega
 obtain ⟨c,d,hcc⟩ := chA2 hnc hnc1
 have hc0 : chs[0]? = some c := by rw [hcc]; rfl
 have hd0 : chs[1]? = some d := by rw [hcc]; rfl
 obtain ⟨b,hb0,hBC⟩ := hB.ch 0 c 3 hc0 rfl
 obtain ⟨b2,hb2,hBD⟩ := hB.ch 1 d 0 hd0 rfl
 have hMc := hBC.c
 have hMd := hBD.c
 rw [capS (by decide)] at hMc hMd
 have hcl := S.c.len S.h.a hMc
 have hdl := S.c.len S.h.a hMd
 have hcw : atW (2 * c + 1) = c := atW_ptr c
 have hdw : atW (2 * d + 1) = d := atW_ptr d
 have hcd : c ≠ d := fun q => by
  have := hB.nd
  rw [hcc,q] at this
  simp at this
 have hngb := ngor_bd 1
 obtain ⟨g,hg0⟩ : ∃ g,grs[0]? = some g := ⟨_,List.getElem?_eq_getElem (by omega)⟩
 have hMg : M g = some (4,[0,0,0,0,0,0,0,0,0,-1]) := hB.gr 0 g hg0
 have hgl := S.c.len S.h.a hMg
 have hgc : g ≠ c := fun q => by rw [q,hMc] at hMg; cases hMg
 have hgd : g ≠ d := fun q => by rw [q,hMd] at hMg; cases hMg
 have hMb : M b = some (2,[0,0,0]) := by
  rcases hBC.b with q | ⟨_,_,q⟩
  ·rw [capS (by decide)] at q; omega
  ·rw [capS (by decide)] at q; exact q
 have hcb : c ≠ b := fun q => by rw [q,hMb] at hMc; cases hMc
 have hgb : g ≠ b := fun q => by rw [q,hMb] at hMg; cases hMg
 have hdb : d ≠ b := fun q => by rw [q,hMb] at hMd; cases hMd
 have hcbd : 0 ≤ c ∧ c ≤ 2000 := by omega
 have hdbd : 0 ≤ d ∧ d ≤ 2000 := by omega
 obtain ⟨hcnt0,hR0⟩ : (objCount R : Int) ≤ 10 ∧ R.length = 60 := ⟨by omega,hR⟩
 have hr := S.r
 have hd := S.d
 have hh := S.h
 have hc := S.c
 have hSw := S.w
 have hMrep := hMb
 clear S hBC hBD hB
 refine LoopF.mk (fun kk s => ∃ (i : Int) (vs : List Int) (V : List PV) (K : Hp) (X : List Int),s = ⟨.p (.int .i64 (.sym u)) :: .p (.int .i64 (.sym v)) :: (undefs 3 ++ .ptr 17 (.lit 0) :: .p (.int .i64 (.sym i)) :: undefs 160),[hpA 2 3 7 8 3 W 0 0 0,hpB 3 4 6 3 W,hpC 4 5 233 2 N,hpP 5 L,hpP 6 D,hpF 7 z false,hpP 8 Q,hpR 9 10 15 3 W 16 0 0 0,hpB 10 11 14 3 W,hpD 11 12 3 1 N 13 231 8 N,hpP 12 P,hpP 13 B,hpP 14 V,hpP 15 Qr,(16,.mix [.p (.vsl (.sym 0) true []),.p (.bool false)]),(0,.fix 0 o),(17,.mix [.ptr 2 (.lit 0),.ptr 9 (.lit 0),.sl 18 3 1 (.lit 0) (.sym nc),.sl 19 3 1 (.lit 0) (.sym ng)]),hpP 18 CS,hpP 19 GS],20⟩ ∧ 0 ≤ i ∧ i ≤ u ∧ kk = (u - i).toNat ∧ RM R vs C [] N W P B V Qr [] 0 ∧ Cont R vs K ∧ Sys K (fun _ _ => []) ∧ K c = some (1,[3,0,i,0,b,-1,-1,-1,-1]) ∧ K b = some (2,X) ∧ X.length = 3 ∧ ∀ a,a ≠ c → a ≠ b → K a = M a) u.toNat _
  (Re.at [(0,0),(2,2),(3,3),(4,4),(5,5),(6,6),(7,7),(8,8),(9,9),(10,10),(11,11),(12,12),(13,13),(14,14),(15,15),(16,16),(17,17),(18,18),(19,19)] []) ⟨0,vs,V,M,[0,0,0],rfl,by omega,by omega,by omega,hr,hd,hY,hMc,hMb,rfl,fun _ _ _ => rfl⟩ ?_
 clear hr hd
 rintro kk s ⟨i,vs,V,K,X,rfl,hi0,hi1,hkk,hr,hd,hYK,hKc,hKb,hX,hKM⟩
 have hkk : kk = (u - i).toNat := hkk
 conv => cbv
 refine Br.mk (fun gi => ?_) (fun gi => ?_)
 ·have gi : i < u := gi
  conv => cbv
  refine drawn_sound tok (by kernel_rfl) [(11,[])] [0,1,2,3,4,5,6,7,8,9,10,11,12] (by kernel_rfl) ?_; conv => cbv
  refine Need.mk (show (0 : Int) ≤ 0 ∧ 0 < nc by omega) ?_
  conv => cbv
  refine Cell.at 0 _ (show CS[(0 : Int).toNat]? = some (.int .i64 (.sym c)) by rw [hcs]; exact ipv_get hc0) (by simp [I.val]) rfl ?_
  conv => cbv
  refine clE (args0 := [.ptr 9 (.lit 0),i6 c,i6 v]) (cfr (rPutRingM_lx R vs C [] N W 0 0 0 P B V Qr [] 0 false hr K hd rfl c v 3 0 i 0 b (-1) (-1) (-1) (-1) hKc X hKb (by rw [hX]; rfl) (by decide) (by omega) rfl hvb) [(0,9),(1,10),(2,11),(3,12),(4,13),(5,14),(6,15),(7,16)] (fun r h' n' hrr => ?_))
  obtain ⟨e,vs1,V1,e1,he,e2,e3,hr1,hd1⟩ := hrr
  subst e1 e2 e3
  conv => cbv
  have hY1 := sysRing (X' := X.set (((0 : Int) % 3 + i) % 3).toNat v) hYK hKc hKb (i + 1) 0
  refine Br.no (show ¬ (¬ (e = 0)) from fun q => q he) ?_
  conv => cbv
  refine fO (i + 1) fun i2 hi2 => ?_
  have hi2 : i2 = i + 1 := hi2
  conv => cbv
  refine Again.mk (u - i2).toNat _ (by omega) (Re.at [(0,0),(2,2),(3,3),(4,4),(5,5),(6,6),(7,7),(8,8),(9,9),(10,10),(11,11),(12,12),(13,13),(14,14),(15,15),(16,16),(17,17),(18,18),(19,19)] []) ⟨i2,vs1,V1,_,_,rfl,by omega,by omega,rfl,hr1,hd1,hY1,by rw [upd_same,hi2],(upd_ne hcb.symm).trans (upd_same _ _ _),by rw [List.length_set]; exact hX,fun a h1 h2 => by rw [upd_ne h1,upd_ne h2]; exact hKM a h1 h2⟩
 ·have gi : ¬ i < u := gi
  conv => cbv
  obtain rfl : u = i := by omega
  clear gi hkk
  refine read_sound tok (by kernel_rfl) [0,2,3,4,5,6,7,8,9,10,11,12,13,14,15,16,17,18,19] [10] [(14,[13,12,11,10,9,8,7,6,5,4,3,2,1,0]),(15,[13])] [0,1,2,3,4,5,6,7,8,9,10,11,12,13,14,15,16] (by kernel_rfl) ?_
  conv => cbv
  refine Need.mk (show (0 : Int) ≤ 0 ∧ 0 < nc by omega) ?_
  conv => cbv
  refine Cell.at 0 _ (show CS[(0 : Int).toNat]? = some (.int .i64 (.sym c)) by rw [hcs]; exact ipv_get hc0) (by simp [I.val]) rfl ?_
  conv => cbv
  refine ReadF.mk (.tup [.agg [i6 3,i6 0,i6 u,i6 0,i6 b,i6 (-1),i6 (-1),i6 (-1),i6 (-1)],i6 0]) (fun h' n' hbR hnR => clE (args0 := [.ptr 9 (.lit 0),i6 c]) (callF_read ((rchanM_lx R vs C [] N W 0 0 0 P B V Qr [] 0 false hr K hd c 3 0 u 0 b (-1) (-1) (-1) (-1) hKc).mono (fun r h n ⟨⟨e,e1,he⟩,e2,e3⟩ => ⟨by rw [e1,he],e2,e3⟩)) [(0,9),(1,10),(2,11),(3,12),(4,13),(5,14),(6,15),(7,16)] (by simp [fok,nget,nback]; omega) (by simp [hmapOk,nget,hbR,hget,renB,okB,renV,renVs,rn,okVs,okV]) rfl rfl rfl rfl)) ?_
  conv => cbv
  refine LoopF.mk (fun kk s => ∃ (j : Int) (ws : List Int) (D : List PV) (M1 : Hp) (X1 : List Int),s = ⟨.p (.int .i64 (.sym u)) :: .p (.int .i64 (.sym v)) :: (undefs 3 ++ .ptr 17 (.lit 0) :: .undef :: .ptr 20 (.lit 0) :: .undef :: .p (.int .i64 (.sym j)) :: undefs 157),[hpA 2 3 7 8 3 W 0 0 0,hpB 3 4 6 3 W,hpC 4 5 233 2 N,hpP 5 L,hpP 6 D,hpF 7 z false,hpP 8 Q,hpR 9 10 15 3 W 16 0 0 0,hpB 10 11 14 3 W,hpD 11 12 3 1 N 13 231 8 N,hpP 12 P,hpP 13 B,hpP 14 V,hpP 15 Qr,(16,.mix [.p (.vsl (.sym 0) true []),.p (.bool false)]),(0,.fix 0 o),(17,.mix [.ptr 2 (.lit 0),.ptr 9 (.lit 0),.sl 18 3 1 (.lit 0) (.sym nc),.sl 19 3 1 (.lit 0) (.sym ng)]),hpP 18 CS,hpP 19 GS,(20,.pure false [.int .i64 (.sym 3),.int .i64 (.sym 0),.int .i64 (.sym u),.int .i64 (.sym 0),.int .i64 (.sym b),.int .i64 (.sym (-1)),.int .i64 (.sym (-1)),.int .i64 (.sym (-1)),.int .i64 (.sym (-1))])],21⟩ ∧ 0 ≤ j ∧ j ≤ u ∧ kk = (u - j).toNat ∧ HM R ws C [] N W L D Q z ∧ Cont R ws M1 ∧ Sys M1 (fun _ _ => []) ∧ M1 b = some (2,X1) ∧ X1.length = 3 ∧ ∀ a,a ≠ b → M1 a = M a) u.toNat _
   (Re.at [(0,0),(2,2),(3,3),(4,4),(5,5),(6,6),(7,7),(8,8),(9,9),(10,10),(11,11),(12,12),(13,13),(14,14),(15,15),(16,16),(17,17),(18,18),(19,19),(20,20)] []) ⟨0,ws,D,M,[0,0,0],rfl,by omega,by omega,by omega,hh,hc,hY,hMb,rfl,fun _ _ => rfl⟩ ?_
  clear hh hc hY
  rintro kk s ⟨j,ws,D,M1,X1,rfl,hj0,hj1,hkk,hh,hc,hY,hM1b,hX1,hM1M⟩
  have hkk : kk = (u - j).toNat := hkk
  conv => cbv
  refine Br.mk (fun gj => ?_) (fun gj => ?_)
  ·have gj : j < u := gj
   conv => cbv
   refine drawn_sound tok (by kernel_rfl) [(8,[])] [0,1,2,3,4,5,6,7,8] (by kernel_rfl) ?_; conv => cbv
   refine clE (args0 := [.ptr 2 (.lit 0),i6 b,i6 j,i6 v]) (cfr (storeM_lx R ws C [] N W 0 0 0 L D Q z false hh M1 hc o ho rfl b j v X1 2 hM1b (by decide) (by omega) hvb) iZ4 (fun r h' n' hrr => ?_))
   obtain ⟨e,ws1,D1,e1,he,e2,e3,hh1,hc1⟩ := hrr
   subst e1 e2 e3
   conv => cbv
   have hY1 := sysOther (F := X1.set j.toNat v) hY hM1b ⟨by decide,by decide⟩
   refine fO (j + 1) fun j2 hj2 => ?_
   have hj2 : j2 = j + 1 := hj2
   conv => cbv
   refine Again.mk (u - j2).toNat _ (by omega) (Re.at [(0,0),(2,2),(3,3),(4,4),(5,5),(6,6),(7,7),(8,8),(9,9),(10,10),(11,11),(12,12),(13,13),(14,14),(15,15),(16,16),(17,17),(18,18),(19,19),(20,20)] []) ⟨j2,ws1,D1,_,_,rfl,by omega,by omega,rfl,hh1,hc1,hY1,upd_same _ _ _,by rw [List.length_set]; exact hX1,fun a h1 => by rw [upd_ne h1]; exact hM1M a h1⟩
  ·have gj : ¬ j < u := gj
   conv => cbv
   obtain rfl : u = j := by omega
   clear gj hkk
   have hM1c : M1 c = some (1,[3,0,0,0,b,-1,-1,-1,-1]) := (hM1M c hcb).trans hMc
   have hYc := sysChan hY hM1c 0 u 0
   refine readF_sound tok (by kernel_rfl) [0,2,3,4,5,6,7,8,9,10,11,12,13,14,15,16,17,18,19,20] [16,23,24] [(11,[]),(25,[])] [0,1,2,3,4,5,6,7,8,9,10,11,12,13,14,15,16,17,18,19,20,21,22,23,24,25,26,27] (by kernel_rfl) ?_
   conv => cbv
   refine Need.mk (show (0 : Int) ≤ 0 ∧ 0 < nc by omega) ?_
   conv => cbv
   refine Cell.at 0 _ (show CS[(0 : Int).toNat]? = some (.int .i64 (.sym c)) by rw [hcs]; exact ipv_get hc0) (by simp [I.val]) rfl ?_
   conv => cbv
   have hbl := hc.len hh.a hM1b
   have hb9 : ∀ q ∈ [3,0,u,0,b,-1,-1,-1,-1],b62 q := by
    simp only [List.forall_mem_cons]; unfold b62
    exact ⟨by omega,by omega,by omega,by omega,by omega,by omega,by omega,by omega,by omega,fun q hq => by cases hq⟩
   have hp9 : ∀ q ∈ [b,-1,-1,-1,-1],-1 ≤ q := by
    simp only [List.forall_mem_cons]
    exact ⟨by omega,by omega,by omega,by omega,by omega,fun q hq => by cases hq⟩
   refine clE (args0 := [.ptr 2 (.lit 0),i6 c,.agg [i6 3,i6 0,i6 u,i6 0,i6 b,i6 (-1),i6 (-1),i6 (-1),i6 (-1)]]) (cfr (putChanM_lx R ws C [] N W 0 0 0 L D Q z false hh M1 hc o ho rfl c 3 0 u 0 b (-1) (-1) (-1) (-1) [3,0,0,0,b,-1,-1,-1,-1] hM1c rfl hb9 hp9) iZ4 (fun r h' n' hrr => ?_))
   obtain ⟨e8,ws1,D1,e1,he8,e2,e3,hh1,hc1⟩ := hrr
   subst e1 e2 e3
   conv => cbv
   refine Br.no (show ¬ (¬ (e8 = 0)) from fun q => q he8) ?_
   conv => cbv
   have hM2c : upd M1 c (1,[3,0,u,0,b,-1,-1,-1,-1]) c = some (1,[3,0,u,0,b,-1,-1,-1,-1]) := upd_same _ _ _
   have hM2d : upd M1 c (1,[3,0,u,0,b,-1,-1,-1,-1]) d = some (1,[0,0,0,0,b2,-1,-1,-1,-1]) := by rw [upd_ne hcd.symm,hM1M d hdb]; exact hMd
   have hM2g : upd M1 c (1,[3,0,u,0,b,-1,-1,-1,-1]) g = some (4,[0,0,0,0,0,0,0,0,0,-1]) := by rw [upd_ne hgc,hM1M g hgb]; exact hMg
   have hKd : K d = some (1,[0,0,0,0,b2,-1,-1,-1,-1]) := (hKM d hcd.symm hdb).trans hMd
   have hKg : K g = some (4,[0,0,0,0,0,0,0,0,0,-1]) := (hKM g hgc hgb).trans hMg
   generalize upd M1 c (1,[3,0,u,0,b,-1,-1,-1,-1]) = M2 at hc1 hYc hM2c hM2d hM2g
   have S2 : Bs2 R ws1 vs C N W 0 L D1 Q z P B V Qr [] 0 (relink M2 (fun _ _ => [])) (relink K (fun _ _ => [])) := ⟨hh1,hr,by rw [hYc.ln]; exact hc1,by rw [hYK.ln]; exact hd,rfl,hSw⟩
   have hY2 : Sys (relink M2 (fun _ _ => [])) (fun _ _ => []) := by rw [hYc.ln]; exact hYc
   have hY2b : Sys (relink K (fun _ _ => [])) (fun _ _ => []) := by rw [hYK.ln]; exact hYK
   refine ReadF.mk (.p (.int .i64 (.sym g))) (fun h' n' hbR hnR => clE (args0 := [.ptr 17 (.lit 0),i6 0]) (callF_read ((gor17_lx R ws1 vs C N W 0 0 0 L D1 Q z false P B V Qr [] 0 M nc ng CS GS o 0 grs hgs hng (by omega) (by omega)).mono (fun r h n ⟨⟨x,e1,hx⟩,e2,e3⟩ => ⟨by rw [e1,ix0 hx hg0],e2,e3⟩)) [(0,2),(1,3),(2,4),(3,5),(4,6),(5,7),(6,8),(7,9),(8,10),(9,11),(10,12),(11,13),(12,14),(13,15),(14,16),(15,0),(16,17),(17,18),(18,19)] (by simp [fok,nget,nback]; omega) (by simp [hmapOk,nget,hbR,hget,renB,okB,renV,renVs,rn,okVs,okV]) rfl rfl rfl rfl)) ?_
   conv => cbv
   refine Need.mk (show (0 : Int) ≤ 1 ∧ 1 < nc by omega) ?_
   conv => cbv
   refine Cell.at 1 _ (show CS[(1 : Int).toNat]? = some (.int .i64 (.sym d)) by rw [hcs]; exact ipv_get hd0) (by simp [I.val]) rfl ?_
   conv => cbv
   refine CallF.re (args0 := [.ptr 17 (.lit 0),i6 g,.p (.vsl (.sym 1) true [.int .i64 (.sym d)]),.p (.vsl (.sym 1) true [.bool false]),i6 0,i6 5]) (h' := [(0,.fix 0 o),hpA 2 3 7 8 3 W 0 0 0,hpB 3 4 6 3 W,hpC 4 5 233 2 N,hpP 5 L,hpP 6 D1,hpF 7 z false,hpP 8 Q,hpR 9 10 15 3 W 16 0 0 0,hpB 10 11 14 3 W,hpD 11 12 3 1 N 13 231 8 N,hpP 12 P,hpP 13 B,hpP 14 V,hpP 15 Qr,(16,.mix [.p (.vsl (.sym 0) true []),.p (.bool false)]),(0,.fix 0 o),(17,.mix [.ptr 2 (.lit 0),.ptr 9 (.lit 0),.sl 18 3 1 (.lit 0) (.sym nc),.sl 19 3 1 (.lit 0) (.sym ng)]),hpP 18 CS,hpP 19 GS]) (Re.at [(0,0),(2,2),(3,3),(4,4),(5,5),(6,6),(7,7),(8,8),(9,9),(10,10),(11,11),(12,12),(13,13),(14,14),(15,15),(16,16),(17,17),(18,18),(19,19)] []) (cfr (wait17_lx R ws1 vs C N W 0 0 0 L D1 Q z false P B V Qr [] 0 M2 K (fun _ _ => []) nc ng CS GS o S2 ho hY2 hY2b g 0 5 0 0 0 0 0 0 0 0 0 (-1) hM2g hKg rfl [(d,false)] (by simp [hM2d,hKd]) (by simp) (by simp) (by decide) (by simp; omega) 1 rfl [.int .i64 (.sym d)] [.bool false] rfl rfl) [(0,2),(1,3),(2,4),(3,5),(4,6),(5,7),(6,8),(7,9),(8,10),(9,11),(10,12),(11,13),(12,14),(13,15),(14,16),(15,0),(16,17),(17,18),(18,19)] (fun r h' n' hrr => ?_))
   obtain ⟨xs,R3,ws3,vs3,L3,D3,P3,B3,V3,e1,e2,e3,S3,hY3,hY4,hxl,hxn,hxK,hk3,hl3⟩ := hrr
   subst e1 e2 e3
   conv => cbv
   obtain ⟨x,rfl⟩ : ∃ x,xs = [x] := by
    match xs,hxl with
    | [x],_ => exact ⟨x,rfl⟩
   obtain ⟨hMx,_⟩ := hxK x (by simp)
   have hxc : c ≠ x := fun e => by rw [← e,hM2c] at hMx; cases hMx
   have hK3c := (waitB_ne (g := g) (v := 0) (tq := 5) (ps := [(d,false)]) (xs := [x]) (gF := [0,1,0,0,0,0,0,0,0,hdQ [x]]) (B := M2) (a := c) hgc.symm (by simp [hxc])).trans hM2c
   have hq1 : addQ [(d,false)] [x] (fun _ _ => []) d false = [x] := by rw [q0_one,updQ_same]
   have hqn : ∀ e,addQ [(d,false)] [x] (fun _ _ => []) c e = [] := fun e => by rw [q0_one,updQ_ne (fun k => hcd k.1)]
   have hh3 := S3.h
   have hc3 := S3.c
   generalize hK3 : waitB g 0 5 [(d,false)] [x] [0,1,0,0,0,0,0,0,0,hdQ [x]] M2 = K3 at hK3c hc3 hY3
   generalize hQ3 : addQ [(d,false)] [x] (fun _ _ => []) = q3 at hq1 hqn hc3 hY3
   have hM3c := relink_ch (q := q3) hK3c
   rw [hqn true,hqn false] at hM3c
   have hM3c : relink K3 q3 c = some (1,[3,0,u,0,b,-1,-1,-1,-1]) := hM3c
   have hY4 := sysChan hY3 hM3c 1 u 0
   clear hK3 hQ3 hxK hxl S2 hY2 hY2b hY4 S3
   have hY4 := sysChan hY3 hM3c 1 u 0
   refine drawn_sound tok (by kernel_rfl) [(12,[])] [0,1,2,3,4,5,6,7,8,9,10,11,12,13,14,15,16,17] (by kernel_rfl) ?_; conv => cbv
   refine Need.mk (show (0 : Int) ≤ 0 ∧ 0 < nc by omega) ?_
   conv => cbv
   refine Cell.at 0 _ (show CS[(0 : Int).toNat]? = some (.int .i64 (.sym c)) by rw [hcs]; exact ipv_get hc0) (by simp [I.val]) rfl ?_
   conv => cbv
   refine fO (2 * c) fun a1 ha1 => ?_
   have ha1 : a1 = 2 * c := ha1
   conv => cbv
   refine fO (a1 + 1) fun w1 hw1 => ?_
   have hw1 : w1 = a1 + 1 := hw1
   conv => cbv
   have hat1 : atW w1 = c := by rw [show w1 = 2 * c + 1 by omega]; exact hcw
   refine clE (args0 := [.ptr 2 (.lit 0),i6 w1]) (cfr (shutIdle_lx R3 ws3 C [] N W 0 0 0 L3 D3 Q z false hh3 (relink K3 q3) hc3 q3 hY3 o ho rfl w1 (by omega) (by omega) c 3 0 u 0 b (-1) (-1) (-1) (-1) hat1 hM3c rfl (hqn true) (hqn false)) iZ4 (fun r h' n' hrr => ?_))
   obtain ⟨ws4,D4,e1,e2,e3,hh4,hc4⟩ := hrr
   subst e1 e2 e3
   conv => cbv
   have hM4c : upd (relink K3 q3) c (1,[3,1,u,0,b,-1,-1,-1,-1]) c = some (1,[3,1,u,0,b,-1,-1,-1,-1]) := upd_same _ _ _
   generalize upd (relink K3 q3) c (1,[3,1,u,0,b,-1,-1,-1,-1]) = M4 at hc4 hY4 hM4c
   refine read_sound tok (by kernel_rfl) [0,2,3,4,5,6,7,8,9,10,11,12,13,14,15,16,17,18,19] [10] [(14,[13,12,11,10,9,8,7,6,5,4,3,2,1,0]),(15,[13])] [0,1,2,3,4,5,6,7,8,9,10,11,12,13,14,15,16] (by kernel_rfl) ?_
   conv => cbv
   refine Need.mk (show (0 : Int) ≤ 0 ∧ 0 < nc by omega) ?_
   conv => cbv
   refine Cell.at 0 _ (show CS[(0 : Int).toNat]? = some (.int .i64 (.sym c)) by rw [hcs]; exact ipv_get hc0) (by simp [I.val]) rfl ?_
   conv => cbv
   refine ReadF.mk (.tup [.agg [i6 3,i6 1,i6 u,i6 0,i6 b,i6 (-1),i6 (-1),i6 (-1),i6 (-1)],i6 0]) (fun h' n' hbR hnR => clE (args0 := [.ptr 2 (.lit 0),i6 c]) (callF_read ((chanM_lx R3 ws4 C [] N W 0 0 0 L3 D4 Q z false hh4 M4 hc4 c 3 1 u 0 b (-1) (-1) (-1) (-1) hM4c).mono (fun r h n ⟨⟨e,e1,he⟩,e2,e3⟩ => ⟨by rw [e1,he],e2,e3⟩)) [(0,2),(1,3),(2,4),(3,5),(4,6),(5,7),(6,8)] (by simp [fok,nget,nback]; omega) (by simp [hmapOk,nget,hbR,hget,renB,okB,renV,renVs,rn,okVs,okV]) rfl rfl rfl rfl)) ?_
   conv => cbv
   refine drawn_sound tok (by kernel_rfl) [(33,[])] [0,1,2,3,4,5,6,7,8,9,10,11,12,13,14,15,16,17,18,19,20,21,22,23,24,25,26,27,28,29,30,31,32,33,34,35,36,37] (drawnOKF_ok (by kernel_rfl)) ?_; conv => cbv
   refine Br.yes (show (1 : Int) = 1 from rfl) ?_
   conv => cbv
   refine Br.yes (show (0 : Int) = 0 from rfl) ?_
   conv => cbv
   refine Br.yes (show (1 : Int) = 1 from rfl) ?_
   conv => cbv
   refine Br.yes (show u = u from rfl) ?_
   conv => cbv
   refine Need.mk (show (0 : Int) ≤ 1 ∧ 1 < nc by omega) ?_
   conv => cbv
   refine Cell.at 1 _ (show CS[(1 : Int).toNat]? = some (.int .i64 (.sym d)) by rw [hcs]; exact ipv_get hd0) (by simp [I.val]) rfl ?_
   conv => cbv
   refine clE (args0 := [.ptr 2 (.lit 0),i6 d,.p (.bool false)]) (cfr (listAll_lx R3 ws4 C [] N W 0 0 0 L3 D4 Q z false hh4 M4 hc4 q3 hY4 d false (hch9 hY4 d) (hsu7 hY4)) [(0,2),(1,3),(2,4),(3,5),(4,6),(5,7),(6,8)] (fun r h' n' hrr => ?_))
   obtain ⟨ml,cells,e1,e2,e3,hml,hcel⟩ := hrr
   subst e1 e2 e3
   conv => cbv
   refine Br.yes (show ml = 1 from by rw [hml,hq1]; rfl) ?_
   conv => cbv
   refine RetF.mk [.p (.bool true)] [(0,.fix 0 o)] 1 (Re.at [(0,0)] []) rfl rfl
end Go.Proofs.YtkhfgngcoiablaaGreatDoor
