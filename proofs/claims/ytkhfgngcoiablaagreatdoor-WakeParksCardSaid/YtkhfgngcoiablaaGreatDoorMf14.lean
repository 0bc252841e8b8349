/-
  Layer 14: WakeParks.
-/
import Derived.Test.YtkhfgngcoiablaaGreatDoorBi
import Derived.Test.YtkhfgngcoiablaaGreatDoorBg
namespace Go.Proofs.YtkhfgngcoiablaaGreatDoor
open Go Go.LX
set_option maxRecDepth 100000
set_option linter.unusedVariables false
set_option linter.unusedSimpArgs false
set_option maxHeartbeats 32000000
theorem parkM_get : ∀ {l : List Int} {K : Hp} {g c w tq r m : Int},l.Nodup → (∀ x ∈ l,K x = some (3,[g,c,w,-1,tq,r,m])) → ∀ (j : Nat) (x : Int),l[j]? = some x → parkM K l x = some (3,[g,c,w,-1,tq,r,(l[j + 1]?).getD (-1)])
 | [],_,_,_,_,_,_,_,_,_,j,x,h => by simp at h
 | y :: l,K,g,c,w,tq,r,m,hn,hK,j,x,h => by
  rw [List.nodup_cons] at hn
  show parkM (setM K y (hdQ l)) l x = _
  cases j with
  | zero =>
   simp at h
   subst h
   rw [parkM_ne hn.1,setM_eq (hK y List.mem_cons_self),upd_same]
   cases l <;> rfl
  | succ j =>
   rw [List.getElem?_cons_succ] at h
   rw [List.getElem?_cons_succ]
   refine parkM_get (m := m) hn.2 (fun z hz => ?_) j x h
   rw [setM_ne (fun e : z = y => hn.1 (by rw [← e]; exact hz))]
   exact hK z (List.mem_cons_of_mem _ hz)
theorem wakeParks_law (o : Unit → Obj) (ho : IsPow o) (n at_ : Int) (hat : (-9223372036854775808 ≤ at_ ∧ at_ ≤ 9223372036854775807)) : CallF (fun _ => Tryz.prog) 3 [i6 n,i6 at_] [(0,.fix 0 o)] 1 (fun r _ _ => r = .p (.bool true)) := by
 refine callF_of_body tok Tryz.func3 (by kernel_rfl) rfl rfl rfl ?_; conv => cbv
 refine Fit.wrap fun xn hxn => ?_
 have hxn : xn = IntKind.u64.wrap n := hxn
 have hyn : 0 ≤ xn := by rw [hxn]; simp [IntKind.wrap,IntKind.bits,IntKind.signed]; omega
 clear hxn
 conv => cbv
 refine Sum.mk fun tn htn => ?_
 have htn : tn = xn % 4 := (show tn = xn.tmod 4 from htn).trans (Int.tmod_eq_emod_of_nonneg hyn)
 conv => cbv
 refine fO (tn) fun u hu => ?_
 have hu : u = tn := hu
 have hu0 : 0 ≤ u := by omega
 have hu1 : u < 4 := by omega
 clear hu htn hyn
 conv => cbv
 refine CallF.re (args0 := [.p (.vsl (.sym 1) true [.int .i64 (.sym 0)]),i6 1]) (h' := [(0,.fix 0 o)]) (Re.at [(0,0)] []) (cfr (made14_lx o ho [0] 1 1 [.int .i64 (.sym 0)] rfl rfl) [(0,0)] (fun r h' n' hrr => ?_))
 obtain ⟨N,W,C,R,ws,vs,L,D,Q,z,P,B,V,Qr,M,CS,GS,chs,bufs,grs,nc,ng,e1,e2,e3,S,hB,hY,hcs,hgs,hnc,hng,hnm,hn1,hn4,hngo,hcnt,hR,hW⟩ := hrr
 subst e1 e2 e3
 conv => cbv
 refine cfr (awake14_lx o ho) [(0,0)] (fun r h' n' ⟨e1,e2,e3⟩ => ?_)
 subst e1 e2 e3
 conv => cbv
 have hnc1 : nc = 1 := by omega
 obtain ⟨c,hcc⟩ := chA1 hnc hnc1
 have hc0 : chs[0]? = some c := by rw [hcc]; rfl
 obtain ⟨b,hb0,hBC⟩ := hB.ch 0 c 0 hc0 rfl
 have hMc := hBC.c
 rw [capS (by decide)] at hMc
 have hcl := S.c.len S.h.a hMc
 have hcw : atW (2 * c + 1) = c := atW_ptr c
 have hngb := ngor_bd 1
 obtain ⟨g,hg0⟩ : ∃ g,grs[0]? = some g := ⟨_,List.getElem?_eq_getElem (by omega)⟩
 have hMg : M g = some (4,[0,0,0,0,0,0,0,0,0,-1]) := hB.gr 0 g hg0
 have hgl := S.c.len S.h.a hMg
 have hgc : g ≠ c := fun q => by rw [q,hMc] at hMg; cases hMg
 have hcbd : 0 ≤ c ∧ c ≤ 2000 := by omega
 have hgbd : 0 ≤ g ∧ g ≤ 2000 := by omega
 have hbm : b = -1 := by
  rcases hBC.b with q | q
  ·exact q.2
  ·rw [capS (by decide)] at q; omega
 subst hbm
 obtain ⟨hcnt0,hR0⟩ : (objCount R : Int) ≤ 8 ∧ R.length = 60 := ⟨by omega,hR⟩
 have S2 := S.two
 refine LoopF.mk (fun kk s => ∃ (i : Int) (R : List Rw) (ws vs : List Int) (L D P B V : List PV) (K K2 : Hp) (xs : List Int) (LS : List PV),s = ⟨.p (.int .i64 (.sym u)) :: .p (.int .i64 (.sym at_)) :: (undefs 3 ++ .ptr 17 (.lit 0) :: .sl 20 3 1 (.lit 0) (.sym i) :: .p (.int .i64 (.sym i)) :: undefs 174),[hpA 2 3 7 8 3 W 0 0 0,hpB 3 4 6 3 W,hpC 4 5 233 2 N,hpP 5 L,hpP 6 D,hpF 7 z false,hpP 8 Q,hpR 9 10 15 3 W 16 0 0 0,hpB 10 11 14 3 W,hpD 11 12 3 1 N 13 231 8 N,hpP 12 P,hpP 13 B,hpP 14 V,hpP 15 Qr,(16,.mix [.p (.vsl (.sym 0) true []),.p (.bool false)]),(0,.fix 0 o),(17,.mix [.ptr 2 (.lit 0),.ptr 9 (.lit 0),.sl 18 3 1 (.lit 0) (.sym nc),.sl 19 3 1 (.lit 0) (.sym ng)]),hpP 18 CS,hpP 19 GS,(0,.fix 0 o),hpP 20 LS],21⟩ ∧ 0 ≤ i ∧ i ≤ u ∧ i = xs.length ∧ kk = (u - i).toNat ∧ LS = ipv xs ∧ Bs2 R ws vs C N W 0 L D Q z P B V Qr [] 0 K K2 ∧ Sys K (fun _ _ => []) ∧ K c = some (1,[0,0,0,0,-1,-1,-1,-1,-1]) ∧ K g = some (4,[0,0,0,0,0,0,0,0,0,-1]) ∧ xs.Nodup ∧ (∀ x ∈ xs,K x = some (3,[g,-1,0,-1,0,0,5])) ∧ (objCount R : Int) ≤ 8 + i ∧ R.length = 60) u.toNat _
  (Re.at [(0,0),(2,2),(3,3),(4,4),(5,5),(6,6),(7,7),(8,8),(9,9),(10,10),(11,11),(12,12),(13,13),(14,14),(15,15),(16,16),(17,17),(18,18),(19,19)] [20]) ⟨0,R,ws,vs,L,D,P,B,V,M,M,[],[],rfl,by omega,by omega,rfl,by omega,rfl,S2,hY,hMc,hMg,List.nodup_nil,fun x hx => by simp at hx,by omega,hR0⟩ ?_
 clear S S2 hY hB hBC hMc hMg hcnt hcnt0 hR hR0
 rintro kk s ⟨i,R,ws,vs,L,D,P,B,V,K,K2,xs,LS,rfl,hi0,hi1,hix,hkk,hLS,S1,hY1,hKc,hKg,hnd,hKx,hcnt,hR⟩
 have hkk : kk = (u - i).toNat := hkk
 have hix : i = (xs.length : Int) := hix
 conv => cbv
 refine Br.mk (fun gi => ?_) (fun gi => ?_)
 ·have gi : i < u := gi
  conv => cbv
  refine clE (args0 := [.ptr 17 (.lit 0),i6 3,i6 7]) (cfr (allocT14_lx R ws vs C N W 0 0 0 L D Q z false P B V Qr [] 0 K K2 nc ng CS GS o S1 3 7 (by decide) (by unfold lenK; decide) (by omega)) iZ5 (fun r h' n' hrr => ?_))
  obtain ⟨x,R3,ws3,vs3,L3,D3,P3,B3,V3,e1,e2,e3,S3,hk3,hKn,hK2n,hx0,hxW,hl3⟩ := hrr
  subst e1 e2 e3
  conv => cbv
  have hYx := (newSu2 (g := g) (c := -1) (w := 0) (p := 0) (r := 0) (m := 5) hY1 hKn).1
  have hxc : c ≠ x := fun e => by rw [← e,hKc] at hKn; cases hKn
  have hxg : g ≠ x := fun e => by rw [← e,hKg] at hKn; cases hKn
  refine drawn_sound tok (by kernel_rfl) [(6,[4,3,2,1,0]),(8,[])] [0,1,2,3,4,5,6,7,8,9] (by kernel_rfl) ?_; conv => cbv
  refine clE (args0 := [.ptr 17 (.lit 0),i6 0]) (cfr (gor14_lx R3 ws3 vs3 C N W 0 0 0 L3 D3 Q z false P3 B3 V3 Qr [] 0 M nc ng CS GS o 0 grs hgs hng (by omega) (by omega)) iZ5 (fun r h' n' hrr => ?_))
  obtain ⟨⟨y1,e1,hy1⟩,e2,e3⟩ := hrr
  subst e1 e2 e3
  conv => cbv
  obtain rfl : g = y1 := (ix0 hy1 hg0).symm
  have hbz : ∀ q ∈ [g,-1,-1,0,0,5],b62 q := by
   simp only [List.forall_mem_cons]; unfold b62
   exact ⟨by omega,by omega,by omega,by omega,by omega,by omega,fun q hq => by cases hq⟩
  have hpz : ∀ q ∈ [g,-1,-1,5],-1 ≤ q := by
   simp only [List.forall_mem_cons]
   exact ⟨by omega,by omega,by omega,by omega,fun q hq => by cases hq⟩
  have hwz : ∀ q ∈ [(0 : Int)],-9223372036854775808 ≤ q ∧ q ≤ 9223372036854775807 := fun q hq => by simp at hq; subst hq; decide
  have hMz : upd K x (3,zerK 3 7) x = some (3,[-1,-1,0,-1,0,0,-1]) := upd_same _ _ _
  refine clE (args0 := [.ptr 2 (.lit 0),i6 x,.agg [i6 g,i6 (-1),i6 0,i6 (-1),i6 0,i6 0,i6 5]]) (cfr (putSudogM_lx R3 ws3 C [] N W 0 0 0 L3 D3 Q z false S3.h _ S3.c o ho rfl x g (-1) 0 (-1) 0 0 5 [-1,-1,0,-1,0,0,-1] hMz rfl hbz hwz hpz) iZ6 (fun r h' n' hrr => ?_))
  obtain ⟨e8,ws4,D4,e1,he8,e2,e3,hh4,hc4⟩ := hrr
  subst e1 e2 e3
  conv => cbv
  rw [upd_upd2] at hc4
  refine Br.no (show ¬ (¬ (e8 = 0)) from fun q => q he8) ?_
  conv => cbv
  have hLl : LS.length = xs.length := by rw [hLS,ipv_length]
  refine Room.new rfl ?_
  conv => cbv
  refine Room.new ⟨?_,?_,?_⟩ ?_
  ·show (LS.length : Int) = i * 1; omega
  ·show (i + 1) * 8 ≤ 140737488355328; omega
  ·show i + 1 ≤ 9223372036854775807; omega
  conv => cbv
  refine Upd.mk fun LS2 hLS2 => ?_
  have hLS2 : LS2 = LS ++ [.int .i64 (.sym x)] := hLS2
  have hLS3 : LS2 = ipv (xs ++ [x]) := by rw [hLS2,hLS,← ipv_app]; rfl
  conv => cbv
  refine Sum.mk fun j2 hj2 => ?_
  have hj2 : j2 = i + 1 := hj2
  conv => cbv
  refine fO (i + 1) fun j3 hj3 => ?_
  obtain rfl : j2 = j3 := hj2.trans (show j3 = i + 1 from hj3).symm
  conv => cbv
  refine Again.mk (u - j2).toNat _ (by omega) (Re.at [(0,0),(2,2),(3,3),(4,4),(5,5),(6,6),(7,7),(8,8),(9,9),(10,10),(11,11),(12,12),(13,13),(14,14),(15,15),(16,16),(17,17),(18,18),(19,19),(22,20)] []) ⟨j2,R3,ws4,vs3,L3,D4,P3,B3,V3,upd K x (3,[g,-1,0,-1,0,0,5]),_,xs ++ [x],LS2,rfl,by omega,by omega,by rw [List.length_append,List.length_singleton]; show j2 = ((xs.length + 1 : Nat) : Int); omega,rfl,hLS3,⟨hh4,S3.r,hc4,S3.d,rfl,S3.w⟩,hYx,by rw [upd_ne hxc]; exact hKc,by rw [upd_ne hxg]; exact hKg,?_,?_,(show (objCount R3 : Int) ≤ 8 + j2 by omega),hl3.trans hR⟩
  ·rw [List.nodup_append]
   refine ⟨hnd,by simp,fun a ha b hb e => ?_⟩
   rw [List.mem_singleton] at hb
   have := hKx a ha
   rw [e,hb,hKn] at this
   cases this
  ·intro y hy
   rw [List.mem_append,List.mem_singleton] at hy
   rcases hy with hy | hy
   ·rw [upd_ne (fun e => by have := hKx y hy; rw [e,hKn] at this; cases this)]; exact hKx y hy
   ·rw [hy]; exact upd_same _ _ _
 ·have gi : ¬ i < u := gi
  conv => cbv
  obtain rfl : u = i := by omega
  have hh := S1.h
  have hc := S1.c
  clear hkk gi
  refine drawn_sound tok (by kernel_rfl) [(5,[6,3,2,1,0]),(7,[])] [0,1,2,3,4,6,5,7,8] (by kernel_rfl) ?_; conv => cbv
  refine clE (args0 := [.ptr 17 (.lit 0),i6 0]) (cfr (gor14_lx R ws vs C N W 0 0 0 L D Q z false P B V Qr [] 0 M nc ng CS GS o 0 grs hgs hng (by omega) (by omega)) iZ5 (fun r h' n' hrr => ?_))
  obtain ⟨⟨y1,e1,hy1⟩,e2,e3⟩ := hrr
  subst e1 e2 e3
  conv => cbv
  obtain rfl : g = y1 := (ix0 hy1 hg0).symm
  refine cfr (parkS_lx R ws C [] N W 0 0 0 L D Q z false hh K hc (fun _ _ => []) hY1 o ho rfl g 0 0 0 0 0 0 0 0 0 (-1) xs u LS hLS hix (by omega) hKg (fun x hx => ⟨_,_,_,_,_,_,_,hKx x hx⟩)) [(0,2),(1,3),(2,4),(3,5),(4,6),(5,7),(6,8),(7,0),(8,20)] (fun r h' n' hrr => ?_)
  obtain ⟨e1_,he1_,ws4,D4,e1,e2,e3,hh4,hc4⟩ := hrr
  subst e1 e2 e3
  conv => cbv
  obtain ⟨hd,hhd⟩ : ∃ hd,hd = hdQ xs := ⟨_,rfl⟩
  rw [← hhd] at hc4
  obtain ⟨M4,hM4⟩ : ∃ M4,M4 = upd (parkM K xs) g (4,[0,1,0,0,0,0,0,0,0,hd]) := ⟨_,rfl⟩
  rw [← hM4] at hc4
  have hM4g : M4 g = some (4,[0,1,0,0,0,0,0,0,0,hd]) := by rw [hM4]; exact upd_same _ _ _
  have hM4x : ∀ (j : Nat) (x : Int),xs[j]? = some x → M4 x = some (3,[g,-1,0,-1,0,0,(xs[j + 1]?).getD (-1)]) := fun j x hx => by
   have h1 : x ≠ g := fun e => by have := hKx x (List.mem_of_getElem? hx); rw [e,hKg] at this; cases this
   rw [hM4,upd_ne h1]
   exact parkM_get hnd hKx j x hx
  have hM4c : M4 c = some (1,[0,0,0,0,-1,-1,-1,-1,-1]) := by
   have h1 : c ∉ xs := fun e => by have := hKx c e; rw [hKc] at this; cases this
   rw [hM4,upd_ne hgc.symm,parkM_ne h1]; exact hKc
  clear hM4
  refine readF_sound tok (by kernel_rfl) [0,2,3,4,5,6,7,8,9,10,11,12,13,14,15,16,17,18,19,20] [5,6] [(10,[9,8,7,6,5,4,3,2,1,0]),(11,[9])] [0,1,2,3,4,5,6,7,8,9,10,11,12] (by kernel_rfl) ?_
  conv => cbv
  refine ReadF.mk (.p (.int .i64 (.sym g))) (fun h' n' hbR hnR => clE (args0 := [.ptr 17 (.lit 0),i6 0]) (callF_read ((gor14_lx R ws4 vs C N W 0 0 0 L D4 Q z false P B V Qr [] 0 M nc ng CS GS o 0 grs hgs hng (by omega) (by omega)).mono (fun r h n ⟨⟨x,e1,hx⟩,e2,e3⟩ => ⟨by rw [e1,ix0 hx hg0],e2,e3⟩)) [(0,2),(1,3),(2,4),(3,5),(4,6),(5,7),(6,8),(7,9),(8,10),(9,11),(10,12),(11,13),(12,14),(13,15),(14,16),(15,0),(16,17),(17,18),(18,19)] (by simp [fok,nget,nback]; omega) (by simp [hmapOk,nget,hbR,hget,renB,okB,renV,renVs,rn,okVs,okV]) rfl rfl rfl rfl)) ?_
  conv => cbv
  refine ReadF.mk (.tup [.agg [i6 0,i6 1,i6 0,i6 0,i6 0,i6 0,i6 0,i6 0,i6 0,i6 hd],i6 0]) (fun h' n' hbR hnR => clE (args0 := [.ptr 2 (.lit 0),i6 g]) (callF_read ((gorM_lx R ws4 C [] N W 0 0 0 L D4 Q z false hh4 M4 hc4 g 0 1 0 0 0 0 0 0 0 hd hM4g).mono (fun r h n ⟨⟨e,e1,he⟩,e2,e3⟩ => ⟨by rw [e1,he],e2,e3⟩)) [(0,2),(1,3),(2,4),(3,5),(4,6),(5,7),(6,8)] (by simp [fok,nget,nback]; omega) (by simp [hmapOk,nget,hbR,hget,renB,okB,renV,renVs,rn,okVs,okV]) rfl rfl rfl rfl)) ?_
  conv => cbv
  refine drawn_sound tok (by kernel_rfl) [] [0,1,2,3,4,5,6,7,8,9,10,11,12,13,14,15,16,17,18,19,20,21,22,23,24,25,26,27,28,29,30,31] (drawnOKF_ok (by kernel_rfl)) ?_; conv => cbv
  refine Br.no (show ¬ (¬ (e1_ = 0)) from fun q => q he1_) ?_
  conv => cbv
  refine Br.no (show ¬ (¬ ((0 : Int) = (0 : Int))) from fun q => q rfl) ?_
  conv => cbv
  refine Br.no (show ¬ (¬ ((1 : Int) = (1 : Int))) from fun q => q rfl) ?_
  conv => cbv
  refine Br.mk (fun gu => ?_) (fun gu => ?_)
  ·have gu : u = 0 := gu
   have hxs : xs = [] := List.eq_nil_of_length_eq_zero (by omega)
   have hhd1 : hd = -1 := by rw [hhd,hxs]; rfl
   conv => cbv
   refine Br.no (show ¬ (¬ (hd = -1)) from fun q => q hhd1) ?_
   conv => cbv
   refine Br.no (show ¬ (0 < u) from by omega) ?_
   conv => cbv
   refine LoopF.mk (fun kk s => ∃ (j : Int),s = ⟨.p (.int .i64 (.sym u)) :: .p (.int .i64 (.sym at_)) :: (undefs 3 ++ .ptr 17 (.lit 0) :: .sl 20 3 1 (.lit 0) (.sym u) :: (undefs 5 ++ .p (.int .i64 (.sym j)) :: undefs 169)),[hpA 2 3 7 8 3 W 0 0 0,hpB 3 4 6 3 W,hpC 4 5 233 2 N,hpP 5 L,hpP 6 D4,hpF 7 z false,hpP 8 Q,hpR 9 10 15 3 W 16 0 0 0,hpB 10 11 14 3 W,hpD 11 12 3 1 N 13 231 8 N,hpP 12 P,hpP 13 B,hpP 14 V,hpP 15 Qr,(16,.mix [.p (.vsl (.sym 0) true []),.p (.bool false)]),(0,.fix 0 o),(17,.mix [.ptr 2 (.lit 0),.ptr 9 (.lit 0),.sl 18 3 1 (.lit 0) (.sym nc),.sl 19 3 1 (.lit 0) (.sym ng)]),hpP 18 CS,hpP 19 GS,(0,.fix 0 o),hpP 20 LS],22⟩ ∧ 0 ≤ j ∧ j ≤ u ∧ kk = (u - j).toNat) u.toNat _
    (Re.at [(0,0),(2,2),(3,3),(4,4),(5,5),(6,6),(7,7),(8,8),(9,9),(10,10),(11,11),(12,12),(13,13),(14,14),(15,15),(16,16),(17,17),(18,18),(19,19),(20,20)] []) ⟨0,rfl,by omega,by omega,by omega⟩ ?_
   rintro kk s ⟨j,rfl,hj0,hj1,hkk⟩
   have hkk : kk = (u - j).toNat := hkk
   conv => cbv
   refine Br.mk (fun gj => ?_) (fun gj => ?_)
   ·have gj : j < u := gj
    obtain ⟨y,hy⟩ : ∃ a,xs[j.toNat]? = some a := ⟨_,List.getElem?_eq_getElem (by omega)⟩
    have hcelly : LS[j.toNat]? = some (.int .i64 (.sym y)) := by rw [hLS]; exact ipv_get hy
    have hMy := hM4x _ _ hy
    obtain ⟨my,hmy⟩ : ∃ my,my = (xs[j.toNat + 1]?).getD (-1) := ⟨_,rfl⟩
    rw [← hmy] at hMy
    conv => cbv
    refine readF_sound tok (by kernel_rfl) [0,2,3,4,5,6,7,8,9,10,11,12,13,14,15,16,17,18,19,20] [8] [(12,[11,10,9,8,7,6,5,4,3,2,1,0]),(13,[11])] [0,1,2,3,4,5,6,7,8,9,10,11,12,13,14] (by kernel_rfl) ?_
    conv => cbv
    refine Need.mk (show 0 ≤ j ∧ j < u by omega) ?_
    conv => cbv
    refine Cell.at j _ hcelly (by simp [I.val]) rfl ?_
    conv => cbv
    refine ReadF.mk (.tup [.agg [i6 g,i6 (-1),i6 0,i6 (-1),i6 0,i6 0,i6 my],i6 0]) (fun h' n' hbR hnR => clE (args0 := [.ptr 2 (.lit 0),i6 y]) (callF_read ((sudogM_lx R ws4 C [] N W 0 0 0 L D4 Q z false hh4 M4 hc4 y g (-1) 0 (-1) 0 0 my hMy).mono (fun r h n ⟨⟨e,e1,he⟩,e2,e3⟩ => ⟨by rw [e1,he],e2,e3⟩)) [(0,2),(1,3),(2,4),(3,5),(4,6),(5,7),(6,8)] (by simp [fok,nget,nback]; omega) (by simp [hmapOk,nget,hbR,hget,renB,okB,renV,renVs,rn,okVs,okV]) rfl rfl rfl rfl)) ?_
    conv => cbv
    refine fO (j + 1) fun j2 hj2 => ?_
    have hj2 : j2 = j + 1 := hj2
    conv => cbv
    refine Br.mk (fun gk => ?_) (fun gk => ?_)
    ·have gk : j2 < u := gk
     obtain ⟨y2,hy2⟩ : ∃ a,xs[j2.toNat]? = some a := ⟨_,List.getElem?_eq_getElem (by omega)⟩
     have hcell2 : LS[j2.toNat]? = some (.int .i64 (.sym y2)) := by rw [hLS]; exact ipv_get hy2
     have hn2 : my = y2 := by rw [hmy,show j.toNat + 1 = j2.toNat by omega,hy2]; rfl
     conv => cbv
     refine fO (j + 1) fun j3 hj3 => ?_
     obtain rfl : j2 = j3 := hj2.trans (show j3 = j + 1 from hj3).symm
     conv => cbv
     refine Need.mk (show 0 ≤ j2 ∧ j2 < u by omega) ?_
     conv => cbv
     refine Cell.at j2 _ hcell2 (by simp [I.val]) rfl ?_
     conv => cbv
     refine Br.no (show ¬ ¬ (my = y2) from fun q => q hn2) ?_
     conv => cbv
     refine fO (j + 1) fun j4 hj4 => ?_
     have hj4 : j4 = j + 1 := hj4
     conv => cbv
     refine Again.mk (u - j4).toNat _ (by omega) (Re.at [(0,0),(2,2),(3,3),(4,4),(5,5),(6,6),(7,7),(8,8),(9,9),(10,10),(11,11),(12,12),(13,13),(14,14),(15,15),(16,16),(17,17),(18,18),(19,19),(20,20)] []) ⟨j4,rfl,by omega,by omega,rfl⟩
    ·have gk : ¬ j2 < u := gk
     have hn2 : my = -1 := by rw [hmy,List.getElem?_eq_none (by omega)]; rfl
     conv => cbv
     refine Br.no (show ¬ ¬ (my = -1) from fun q => q hn2) ?_
     conv => cbv
     refine fO (j + 1) fun j4 hj4 => ?_
     have hj4 : j4 = j + 1 := hj4
     conv => cbv
     refine Again.mk (u - j4).toNat _ (by omega) (Re.at [(0,0),(2,2),(3,3),(4,4),(5,5),(6,6),(7,7),(8,8),(9,9),(10,10),(11,11),(12,12),(13,13),(14,14),(15,15),(16,16),(17,17),(18,18),(19,19),(20,20)] []) ⟨j4,rfl,by omega,by omega,rfl⟩
   ·have gj : ¬ j < u := gj
    conv => cbv
    refine drawn_sound tok (by kernel_rfl) [(5,[3,2,1,0]),(6,[])] [0,1,2,3,4,5,6,7,8,9,10,11] (by kernel_rfl) ?_; conv => cbv
    refine clE (args0 := [.ptr 17 (.lit 0),i6 0]) (cfr (ch14_lx R ws4 vs C N W 0 0 0 L D4 Q z false P B V Qr [] 0 M nc ng CS GS o 0 chs hcs hnc (by omega) (by omega)) iZ5 (fun r h' n' hrr => ?_))
    obtain ⟨⟨x5,e1,hx5⟩,e2,e3⟩ := hrr
    subst e1 e2 e3
    conv => cbv
    obtain rfl : c = x5 := (ix0 hx5 hc0).symm
    have hcn3 : ∀ F,M4 c ≠ some (3,F) := fun F e => by rw [hM4c] at e; cases e
    have hcn4 : ∀ F,M4 c ≠ some (4,F) := fun F e => by rw [hM4c] at e; cases e
    refine clE (args0 := [.ptr 2 (.lit 0),i6 c,i6 0]) (cfr (wakeNo_lx R ws4 C [] N W 0 0 0 L D4 Q z false hh4 M4 hc4 o c 0 hcn3) iZ6 (fun r h' n' hrr => ?_))
    obtain ⟨e1,e2,e3⟩ := hrr
    subst e1 e2 e3
    conv => cbv
    refine callF_frame (wakeNil_lx (.sym at_) (.lit 0)) [] rfl trivial rfl rfl (fun r h' n' ⟨e1,e2,e3⟩ => ?_)
    subst e1 e2 e3
    conv => cbv
    refine drawn_sound tok (by kernel_rfl) [(8,[]),(17,[15,14,13,12]),(18,[]),(27,[28,25,24,23,22]),(29,[25,24,23,22]),(30,[25,24,23,22]),(31,[])] [0,1,2,3,4,5,6,7,8,9,10,11,12,13,14,15,16,17,18,19,20,21,22,23,24,25,26,28,27,29,30,31,32,33,34] (drawnOKF_ok (by kernel_rfl)) ?_; conv => cbv
    refine Br.yes (show (10 : Int) = 10 from rfl) ?_
    conv => cbv
    refine Br.yes (show (2 : Int) = 2 from rfl) ?_
    conv => cbv
    refine clE (args0 := [.p .nilp,i6 at_,.p (.vsl (.sym 0) true [])]) (callF_frame (parkNil_lx (.sym at_) [] (.sym 0)) [] rfl trivial rfl rfl (fun r h' n' ⟨e1,e2,e3⟩ => ?_))
    subst e1 e2 e3
    conv => cbv
    refine Br.yes (show (2 : Int) = 2 from rfl) ?_
    conv => cbv
    refine clE (args0 := [.ptr 17 (.lit 0),i6 0]) (cfr (ch14_lx R ws4 vs C N W 0 0 0 L D4 Q z false P B V Qr [] 0 M nc ng CS GS o 0 chs hcs hnc (by omega) (by omega)) iZ5 (fun r h' n' hrr => ?_))
    obtain ⟨⟨x6,e1,hx6⟩,e2,e3⟩ := hrr
    subst e1 e2 e3
    conv => cbv
    obtain rfl : c = x6 := (ix0 hx6 hc0).symm
    refine clE (args0 := [.ptr 2 (.lit 0),i6 c,.p (.vsl (.sym 0) true [])]) (cfr (parkNo_lx R ws4 C [] N W 0 0 0 L D4 Q z false hh4 M4 hc4 o c [] (.sym 0) hcn4) iZ6 (fun r h' n' hrr => ?_))
    obtain ⟨e1,e2,e3⟩ := hrr
    subst e1 e2 e3
    conv => cbv
    refine Br.yes (show (10 : Int) = 10 from rfl) ?_
    conv => cbv
    refine clE (args0 := [.ptr 17 (.lit 0),i6 0]) (cfr (gor14_lx R ws4 vs C N W 0 0 0 L D4 Q z false P B V Qr [] 0 M nc ng CS GS o 0 grs hgs hng (by omega) (by omega)) iZ5 (fun r h' n' hrr => ?_))
    obtain ⟨⟨x7,e1,hx7⟩,e2,e3⟩ := hrr
    subst e1 e2 e3
    conv => cbv
    obtain rfl : g = x7 := (ix0 hx7 hg0).symm
    refine clE (args0 := [.ptr 17 (.lit 0),i6 0]) (cfr (ch14_lx R ws4 vs C N W 0 0 0 L D4 Q z false P B V Qr [] 0 M nc ng CS GS o 0 chs hcs hnc (by omega) (by omega)) iZ5 (fun r h' n' hrr => ?_))
    obtain ⟨⟨x8,e1,hx8⟩,e2,e3⟩ := hrr
    subst e1 e2 e3
    conv => cbv
    obtain rfl : c = x8 := (ix0 hx8 hc0).symm
    refine CallF.re (args0 := [.ptr 2 (.lit 0),i6 g,.p (.vsl (.sym 1) true [.int .i64 (.sym c)])]) (h' := [hpA 2 3 7 8 3 W 0 0 0,hpB 3 4 6 3 W,hpC 4 5 233 2 N,hpP 5 L,hpP 6 D4,hpF 7 z false,hpP 8 Q,hpR 9 10 15 3 W 16 0 0 0,hpB 10 11 14 3 W,hpD 11 12 3 1 N 13 231 8 N,hpP 12 P,hpP 13 B,hpP 14 V,hpP 15 Qr,(16,.mix [.p (.vsl (.sym 0) true []),.p (.bool false)]),(0,.fix 0 o),(17,.mix [.ptr 2 (.lit 0),.ptr 9 (.lit 0),.sl 18 3 1 (.lit 0) (.sym nc),.sl 19 3 1 (.lit 0) (.sym ng)]),hpP 18 CS,hpP 19 GS,(0,.fix 0 o),hpP 20 LS]) (Re.at [(0,0),(2,2),(3,3),(4,4),(5,5),(6,6),(7,7),(8,8),(9,9),(10,10),(11,11),(12,12),(13,13),(14,14),(15,15),(16,16),(17,17),(18,18),(19,19),(20,20)] []) (cfr (parkBad_lx R ws4 C [] N W 0 0 0 L D4 Q z false hh4 M4 hc4 o g c 0 1 0 0 0 0 0 0 0 hd hM4g hcn3) iZ6 (fun r h' n' ⟨e1,e2,e3⟩ => ?_))
    subst e1 e2 e3
    conv => cbv
    refine Br.yes (show (10 : Int) = 10 from rfl) ?_
    conv => cbv
    refine RetF.mk [.p (.bool true)] [(0,.fix 0 o)] 1 (Re.at [(0,0)] []) rfl rfl
  ·have gu : ¬ u = 0 := gu
   obtain ⟨x0,hx0⟩ : ∃ a,xs[0]? = some a := ⟨_,List.getElem?_eq_getElem (by omega)⟩
   have hhd1 : hd = x0 := by rw [hhd]; unfold hdQ; rw [List.head?_eq_getElem?,hx0]; rfl
   have hcell0 : LS[(0 : Int).toNat]? = some (.int .i64 (.sym x0)) := by rw [hLS]; exact ipv_get hx0
   conv => cbv
   refine Br.yes (show 0 < u from by omega) ?_
   conv => cbv
   refine Need.mk (show (0 : Int) ≤ 0 ∧ 0 < u by omega) ?_
   conv => cbv
   refine Cell.at 0 _ hcell0 (by simp [I.val]) rfl ?_
   conv => cbv
   refine Br.no (show ¬ (¬ (hd = x0)) from fun q => q hhd1) ?_
   conv => cbv
   refine LoopF.mk (fun kk s => ∃ (j : Int),s = ⟨.p (.int .i64 (.sym u)) :: .p (.int .i64 (.sym at_)) :: (undefs 3 ++ .ptr 17 (.lit 0) :: .sl 20 3 1 (.lit 0) (.sym u) :: (undefs 5 ++ .p (.int .i64 (.sym j)) :: undefs 169)),[hpA 2 3 7 8 3 W 0 0 0,hpB 3 4 6 3 W,hpC 4 5 233 2 N,hpP 5 L,hpP 6 D4,hpF 7 z false,hpP 8 Q,hpR 9 10 15 3 W 16 0 0 0,hpB 10 11 14 3 W,hpD 11 12 3 1 N 13 231 8 N,hpP 12 P,hpP 13 B,hpP 14 V,hpP 15 Qr,(16,.mix [.p (.vsl (.sym 0) true []),.p (.bool false)]),(0,.fix 0 o),(17,.mix [.ptr 2 (.lit 0),.ptr 9 (.lit 0),.sl 18 3 1 (.lit 0) (.sym nc),.sl 19 3 1 (.lit 0) (.sym ng)]),hpP 18 CS,hpP 19 GS,(0,.fix 0 o),hpP 20 LS],22⟩ ∧ 0 ≤ j ∧ j ≤ u ∧ kk = (u - j).toNat) u.toNat _
    (Re.at [(0,0),(2,2),(3,3),(4,4),(5,5),(6,6),(7,7),(8,8),(9,9),(10,10),(11,11),(12,12),(13,13),(14,14),(15,15),(16,16),(17,17),(18,18),(19,19),(20,20)] []) ⟨0,rfl,by omega,by omega,by omega⟩ ?_
   rintro kk s ⟨j,rfl,hj0,hj1,hkk⟩
   have hkk : kk = (u - j).toNat := hkk
   conv => cbv
   refine Br.mk (fun gj => ?_) (fun gj => ?_)
   ·have gj : j < u := gj
    obtain ⟨y,hy⟩ : ∃ a,xs[j.toNat]? = some a := ⟨_,List.getElem?_eq_getElem (by omega)⟩
    have hcelly : LS[j.toNat]? = some (.int .i64 (.sym y)) := by rw [hLS]; exact ipv_get hy
    have hMy := hM4x _ _ hy
    obtain ⟨my,hmy⟩ : ∃ my,my = (xs[j.toNat + 1]?).getD (-1) := ⟨_,rfl⟩
    rw [← hmy] at hMy
    conv => cbv
    refine readF_sound tok (by kernel_rfl) [0,2,3,4,5,6,7,8,9,10,11,12,13,14,15,16,17,18,19,20] [8] [(12,[11,10,9,8,7,6,5,4,3,2,1,0]),(13,[11])] [0,1,2,3,4,5,6,7,8,9,10,11,12,13,14] (by kernel_rfl) ?_
    conv => cbv
    refine Need.mk (show 0 ≤ j ∧ j < u by omega) ?_
    conv => cbv
    refine Cell.at j _ hcelly (by simp [I.val]) rfl ?_
    conv => cbv
    refine ReadF.mk (.tup [.agg [i6 g,i6 (-1),i6 0,i6 (-1),i6 0,i6 0,i6 my],i6 0]) (fun h' n' hbR hnR => clE (args0 := [.ptr 2 (.lit 0),i6 y]) (callF_read ((sudogM_lx R ws4 C [] N W 0 0 0 L D4 Q z false hh4 M4 hc4 y g (-1) 0 (-1) 0 0 my hMy).mono (fun r h n ⟨⟨e,e1,he⟩,e2,e3⟩ => ⟨by rw [e1,he],e2,e3⟩)) [(0,2),(1,3),(2,4),(3,5),(4,6),(5,7),(6,8)] (by simp [fok,nget,nback]; omega) (by simp [hmapOk,nget,hbR,hget,renB,okB,renV,renVs,rn,okVs,okV]) rfl rfl rfl rfl)) ?_
    conv => cbv
    refine fO (j + 1) fun j2 hj2 => ?_
    have hj2 : j2 = j + 1 := hj2
    conv => cbv
    refine Br.mk (fun gk => ?_) (fun gk => ?_)
    ·have gk : j2 < u := gk
     obtain ⟨y2,hy2⟩ : ∃ a,xs[j2.toNat]? = some a := ⟨_,List.getElem?_eq_getElem (by omega)⟩
     have hcell2 : LS[j2.toNat]? = some (.int .i64 (.sym y2)) := by rw [hLS]; exact ipv_get hy2
     have hn2 : my = y2 := by rw [hmy,show j.toNat + 1 = j2.toNat by omega,hy2]; rfl
     conv => cbv
     refine fO (j + 1) fun j3 hj3 => ?_
     obtain rfl : j2 = j3 := hj2.trans (show j3 = j + 1 from hj3).symm
     conv => cbv
     refine Need.mk (show 0 ≤ j2 ∧ j2 < u by omega) ?_
     conv => cbv
     refine Cell.at j2 _ hcell2 (by simp [I.val]) rfl ?_
     conv => cbv
     refine Br.no (show ¬ ¬ (my = y2) from fun q => q hn2) ?_
     conv => cbv
     refine fO (j + 1) fun j4 hj4 => ?_
     have hj4 : j4 = j + 1 := hj4
     conv => cbv
     refine Again.mk (u - j4).toNat _ (by omega) (Re.at [(0,0),(2,2),(3,3),(4,4),(5,5),(6,6),(7,7),(8,8),(9,9),(10,10),(11,11),(12,12),(13,13),(14,14),(15,15),(16,16),(17,17),(18,18),(19,19),(20,20)] []) ⟨j4,rfl,by omega,by omega,rfl⟩
    ·have gk : ¬ j2 < u := gk
     have hn2 : my = -1 := by rw [hmy,List.getElem?_eq_none (by omega)]; rfl
     conv => cbv
     refine Br.no (show ¬ ¬ (my = -1) from fun q => q hn2) ?_
     conv => cbv
     refine fO (j + 1) fun j4 hj4 => ?_
     have hj4 : j4 = j + 1 := hj4
     conv => cbv
     refine Again.mk (u - j4).toNat _ (by omega) (Re.at [(0,0),(2,2),(3,3),(4,4),(5,5),(6,6),(7,7),(8,8),(9,9),(10,10),(11,11),(12,12),(13,13),(14,14),(15,15),(16,16),(17,17),(18,18),(19,19),(20,20)] []) ⟨j4,rfl,by omega,by omega,rfl⟩
   ·have gj : ¬ j < u := gj
    conv => cbv
    refine drawn_sound tok (by kernel_rfl) [(5,[3,2,1,0]),(6,[])] [0,1,2,3,4,5,6,7,8,9,10,11] (by kernel_rfl) ?_; conv => cbv
    refine clE (args0 := [.ptr 17 (.lit 0),i6 0]) (cfr (ch14_lx R ws4 vs C N W 0 0 0 L D4 Q z false P B V Qr [] 0 M nc ng CS GS o 0 chs hcs hnc (by omega) (by omega)) iZ5 (fun r h' n' hrr => ?_))
    obtain ⟨⟨x5,e1,hx5⟩,e2,e3⟩ := hrr
    subst e1 e2 e3
    conv => cbv
    obtain rfl : c = x5 := (ix0 hx5 hc0).symm
    have hcn3 : ∀ F,M4 c ≠ some (3,F) := fun F e => by rw [hM4c] at e; cases e
    have hcn4 : ∀ F,M4 c ≠ some (4,F) := fun F e => by rw [hM4c] at e; cases e
    refine clE (args0 := [.ptr 2 (.lit 0),i6 c,i6 0]) (cfr (wakeNo_lx R ws4 C [] N W 0 0 0 L D4 Q z false hh4 M4 hc4 o c 0 hcn3) iZ6 (fun r h' n' hrr => ?_))
    obtain ⟨e1,e2,e3⟩ := hrr
    subst e1 e2 e3
    conv => cbv
    refine callF_frame (wakeNil_lx (.sym at_) (.lit 0)) [] rfl trivial rfl rfl (fun r h' n' ⟨e1,e2,e3⟩ => ?_)
    subst e1 e2 e3
    conv => cbv
    refine drawn_sound tok (by kernel_rfl) [(8,[]),(17,[15,14,13,12]),(18,[]),(27,[28,25,24,23,22]),(29,[25,24,23,22]),(30,[25,24,23,22]),(31,[])] [0,1,2,3,4,5,6,7,8,9,10,11,12,13,14,15,16,17,18,19,20,21,22,23,24,25,26,28,27,29,30,31,32,33,34] (drawnOKF_ok (by kernel_rfl)) ?_; conv => cbv
    refine Br.yes (show (10 : Int) = 10 from rfl) ?_
    conv => cbv
    refine Br.yes (show (2 : Int) = 2 from rfl) ?_
    conv => cbv
    refine clE (args0 := [.p .nilp,i6 at_,.p (.vsl (.sym 0) true [])]) (callF_frame (parkNil_lx (.sym at_) [] (.sym 0)) [] rfl trivial rfl rfl (fun r h' n' ⟨e1,e2,e3⟩ => ?_))
    subst e1 e2 e3
    conv => cbv
    refine Br.yes (show (2 : Int) = 2 from rfl) ?_
    conv => cbv
    refine clE (args0 := [.ptr 17 (.lit 0),i6 0]) (cfr (ch14_lx R ws4 vs C N W 0 0 0 L D4 Q z false P B V Qr [] 0 M nc ng CS GS o 0 chs hcs hnc (by omega) (by omega)) iZ5 (fun r h' n' hrr => ?_))
    obtain ⟨⟨x6,e1,hx6⟩,e2,e3⟩ := hrr
    subst e1 e2 e3
    conv => cbv
    obtain rfl : c = x6 := (ix0 hx6 hc0).symm
    refine clE (args0 := [.ptr 2 (.lit 0),i6 c,.p (.vsl (.sym 0) true [])]) (cfr (parkNo_lx R ws4 C [] N W 0 0 0 L D4 Q z false hh4 M4 hc4 o c [] (.sym 0) hcn4) iZ6 (fun r h' n' hrr => ?_))
    obtain ⟨e1,e2,e3⟩ := hrr
    subst e1 e2 e3
    conv => cbv
    refine Br.yes (show (10 : Int) = 10 from rfl) ?_
    conv => cbv
    refine clE (args0 := [.ptr 17 (.lit 0),i6 0]) (cfr (gor14_lx R ws4 vs C N W 0 0 0 L D4 Q z false P B V Qr [] 0 M nc ng CS GS o 0 grs hgs hng (by omega) (by omega)) iZ5 (fun r h' n' hrr => ?_))
    obtain ⟨⟨x7,e1,hx7⟩,e2,e3⟩ := hrr
    subst e1 e2 e3
    conv => cbv
    obtain rfl : g = x7 := (ix0 hx7 hg0).symm
    refine clE (args0 := [.ptr 17 (.lit 0),i6 0]) (cfr (ch14_lx R ws4 vs C N W 0 0 0 L D4 Q z false P B V Qr [] 0 M nc ng CS GS o 0 chs hcs hnc (by omega) (by omega)) iZ5 (fun r h' n' hrr => ?_))
    obtain ⟨⟨x8,e1,hx8⟩,e2,e3⟩ := hrr
    subst e1 e2 e3
    conv => cbv
    obtain rfl : c = x8 := (ix0 hx8 hc0).symm
    refine CallF.re (args0 := [.ptr 2 (.lit 0),i6 g,.p (.vsl (.sym 1) true [.int .i64 (.sym c)])]) (h' := [hpA 2 3 7 8 3 W 0 0 0,hpB 3 4 6 3 W,hpC 4 5 233 2 N,hpP 5 L,hpP 6 D4,hpF 7 z false,hpP 8 Q,hpR 9 10 15 3 W 16 0 0 0,hpB 10 11 14 3 W,hpD 11 12 3 1 N 13 231 8 N,hpP 12 P,hpP 13 B,hpP 14 V,hpP 15 Qr,(16,.mix [.p (.vsl (.sym 0) true []),.p (.bool false)]),(0,.fix 0 o),(17,.mix [.ptr 2 (.lit 0),.ptr 9 (.lit 0),.sl 18 3 1 (.lit 0) (.sym nc),.sl 19 3 1 (.lit 0) (.sym ng)]),hpP 18 CS,hpP 19 GS,(0,.fix 0 o),hpP 20 LS]) (Re.at [(0,0),(2,2),(3,3),(4,4),(5,5),(6,6),(7,7),(8,8),(9,9),(10,10),(11,11),(12,12),(13,13),(14,14),(15,15),(16,16),(17,17),(18,18),(19,19),(20,20)] []) (cfr (parkBad_lx R ws4 C [] N W 0 0 0 L D4 Q z false hh4 M4 hc4 o g c 0 1 0 0 0 0 0 0 0 hd hM4g hcn3) iZ6 (fun r h' n' ⟨e1,e2,e3⟩ => ?_))
    subst e1 e2 e3
    conv => cbv
    refine Br.yes (show (10 : Int) = 10 from rfl) ?_
    conv => cbv
    refine RetF.mk [.p (.bool true)] [(0,.fix 0 o)] 1 (Re.at [(0,0)] []) rfl rfl
end Go.Proofs.YtkhfgngcoiablaaGreatDoor
