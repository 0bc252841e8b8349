/-
  Layer 16: TakeFirst.
-/
import Derived.Test.YtkhfgngcoiablaaGreatDoorBi
import Derived.Test.YtkhfgngcoiablaaGreatDoorBj
namespace Go.Proofs.YtkhfgngcoiablaaGreatDoor
open Go Go.LX
set_option maxRecDepth 100000
set_option linter.unusedVariables false
set_option linter.unusedSimpArgs false
set_option maxHeartbeats 32000000
theorem takeFirst_law (o : Unit → Obj) (ho : IsPow o) (cap n : Int) (words : List Int) (mw : Int) (WL : List PV) (hWL : WL = ipv words) (hmw : mw = words.length) (hwb : ∀ x ∈ words,-9223372036854775808 ≤ x ∧ x ≤ 9223372036854775807) : CallF (fun _ => Tryz.prog) 4 [i6 cap,i6 n,.p (.vsl (.sym mw) true WL)] [(0,.fix 0 o)] 1 (fun r _ _ => r = .p (.bool true)) := by
 refine callF_of_body tok Tryz.func4 (by kernel_rfl) rfl rfl rfl ?_; conv => cbv
 refine Fit.wrap fun xn hxn => ?_
 have hxn : xn = IntKind.u64.wrap cap := hxn
 have hyn : 0 ≤ xn := by rw [hxn]; simp [IntKind.wrap,IntKind.bits,IntKind.signed]; omega
 clear hxn
 conv => cbv
 refine Sum.mk fun tn htn => ?_
 have htn : tn = xn % 4 := (show tn = xn.tmod 4 from htn).trans (Int.tmod_eq_emod_of_nonneg hyn)
 conv => cbv
 refine fO (tn) fun u hu => ?_
 have hu : u = tn := hu
 have hu0 : 0 ≤ u := by omega
 have hu1 : u < 4 := by omega
 clear hu htn hyn
 conv => cbv
 refine CallF.re (args0 := [.p (.vsl (.sym 1) true [.int .i64 (.sym u)]),i6 n]) (h' := [(0,.fix 0 o)]) (Re.at [(0,0)] []) (cfr (made16_lx o ho [u] 1 n [.int .i64 (.sym u)] rfl rfl) [(0,0)] (fun r h' n' hrr => ?_))
 obtain ⟨N,W,C,R,ws,vs,L,D,Q,z,P,B,V,Qr,M,CS,GS,chs,bufs,grs,nc,ng,e1,e2,e3,S,hB,hY,hcs,hgs,hnc,hng,hnm,hn1,hn4,hngo,hcnt,hR,hW⟩ := hrr
 subst e1 e2 e3
 conv => cbv
 refine cfr (awake16_lx o ho) [(0,0)] (fun r h' n' ⟨e1,e2,e3⟩ => ?_)
 subst e1 e2 e3
 conv => cbv
 have hnc1 : nc = 1 := by omega
 obtain ⟨c,hcc⟩ := chA1 hnc hnc1
 have hc0 : chs[0]? = some c := by rw [hcc]; rfl
 obtain ⟨b,hb0,hBC⟩ := hB.ch 0 c u hc0 rfl
 have hMc := hBC.c
 rw [capS (by omega)] at hMc
 have hcl := S.c.len S.h.a hMc
 have hcw : atW (2 * c + 1) = c := atW_ptr c
 have hngb := ngor_bd n
 have hKB : u = 0 ∨ M b = some (2,List.replicate u.toNat 0) := by
  rcases hBC.b with q | ⟨_,_,q⟩
  ·rw [capS (by omega)] at q; exact .inl q.1
  ·rw [capS (by omega)] at q; exact .inr q
 have hng1 : 1 ≤ ng ∧ ng ≤ 6 := by omega
 have hcbd : 0 ≤ c ∧ c ≤ 2000 := by omega
 obtain ⟨hcnt0,hR0⟩ : (objCount R : Int) ≤ 8 ∧ R.length = 60 := ⟨by omega,hR⟩
 refine Br.mk (fun g5 => ?_) (fun g5 => ?_)
 ·have g5 : mw < 10 := g5
  conv => cbv
  refine cfr (awake16_lx o ho) [(0,0)] (fun r h' n' ⟨e1,e2,e3⟩ => ?_)
  subst e1 e2 e3
  conv => cbv
  refine RetF.mk [.p (.bool true)] [(0,.fix 0 o)] 1 (Re.at [(0,0)] []) rfl rfl
 ·have g5 : ¬ mw < 10 := g5
  conv => cbv
  obtain ⟨vv,hvv⟩ : ∃ vv : Nat → Int,∀ j,vv j = (words[u.toNat + j]?).getD 0 := ⟨_,fun _ => rfl⟩
  have hW0 : Wts M c true vv grs [] 0 := ⟨fun j x _ h => by simp at h,fun j g _ h _ => by simp at h,fun j g _ h => hB.gr j g h,List.nodup_nil,hB.gnd⟩
  have S0 := S
  have hY0 := hY
  have hMc0 := hMc
  have hW00 := hW0
  obtain ⟨M0,hM0⟩ : ∃ M0,M0 = M := ⟨_,rfl⟩
  rw [← hM0] at S0 hY0 hMc0 hW00
  have hh := S.h
  have hc := S.c
  have hKB1 : u = 0 ∨ M b = some (2,List.replicate u.toNat 0) ∧ ((List.replicate u.toNat (0 : Int)).length : Int) = u := hKB.imp id fun e => ⟨e,by rw [List.length_replicate]; omega⟩
  clear S hcc hKB
  refine LoopF.mk (fun kk s => ∃ (i : Int) (ws : List Int) (D : List PV) (M : Hp) (X : List Int),s = ⟨.p (.int .i64 (.sym u)) :: .p (.int .i64 (.sym n)) :: .p (.vsl (.sym mw) true WL) :: (undefs 4 ++ .ptr 17 (.lit 0) :: .p (.int .i64 (.sym i)) :: undefs 160),[hpA 2 3 7 8 3 W 0 0 0,hpB 3 4 6 3 W,hpC 4 5 233 2 N,hpP 5 L,hpP 6 D,hpF 7 z false,hpP 8 Q,hpR 9 10 15 3 W 16 0 0 0,hpB 10 11 14 3 W,hpD 11 12 3 1 N 13 231 8 N,hpP 12 P,hpP 13 B,hpP 14 V,hpP 15 Qr,(16,.mix [.p (.vsl (.sym 0) true []),.p (.bool false)]),(0,.fix 0 o),(17,.mix [.ptr 2 (.lit 0),.ptr 9 (.lit 0),.sl 18 3 1 (.lit 0) (.sym nc),.sl 19 3 1 (.lit 0) (.sym ng)]),hpP 18 CS,hpP 19 GS,(0,.fix 0 o)],20⟩ ∧ 0 ≤ i ∧ i ≤ u ∧ kk = (u - i).toNat ∧ HM R ws C [] N W L D Q z ∧ Cont R ws M ∧ Sys M (fun _ _ => []) ∧ M c = some (1,[u,0,i,0,b,-1,-1,-1,-1]) ∧ (u = 0 ∨ M b = some (2,X) ∧ (X.length : Int) = u) ∧ Wts M c true vv grs [] 0 ∧ ∀ j : Nat,(j : Int) < i → X[j]? = words[j]?) u.toNat _
   (Re.at [(0,0),(2,2),(3,3),(4,4),(5,5),(6,6),(7,7),(8,8),(9,9),(10,10),(11,11),(12,12),(13,13),(14,14),(15,15),(16,16),(17,17),(18,18),(19,19)] []) ⟨0,ws,D,M,List.replicate u.toNat 0,rfl,by omega,by omega,by omega,hh,hc,hY,hMc,hKB1,hW0,fun j hj => absurd hj (by omega)⟩ ?_
  clear hh hc hMc hY hKB1 hW0 hM0
  rintro kk s ⟨i,ws,D,M,X,rfl,hi0,hi1,hkk,hh,hc,hY,hMc,hKB,hW1,hXh⟩
  have hkk : kk = (u - i).toNat := hkk
  conv => cbv
  refine Br.mk (fun gi => ?_) (fun gi => ?_)
  ·have gi : i < u := gi
   obtain ⟨hx,hhx⟩ : ∃ a,words[i.toNat]? = some a := ⟨_,List.getElem?_eq_getElem (by omega)⟩
   have hcell : WL[i.toNat]? = some (.int .i64 (.sym hx)) := by rw [hWL]; exact ipv_get hhx
   have hhxb := hwb hx (List.mem_of_getElem? hhx)
   obtain ⟨hMb,hX⟩ := hKB.resolve_left (by omega)
   conv => cbv
   refine drawn_sound tok (by kernel_rfl) [(5,[11,10,9,8,3,2,1,0]),(12,[])] [0,1,2,3,4,8,9,10,11,5,6,7,12,13,14,15,16,17] (by kernel_rfl) ?_; conv => cbv
   refine Need.mk (show 0 ≤ i ∧ i < mw by omega) ?_
   conv => cbv
   refine Cell.at i _ hcell (by simp [I.val]) rfl ?_
   conv => cbv
   refine clE (args0 := [.ptr 17 (.lit 0),i6 0]) (cfr (ch16_lx R ws vs C N W 0 0 0 L D Q z false P B V Qr [] 0 M nc ng CS GS o 0 chs hcs hnc (by omega) (by omega)) iZ6 (fun r h' n' hrr => ?_))
   obtain ⟨⟨x1,e1,hx1⟩,e2,e3⟩ := hrr
   subst e1 e2 e3
   conv => cbv
   obtain rfl : c = x1 := (ix0 hx1 hc0).symm
   refine fO (2 * c) fun a1 ha1 => ?_
   have ha1 : a1 = 2 * c := ha1
   conv => cbv
   refine fO (a1 + 1) fun w1 hw1 => ?_
   have hw1 : w1 = a1 + 1 := hw1
   conv => cbv
   have hat1 : atW w1 = c := by rw [show w1 = 2 * c + 1 by omega]; exact hcw
   refine clE (args0 := [.ptr 2 (.lit 0),i6 w1,i6 hx]) (cfr (sendHeld_lx R ws C [] N W 0 0 0 L D Q z false hh M hc (fun _ _ => []) hY o ho rfl w1 hx (by omega) hhxb (by omega) c u 0 i 0 b (-1) (-1) (-1) (-1) hat1 hMc rfl rfl hi0 (by decide) X hMb (by omega) (by omega)) iZ4 (fun r h' n' hrr => ?_))
   obtain ⟨ws1,D1,e1,e2,e3,hh1,hc1⟩ := hrr
   subst e1 e2 e3
   conv => cbv
   have hix : (((0 : Int) % u + i) % u).toNat = i.toNat := by rw [Int.zero_emod,Int.zero_add,Int.emod_eq_of_lt hi0 gi]
   rw [hix] at hc1
   have hcb : c ≠ b := fun q => by rw [q,hMb] at hMc; cases hMc
   have hY1 := sysRing (X' := X.set i.toNat hx) hY hMc hMb (i + 1) 0
   have hW2 := hW1.other (K' := upd (upd M b (2,X.set i.toNat hx)) c (1,[u,0,i + 1,0,b,-1,-1,-1,-1])) fun a k F e hk => by
    have h1 : a ≠ c := fun q => by rw [q,hMc] at e; cases e; omega
    have h2 : a ≠ b := fun q => by rw [q,hMb] at e; cases e; omega
    rw [upd_ne h1,upd_ne h2]; exact e
   refine Br.no (show ¬ (¬ ((1 : Int) = (1 : Int))) from fun q => q rfl) ?_
   conv => cbv
   refine fO (i + 1) fun i2 hi2 => ?_
   have hi2 : i2 = i + 1 := hi2
   conv => cbv
   refine Again.mk (u - i2).toNat _ (by omega) (Re.at [(0,0),(2,2),(3,3),(4,4),(5,5),(6,6),(7,7),(8,8),(9,9),(10,10),(11,11),(12,12),(13,13),(14,14),(15,15),(16,16),(17,17),(18,18),(19,19)] []) ⟨i2,ws1,D1,_,X.set i.toNat hx,rfl,by omega,by omega,rfl,hh1,hc1,hY1,by rw [upd_same,hi2],.inr ⟨(upd_ne hcb.symm).trans (upd_same _ _ _),by rw [List.length_set]; exact hX⟩,hW2,fun j hj => by
     by_cases e : j = i.toNat
     ·subst e; rw [List.getElem?_set_self (by omega),hhx]
     ·rw [List.getElem?_set_ne (fun q => e q.symm)]; exact hXh j (by have hj : (j : Int) < i2 := hj; show (j : Int) < i; omega)⟩
  ·have gi : ¬ i < u := gi
   conv => cbv
   obtain rfl : u = i := by omega
   clear gi hkk
   have hq0 : rowQ c true [] = fun _ _ => [] := rowQ_nil c true
   have S2 : Bs2 R ws vs C N W 0 L D Q z P B V Qr [] 0 (relink M (rowQ c true [])) (relink M0 (rowQ c true [])) := ⟨hh,S0.r,by rw [hq0,hY.ln]; exact hc,by rw [hq0,hY0.ln]; exact S0.d,rfl,S0.w⟩
   have hY2 : Sys (relink M (rowQ c true [])) (rowQ c true []) := by rw [hq0,hY.ln]; exact hY
   have hY2b : Sys (relink M0 (rowQ c true [])) (rowQ c true []) := by rw [hq0,hY0.ln]; exact hY0
   clear hq0 S0 hh hc hY hY0
   refine LoopF.mk (fun kk s => ∃ (i : Int) (R : List Rw) (ws vs : List Int) (L D P B V : List PV) (K K2 : Hp) (xs : List Int),s = ⟨.p (.int .i64 (.sym u)) :: .p (.int .i64 (.sym n)) :: .p (.vsl (.sym mw) true WL) :: (undefs 4 ++ .ptr 17 (.lit 0) :: (undefs 3 ++ .p (.int .i64 (.sym i)) :: undefs 157)),[hpA 2 3 7 8 3 W 0 0 0,hpB 3 4 6 3 W,hpC 4 5 233 2 N,hpP 5 L,hpP 6 D,hpF 7 z false,hpP 8 Q,hpR 9 10 15 3 W 16 0 0 0,hpB 10 11 14 3 W,hpD 11 12 3 1 N 13 231 8 N,hpP 12 P,hpP 13 B,hpP 14 V,hpP 15 Qr,(16,.mix [.p (.vsl (.sym 0) true []),.p (.bool false)]),(0,.fix 0 o),(17,.mix [.ptr 2 (.lit 0),.ptr 9 (.lit 0),.sl 18 3 1 (.lit 0) (.sym nc),.sl 19 3 1 (.lit 0) (.sym ng)]),hpP 18 CS,hpP 19 GS,(0,.fix 0 o)],20⟩ ∧ 0 ≤ i ∧ i ≤ ng ∧ i = xs.length ∧ kk = (ng - i).toNat ∧ Bs2 R ws vs C N W 0 L D Q z P B V Qr [] 0 (relink K (rowQ c true xs)) (relink K2 (rowQ c true xs)) ∧ Sys (relink K (rowQ c true xs)) (rowQ c true xs) ∧ Sys (relink K2 (rowQ c true xs)) (rowQ c true xs) ∧ K c = some (1,[u,0,u,0,b,-1,-1,-1,-1]) ∧ K2 c = some (1,[u,0,0,0,b,-1,-1,-1,-1]) ∧ (u = 0 ∨ K b = some (2,X) ∧ (X.length : Int) = u) ∧ Wts K c true vv grs xs 0 ∧ Wts K2 c true vv grs xs 0 ∧ (objCount R : Int) ≤ 8 + i ∧ R.length = 60) ng.toNat _
    (Re.at [(0,0),(2,2),(3,3),(4,4),(5,5),(6,6),(7,7),(8,8),(9,9),(10,10),(11,11),(12,12),(13,13),(14,14),(15,15),(16,16),(17,17),(18,18),(19,19)] []) ⟨0,R,ws,vs,L,D,P,B,V,M,M0,[],rfl,by omega,by omega,rfl,by omega,S2,hY2,hY2b,hMc,hMc0,hKB,hW1,hW00,by omega,hR0⟩ ?_
   clear S2 hY2 hY2b hB hBC hMc hMc0 hKB hW1 hW00 hcnt hcnt0 hR hR0
   rintro kk s ⟨i,R,ws,vs,L,D,P,B,V,K,K2,xs,rfl,hi0,hi1,hix,hkk,S1,hY1,hY1b,hKc,hK2c,hKB,hW1,hW2,hcnt,hR⟩
   have hkk : kk = (ng - i).toNat := hkk
   have hix : i = (xs.length : Int) := hix
   conv => cbv
   refine Br.mk (fun gi => ?_) (fun gi => ?_)
   ·have gi : i < ng := gi
    obtain ⟨g,hg⟩ : ∃ a,grs[xs.length]? = some a := ⟨_,List.getElem?_eq_getElem (by omega)⟩
    have hcellg : GS[i.toNat]? = some (.int .i64 (.sym g)) := by rw [hgs,show i.toNat = xs.length by omega]; exact ipv_get hg
    have hKg : K g = some (4,[i,0,0,0,0,0,0,0,0,-1]) := by rw [hix]; exact hW1.gr _ _ (Nat.le_refl _) hg
    have hK2g : K2 g = some (4,[i,0,0,0,0,0,0,0,0,-1]) := by rw [hix]; exact hW2.gr _ _ (Nat.le_refl _) hg
    obtain ⟨wv,hwv⟩ : ∃ a,words[(u + i).toNat]? = some a := ⟨_,List.getElem?_eq_getElem (by omega)⟩
    have hcellw : WL[(u + i).toNat]? = some (.int .i64 (.sym wv)) := by rw [hWL]; exact ipv_get hwv
    have hwvb := hwb wv (List.mem_of_getElem? hwv)
    have hvw : wv = vv xs.length := by rw [hvv,show u.toNat + xs.length = (u + i).toNat by omega,hwv]; rfl
    conv => cbv
    refine readF_sound tok (by kernel_rfl) [0,2,3,4,5,6,7,8,9,10,11,12,13,14,15,16,17,18,19] [9,10,11] [(19,[])] [0,1,2,3,4,5,6,7,8,9,10,11,12,13,14,15,16,17,18,19,20] (by kernel_rfl) ?_
    conv => cbv
    refine Need.mk (show 0 ≤ i ∧ i < ng by omega) ?_
    conv => cbv
    refine Cell.at i _ hcellg (by simp [I.val]) rfl ?_
    conv => cbv
    refine ReadF.mk (.p (.int .i64 (.sym c))) (fun h' n' hbR hnR => clE (args0 := [.ptr 17 (.lit 0),i6 0]) (callF_read ((ch16_lx R ws vs C N W 0 0 0 L D Q z false P B V Qr [] 0 M nc ng CS GS o 0 chs hcs hnc (by omega) (by omega)).mono (fun r h n ⟨⟨x,e1,hx⟩,e2,e3⟩ => ⟨by rw [e1,ix0 hx hc0],e2,e3⟩)) [(0,2),(1,3),(2,4),(3,5),(4,6),(5,7),(6,8),(7,9),(8,10),(9,11),(10,12),(11,13),(12,14),(13,15),(14,16),(15,0),(16,17),(17,18),(18,19)] (by simp [fok,nget,nback]; omega) (by simp [hmapOk,nget,hbR,hget,renB,okB,renV,renVs,rn,okVs,okV]) rfl rfl rfl rfl)) ?_
    conv => cbv
    refine fO (u + i) fun cu hcu => ?_
    have hcu : cu = u + i := hcu
    rw [← hcu] at hcellw
    conv => cbv
    refine Need.mk (show 0 ≤ cu ∧ cu < mw by omega) ?_
    conv => cbv
    refine Cell.at cu _ hcellw (by simp [I.val]) rfl ?_
    conv => cbv
    refine CallF.re (args0 := [.ptr 17 (.lit 0),i6 g,.p (.vsl (.sym 1) true [.int .i64 (.sym c)]),.p (.vsl (.sym 1) true [.bool true]),i6 wv,i6 i]) (h' := [(0,.fix 0 o),hpA 2 3 7 8 3 W 0 0 0,hpB 3 4 6 3 W,hpC 4 5 233 2 N,hpP 5 L,hpP 6 D,hpF 7 z false,hpP 8 Q,hpR 9 10 15 3 W 16 0 0 0,hpB 10 11 14 3 W,hpD 11 12 3 1 N 13 231 8 N,hpP 12 P,hpP 13 B,hpP 14 V,hpP 15 Qr,(16,.mix [.p (.vsl (.sym 0) true []),.p (.bool false)]),(0,.fix 0 o),(17,.mix [.ptr 2 (.lit 0),.ptr 9 (.lit 0),.sl 18 3 1 (.lit 0) (.sym nc),.sl 19 3 1 (.lit 0) (.sym ng)]),hpP 18 CS,hpP 19 GS]) (Re.at [(0,0),(2,2),(3,3),(4,4),(5,5),(6,6),(7,7),(8,8),(9,9),(10,10),(11,11),(12,12),(13,13),(14,14),(15,15),(16,16),(17,17),(18,18),(19,19)] []) (cfr (wait16_lx R ws vs C N W 0 0 0 L D Q z false P B V Qr [] 0 K K2 (rowQ c true xs) nc ng CS GS o S1 ho hY1 hY1b g wv i i 0 0 0 0 0 0 0 0 (-1) hKg hK2g rfl [(c,true)] (by simp [hKc,hK2c]) (by simp) (by simp; omega) (by omega) (by simp; omega) 1 rfl [.int .i64 (.sym c)] [.bool true] rfl rfl) iZ6 (fun r h' n' hrr => ?_))
    obtain ⟨ys,R3,ws3,vs3,L3,D3,P3,B3,V3,e1,e2,e3,S3,hY3,hY4,hxl,hxn,hxK,hk3,hl3⟩ := hrr
    subst e1 e2 e3
    conv => cbv
    obtain ⟨x,rfl⟩ : ∃ x,ys = [x] := by
     match ys,hxl with
     | [x],_ => exact ⟨x,rfl⟩
    obtain ⟨hKx,hK2x⟩ := hxK x (by simp)
    have hxc : c ≠ x := fun e => by rw [← e,hKc] at hKx; cases hKx
    have hgc : c ≠ g := fun e => by rw [← e,hKc] at hKg; cases hKg
    have hWn := hW1.add hg hKx hvw hix
    have hWn2 := hW2.add hg hK2x hvw hix
    have hKc3 := (waitB_ne (g := g) (v := wv) (tq := i) (ps := [(c,true)]) (xs := [x]) (gF := [i,1,0,0,0,0,0,0,0,hdQ [x]]) (B := K) (a := c) hgc (by simp [hxc])).trans hKc
    have hK2c3 := (waitB_ne (g := g) (v := wv) (tq := i) (ps := [(c,true)]) (xs := [x]) (gF := [i,1,0,0,0,0,0,0,0,hdQ [x]]) (B := K2) (a := c) hgc (by simp [hxc])).trans hK2c
    have hKB3 : u = 0 ∨ waitB g wv i [(c,true)] [x] [i,1,0,0,0,0,0,0,0,hdQ [x]] K b = some (2,X) ∧ (X.length : Int) = u := hKB.imp id fun e => ⟨(waitB_ne (fun q => by rw [q,hKg] at e; cases e.1) (by simp; intro q; rw [q,hKx] at e; cases e.1)).trans e.1,e.2⟩
    rw [rowQ_add] at S3 hY3 hY4
    generalize waitB g wv i [(c,true)] [x] [i,1,0,0,0,0,0,0,0,hdQ [x]] K = K3 at hWn hKc3 hKB3 S3 hY3
    generalize waitB g wv i [(c,true)] [x] [i,1,0,0,0,0,0,0,0,hdQ [x]] K2 = K4 at hWn2 hK2c3 S3 hY4
    refine fO (i + 1) fun i2 hi2 => ?_
    have hi2 : i2 = i + 1 := hi2
    conv => cbv
    refine Again.mk (ng - i2).toNat _ (by omega) (Re.at [(0,0),(2,2),(3,3),(4,4),(5,5),(6,6),(7,7),(8,8),(9,9),(10,10),(11,11),(12,12),(13,13),(14,14),(15,15),(16,16),(17,17),(18,18),(19,19)] []) ⟨i2,R3,ws3,vs3,L3,D3,P3,B3,V3,K3,K4,xs ++ [x],rfl,by omega,by omega,by rw [List.length_append,List.length_singleton]; show i2 = ((xs.length + 1 : Nat) : Int); omega,rfl,S3,hY3,hY4,hKc3,hK2c3,hKB3,hWn,hWn2,(show (objCount R3 : Int) ≤ 8 + i2 by simp at hk3; omega),hl3.trans hR⟩
   ·have gi : ¬ i < ng := gi
    conv => cbv
    have hin : i = ng := by omega
    have hxl : (xs.length : Int) = ng := by omega
    have hold0 : Hold X words u 0 0 u := fun k hk => by
     rw [Int.zero_add,Int.emod_eq_of_lt (by omega) hk,Int.toNat_natCast,Nat.zero_add]; exact hXh k hk
    have hh := S1.h
    have hc := S1.c
    clear hkk gi S1 hY1b hK2c hW2 hXh hcnt
    refine LoopF.mk (fun kk s => ∃ (j : Int) (ws : List Int) (D : List PV) (K : Hp) (X : List Int) (ct st : Int),s = ⟨.p (.int .i64 (.sym u)) :: .p (.int .i64 (.sym n)) :: .p (.vsl (.sym mw) true WL) :: (undefs 4 ++ .ptr 17 (.lit 0) :: (undefs 4 ++ .p (.int .i64 (.sym j)) :: undefs 156)),[hpA 2 3 7 8 3 W 0 0 0,hpB 3 4 6 3 W,hpC 4 5 233 2 N,hpP 5 L,hpP 6 D,hpF 7 z false,hpP 8 Q,hpR 9 10 15 3 W 16 0 0 0,hpB 10 11 14 3 W,hpD 11 12 3 1 N 13 231 8 N,hpP 12 P,hpP 13 B,hpP 14 V,hpP 15 Qr,(16,.mix [.p (.vsl (.sym 0) true []),.p (.bool false)]),(0,.fix 0 o),(17,.mix [.ptr 2 (.lit 0),.ptr 9 (.lit 0),.sl 18 3 1 (.lit 0) (.sym nc),.sl 19 3 1 (.lit 0) (.sym ng)]),hpP 18 CS,hpP 19 GS,(0,.fix 0 o)],20⟩ ∧ 0 ≤ j ∧ j ≤ u + ng ∧ kk = (u + ng - j).toNat ∧ HM R ws C [] N W L D Q z ∧ Cont R ws (relink K (rowQ c true (xs.drop j.toNat))) ∧ Sys (relink K (rowQ c true (xs.drop j.toNat))) (rowQ c true (xs.drop j.toNat)) ∧ K c = some (1,[u,0,ct,st,b,-1,-1,-1,-1]) ∧ 0 ≤ st ∧ (u = 0 ∨ K b = some (2,X) ∧ (X.length : Int) = u) ∧ Hold X words u st j.toNat ct ∧ Wts K c true vv grs xs j.toNat ∧ (j ≤ ng → ct = u) ∧ (ng ≤ j → ct = u - (j - ng))) (u + ng).toNat _
     (Re.at [(0,0),(2,2),(3,3),(4,4),(5,5),(6,6),(7,7),(8,8),(9,9),(10,10),(11,11),(12,12),(13,13),(14,14),(15,15),(16,16),(17,17),(18,18),(19,19)] []) ⟨0,ws,D,K,X,u,0,rfl,by omega,by omega,by omega,hh,by rw [show ((0 : Int)).toNat = 0 from rfl,List.drop_zero]; exact hc,by rw [show ((0 : Int)).toNat = 0 from rfl,List.drop_zero]; exact hY1,hKc,Int.le_refl _,hKB,hold0,hW1,fun _ => rfl,by omega⟩ ?_
    clear hh hc hY1 hKc hKB hW1 hold0 hix hi0 hi1 hin
    rintro kk s ⟨j,ws,D,K,X,ct,st,rfl,hj0,hj1,hkk,hh,hc,hY,hKc,hst0,hKB,hHold,hW1,ht0,ht1⟩
    have hkk : kk = (u + ng - j).toNat := hkk
    conv => cbv
    refine fO (u + ng) fun nu hnu => ?_
    have hnu : nu = u + ng := hnu
    conv => cbv
    refine Br.mk (fun gj => ?_) (fun gj => ?_)
    ·have gj : j < nu := gj
     obtain ⟨wj,hwj⟩ : ∃ a,words[j.toNat]? = some a := ⟨_,List.getElem?_eq_getElem (by omega)⟩
     have hcell : WL[j.toNat]? = some (.int .i64 (.sym wj)) := by rw [hWL]; exact ipv_get hwj
     have hjn : ((j.toNat : Nat) : Int) = j := by omega
     conv => cbv
     refine drawn_sound tok (by kernel_rfl) [(5,[3,2,1,0]),(8,[])] [0,1,2,3,4,5,6,7,8,9,10,11,12,13,14,15] (by kernel_rfl) ?_; conv => cbv
     refine clE (args0 := [.ptr 17 (.lit 0),i6 0]) (cfr (ch16_lx R ws vs C N W 0 0 0 L D Q z false P B V Qr [] 0 M nc ng CS GS o 0 chs hcs hnc (by omega) (by omega)) iZ6 (fun r h' n' hrr => ?_))
     obtain ⟨⟨x1,e1,hx1⟩,e2,e3⟩ := hrr
     subst e1 e2 e3
     conv => cbv
     obtain rfl : c = x1 := (ix0 hx1 hc0).symm
     refine fO (2 * c) fun a1 ha1 => ?_
     have ha1 : a1 = 2 * c := ha1
     conv => cbv
     refine fO (a1 + 1) fun w1 hw1 => ?_
     have hw1 : w1 = a1 + 1 := hw1
     conv => cbv
     have hat1 : atW w1 = c := by rw [show w1 = 2 * c + 1 by omega]; exact hcw
     by_cases hjg : j < ng
     ·obtain ⟨g,hg⟩ : ∃ a,grs[j.toNat]? = some a := ⟨_,List.getElem?_eq_getElem (by omega)⟩
      have hcellg : GS[j.toNat]? = some (.int .i64 (.sym g)) := by rw [hgs]; exact ipv_get hg
      obtain ⟨x,hx0,hKg⟩ := hW1.gw _ _ (Nat.le_refl _) (by omega) hg
      obtain ⟨g',hg',hKx⟩ := hW1.su _ _ (Nat.le_refl _) hx0
      obtain rfl : g = g' := Option.some.inj (hg.symm.trans hg')
      rw [hjn] at hKg hKx
      obtain ⟨wu,hwu⟩ : ∃ a,words[u.toNat + j.toNat]? = some a := ⟨_,List.getElem?_eq_getElem (by omega)⟩
      have hvu : vv j.toNat = wu := by rw [hvv,hwu]; rfl
      have hKx : K x = some (3,[g,c,wu,-1,j,-1,-1]) := by rw [← hvu]; exact hKx
      obtain ⟨n1,hMx3⟩ := relink_su (q := rowQ c true (xs.drop j.toNat)) hKx
      have hMg3 := relink_other (q := rowQ c true (xs.drop j.toNat)) hKg ⟨by decide,by decide⟩
      have hKn : K (-1) = none := rl_none (neg_none hh.a hc)
      have hmor := mor1 (q := rowQ c true (xs.drop j.toNat)) hKx hKc hKn
      have hqx : rowQ c true (xs.drop j.toNat) c true = x :: xs.drop (j.toNat + 1) := by rw [rowQ_same,drop_hd hx0]
      have hctu : ct = u := ht0 (by omega)
      rw [hctu] at hKc hHold
      clear hctu
      have hMc3 := relink_ch (q := rowQ c true (xs.drop j.toNat)) hKc
      have hgc : c ≠ g := fun e => by rw [← e,hKc] at hKg; cases hKg
      by_cases hu0 : u = 0
      ·refine clE (args0 := [.ptr 2 (.lit 0),i6 w1]) (cfr (takeWakes_lx R ws C [] N W 0 0 0 L D Q z false hh (relink K (rowQ c true (xs.drop j.toNat))) hc (rowQ c true (xs.drop j.toNat)) hY o ho rfl w1 (by omega) (by omega) c u 0 u st b _ _ _ _ hat1 hMc3 x g wu n1 j (-1) (-1) j 1 0 0 0 0 0 0 0 x [x] hMx3 hMg3 hmor (by simp) (by simp) _ hqx (.inl (by omega))) iZ4 (fun r h' n' hrr => ?_))
       obtain ⟨ws4,D4,e1,e2,e3,hh4,hc4⟩ := hrr
       subst e1 e2 e3
       conv => cbv
       have hv : wu = wj := by
        rw [show u.toNat + j.toNat = j.toNat by omega,hwj] at hwu
        exact (Option.some.inj hwu).symm
       have hgf : ([j,0,j] ++ setR (-1) 0 [0,0,0,0,0,0] ++ [-1] : List Int) = [j,0,j,0,0,0,0,0,0,-1] := rfl
       rw [hgf,relink_relink,rowQ_rm hW1.nd hx0,rl_ot ⟨by decide,by decide⟩] at hc4
       have hY4 := sysFilt hY [x]
       rw [relink_relink,rowQ_rm hW1.nd hx0] at hY4
       have hY5 := sysOther (F := [j,0,j,0,0,0,0,0,0,-1]) hY4 (relink_other hKg ⟨by decide,by decide⟩) ⟨by decide,by decide⟩
       rw [rl_ot ⟨by decide,by decide⟩] at hY5
       have hW4 := hW1.wake hg (by omega) [j,0,j,0,0,0,0,0,0,-1]
       have hKc4 : upd K g (4,[j,0,j,0,0,0,0,0,0,-1]) c = some (1,[u,0,u,st,b,-1,-1,-1,-1]) := (upd_ne hgc).trans hKc
       generalize upd K g (4,[j,0,j,0,0,0,0,0,0,-1]) = K4 at hc4 hY5 hW4 hKc4
       rw [show j.toNat + 1 = (j + 1).toNat by omega] at hc4 hY5
       refine Br.yes (show j < ng from hjg) ?_
       conv => cbv
       refine Need.mk (show 0 ≤ j ∧ j < ng by omega) ?_
       conv => cbv
       refine Cell.at j _ hcellg (by simp [I.val]) rfl ?_
       conv => cbv
       refine Need.mk (show 0 ≤ j ∧ j < mw by omega) ?_
       conv => cbv
       refine Cell.at j _ hcell (by simp [I.val]) rfl ?_
       conv => cbv
       refine Br.no (show ¬ (¬ (wu = wj)) from fun q => q hv) ?_
       conv => cbv
       refine Br.no (show ¬ (¬ (g = g)) from fun q => q rfl) ?_
       conv => cbv
       refine Br.no (show ¬ (¬ ((1 : Int) = (1 : Int))) from fun q => q rfl) ?_
       conv => cbv
       refine fO (j + 1) fun j2 hj2 => ?_
       have hj2 : j2 = j + 1 := hj2
       conv => cbv
       refine Again.mk (u + ng - j2).toNat _ (by omega) (Re.at [(0,0),(2,2),(3,3),(4,4),(5,5),(6,6),(7,7),(8,8),(9,9),(10,10),(11,11),(12,12),(13,13),(14,14),(15,15),(16,16),(17,17),(18,18),(19,19)] []) ⟨j2,ws4,D4,K4,X,u,st,rfl,by omega,by omega,rfl,hh4,by rw [hj2]; exact hc4,by rw [hj2]; exact hY5,hKc4,hst0,.inl hu0,by rw [hj2,show (j + 1).toNat = j.toNat + 1 by omega]; exact (fun k hk => absurd hk (by omega)),by rw [hj2,show (j + 1).toNat = j.toNat + 1 by omega]; exact hW4,fun _ => rfl,by omega⟩
      obtain ⟨hKb,hXl⟩ := hKB.resolve_left hu0
      have hMb3 := relink_other (q := rowQ c true (xs.drop j.toNat)) hKb ⟨by decide,by decide⟩
      have hcb : c ≠ b := fun q => by rw [q,hKb] at hKc; cases hKc
      have hgb : b ≠ g := fun q => by rw [q,hKg] at hKb; cases hKb
      refine clE (args0 := [.ptr 2 (.lit 0),i6 w1]) (cfr (takeMovedA_lx R ws C [] N W 0 0 0 L D Q z false hh (relink K (rowQ c true (xs.drop j.toNat))) hc (rowQ c true (xs.drop j.toNat)) hY o ho rfl w1 (by omega) (by omega) c u 0 u st b _ _ _ _ hat1 hMc3 x g wu n1 j (-1) (-1) j 1 0 0 0 0 0 0 0 x [x] hMx3 hMg3 hmor (by simp) (by simp) _ hqx hst0 X hMb3 hXl (by omega)) iZ4 (fun r h' n' hrr => ?_))
      obtain ⟨v6,ws6,D6,M6,e1,e2,e3,hh6,hv6,hc6,hY6,hM6g,hM6c,hM6b,hM6o⟩ := hrr
      subst e1 e2 e3
      conv => cbv
      have hv : v6 = wj := hHold.first (by omega) hv6 hwj
      have hmv := hHold.move (by omega) hst0 hXl (show words[j.toNat + u.toNat]? = some wu by rw [Nat.add_comm]; exact hwu)
      obtain ⟨X6,hX6⟩ : ∃ X6,X6 = (X.set (st % u).toNat 0).set (((st % u + 1) % u % u + (u - 1)) % u).toNat wu := ⟨_,rfl⟩
      have hX6l : (X6.length : Int) = u := by rw [hX6,List.length_set,List.length_set]; exact hXl
      obtain ⟨s6,hs6⟩ : ∃ s6,s6 = (st % u + 1) % u := ⟨_,rfl⟩
      have hs60 : 0 ≤ s6 := by rw [hs6]; exact Int.emod_nonneg _ hu0
      rw [← hX6,← hs6] at hmv
      rw [← hX6] at hM6b
      rw [← hs6,rowQ_rm hW1.nd hx0] at hM6c
      rw [rowQ_rm hW1.nd hx0] at hY6
      have hM6g : M6 g = some (4,[j,0,j,0,0,0,0,0,0,-1]) := hM6g
      obtain ⟨K6,hK6⟩ : ∃ K6,K6 = upd (upd (upd K b (2,X6)) c (1,[u,0,u,s6,b,-1,-1,-1,-1])) g (4,[j,0,j,0,0,0,0,0,0,-1]) := ⟨_,rfl⟩
      have hK6g : K6 g = some (4,[j,0,j,0,0,0,0,0,0,-1]) := by rw [hK6]; exact upd_same _ _ _
      have hK6c : K6 c = some (1,[u,0,u,s6,b,-1,-1,-1,-1]) := by rw [hK6,upd_ne hgc]; exact upd_same _ _ _
      have hK6b : K6 b = some (2,X6) := by rw [hK6,upd_ne hgb,upd_ne hcb.symm]; exact upd_same _ _ _
      have hM6 : M6 = relink K6 (rowQ c true (xs.drop (j.toNat + 1))) := by
       funext e
       by_cases q1 : e = g
       ·rw [q1,hM6g,relink_other hK6g ⟨by decide,by decide⟩]
       ·by_cases q2 : e = c
        ·rw [q2,hM6c,relink_ch hK6c]
        ·by_cases q3 : e = b
         ·rw [q3,hM6b,relink_other hK6b ⟨by decide,by decide⟩]
         ·rw [hM6o e q1 q2 q3,relink_relink,rowQ_rm hW1.nd hx0]
          unfold relink
          rw [hK6,upd_ne q1,upd_ne q2,upd_ne q3]
      have hW6 : Wts K6 c true vv grs xs (j.toNat + 1) := by
       rw [hK6]
       refine (hW1.other fun a k F e hk => ?_).wake hg (by omega) _
       have h1 : a ≠ c := fun q => by rw [q,hKc] at e; cases e; omega
       have h2 : a ≠ b := fun q => by rw [q,hKb] at e; cases e; omega
       rw [upd_ne h1,upd_ne h2]; exact e
      rw [hM6,show j.toNat + 1 = (j + 1).toNat by omega] at hc6 hY6
      clear hM6 hM6g hM6c hM6b hM6o hK6
      refine Br.yes (show j < ng from hjg) ?_
      conv => cbv
      refine Need.mk (show 0 ≤ j ∧ j < ng by omega) ?_
      conv => cbv
      refine Cell.at j _ hcellg (by simp [I.val]) rfl ?_
      conv => cbv
      refine Need.mk (show 0 ≤ j ∧ j < mw by omega) ?_
      conv => cbv
      refine Cell.at j _ hcell (by simp [I.val]) rfl ?_
      conv => cbv
      refine Br.no (show ¬ (¬ (v6 = wj)) from fun q => q hv) ?_
      conv => cbv
      refine Br.no (show ¬ (¬ (g = g)) from fun q => q rfl) ?_
      conv => cbv
      refine Br.no (show ¬ (¬ ((1 : Int) = (1 : Int))) from fun q => q rfl) ?_
      conv => cbv
      refine fO (j + 1) fun j2 hj2 => ?_
      have hj2 : j2 = j + 1 := hj2
      conv => cbv
      refine Again.mk (u + ng - j2).toNat _ (by omega) (Re.at [(0,0),(2,2),(3,3),(4,4),(5,5),(6,6),(7,7),(8,8),(9,9),(10,10),(11,11),(12,12),(13,13),(14,14),(15,15),(16,16),(17,17),(18,18),(19,19)] []) ⟨j2,ws6,D6,K6,X6,u,s6,rfl,by omega,by omega,rfl,hh6,by rw [hj2]; exact hc6,by rw [hj2]; exact hY6,hK6c,hs60,.inr ⟨hK6b,hX6l⟩,by rw [hj2,show (j + 1).toNat = j.toNat + 1 by omega]; exact hmv,by rw [hj2,show (j + 1).toNat = j.toNat + 1 by omega]; exact hW6,fun _ => rfl,by omega⟩
     have hu0 : u ≠ 0 := by omega
     obtain ⟨hKb,hXl⟩ := hKB.resolve_left hu0
     have hctj : ct = u - (j - ng) := ht1 (by omega)
     have hdr : xs.drop j.toNat = [] := List.drop_eq_nil_of_le (by omega)
     have hdd : xs.drop j.toNat = xs.drop (j + 1).toNat := by rw [hdr,List.drop_eq_nil_of_le (by omega)]
     have hqn : rowQ c true (xs.drop j.toNat) c true = [] := by rw [rowQ_same,hdr]
     have hMc3 := relink_ch (q := rowQ c true (xs.drop j.toNat)) hKc
     have hMb3 := relink_other (q := rowQ c true (xs.drop j.toNat)) hKb ⟨by decide,by decide⟩
     have hcb : c ≠ b := fun q => by rw [q,hKb] at hKc; cases hKc
     refine clE (args0 := [.ptr 2 (.lit 0),i6 w1]) (cfr (takeGot_lx R ws C [] N W 0 0 0 L D Q z false hh (relink K (rowQ c true (xs.drop j.toNat))) hc (rowQ c true (xs.drop j.toNat)) hY o ho rfl w1 (by omega) (by omega) c u 0 ct st b _ _ _ _ hat1 hMc3 hqn hst0 X hMb3 hXl (by omega)) iZ4 (fun r h' n' hrr => ?_))
     obtain ⟨v6,ws4,D4,e1,e2,e3,hh4,hv6,hc4⟩ := hrr
     subst e1 e2 e3
     conv => cbv
     have hv : v6 = wj := hHold.first (by omega) hv6 hwj
     have hmv := hHold.got (by omega) hst0 (by omega)
     obtain ⟨X2,hX2⟩ : ∃ X2,X2 = X.set (st % u).toNat 0 := ⟨_,rfl⟩
     have hX2l : (X2.length : Int) = u := by rw [hX2,List.length_set]; exact hXl
     obtain ⟨s6,hs6⟩ : ∃ s6,s6 = (st % u + 1) % u := ⟨_,rfl⟩
     have hs60 : 0 ≤ s6 := by rw [hs6]; exact Int.emod_nonneg _ hu0
     rw [← hX2,← hs6] at hmv
     have hY4 := sysRing (X' := X2) hY hMc3 hMb3 (ct - 1) s6
     have hMc4 : relink (upd K b (2,X2)) (rowQ c true (xs.drop j.toNat)) c = some (1,_) := relink_ch ((upd_ne hcb).trans hKc)
     rw [← hX2,← hs6,rl_ot ⟨by decide,by decide⟩,rl_ch (b5 := -1) (b6 := -1) (b7 := -1) (b8 := -1) hMc4] at hc4
     rw [rl_ot ⟨by decide,by decide⟩,rl_ch (b5 := -1) (b6 := -1) (b7 := -1) (b8 := -1) hMc4] at hY4
     have hW4 := (hW1.other (K' := upd (upd K b (2,X2)) c (1,[u,0,ct - 1,s6,b,-1,-1,-1,-1])) fun a k F e hk => by
      have h1 : a ≠ c := fun q => by rw [q,hKc] at e; cases e; omega
      have h2 : a ≠ b := fun q => by rw [q,hKb] at e; cases e; omega
      rw [upd_ne h1,upd_ne h2]; exact e).up (Nat.le_succ j.toNat)
     have hKc4 : upd (upd K b (2,X2)) c (1,[u,0,ct - 1,s6,b,-1,-1,-1,-1]) c = some (1,[u,0,ct - 1,s6,b,-1,-1,-1,-1]) := upd_same _ _ _
     have hKB4 : u = 0 ∨ upd (upd K b (2,X2)) c (1,[u,0,ct - 1,s6,b,-1,-1,-1,-1]) b = some (2,X2) ∧ (X2.length : Int) = u := .inr ⟨(upd_ne hcb.symm).trans (upd_same _ _ _),hX2l⟩
     generalize upd (upd K b (2,X2)) c (1,[u,0,ct - 1,s6,b,-1,-1,-1,-1]) = K4 at hc4 hY4 hW4 hKc4 hKB4
     rw [hdd] at hc4 hY4
     refine Br.no (show ¬ (j < ng) from hjg) ?_
     conv => cbv
     refine Need.mk (show 0 ≤ j ∧ j < mw by omega) ?_
     conv => cbv
     refine Cell.at j _ hcell (by simp [I.val]) rfl ?_
     conv => cbv
     refine Br.no (show ¬ (¬ (v6 = wj)) from fun q => q hv) ?_
     conv => cbv
     refine Br.no (show ¬ (¬ ((-1 : Int) = (-1 : Int))) from fun q => q rfl) ?_
     conv => cbv
     refine Br.no (show ¬ (¬ ((1 : Int) = (1 : Int))) from fun q => q rfl) ?_
     conv => cbv
     refine fO (j + 1) fun j2 hj2 => ?_
     have hj2 : j2 = j + 1 := hj2
     conv => cbv
     refine Again.mk (u + ng - j2).toNat _ (by omega) (Re.at [(0,0),(2,2),(3,3),(4,4),(5,5),(6,6),(7,7),(8,8),(9,9),(10,10),(11,11),(12,12),(13,13),(14,14),(15,15),(16,16),(17,17),(18,18),(19,19)] []) ⟨j2,ws4,D4,K4,X2,ct - 1,s6,rfl,by omega,by omega,rfl,hh4,by rw [hj2]; exact hc4,by rw [hj2]; exact hY4,hKc4,hs60,hKB4,by rw [hj2,show (j + 1).toNat = j.toNat + 1 by omega]; exact hmv,by rw [hj2,show (j + 1).toNat = j.toNat + 1 by omega]; exact hW4,by omega,by omega⟩
    ·have gj : ¬ j < nu := gj
     have hj : j = u + ng := by omega
     have hct0 : ct = 0 := by have := ht1 (by omega); omega
     have hqn : rowQ c true (xs.drop j.toNat) c true = [] := by rw [rowQ_same,List.drop_eq_nil_of_le (by omega)]
     have hMc3 := relink_ch (q := rowQ c true (xs.drop j.toNat)) hKc
     conv => cbv
     refine drawn_sound tok (by kernel_rfl) [(5,[3,2,1,0]),(8,[])] [0,1,2,3,4,5,6,7,8,9,10,11,12,13,14,15] (by kernel_rfl) ?_; conv => cbv
     refine clE (args0 := [.ptr 17 (.lit 0),i6 0]) (cfr (ch16_lx R ws vs C N W 0 0 0 L D Q z false P B V Qr [] 0 M nc ng CS GS o 0 chs hcs hnc (by omega) (by omega)) iZ6 (fun r h' n' hrr => ?_))
     obtain ⟨⟨x1,e1,hx1⟩,e2,e3⟩ := hrr
     subst e1 e2 e3
     conv => cbv
     obtain rfl : c = x1 := (ix0 hx1 hc0).symm
     refine fO (2 * c) fun a1 ha1 => ?_
     have ha1 : a1 = 2 * c := ha1
     conv => cbv
     refine fO (a1 + 1) fun w1 hw1 => ?_
     have hw1 : w1 = a1 + 1 := hw1
     conv => cbv
     have hat1 : atW w1 = c := by rw [show w1 = 2 * c + 1 by omega]; exact hcw
     refine clE (args0 := [.ptr 2 (.lit 0),i6 w1]) (cfr (takeDry_lx R ws C [] N W 0 0 0 L D Q z false hh (relink K (rowQ c true (xs.drop j.toNat))) hc (rowQ c true (xs.drop j.toNat)) hY o ho rfl w1 (by omega) (by omega) c u 0 ct st b _ _ _ _ hat1 hMc3 hqn (.inr (by omega)) rfl) iZ4 (fun r h' n' hrr => ?_))
     obtain ⟨⟨x0,e1,hx0⟩,e2,e3⟩ := hrr
     subst e1 e2 e3
     conv => cbv
     refine Br.yes (show x0 = 0 from hx0) ?_
     conv => cbv
     refine Br.yes (show (-1 : Int) = -1 from rfl) ?_
     conv => cbv
     refine Br.yes (show (0 : Int) = 0 from rfl) ?_
     conv => cbv
     refine RetF.mk [.p (.bool true)] [(0,.fix 0 o)] 1 (Re.at [(0,0)] []) rfl rfl
end Go.Proofs.YtkhfgngcoiablaaGreatDoor
