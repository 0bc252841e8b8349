/-
  Layer 16: TakeMoves.
-/
import Derived.Test.YtjgbhpclmlcbbaaGreatDoorBi
import Derived.Test.YtjgbhpclmlcbbaaGreatDoorBj
namespace Go.Proofs.YtjgbhpclmlcbbaaGreatDoor
open Go Go.LX
set_option maxRecDepth 100000
set_option linter.unusedVariables false
set_option linter.unusedSimpArgs false
set_option maxHeartbeats 32000000
theorem takeMoves_law (o : Unit → Obj) (ho : IsPow o) (cap : Int) (words : List Int) (mw : Int) (WL : List PV) (hWL : WL = ipv words) (hmw : mw = words.length) (hwb : ∀ x ∈ words,-9223372036854775808 ≤ x ∧ x ≤ 9223372036854775807) : CallF (fun _ => Tryz.prog) 8 [i6 cap,.p (.vsl (.sym mw) true WL)] [(0,.fix 0 o)] 1 (fun r _ _ => r = .p (.bool true)) := by
 refine callF_of_body tok Tryz.func8 (by kernel_rfl) rfl rfl rfl ?_; conv => cbv
 refine Fit.wrap fun xn hxn => ?_
 have hxn : xn = IntKind.u64.wrap cap := hxn
 have hyn : 0 ≤ xn := by rw [hxn]; simp [IntKind.wrap,IntKind.bits,IntKind.signed]; omega
 clear hxn
 conv => cbv
 refine Sum.mk fun tn htn => ?_
 have htn : tn = xn % 3 := (show tn = xn.tmod 3 from htn).trans (Int.tmod_eq_emod_of_nonneg hyn)
 conv => cbv
 refine fO (tn) fun u hu => ?_
 have hu : u = tn := hu
 have hu0 : 0 ≤ u := by omega
 have hu1 : u < 3 := by omega
 clear hu htn hyn
 conv => cbv
 refine fO (1 + u) fun cp hcp => ?_
 have hcp : cp = 1 + u := hcp
 conv => cbv
 refine CallF.re (args0 := [.p (.vsl (.sym 1) true [.int .i64 (.sym cp)]),i6 0]) (h' := [(0,.fix 0 o)]) (Re.at [(0,0)] []) (cfr (made16_lx o ho [cp] 1 0 [.int .i64 (.sym cp)] rfl rfl) [(0,0)] (fun r h' n' hrr => ?_))
 obtain ⟨N,W,C,R,ws,vs,L,D,Q,z,P,B,V,Qr,M,CS,GS,chs,bufs,grs,nc,ng,e1,e2,e3,S,hB,hY,hcs,hgs,hnc,hng,hnm,hn1,hn4,hngo,hcnt,hR,hW⟩ := hrr
 subst e1 e2 e3
 conv => cbv
 refine cfr (awake16_lx o ho) [(0,0)] (fun r h' n' ⟨e1,e2,e3⟩ => ?_)
 subst e1 e2 e3
 conv => cbv
 have hnc1 : nc = 1 := by omega
 obtain ⟨c,hcc⟩ := chA1 hnc hnc1
 have hc0 : chs[0]? = some c := by rw [hcc]; rfl
 obtain ⟨b,hb0,hBC⟩ := hB.ch 0 c cp hc0 rfl
 have hMc := hBC.c
 rw [capS (by omega)] at hMc
 have hcl := S.c.len S.h.a hMc
 have hcw : atW (2 * c + 1) = c := atW_ptr c
 have hngb := ngor_bd 0
 obtain ⟨g,hg0⟩ : ∃ g,grs[0]? = some g := ⟨_,List.getElem?_eq_getElem (by omega)⟩
 have hMg : M g = some (4,[0,0,0,0,0,0,0,0,0,-1]) := hB.gr 0 g hg0
 have hgl := S.c.len S.h.a hMg
 have hgc : g ≠ c := fun q => by rw [q,hMc] at hMg; cases hMg
 have hMb : M b = some (2,List.replicate cp.toNat 0) := by
  rcases hBC.b with q | ⟨_,_,q⟩
  ·rw [capS (by omega)] at q; omega
  ·rw [capS (by omega)] at q; exact q
 have hcb : c ≠ b := fun q => by rw [q,hMb] at hMc; cases hMc
 have hgb : g ≠ b := fun q => by rw [q,hMb] at hMg; cases hMg
 have hh := S.h
 have hc := S.c
 refine Br.mk (fun g5 => ?_) (fun g5 => ?_)
 ·have g5 : mw < 5 := g5
  conv => cbv
  refine cfr (awake16_lx o ho) [(0,0)] (fun r h' n' ⟨e1,e2,e3⟩ => ?_)
  subst e1 e2 e3
  conv => cbv
  refine RetF.mk [.p (.bool true)] [(0,.fix 0 o)] 1 (Re.at [(0,0)] []) rfl rfl
 ·have g5 : ¬ mw < 5 := g5
  conv => cbv
  have S0 := S
  have hY0 := hY
  have hMc0 := hMc
  have hMg0 := hMg
  obtain ⟨M0,hM0⟩ : ∃ M0,M0 = M := ⟨_,rfl⟩
  rw [← hM0] at S0 hY0 hMc0 hMg0
  clear S hcc
  refine LoopF.mk (fun kk s => ∃ (i : Int) (ws : List Int) (D : List PV) (M : Hp) (X : List Int),s = ⟨.p (.int .i64 (.sym cp)) :: .p (.vsl (.sym mw) true WL) :: (undefs 3 ++ .ptr 17 (.lit 0) :: .p (.int .i64 (.sym i)) :: undefs 141),[hpA 2 3 7 8 3 W 0 0 0,hpB 3 4 6 3 W,hpC 4 5 214 2 N,hpP 5 L,hpP 6 D,hpF 7 z false,hpP 8 Q,hpR 9 10 15 3 W 16 0 0 0,hpB 10 11 14 3 W,hpD 11 12 3 1 N 13 209 8 N,hpP 12 P,hpP 13 B,hpP 14 V,hpP 15 Qr,(16,.mix [.p (.vsl (.sym 0) true []),.p (.bool false)]),(0,.fix 0 o),(17,.mix [.ptr 2 (.lit 0),.ptr 9 (.lit 0),.sl 18 3 1 (.lit 0) (.sym nc),.sl 19 3 1 (.lit 0) (.sym ng)]),hpP 18 CS,hpP 19 GS,(0,.fix 0 o)],20⟩ ∧ 0 ≤ i ∧ i ≤ cp ∧ kk = (cp - i).toNat ∧ HM R ws C [] N W L D Q z ∧ Cont R ws M ∧ Sys M (fun _ _ => []) ∧ M c = some (1,[cp,0,i,0,b,-1,-1,-1,-1]) ∧ M b = some (2,X) ∧ M g = some (4,[0,0,0,0,0,0,0,0,0,-1]) ∧ (X.length : Int) = cp ∧ ∀ j : Nat,(j : Int) < i → X[j]? = words[j]?) cp.toNat _
   (Re.at [(0,0),(2,2),(3,3),(4,4),(5,5),(6,6),(7,7),(8,8),(9,9),(10,10),(11,11),(12,12),(13,13),(14,14),(15,15),(16,16),(17,17),(18,18),(19,19)] []) ⟨0,ws,D,M,List.replicate cp.toNat 0,rfl,by omega,by omega,by omega,hh,hc,hY,hMc,hMb,hMg,by rw [List.length_replicate]; omega,fun j hj => absurd hj (by omega)⟩ ?_
  clear hh hc hMc hMb hY hMg
  rintro kk s ⟨i,ws,D,M,X,rfl,hi0,hi1,hkk,hh,hc,hY,hMc,hMb,hMg,hX,hXh⟩
  have hkk : kk = (cp - i).toNat := hkk
  conv => cbv
  refine Br.mk (fun gi => ?_) (fun gi => ?_)
  ·have gi : i < cp := gi
   obtain ⟨hx,hhx⟩ : ∃ a,words[i.toNat]? = some a := ⟨_,List.getElem?_eq_getElem (by omega)⟩
   have hcell : WL[i.toNat]? = some (.int .i64 (.sym hx)) := by rw [hWL]; exact ipv_get hhx
   have hhxb := hwb hx (List.mem_of_getElem? hhx)
   conv => cbv
   refine drawn_sound tok (by kernel_rfl) [(5,[11,10,9,8,3,2,1,0]),(12,[])] [0,1,2,3,4,8,9,10,11,5,6,7,12] (by kernel_rfl) ?_; conv => cbv
   refine Need.mk (show 0 ≤ i ∧ i < mw by omega) ?_
   conv => cbv
   refine Cell.at i _ hcell (by simp [I.val]) rfl ?_
   conv => cbv
   refine clE (args0 := [.ptr 17 (.lit 0),i6 0]) (cfr (ch16_lx R ws vs C N W 0 0 0 L D Q z false P B V Qr [] 0 M nc ng CS GS o 0 chs hcs hnc (by omega) (by omega)) iZ6 (fun r h' n' hrr => ?_))
   obtain ⟨⟨x1,e1,hx1⟩,e2,e3⟩ := hrr
   subst e1 e2 e3
   conv => cbv
   obtain rfl : c = x1 := (ix0 hx1 hc0).symm
   refine fO (2 * c) fun a1 ha1 => ?_
   have ha1 : a1 = 2 * c := ha1
   conv => cbv
   refine fO (a1 + 1) fun w1 hw1 => ?_
   have hw1 : w1 = a1 + 1 := hw1
   conv => cbv
   have hat1 : atW w1 = c := by rw [show w1 = 2 * c + 1 by omega]; exact hcw
   refine clE (args0 := [.ptr 2 (.lit 0),i6 w1,i6 hx]) (cfr (sendHeld_lx R ws C [] N W 0 0 0 L D Q z false hh M hc (fun _ _ => []) hY o ho rfl w1 hx (by omega) hhxb (by omega) c cp 0 i 0 b (-1) (-1) (-1) (-1) hat1 hMc rfl rfl hi0 (by decide) X hMb (by omega) (by omega)) [(0,2),(1,3),(2,4),(3,5),(4,6),(5,7),(6,8),(7,0)] (fun r h' n' hrr => ?_))
   obtain ⟨ws1,D1,e1,e2,e3,hh1,hc1⟩ := hrr
   subst e1 e2 e3
   conv => cbv
   have hix : (((0 : Int) % cp + i) % cp).toNat = i.toNat := by rw [Int.zero_emod,Int.zero_add,Int.emod_eq_of_lt hi0 gi]
   rw [hix] at hc1
   have hcb : c ≠ b := fun q => by rw [q,hMb] at hMc; cases hMc
   have hgb : g ≠ b := fun q => by rw [q,hMb] at hMg; cases hMg
   have hY1 := sysRing (X' := X.set i.toNat hx) hY hMc hMb (i + 1) 0
   refine fO (i + 1) fun i2 hi2 => ?_
   have hi2 : i2 = i + 1 := hi2
   conv => cbv
   refine Again.mk (cp - i2).toNat _ (by omega) (Re.at [(0,0),(2,2),(3,3),(4,4),(5,5),(6,6),(7,7),(8,8),(9,9),(10,10),(11,11),(12,12),(13,13),(14,14),(15,15),(16,16),(17,17),(18,18),(19,19)] []) ⟨i2,ws1,D1,_,X.set i.toNat hx,rfl,by omega,by omega,rfl,hh1,hc1,hY1,by rw [upd_same,hi2],by rw [upd_ne hcb.symm,upd_same],by rw [upd_ne hgc,upd_ne hgb]; exact hMg,by rw [List.length_set]; exact hX,fun j hj => by
     by_cases e : j = i.toNat
     ·subst e; rw [List.getElem?_set_self (by omega),hhx]
     ·rw [List.getElem?_set_ne (fun q => e q.symm)]; exact hXh j (by have hj : (j : Int) < i2 := hj; show (j : Int) < i; omega)⟩
  ·have gi : ¬ i < cp := gi
   obtain rfl : i = cp := by omega
   conv => cbv
   clear hkk gi
   have hcb : c ≠ b := fun q => by rw [q,hMb] at hMc; cases hMc
   have hgb : g ≠ b := fun q => by rw [q,hMb] at hMg; cases hMg
   obtain ⟨wv,hwv⟩ : ∃ a,words[i.toNat]? = some a := ⟨_,List.getElem?_eq_getElem (by omega)⟩
   have hcellw : WL[i.toNat]? = some (.int .i64 (.sym wv)) := by rw [hWL]; exact ipv_get hwv
   have hwvb := hwb wv (List.mem_of_getElem? hwv)
   refine readF_sound tok (by kernel_rfl) [0,2,3,4,5,6,7,8,9,10,11,12,13,14,15,16,17,18,19] [2,4,5,6] [(11,[])] [0,1,2,3,4,5,6,7,8,9,10,11,12] (by kernel_rfl) ?_
   conv => cbv
   refine ReadF.mk (.p (.int .i64 (.sym g))) (fun h' n' hbR hnR => clE (args0 := [.ptr 17 (.lit 0),i6 0]) (callF_read ((gor16_lx R ws vs C N W 0 0 0 L D Q z false P B V Qr [] 0 M nc ng CS GS o 0 grs hgs hng (by omega) (by omega)).mono (fun r h n ⟨⟨x,e1,hx⟩,e2,e3⟩ => ⟨by rw [e1,ix0 hx hg0],e2,e3⟩)) [(0,2),(1,3),(2,4),(3,5),(4,6),(5,7),(6,8),(7,9),(8,10),(9,11),(10,12),(11,13),(12,14),(13,15),(14,16),(15,0),(16,17),(17,18),(18,19)] (by simp [fok,nget,nback]; omega) (by simp [hmapOk,nget,hbR,hget,renB,okB,renV,renVs,rn,okVs,okV]) rfl rfl rfl rfl)) ?_
   conv => cbv
   refine ReadF.mk (.p (.int .i64 (.sym c))) (fun h' n' hbR hnR => clE (args0 := [.ptr 17 (.lit 0),i6 0]) (callF_read ((ch16_lx R ws vs C N W 0 0 0 L D Q z false P B V Qr [] 0 M nc ng CS GS o 0 chs hcs hnc (by omega) (by omega)).mono (fun r h n ⟨⟨x,e1,hx⟩,e2,e3⟩ => ⟨by rw [e1,ix0 hx hc0],e2,e3⟩)) [(0,2),(1,3),(2,4),(3,5),(4,6),(5,7),(6,8),(7,9),(8,10),(9,11),(10,12),(11,13),(12,14),(13,15),(14,16),(15,0),(16,17),(17,18),(18,19)] (by simp [fok,nget,nback]; omega) (by simp [hmapOk,nget,hbR,hget,renB,okB,renV,renVs,rn,okVs,okV]) rfl rfl rfl rfl)) ?_
   conv => cbv
   refine Need.mk (show 0 ≤ i ∧ i < mw by omega) ?_
   conv => cbv
   refine Cell.at i _ hcellw (by simp [I.val]) rfl ?_
   conv => cbv
   have S2 : Bs2 R ws vs C N W 0 L D Q z P B V Qr [] 0 (relink M (fun _ _ => [])) (relink M0 (fun _ _ => [])) := ⟨hh,S0.r,by rw [hY.ln]; exact hc,by rw [hY0.ln]; exact S0.d,rfl,S0.w⟩
   have hY2 : Sys (relink M (fun _ _ => [])) (fun _ _ => []) := by rw [hY.ln]; exact hY
   have hY2b : Sys (relink M0 (fun _ _ => [])) (fun _ _ => []) := by rw [hY0.ln]; exact hY0
   refine CallF.re (args0 := [.ptr 17 (.lit 0),i6 g,.p (.vsl (.sym 1) true [.int .i64 (.sym c)]),.p (.vsl (.sym 1) true [.bool true]),i6 wv,i6 9]) (h' := [(0,.fix 0 o),hpA 2 3 7 8 3 W 0 0 0,hpB 3 4 6 3 W,hpC 4 5 214 2 N,hpP 5 L,hpP 6 D,hpF 7 z false,hpP 8 Q,hpR 9 10 15 3 W 16 0 0 0,hpB 10 11 14 3 W,hpD 11 12 3 1 N 13 209 8 N,hpP 12 P,hpP 13 B,hpP 14 V,hpP 15 Qr,(16,.mix [.p (.vsl (.sym 0) true []),.p (.bool false)]),(0,.fix 0 o),(17,.mix [.ptr 2 (.lit 0),.ptr 9 (.lit 0),.sl 18 3 1 (.lit 0) (.sym nc),.sl 19 3 1 (.lit 0) (.sym ng)]),hpP 18 CS,hpP 19 GS]) (Re.at [(0,0),(2,2),(3,3),(4,4),(5,5),(6,6),(7,7),(8,8),(9,9),(10,10),(11,11),(12,12),(13,13),(14,14),(15,15),(16,16),(17,17),(18,18),(19,19)] []) (cfr (wait16_lx R ws vs C N W 0 0 0 L D Q z false P B V Qr [] 0 M M0 (fun _ _ => []) nc ng CS GS o S2 ho hY2 hY2b g wv 9 0 0 0 0 0 0 0 0 0 (-1) hMg hMg0 rfl [(c,true)] (by simp [hMc,hMc0]) (by simp) (by simp; omega) (by decide) (by simp; omega) 1 rfl [.int .i64 (.sym c)] [.bool true] rfl rfl) iZ6 (fun r h' n' hrr => ?_))
   obtain ⟨xs,R3,ws3,vs3,L3,D3,P3,B3,V3,e1,e2,e3,S3,hY3,hY4,hxl,hxn,hxK,hk3,hl3⟩ := hrr
   subst e1 e2 e3
   conv => cbv
   obtain ⟨x,rfl⟩ : ∃ x,xs = [x] := by
    match xs,hxl with
    | [x],_ => exact ⟨x,rfl⟩
   obtain ⟨hMx,_⟩ := hxK x (by simp)
   have hxb : b ≠ x := fun e => by rw [← e,hMb] at hMx; cases hMx
   have hxg : x ≠ g := fun e => by rw [e,hMg] at hMx; cases hMx
   have hxc : c ≠ x := fun e => by rw [← e,hMc] at hMx; cases hMx
   have hKx := waitB_1 (v := wv) (tq := 9) (c := c) (d := true) (gF := [0,1,0,0,0,0,0,0,0,hdQ [x]]) (B := M) hxg
   have hKc := (waitB_ne (g := g) (v := wv) (tq := 9) (ps := [(c,true)]) (xs := [x]) (gF := [0,1,0,0,0,0,0,0,0,hdQ [x]]) (B := M) (a := c) hgc.symm (by simp [hxc])).trans hMc
   have hKg := waitB_g g (wv) (9) [(c,true)] [x] [0,1,0,0,0,0,0,0,0,hdQ [x]] M
   have hKo : ∀ a,a ≠ g → a ≠ x → waitB g (wv) (9) [(c,true)] [x] [0,1,0,0,0,0,0,0,0,hdQ [x]] M a = M a := fun a h1 h2 => waitB_ne h1 (by simp [h2])
   have hq1 : addQ [(c,true)] [x] (fun _ _ => []) c true = [x] := by rw [q0_one,updQ_same]
   have hqn : addQ [(c,true)] [x] (fun _ _ => []) c (!true) = [] := by rw [q0_one,updQ_ne (by simp)]
   have hqa : ∀ a e y,y ∈ addQ [(c,true)] [x] (fun _ _ => []) a e → y ∈ [x] := fun a e y hy => by
    rw [q0_one] at hy
    by_cases k : a = c ∧ e = true
    ·obtain ⟨rfl,rfl⟩ := k; rw [updQ_same] at hy; exact hy
    ·rw [updQ_ne k] at hy; cases hy
   have hh3 := S3.h
   have hc3 := S3.c
   generalize hK1 : waitB g (wv) (9) [(c,true)] [x] [0,1,0,0,0,0,0,0,0,hdQ [x]] M = K1 at hKx hKc hKg hKo hc3 hY3
   generalize hQ1 : addQ [(c,true)] [x] (fun _ _ => []) = q1 at hq1 hqn hqa hc3 hY3
   have hKn : K1 (-1) = none := rl_none (neg_none hh3.a hc3)
   have hmor := mor1 (q := q1) hKx hKc hKn
   have hrm := rmQ_all hqa
   obtain ⟨n1,hMx3⟩ := relink_su (q := q1) hKx
   have hMc3 := relink_ch (q := q1) hKc
   have hMg3 := relink_other (q := q1) hKg ⟨by decide,by decide⟩
   have hY5 := sysFilt hY3 [x]
   rw [relink_relink,hrm] at hY5
   have hMc5 : relink K1 (fun _ _ => []) c = _ := relink_ch hKc
   have hMg5 := relink_other (q := fun _ _ => []) hKg ⟨by decide,by decide⟩
   clear hK1 hQ1 hxK hxl S2 hY2 S3 hY4 hY2b
   have hKb := (hKo b hgb.symm hxb).trans hMb
   have hMb3 := relink_other (q := q1) hKb ⟨by decide,by decide⟩
   refine drawn_sound tok (by kernel_rfl) [(5,[3,2,1,0]),(8,[])] [0,1,2,3,4,5,6,7,8,9,10,11,12,13,14,15] (by kernel_rfl) ?_; conv => cbv
   refine clE (args0 := [.ptr 17 (.lit 0),i6 0]) (cfr (ch16_lx R3 ws3 vs3 C N W 0 0 0 L3 D3 Q z false P3 B3 V3 Qr [] 0 M nc ng CS GS o 0 chs hcs hnc (by omega) (by omega)) iZ6 (fun r h' n' hrr => ?_))
   obtain ⟨⟨x5,e1,hx5⟩,e2,e3⟩ := hrr
   subst e1 e2 e3
   conv => cbv
   obtain rfl : c = x5 := (ix0 hx5 hc0).symm
   refine fO (2 * c) fun a5 ha5 => ?_
   have ha5 : a5 = 2 * c := ha5
   conv => cbv
   refine fO (a5 + 1) fun w5 hw5 => ?_
   have hw5 : w5 = a5 + 1 := hw5
   conv => cbv
   have hat5 : atW w5 = c := by rw [show w5 = 2 * c + 1 by omega]; exact hcw
   refine clE (args0 := [.ptr 2 (.lit 0),i6 w5]) (cfr (takeMovedA_lx R3 ws3 C [] N W 0 0 0 L3 D3 Q z false hh3 (relink K1 q1) hc3 q1 hY3 o ho rfl w5 (by omega) (by omega) c i 0 i 0 b _ _ _ _ hat5 hMc3 x g wv n1 9 (-1) (-1) 0 1 0 0 0 0 0 0 0 _ [x] hMx3 hMg3 hmor (by simp) (by simp) [] hq1 (by decide) X hMb3 hX (by omega)) [(0,2),(1,3),(2,4),(3,5),(4,6),(5,7),(6,8),(7,0)] (fun r h' n' hrr => ?_))
   obtain ⟨v6,ws6,D6,M6,e1,e2,e3,hh6,hv6,hc6,hY6,hM6g,hM6c,hM6b,hM6o⟩ := hrr
   subst e1 e2 e3
   conv => cbv
   rw [hrm] at hY6 hM6c
   obtain ⟨st6,hst6⟩ : ∃ st6,st6 = (0 % i + 1) % i := ⟨_,rfl⟩
   have hM6c : M6 c = some (1,[i,0,i,st6,b,-1,-1,-1,-1]) := by rw [hM6c,hst6]; rfl
   have hM6g : M6 g = some (4,[0,0,9,0,0,0,0,0,0,-1]) := hM6g
   clear hst6
   have hi0' : 0 < i := by omega
   obtain ⟨w0,hw0⟩ : ∃ a,words[0]? = some a := ⟨_,List.getElem?_eq_getElem (by omega)⟩
   have hcell0 : WL[(0 : Int).toNat]? = some (.int .i64 (.sym w0)) := by rw [hWL]; exact ipv_get hw0
   have hv0 : v6 = w0 := by
    have h1 := hXh 0 (by omega)
    rw [Int.zero_emod] at hv6
    have h2 : X[0]? = some v6 := hv6
    rw [h2,hw0] at h1
    exact Option.some.inj h1
   refine readF_sound tok (by kernel_rfl) [0,2,3,4,5,6,7,8,9,10,11,12,13,14,15,16,17,18,19] [5,6] [(10,[9,8,7,6,5,4,3,2,1,0]),(11,[9])] [0,1,2,3,4,5,6,7,8,9,10,11,12] (by kernel_rfl) ?_
   conv => cbv
   refine ReadF.mk (.p (.int .i64 (.sym c))) (fun h' n' hbR hnR => clE (args0 := [.ptr 17 (.lit 0),i6 0]) (callF_read ((ch16_lx R3 ws6 vs3 C N W 0 0 0 L3 D6 Q z false P3 B3 V3 Qr [] 0 M6 nc ng CS GS o 0 chs hcs hnc (by omega) (by omega)).mono (fun r h n ⟨⟨x,e1,hx⟩,e2,e3⟩ => ⟨by rw [e1,ix0 hx hc0],e2,e3⟩)) [(0,2),(1,3),(2,4),(3,5),(4,6),(5,7),(6,8),(7,9),(8,10),(9,11),(10,12),(11,13),(12,14),(13,15),(14,16),(15,0),(16,17),(17,18),(18,19)] (by simp [fok,nget,nback]; omega) (by simp [hmapOk,nget,hbR,hget,renB,okB,renV,renVs,rn,okVs,okV]) rfl rfl rfl rfl)) ?_
   conv => cbv
   refine ReadF.mk (.tup [.agg [i6 i,i6 0,i6 i,i6 st6,i6 b,i6 (-1),i6 (-1),i6 (-1),i6 (-1)],i6 0]) (fun h' n' hbR hnR => clE (args0 := [.ptr 2 (.lit 0),i6 c]) (callF_read ((chanM_lx R3 ws6 C [] N W 0 0 0 L3 D6 Q z false hh6 M6 hc6 c i 0 i st6 b (-1) (-1) (-1) (-1) hM6c).mono (fun r h n ⟨⟨e,e1,he⟩,e2,e3⟩ => ⟨by rw [e1,he],e2,e3⟩)) [(0,2),(1,3),(2,4),(3,5),(4,6),(5,7),(6,8)] (by simp [fok,nget,nback]; omega) (by simp [hmapOk,nget,hbR,hget,renB,okB,renV,renVs,rn,okVs,okV]) rfl rfl rfl rfl)) ?_
   conv => cbv
   refine readF_sound tok (by kernel_rfl) [0,2,3,4,5,6,7,8,9,10,11,12,13,14,15,16,17,18,19] [5,6] [(10,[9,8,7,6,5,4,3,2,1,0]),(11,[9])] [0,1,2,3,4,5,6,7,8,9,10,11,12] (by kernel_rfl) ?_
   conv => cbv
   refine ReadF.mk (.p (.int .i64 (.sym g))) (fun h' n' hbR hnR => clE (args0 := [.ptr 17 (.lit 0),i6 0]) (callF_read ((gor16_lx R3 ws6 vs3 C N W 0 0 0 L3 D6 Q z false P3 B3 V3 Qr [] 0 M6 nc ng CS GS o 0 grs hgs hng (by omega) (by omega)).mono (fun r h n ⟨⟨x,e1,hx⟩,e2,e3⟩ => ⟨by rw [e1,ix0 hx hg0],e2,e3⟩)) [(0,2),(1,3),(2,4),(3,5),(4,6),(5,7),(6,8),(7,9),(8,10),(9,11),(10,12),(11,13),(12,14),(13,15),(14,16),(15,0),(16,17),(17,18),(18,19)] (by simp [fok,nget,nback]; omega) (by simp [hmapOk,nget,hbR,hget,renB,okB,renV,renVs,rn,okVs,okV]) rfl rfl rfl rfl)) ?_
   conv => cbv
   refine ReadF.mk (.tup [.agg [i6 0,i6 0,i6 9,i6 0,i6 0,i6 0,i6 0,i6 0,i6 0,i6 (-1)],i6 0]) (fun h' n' hbR hnR => clE (args0 := [.ptr 2 (.lit 0),i6 g]) (callF_read ((gorM_lx R3 ws6 C [] N W 0 0 0 L3 D6 Q z false hh6 M6 hc6 g 0 0 9 0 0 0 0 0 0 (-1) hM6g).mono (fun r h n ⟨⟨e,e1,he⟩,e2,e3⟩ => ⟨by rw [e1,he],e2,e3⟩)) [(0,2),(1,3),(2,4),(3,5),(4,6),(5,7),(6,8)] (by simp [fok,nget,nback]; omega) (by simp [hmapOk,nget,hbR,hget,renB,okB,renV,renVs,rn,okVs,okV]) rfl rfl rfl rfl)) ?_
   conv => cbv
   refine drawn_sound tok (by kernel_rfl) [(8,[6]),(45,[43,42,41,40]),(46,[])] [0,1,2,3,4,5,6,7,8,9,10,11,12,13,14,15,16,17,18,19,20,21,22,23,24,25,26,27,28,29,30,31,32,33,34,35,36,37,38,39,40,41,42,43,44,45,46,47,48,49,50] (drawnOKF_ok (by kernel_rfl)) ?_; conv => cbv
   refine Need.mk (show (0 : Int) ≤ 0 ∧ 0 < mw by omega) ?_
   conv => cbv
   refine Cell.at 0 _ hcell0 (by simp [I.val]) rfl ?_
   conv => cbv
   refine Br.yes (show v6 = w0 from hv0) ?_
   conv => cbv
   refine clE (args0 := [.ptr 17 (.lit 0),i6 0]) (cfr (gor16_lx R3 ws6 vs3 C N W 0 0 0 L3 D6 Q z false P3 B3 V3 Qr [] 0 M6 nc ng CS GS o 0 grs hgs hng (by omega) (by omega)) iZ6 (fun r h' n' hrr => ?_))
   obtain ⟨⟨x9,e1,hx9⟩,e2,e3⟩ := hrr
   subst e1 e2 e3
   conv => cbv
   obtain rfl : g = x9 := (ix0 hx9 hg0).symm
   refine Br.yes (show g = g from rfl) ?_
   conv => cbv
   refine Br.yes (show (1 : Int) = 1 from rfl) ?_
   conv => cbv
   refine Br.yes (show (0 : Int) = 0 from rfl) ?_
   conv => cbv
   refine Br.yes (show i = i from rfl) ?_
   conv => cbv
   refine Br.yes (show (0 : Int) = 0 from rfl) ?_
   conv => cbv
   refine Br.yes (show (9 : Int) = 9 from rfl) ?_
   conv => cbv
   refine Br.yes (show (0 : Int) = 0 from rfl) ?_
   conv => cbv
   refine clE (args0 := [.ptr 17 (.lit 0),i6 0]) (cfr (ch16_lx R3 ws6 vs3 C N W 0 0 0 L3 D6 Q z false P3 B3 V3 Qr [] 0 M6 nc ng CS GS o 0 chs hcs hnc (by omega) (by omega)) iZ6 (fun r h' n' hrr => ?_))
   obtain ⟨⟨x8,e1,hx8⟩,e2,e3⟩ := hrr
   subst e1 e2 e3
   conv => cbv
   obtain rfl : c = x8 := (ix0 hx8 hc0).symm
   refine cfr (listAll_lx R3 ws6 C [] N W 0 0 0 L3 D6 Q z false hh6 M6 hc6 (fun _ _ => []) hY6 c true (hch9 hY6 c) (hsu7 hY6)) [(0,2),(1,3),(2,4),(3,5),(4,6),(5,7),(6,8)] (fun r h' n' hrr => ?_)
   obtain ⟨mm,cells,e1,e2,e3,hmm,_⟩ := hrr
   subst e1 e2 e3
   have hmm : mm = 0 := hmm
   conv => cbv
   refine Br.yes (show mm = 0 from hmm) ?_
   conv => cbv
   refine RetF.mk [.p (.bool true)] [(0,.fix 0 o)] 1 (Re.at [(0,0)] []) rfl rfl
end Go.Proofs.YtjgbhpclmlcbbaaGreatDoor
