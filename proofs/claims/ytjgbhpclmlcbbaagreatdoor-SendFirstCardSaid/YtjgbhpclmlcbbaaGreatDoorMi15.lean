/-
  Layer 15: SendFirst.
-/
import Derived.Test.YtjgbhpclmlcbbaaGreatDoorBi
namespace Go.Proofs.YtjgbhpclmlcbbaaGreatDoor
open Go Go.LX
set_option maxRecDepth 100000
set_option linter.unusedVariables false
set_option linter.unusedSimpArgs false
set_option maxHeartbeats 32000000
theorem sendFullA_lx (R : List Rw) (ws C G : List Int) (N W ph sp cy : Int) (L D Q : List PV) (z : ByteArray) (ov : Bool) (h : HM R ws C G N W L D Q z) (M : Hp) (hM : Cont R ws M) (q : Qs) (hY : Sys M q) (o : Unit → Obj) (ho : IsPow o) (hph : ph = 0) (w v : Int) (hw : (-9223372036854775808 ≤ w ∧ w ≤ 9223372036854775807)) (hv : (-9223372036854775808 ≤ v ∧ v ≤ 9223372036854775807)) (h0 : w ≠ 0) (a y0 y1 y2 y3 y4 y5 y6 y7 y8 : Int) (ha : atW w = a) (hMa : M a = some (1,[y0,y1,y2,y3,y4,y5,y6,y7,y8])) (hcl : y1 = 0) (hq : q a false = []) (hfl : y0 ≤ 0 ∨ (0 ≤ y2 ∧ 0 ≤ y3 ∧ 0 < y0 ∧ ∃ X,M y4 = some (2,X) ∧ (X.length : Int) = y0 ∧ ¬ y2 < y0)) : CallF (fun _ => Tryz.prog) 32 [.ptr 0 (.lit 0),i6 w,i6 v] [hpA 0 1 5 6 3 W ph sp cy,hpB 1 2 4 3 W,hpC 2 3 214 2 N,hpP 3 L,hpP 4 D,hpF 5 z ov,hpP 6 Q,(7,.fix 0 o)] 8 (fun r h n => r = .tup [i6 (-1),i6 0] ∧ h = [hpA 0 1 5 6 3 W ph sp cy,hpB 1 2 4 3 W,hpC 2 3 214 2 N,hpP 3 L,hpP 4 D,hpF 5 z ov,hpP 6 Q,(7,.fix 0 o)] ∧ n = 8) := by
 rcases hfl with h1 | ⟨h1,h2,h3,X,h4,h5,h6⟩
 ·exact sendFull0_lx R ws C G N W ph sp cy L D Q z ov h M hM q hY o ho hph w v hw hv h0 a y0 y1 y2 y3 y4 y5 y6 y7 y8 ha hMa hcl hq h1
 ·exact sendFull_lx R ws C G N W ph sp cy L D Q z ov h M hM q hY o ho hph w v hw hv h0 a y0 y1 y2 y3 y4 y5 y6 y7 y8 ha hMa hcl hq h1 h2 h3 X h4 h5 h6
theorem sendFirst_law (o : Unit → Obj) (ho : IsPow o) (cap n : Int) (words : List Int) (mw : Int) (WL : List PV) (hWL : WL = ipv words) (hmw : mw = words.length) (hwb : ∀ x ∈ words,-9223372036854775808 ≤ x ∧ x ≤ 9223372036854775807) : CallF (fun _ => Tryz.prog) 6 [i6 cap,i6 n,.p (.vsl (.sym mw) true WL)] [(0,.fix 0 o)] 1 (fun r _ _ => r = .p (.bool true)) := by
 refine callF_of_body tok Tryz.func6 (by kernel_rfl) rfl rfl rfl ?_; conv => cbv
 refine Fit.wrap fun xn hxn => ?_
 have hxn : xn = IntKind.u64.wrap cap := hxn
 have hyn : 0 ≤ xn := by rw [hxn]; simp [IntKind.wrap,IntKind.bits,IntKind.signed]; omega
 clear hxn
 conv => cbv
 refine Sum.mk fun tn htn => ?_
 have htn : tn = xn % 4 := (show tn = xn.tmod 4 from htn).trans (Int.tmod_eq_emod_of_nonneg hyn)
 conv => cbv
 refine Fit.mk (by show (-9223372036854775808 : Int) ≤ tn; omega) (by show tn ≤ 9223372036854775807; omega) fun u hu => ?_
 have hu : u = tn := hu
 have hu0 : 0 ≤ u := by omega
 have hu1 : u < 4 := by omega
 clear hu htn hyn
 conv => cbv
 refine CallF.re (args0 := [.p (.vsl (.sym 1) true [.int .i64 (.sym u)]),i6 n]) (h' := [(0,.fix 0 o)]) (Re.at [(0,0)] []) (cfr (made15_lx o ho [u] 1 n [.int .i64 (.sym u)] rfl rfl) [(0,0)] (fun r h' n' hrr => ?_))
 obtain ⟨N,W,C,R,ws,vs,L,D,Q,z,P,B,V,Qr,M,CS,GS,chs,bufs,grs,nc,ng,e1,e2,e3,S,hB,hY,hcs,hgs,hnc,hng,hnm,hn1,hn4,hngo,hcnt,hR,hW⟩ := hrr
 subst e1 e2 e3
 conv => cbv
 refine cfr (awake15_lx o ho) [(0,0)] (fun r h' n' ⟨e1,e2,e3⟩ => ?_)
 subst e1 e2 e3
 conv => cbv
 have hnc1 : nc = 1 := by omega
 obtain ⟨c,hcc⟩ := chA1 hnc hnc1
 have hc0 : chs[0]? = some c := by rw [hcc]; rfl
 obtain ⟨b,hb0,hBC⟩ := hB.ch 0 c u hc0 rfl
 have hMc := hBC.c
 rw [capS (by omega)] at hMc
 have hcl := S.c.len S.h.a hMc
 have hcw : atW (2 * c + 1) = c := atW_ptr c
 have hngb := ngor_bd n
 have hKB : u = 0 ∨ M b = some (2,List.replicate u.toNat 0) := by
  rcases hBC.b with q | ⟨_,_,q⟩
  ·rw [capS (by omega)] at q; exact .inl q.1
  ·rw [capS (by omega)] at q; exact .inr q
 have hng1 : 1 ≤ ng ∧ ng ≤ 6 := by omega
 have hW0 : Wts M c false (fun _ => 0) grs [] 0 := ⟨fun j x _ h => by simp at h,fun j g _ h _ => by simp at h,fun j g _ h => hB.gr j g h,List.nodup_nil,hB.gnd⟩
 have hq0 : rowQ c false [] = fun _ _ => [] := rowQ_nil c false
 have S2 : Bs2 R ws vs C N W 0 L D Q z P B V Qr [] 0 (relink M (rowQ c false [])) (relink M (rowQ c false [])) := by rw [hq0,hY.ln]; exact S.two
 have hY2 : Sys (relink M (rowQ c false [])) (rowQ c false []) := by rw [hq0,hY.ln]; exact hY
 clear hq0
 have hcbd : 0 ≤ c ∧ c ≤ 2000 := by omega
 obtain ⟨hcnt0,hR0⟩ : (objCount R : Int) ≤ 8 ∧ R.length = 60 := ⟨by omega,hR⟩
 refine LoopF.mk (fun kk s => ∃ (i : Int) (R : List Rw) (ws vs : List Int) (L D P B V : List PV) (K : Hp) (xs : List Int),s = ⟨.p (.int .i64 (.sym u)) :: .p (.int .i64 (.sym n)) :: .p (.vsl (.sym mw) true WL) :: (undefs 4 ++ .ptr 17 (.lit 0) :: .p (.int .i64 (.sym i)) :: undefs 148),[hpA 2 3 7 8 3 W 0 0 0,hpB 3 4 6 3 W,hpC 4 5 214 2 N,hpP 5 L,hpP 6 D,hpF 7 z false,hpP 8 Q,hpR 9 10 15 3 W 16 0 0 0,hpB 10 11 14 3 W,hpD 11 12 3 1 N 13 209 8 N,hpP 12 P,hpP 13 B,hpP 14 V,hpP 15 Qr,(16,.mix [.p (.vsl (.sym 0) true []),.p (.bool false)]),(0,.fix 0 o),(17,.mix [.ptr 2 (.lit 0),.ptr 9 (.lit 0),.sl 18 3 1 (.lit 0) (.sym nc),.sl 19 3 1 (.lit 0) (.sym ng)]),hpP 18 CS,hpP 19 GS,(0,.fix 0 o)],20⟩ ∧ 0 ≤ i ∧ i ≤ ng ∧ i = xs.length ∧ kk = (ng - i).toNat ∧ Bs2 R ws vs C N W 0 L D Q z P B V Qr [] 0 (relink K (rowQ c false xs)) (relink K (rowQ c false xs)) ∧ Sys (relink K (rowQ c false xs)) (rowQ c false xs) ∧ K c = some (1,[u,0,0,0,b,-1,-1,-1,-1]) ∧ (u = 0 ∨ K b = some (2,List.replicate u.toNat 0)) ∧ Wts K c false (fun _ => 0) grs xs 0 ∧ (objCount R : Int) ≤ 8 + i ∧ R.length = 60) ng.toNat _
  (Re.at [(0,0),(2,2),(3,3),(4,4),(5,5),(6,6),(7,7),(8,8),(9,9),(10,10),(11,11),(12,12),(13,13),(14,14),(15,15),(16,16),(17,17),(18,18),(19,19)] []) ⟨0,R,ws,vs,L,D,P,B,V,M,[],rfl,by omega,by omega,rfl,by omega,S2,hY2,hMc,hKB,hW0,by omega,hR0⟩ ?_
 clear S S2 hY hY2 hB hBC hMc hKB hW0 hcnt hcnt0 hR hR0
 rintro kk s ⟨i,R,ws,vs,L,D,P,B,V,K,xs,rfl,hi0,hi1,hix,hkk,S1,hY1,hKc,hKB,hW1,hcnt,hR⟩
 have hkk : kk = (ng - i).toNat := hkk
 have hix : i = (xs.length : Int) := hix
 conv => cbv
 refine Br.mk (fun gi => ?_) (fun gi => ?_)
 ·have gi : i < ng := gi
  obtain ⟨g,hg⟩ : ∃ a,grs[xs.length]? = some a := ⟨_,List.getElem?_eq_getElem (by omega)⟩
  have hcellg : GS[i.toNat]? = some (.int .i64 (.sym g)) := by rw [hgs,show i.toNat = xs.length by omega]; exact ipv_get hg
  have hKg : K g = some (4,[i,0,0,0,0,0,0,0,0,-1]) := by rw [hix]; exact hW1.gr _ _ (Nat.le_refl _) hg
  conv => cbv
  refine readF_sound tok (by kernel_rfl) [0,2,3,4,5,6,7,8,9,10,11,12,13,14,15,16,17,18,19] [9,10,11] [(13,[])] [0,1,2,3,4,5,6,7,8,9,10,11,12,13,14] (by kernel_rfl) ?_
  conv => cbv
  refine Need.mk (show 0 ≤ i ∧ i < ng by omega) ?_
  conv => cbv
  refine Cell.at i _ hcellg (by simp [I.val]) rfl ?_
  conv => cbv
  refine ReadF.mk (.p (.int .i64 (.sym c))) (fun h' n' hbR hnR => CallF.le (args0 := [.ptr 17 (.lit 0),i6 0]) (callF_read ((ch15_lx R ws vs C N W 0 0 0 L D Q z false P B V Qr [] 0 M nc ng CS GS o 0 chs hcs hnc (by omega) (by omega)).mono (fun r h n ⟨⟨x,e1,hx⟩,e2,e3⟩ => ⟨by rw [e1,ix0 hx hc0],e2,e3⟩)) [(0,2),(1,3),(2,4),(3,5),(4,6),(5,7),(6,8),(7,9),(8,10),(9,11),(10,12),(11,13),(12,14),(13,15),(14,16),(15,0),(16,17),(17,18),(18,19)] (by simp [fok,nget,nback]; omega) (by simp [hmapOk,nget,hbR,hget,renB,okB,renV,renVs,rn,okVs,okV]) rfl rfl rfl rfl) (by simp [ales,ale,pvle,I.val])) ?_
  conv => cbv
  refine CallF.re (args0 := [.ptr 17 (.lit 0),i6 g,.p (.vsl (.sym 1) true [.int .i64 (.sym c)]),.p (.vsl (.sym 1) true [.bool false]),i6 0,i6 i]) (h' := [(0,.fix 0 o),hpA 2 3 7 8 3 W 0 0 0,hpB 3 4 6 3 W,hpC 4 5 214 2 N,hpP 5 L,hpP 6 D,hpF 7 z false,hpP 8 Q,hpR 9 10 15 3 W 16 0 0 0,hpB 10 11 14 3 W,hpD 11 12 3 1 N 13 209 8 N,hpP 12 P,hpP 13 B,hpP 14 V,hpP 15 Qr,(16,.mix [.p (.vsl (.sym 0) true []),.p (.bool false)]),(0,.fix 0 o),(17,.mix [.ptr 2 (.lit 0),.ptr 9 (.lit 0),.sl 18 3 1 (.lit 0) (.sym nc),.sl 19 3 1 (.lit 0) (.sym ng)]),hpP 18 CS,hpP 19 GS]) (Re.at [(0,0),(2,2),(3,3),(4,4),(5,5),(6,6),(7,7),(8,8),(9,9),(10,10),(11,11),(12,12),(13,13),(14,14),(15,15),(16,16),(17,17),(18,18),(19,19)] []) (cfr (wait15_lx R ws vs C N W 0 0 0 L D Q z false P B V Qr [] 0 K K (rowQ c false xs) nc ng CS GS o S1 ho hY1 hY1 g 0 i i 0 0 0 0 0 0 0 0 (-1) hKg hKg rfl [(c,false)] (by simp [hKc]) (by simp) (by simp) (by omega) (by simp; omega) 1 rfl [.int .i64 (.sym c)] [.bool false] rfl rfl) [(0,2),(1,3),(2,4),(3,5),(4,6),(5,7),(6,8),(7,9),(8,10),(9,11),(10,12),(11,13),(12,14),(13,15),(14,16),(15,0),(16,17),(17,18),(18,19)] (fun r h' n' hrr => ?_))
  obtain ⟨ys,R3,ws3,vs3,L3,D3,P3,B3,V3,e1,e2,e3,S3,hY3,hY4,hxl,hxn,hxK,hk3,hl3⟩ := hrr
  subst e1 e2 e3
  conv => cbv
  obtain ⟨x,rfl⟩ : ∃ x,ys = [x] := by
   match ys,hxl with
   | [x],_ => exact ⟨x,rfl⟩
  obtain ⟨hKx,_⟩ := hxK x (by simp)
  have hxc : c ≠ x := fun e => by rw [← e,hKc] at hKx; cases hKx
  have hgc : c ≠ g := fun e => by rw [← e,hKc] at hKg; cases hKg
  have hWn := hW1.add hg hKx (v := 0) rfl hix
  have hKc3 := (waitB_ne (g := g) (v := 0) (tq := i) (ps := [(c,false)]) (xs := [x]) (gF := [i,1,0,0,0,0,0,0,0,hdQ [x]]) (B := K) (a := c) hgc (by simp [hxc])).trans hKc
  have hKB3 : u = 0 ∨ waitB g 0 i [(c,false)] [x] [i,1,0,0,0,0,0,0,0,hdQ [x]] K b = some (2,List.replicate u.toNat 0) := hKB.imp id fun e => (waitB_ne (fun q => by rw [q,hKg] at e; cases e) (by simp; intro q; rw [q,hKx] at e; cases e)).trans e
  rw [rowQ_add] at S3 hY3
  generalize waitB g 0 i [(c,false)] [x] [i,1,0,0,0,0,0,0,0,hdQ [x]] K = K3 at hWn hKc3 hKB3 S3 hY3
  refine Fit.mk (by show (-9223372036854775808 : Int) ≤ i + 1; omega) (by show i + 1 ≤ 9223372036854775807; omega) fun i2 hi2 => ?_
  have hi2 : i2 = i + 1 := hi2
  conv => cbv
  refine Again.mk (ng - i2).toNat _ (by omega) (Re.at [(0,0),(2,2),(3,3),(4,4),(5,5),(6,6),(7,7),(8,8),(9,9),(10,10),(11,11),(12,12),(13,13),(14,14),(15,15),(16,16),(17,17),(18,18),(19,19)] []) ⟨i2,R3,ws3,vs3,L3,D3,P3,B3,V3,K3,xs ++ [x],rfl,by omega,by omega,by rw [List.length_append,List.length_singleton]; show i2 = ((xs.length + 1 : Nat) : Int); omega,rfl,S3,hY3,hKc3,hKB3,hWn,(show (objCount R3 : Int) ≤ 8 + i2 by simp at hk3; omega),hl3.trans hR⟩
 ·have gi : ¬ i < ng := gi
  conv => cbv
  have hin : i = ng := by omega
  have hh := S1.h
  have hc := S1.c
  have hKB1 : u = 0 ∨ K b = some (2,List.replicate u.toNat 0) ∧ ((List.replicate u.toNat (0 : Int)).length : Int) = u := hKB.imp id fun e => ⟨e,by rw [List.length_replicate]; omega⟩
  have hxl : (xs.length : Int) = ng := by omega
  clear hkk gi hKB hcnt S1
  refine LoopF.mk (fun kk s => ∃ (j : Int) (ws : List Int) (D : List PV) (K : Hp) (X : List Int) (ct : Int),s = ⟨.p (.int .i64 (.sym u)) :: .p (.int .i64 (.sym n)) :: .p (.vsl (.sym mw) true WL) :: (undefs 4 ++ .ptr 17 (.lit 0) :: (undefs 1 ++ .p (.int .i64 (.sym j)) :: undefs 147)),[hpA 2 3 7 8 3 W 0 0 0,hpB 3 4 6 3 W,hpC 4 5 214 2 N,hpP 5 L,hpP 6 D,hpF 7 z false,hpP 8 Q,hpR 9 10 15 3 W 16 0 0 0,hpB 10 11 14 3 W,hpD 11 12 3 1 N 13 209 8 N,hpP 12 P,hpP 13 B,hpP 14 V,hpP 15 Qr,(16,.mix [.p (.vsl (.sym 0) true []),.p (.bool false)]),(0,.fix 0 o),(17,.mix [.ptr 2 (.lit 0),.ptr 9 (.lit 0),.sl 18 3 1 (.lit 0) (.sym nc),.sl 19 3 1 (.lit 0) (.sym ng)]),hpP 18 CS,hpP 19 GS,(0,.fix 0 o)],20⟩ ∧ 0 ≤ j ∧ j ≤ 12 ∧ kk = (12 - j).toNat ∧ HM R ws C [] N W L D Q z ∧ Cont R ws (relink K (rowQ c false (xs.drop j.toNat))) ∧ Sys (relink K (rowQ c false (xs.drop j.toNat))) (rowQ c false (xs.drop j.toNat)) ∧ K c = some (1,[u,0,ct,0,b,-1,-1,-1,-1]) ∧ (u = 0 ∨ K b = some (2,X) ∧ (X.length : Int) = u) ∧ Wts K c false (fun _ => 0) grs xs j.toNat ∧ (j ≤ ng → ct = 0) ∧ (ng ≤ j → j ≤ ng + u → ct = j - ng) ∧ (ng + u ≤ j → ct = u)) 12 _
   (Re.at [(0,0),(2,2),(3,3),(4,4),(5,5),(6,6),(7,7),(8,8),(9,9),(10,10),(11,11),(12,12),(13,13),(14,14),(15,15),(16,16),(17,17),(18,18),(19,19)] []) ⟨0,ws,D,K,List.replicate u.toNat 0,0,rfl,by omega,by omega,by omega,hh,by rw [show ((0 : Int)).toNat = 0 from rfl,List.drop_zero]; exact hc,by rw [show ((0 : Int)).toNat = 0 from rfl,List.drop_zero]; exact hY1,hKc,hKB1,hW1,fun _ => rfl,by omega,by omega⟩ ?_
  clear hh hc hY1 hKc hKB1 hW1 hix hi0 hi1 hin
  rintro kk s ⟨j,ws,D,K,X,ct,rfl,hj0,hj12,hkk,hh,hc,hY,hKc,hKB,hW1,ht0,ht1,ht2⟩
  have hkk : kk = (12 - j).toNat := hkk
  conv => cbv
  refine Br.mk (fun gj => ?_) (fun gj => ?_)
  ·have gj : j < mw := gj
   conv => cbv
   refine Br.mk (fun g12 => ?_) (fun g12 => ?_)
   ·have g12 : j < 12 := g12
    obtain ⟨hx,hhx⟩ : ∃ a,words[j.toNat]? = some a := ⟨_,List.getElem?_eq_getElem (by omega)⟩
    have hcell : WL[j.toNat]? = some (.int .i64 (.sym hx)) := by rw [hWL]; exact ipv_get hhx
    have hhxb := hwb hx (List.mem_of_getElem? hhx)
    have hMc3 := relink_ch (q := rowQ c false (xs.drop j.toNat)) hKc
    conv => cbv
    refine drawn_sound tok (by kernel_rfl) [(5,[11,10,9,8,3,2,1,0]),(12,[])] [0,1,2,3,4,8,9,10,11,5,6,7,12,13,14,15,16,17] (by kernel_rfl) ?_; conv => cbv
    refine Need.mk (show 0 ≤ j ∧ j < mw by omega) ?_
    conv => cbv
    refine Cell.at j _ hcell (by simp [I.val]) rfl ?_
    conv => cbv
    refine CallF.le (args0 := [.ptr 17 (.lit 0),i6 0]) (cfr (ch15_lx R ws vs C N W 0 0 0 L D Q z false P B V Qr [] 0 M nc ng CS GS o 0 chs hcs hnc (by omega) (by omega)) [(0,2),(1,3),(2,4),(3,5),(4,6),(5,7),(6,8),(7,9),(8,10),(9,11),(10,12),(11,13),(12,14),(13,15),(14,16),(15,0),(16,17),(17,18),(18,19)] (fun r h' n' hrr => ?_)) (by simp [ales,ale,pvle,I.val])
    obtain ⟨⟨x1,e1,hx1⟩,e2,e3⟩ := hrr
    subst e1 e2 e3
    conv => cbv
    obtain rfl : c = x1 := (ix0 hx1 hc0).symm
    refine Fit.mk (by show (-9223372036854775808 : Int) ≤ 2 * c; omega) (by show 2 * c ≤ 9223372036854775807; omega) fun a1 ha1 => ?_
    have ha1 : a1 = 2 * c := ha1
    conv => cbv
    refine Fit.mk (by show (-9223372036854775808 : Int) ≤ a1 + 1; omega) (by show a1 + 1 ≤ 9223372036854775807; omega) fun w1 hw1 => ?_
    have hw1 : w1 = a1 + 1 := hw1
    conv => cbv
    have hat1 : atW w1 = c := by rw [show w1 = 2 * c + 1 by omega]; exact hcw
    have hjn : ((j.toNat : Nat) : Int) = j := by omega
    by_cases hjg : j < ng
    ·obtain ⟨g,hg⟩ : ∃ a,grs[j.toNat]? = some a := ⟨_,List.getElem?_eq_getElem (by omega)⟩
     have hcellg : GS[j.toNat]? = some (.int .i64 (.sym g)) := by rw [hgs]; exact ipv_get hg
     obtain ⟨x,hx0,hKg⟩ := hW1.gw _ _ (Nat.le_refl _) (by omega) hg
     obtain ⟨g',hg',hKx⟩ := hW1.su _ _ (Nat.le_refl _) hx0
     obtain rfl : g = g' := Option.some.inj (hg.symm.trans hg')
     rw [hjn] at hKg hKx
     have hKx : K x = some (3,[g,c,0,-1,j,0,-1]) := hKx
     obtain ⟨n1,hMx3⟩ := relink_su (q := rowQ c false (xs.drop j.toNat)) hKx
     have hMg3 := relink_other (q := rowQ c false (xs.drop j.toNat)) hKg ⟨by decide,by decide⟩
     have hKn : K (-1) = none := rl_none (neg_none hh.a hc)
     have hmor := mor1 (q := rowQ c false (xs.drop j.toNat)) hKx hKc hKn
     have hqx : rowQ c false (xs.drop j.toNat) c false = x :: xs.drop (j.toNat + 1) := by rw [rowQ_same,drop_hd hx0]
     have ht0' : ct = 0 := ht0 (by omega)
     refine CallF.le (args0 := [.ptr 2 (.lit 0),i6 w1,i6 hx]) (cfr (sendWakes_lx R ws C [] N W 0 0 0 L D Q z false hh (relink K (rowQ c false (xs.drop j.toNat))) hc (rowQ c false (xs.drop j.toNat)) hY o ho rfl w1 hx (by omega) hhxb (by omega) c u 0 ct 0 b _ _ _ _ hat1 hMc3 rfl x g 0 n1 j 0 (-1) j 1 0 0 0 0 0 0 0 x [x] hMx3 hMg3 hmor (by simp) (by simp) _ hqx) [(0,2),(1,3),(2,4),(3,5),(4,6),(5,7),(6,8),(7,0)] (fun r h' n' hrr => ?_)) (by simp [ales,ale,pvle,I.val])
     obtain ⟨ws4,D4,e1,e2,e3,hh4,hc4⟩ := hrr
     subst e1 e2 e3
     conv => cbv
     have hgf : ([j,0,j] ++ setR 0 hx [0,0,0,0,0,0] ++ [-1] : List Int) = [j,0,j,hx,0,0,0,0,0,-1] := rfl
     rw [hgf,relink_relink,rowQ_rm hW1.nd hx0,rl_ot ⟨by decide,by decide⟩] at hc4
     have hY4 := sysFilt hY [x]
     rw [relink_relink,rowQ_rm hW1.nd hx0] at hY4
     have hY5 := sysOther (F := [j,0,j,hx,0,0,0,0,0,-1]) hY4 (relink_other hKg ⟨by decide,by decide⟩) ⟨by decide,by decide⟩
     rw [rl_ot ⟨by decide,by decide⟩] at hY5
     have hW4 := hW1.wake hg (by omega) [j,0,j,hx,0,0,0,0,0,-1]
     have hgc : c ≠ g := fun e => by rw [← e,hKc] at hKg; cases hKg
     have hKc4 : upd K g (4,[j,0,j,hx,0,0,0,0,0,-1]) c = some (1,[u,0,ct,0,b,-1,-1,-1,-1]) := (upd_ne hgc).trans hKc
     have hKB4 : u = 0 ∨ upd K g (4,[j,0,j,hx,0,0,0,0,0,-1]) b = some (2,X) ∧ (X.length : Int) = u := hKB.imp id fun e => ⟨(upd_ne (fun q => by rw [q,hKg] at e; cases e.1)).trans e.1,e.2⟩
     have hMg4 : relink (upd K g (4,[j,0,j,hx,0,0,0,0,0,-1])) (rowQ c false (xs.drop (j.toNat + 1))) g = some (4,[j,0,j,hx,0,0,0,0,0,-1]) := relink_other (upd_same _ _ _) ⟨by decide,by decide⟩
     generalize upd K g (4,[j,0,j,hx,0,0,0,0,0,-1]) = K4 at hc4 hY5 hW4 hKc4 hKB4 hMg4
     rw [show j.toNat + 1 = (j + 1).toNat by omega] at hc4 hY5 hW4 hMg4
     refine Br.yes (show j < ng from hjg) ?_
     conv => cbv
     refine readF_sound tok (by kernel_rfl) [0,2,3,4,5,6,7,8,9,10,11,12,13,14,15,16,17,18,19] [11] [(15,[14,13,12,11,10,9,8,7,6,5,4,3,2,1,0]),(16,[14])] [0,1,2,3,4,5,6,7,8,9,10,11,12,13,14,15,16,17] (by kernel_rfl) ?_
     conv => cbv
     refine Need.mk (show 0 ≤ j ∧ j < ng by omega) ?_
     conv => cbv
     refine Cell.at j _ hcellg (by simp [I.val]) rfl ?_
     conv => cbv
     refine ReadF.mk (.tup [.agg [i6 j,i6 0,i6 j,i6 hx,i6 0,i6 0,i6 0,i6 0,i6 0,i6 (-1)],i6 0]) (fun h' n' hbR hnR => CallF.le (args0 := [.ptr 2 (.lit 0),i6 g]) (callF_read ((gorM_lx R ws4 C [] N W 0 0 0 L D4 Q z false hh4 (relink K4 (rowQ c false (xs.drop (j + 1).toNat))) hc4 g j 0 j hx 0 0 0 0 0 (-1) hMg4).mono (fun r h n ⟨⟨e,e1,he⟩,e2,e3⟩ => ⟨by rw [e1,he],e2,e3⟩)) [(0,2),(1,3),(2,4),(3,5),(4,6),(5,7),(6,8)] (by simp [fok,nget,nback]; omega) (by simp [hmapOk,nget,hbR,hget,renB,okB,renV,renVs,rn,okVs,okV]) rfl rfl rfl rfl) (by simp [ales,ale,pvle,I.val])) ?_
     conv => cbv
     refine drawn_sound tok (by kernel_rfl) [] [0,1,2,3,4,5,6,7,8,9,10,11,12,13,14,15,16,17,18,19,20,21,22,23,24,25,26,27,28,29,30,31,32,33] (drawnOKF_ok (by kernel_rfl)) ?_; conv => cbv
     refine Need.mk (show 0 ≤ j ∧ j < ng by omega) ?_
     conv => cbv
     refine Cell.at j _ hcellg (by simp [I.val]) rfl ?_
     conv => cbv
     refine Br.no (show ¬ (¬ (g = g)) from fun q => q rfl) ?_
     conv => cbv
     refine Br.no (show ¬ (¬ ((1 : Int) = (1 : Int))) from fun q => q rfl) ?_
     conv => cbv
     refine Need.mk (show (0 : Int) ≤ 0 ∧ (0 : Int) < 6 by omega) ?_
     conv => cbv
     refine Need.mk (show 0 ≤ j ∧ j < mw by omega) ?_
     conv => cbv
     refine Cell.at j _ hcell (by simp [I.val]) rfl ?_
     conv => cbv
     refine Br.no (show ¬ (¬ (hx = hx)) from fun q => q rfl) ?_
     conv => cbv
     refine Br.no (show ¬ (¬ (j = j)) from fun q => q rfl) ?_
     conv => cbv
     refine Br.no (show ¬ (¬ ((0 : Int) = (0 : Int))) from fun q => q rfl) ?_
     conv => cbv
     refine Fit.mk (by show (-9223372036854775808 : Int) ≤ j + 1; omega) (by show j + 1 ≤ 9223372036854775807; omega) fun j2 hj2 => ?_
     have hj2 : j2 = j + 1 := hj2
     conv => cbv
     refine Again.mk (12 - j2).toNat _ (by omega) (Re.at [(0,0),(2,2),(3,3),(4,4),(5,5),(6,6),(7,7),(8,8),(9,9),(10,10),(11,11),(12,12),(13,13),(14,14),(15,15),(16,16),(17,17),(18,18),(19,19)] []) ⟨j2,ws4,D4,K4,X,ct,rfl,by omega,by omega,rfl,hh4,by rw [hj2]; exact hc4,by rw [hj2]; exact hY5,hKc4,hKB4,by rw [hj2]; exact hW4,by omega,by omega,by omega⟩
    by_cases hju : j < ng + u
    ·obtain ⟨hKb,hXl⟩ := hKB.resolve_left (by omega)
     have hctj : ct = j - ng := ht1 (by omega) (by omega)
     have hdr : xs.drop j.toNat = [] := List.drop_eq_nil_of_le (by omega)
     have hdd : xs.drop j.toNat = xs.drop (j + 1).toNat := by rw [hdr,List.drop_eq_nil_of_le (by omega)]
     have hqn : rowQ c false (xs.drop j.toNat) c false = [] := by rw [rowQ_same,hdr]
     have hMb3 := relink_other (q := rowQ c false (xs.drop j.toNat)) hKb ⟨by decide,by decide⟩
     have hcb : c ≠ b := fun q => by rw [q,hKb] at hKc; cases hKc
     refine CallF.le (args0 := [.ptr 2 (.lit 0),i6 w1,i6 hx]) (cfr (sendHeld_lx R ws C [] N W 0 0 0 L D Q z false hh (relink K (rowQ c false (xs.drop j.toNat))) hc (rowQ c false (xs.drop j.toNat)) hY o ho rfl w1 hx (by omega) hhxb (by omega) c u 0 ct 0 b _ _ _ _ hat1 hMc3 rfl hqn (by omega) (by decide) X hMb3 hXl (by omega)) [(0,2),(1,3),(2,4),(3,5),(4,6),(5,7),(6,8),(7,0)] (fun r h' n' hrr => ?_)) (by simp [ales,ale,pvle,I.val])
     obtain ⟨ws4,D4,e1,e2,e3,hh4,hc4⟩ := hrr
     subst e1 e2 e3
     conv => cbv
     obtain ⟨X2,hX2⟩ : ∃ X2,X2 = X.set (((0 : Int) % u + ct) % u).toNat hx := ⟨_,rfl⟩
     have hX2l : (X2.length : Int) = u := by rw [hX2,List.length_set]; exact hXl
     have hY4 := sysRing (X' := X2) hY hMc3 hMb3 (ct + 1) 0
     have hMc4 : relink (upd K b (2,X2)) (rowQ c false (xs.drop j.toNat)) c = some (1,_) := relink_ch ((upd_ne hcb).trans hKc)
     rw [← hX2,rl_ot ⟨by decide,by decide⟩,rl_ch (b5 := -1) (b6 := -1) (b7 := -1) (b8 := -1) hMc4] at hc4
     rw [rl_ot ⟨by decide,by decide⟩,rl_ch (b5 := -1) (b6 := -1) (b7 := -1) (b8 := -1) hMc4] at hY4
     have hW4 := (hW1.other (K' := upd (upd K b (2,X2)) c (1,[u,0,ct + 1,0,b,-1,-1,-1,-1])) fun a k F e hk => by
      have h1 : a ≠ c := fun q => by rw [q,hKc] at e; cases e; omega
      have h2 : a ≠ b := fun q => by rw [q,hKb] at e; cases e; omega
      rw [upd_ne h1,upd_ne h2]; exact e).up (Nat.le_succ j.toNat)
     have hKc4 : upd (upd K b (2,X2)) c (1,[u,0,ct + 1,0,b,-1,-1,-1,-1]) c = some (1,[u,0,ct + 1,0,b,-1,-1,-1,-1]) := upd_same _ _ _
     have hKB4 : u = 0 ∨ upd (upd K b (2,X2)) c (1,[u,0,ct + 1,0,b,-1,-1,-1,-1]) b = some (2,X2) ∧ (X2.length : Int) = u := .inr ⟨(upd_ne hcb.symm).trans (upd_same _ _ _),hX2l⟩
     generalize upd (upd K b (2,X2)) c (1,[u,0,ct + 1,0,b,-1,-1,-1,-1]) = K4 at hc4 hY4 hW4 hKc4 hKB4
     rw [hdd] at hc4 hY4
     refine Br.no (show ¬ (j < ng) from hjg) ?_
     conv => cbv
     refine Fit.mk (by show (-9223372036854775808 : Int) ≤ ng + u; omega) (by show ng + u ≤ 9223372036854775807; omega) fun nu hnu => ?_
     have hnu : nu = ng + u := hnu
     conv => cbv
     refine Br.yes (show j < nu from by omega) ?_
     conv => cbv
     refine Br.no (show ¬ (¬ ((-1 : Int) = (-1 : Int))) from fun q => q rfl) ?_
     conv => cbv
     refine Br.no (show ¬ (¬ ((1 : Int) = (1 : Int))) from fun q => q rfl) ?_
     conv => cbv
     refine Fit.mk (by show (-9223372036854775808 : Int) ≤ j + 1; omega) (by show j + 1 ≤ 9223372036854775807; omega) fun j2 hj2 => ?_
     have hj2 : j2 = j + 1 := hj2
     conv => cbv
     refine Again.mk (12 - j2).toNat _ (by omega) (Re.at [(0,0),(2,2),(3,3),(4,4),(5,5),(6,6),(7,7),(8,8),(9,9),(10,10),(11,11),(12,12),(13,13),(14,14),(15,15),(16,16),(17,17),(18,18),(19,19)] []) ⟨j2,ws4,D4,K4,X2,ct + 1,rfl,by omega,by omega,rfl,hh4,by rw [hj2]; exact hc4,by rw [hj2]; exact hY4,hKc4,hKB4,by rw [hj2,show (j + 1).toNat = j.toNat + 1 by omega]; exact hW4,by omega,by omega,by omega⟩
    have hctj : ct = u := ht2 (by omega)
    have hdr : xs.drop j.toNat = [] := List.drop_eq_nil_of_le (by omega)
    have hdd : xs.drop j.toNat = xs.drop (j + 1).toNat := by rw [hdr,List.drop_eq_nil_of_le (by omega)]
    have hqn : rowQ c false (xs.drop j.toNat) c false = [] := by rw [rowQ_same,hdr]
    have hfl : u ≤ 0 ∨ (0 ≤ ct ∧ (0 : Int) ≤ 0 ∧ 0 < u ∧ ∃ X,relink K (rowQ c false (xs.drop j.toNat)) b = some (2,X) ∧ (X.length : Int) = u ∧ ¬ ct < u) := by
     by_cases hu : u = 0
     ·exact .inl (by omega)
     ·obtain ⟨hKb,hXl⟩ := hKB.resolve_left hu
      exact .inr ⟨by omega,Int.le_refl _,by omega,X,relink_other hKb ⟨by decide,by decide⟩,hXl,by omega⟩
    refine CallF.le (args0 := [.ptr 2 (.lit 0),i6 w1,i6 hx]) (cfr (sendFullA_lx R ws C [] N W 0 0 0 L D Q z false hh (relink K (rowQ c false (xs.drop j.toNat))) hc (rowQ c false (xs.drop j.toNat)) hY o ho rfl w1 hx (by omega) hhxb (by omega) c u 0 ct 0 b _ _ _ _ hat1 hMc3 rfl hqn hfl) [(0,2),(1,3),(2,4),(3,5),(4,6),(5,7),(6,8),(7,0)] (fun r h' n' hrr => ?_)) (by simp [ales,ale,pvle,I.val])
    obtain ⟨e1,e2,e3⟩ := hrr
    subst e1 e2 e3
    conv => cbv
    clear hfl
    have hW4 := hW1.up (Nat.le_succ j.toNat)
    rw [hdd] at hc hY
    refine Br.no (show ¬ (j < ng) from hjg) ?_
    conv => cbv
    refine Fit.mk (by show (-9223372036854775808 : Int) ≤ ng + u; omega) (by show ng + u ≤ 9223372036854775807; omega) fun nu hnu => ?_
    have hnu : nu = ng + u := hnu
    conv => cbv
    refine Br.no (show ¬ (j < nu) from by omega) ?_
    conv => cbv
    refine Br.no (show ¬ (¬ ((-1 : Int) = (-1 : Int))) from fun q => q rfl) ?_
    conv => cbv
    refine Br.no (show ¬ (¬ ((0 : Int) = (0 : Int))) from fun q => q rfl) ?_
    conv => cbv
    refine Fit.mk (by show (-9223372036854775808 : Int) ≤ j + 1; omega) (by show j + 1 ≤ 9223372036854775807; omega) fun j2 hj2 => ?_
    have hj2 : j2 = j + 1 := hj2
    conv => cbv
    refine Again.mk (12 - j2).toNat _ (by omega) (Re.at [(0,0),(2,2),(3,3),(4,4),(5,5),(6,6),(7,7),(8,8),(9,9),(10,10),(11,11),(12,12),(13,13),(14,14),(15,15),(16,16),(17,17),(18,18),(19,19)] []) ⟨j2,ws,D,K,X,ct,rfl,by omega,by omega,rfl,hh,by rw [hj2]; exact hc,by rw [hj2]; exact hY,hKc,hKB,by rw [hj2,show (j + 1).toNat = j.toNat + 1 by omega]; exact hW4,by omega,by omega,by omega⟩
   ·have g12 : ¬ j < 12 := g12
    conv => cbv
    refine RetF.mk [.p (.bool true)] [(0,.fix 0 o)] 1 (Re.at [(0,0)] []) rfl rfl
  ·have gj : ¬ j < mw := gj
   conv => cbv
   refine RetF.mk [.p (.bool true)] [(0,.fix 0 o)] 1 (Re.at [(0,0)] []) rfl rfl
end Go.Proofs.YtjgbhpclmlcbbaaGreatDoor
