/-
  Layer 17: ShutWakes.
-/
import Derived.Test.YtkhfgngcoiablaaGreatDoorBi
import Derived.Test.YtkhfgngcoiablaaGreatDoorBg
namespace Go.Proofs.YtkhfgngcoiablaaGreatDoor
open Go Go.LX
set_option maxRecDepth 100000
set_option linter.unusedVariables false
set_option linter.unusedSimpArgs false
set_option maxHeartbeats 32000000
theorem shutWakes_law (o : Unit → Obj) (ho : IsPow o) (n : Int) (sender : Bool) : CallF (fun _ => Tryz.prog) 8 [i6 n,.p (.bool sender)] [(0,.fix 0 o)] 1 (fun r _ _ => r = .p (.bool true)) := by
 refine callF_of_body tok Tryz.func8 (by kernel_rfl) rfl rfl rfl ?_; conv => cbv
 refine CallF.re (args0 := [.p (.vsl (.sym 2) true [.int .i64 (.sym 0),.int .i64 (.sym 0)]),i6 n]) (h' := [(0,.fix 0 o)]) (Re.at [(0,0)] []) (cfr (made17_lx o ho [0,0] 2 n [.int .i64 (.sym 0),.int .i64 (.sym 0)] rfl rfl) [(0,0)] (fun r h' n' hrr => ?_))
 obtain ⟨N,W,C,R,ws,vs,L,D,Q,z,P,B,V,Qr,M,CS,GS,chs,bufs,grs,nc,ng,e1,e2,e3,S,hB,hY,hcs,hgs,hnc,hng,hnm,hn1,hn4,hngo,hcnt,hR,hW⟩ := hrr
 subst e1 e2 e3
 conv => cbv
 refine cfr (awake17_lx o ho) [(0,0)] (fun r h' n' ⟨e1,e2,e3⟩ => ?_)
 subst e1 e2 e3
 conv => cbv
 have hnc1 : nc = 2 := by omega
 obtain ⟨c,d,hcc⟩ := chA2 hnc hnc1
 have hc0 : chs[0]? = some c := by rw [hcc]; rfl
 have hd0 : chs[1]? = some d := by rw [hcc]; rfl
 obtain ⟨b,hb0,hBC⟩ := hB.ch 0 c 0 hc0 rfl
 obtain ⟨b2,hb2,hBD⟩ := hB.ch 1 d 0 hd0 rfl
 have hMc := hBC.c
 have hMd := hBD.c
 rw [capS (by decide)] at hMc hMd
 have hcl := S.c.len S.h.a hMc
 have hdl := S.c.len S.h.a hMd
 have hcw : atW (2 * c + 1) = c := atW_ptr c
 have hdw : atW (2 * d + 1) = d := atW_ptr d
 have hcd : c ≠ d := fun q => by
  have := hB.nd
  rw [hcc,q] at this
  simp at this
 have hngb := ngor_bd n
 obtain ⟨g,hg0⟩ : ∃ g,grs[0]? = some g := ⟨_,List.getElem?_eq_getElem (by omega)⟩
 have hMg : M g = some (4,[0,0,0,0,0,0,0,0,0,-1]) := hB.gr 0 g hg0
 have hgl := S.c.len S.h.a hMg
 have hgc : g ≠ c := fun q => by rw [q,hMc] at hMg; cases hMg
 have hgd : g ≠ d := fun q => by rw [q,hMd] at hMg; cases hMg
 have hng1 : 1 ≤ ng ∧ ng ≤ 6 := by omega
 obtain ⟨hcnt0,hR0⟩ : (objCount R : Int) ≤ 10 ∧ R.length = 60 := ⟨by omega,hR⟩
 have hW0 : Wt2 M (fun _ => (c,false)) (fun _ => (d,true)) (fun _ => 8) (fun j => (j : Int)) grs [] [] 0 := Wt2.nil (fun j g h => hB.gr j g h) hB.gnd
 have hq0 : row2 c d [] [] = fun _ _ => [] := row2_nil c d
 have S2 : Bs2 R ws vs C N W 0 L D Q z P B V Qr [] 0 (relink M (row2 c d [] [])) (relink M (row2 c d [] [])) := by rw [hq0,hY.ln]; exact S.two
 have hY2 : Sys (relink M (row2 c d [] [])) (row2 c d [] []) := by rw [hq0,hY.ln]; exact hY
 have hcbd : 0 ≤ c ∧ c ≤ 2000 := by omega
 have hdbd : 0 ≤ d ∧ d ≤ 2000 := by omega
 have hgnd := hB.gnd
 clear hq0 hg0 hMg hgl hgc hgd
 refine fO (ng - 1) fun nl hnl => ?_
 have hnl : nl = ng - 1 := hnl
 conv => cbv
 refine LoopF.mk (fun kk s => ∃ (i : Int) (R : List Rw) (ws vs : List Int) (L D P B V : List PV) (K : Hp) (xs ys : List Int),s = ⟨.p (.int .i64 (.sym n)) :: .p (.bool sender) :: (undefs 3 ++ .ptr 17 (.lit 0) :: .p (.int .i64 (.sym nl)) :: .p (.int .i64 (.sym i)) :: undefs 247),[hpA 2 3 7 8 3 W 0 0 0,hpB 3 4 6 3 W,hpC 4 5 233 2 N,hpP 5 L,hpP 6 D,hpF 7 z false,hpP 8 Q,hpR 9 10 15 3 W 16 0 0 0,hpB 10 11 14 3 W,hpD 11 12 3 1 N 13 231 8 N,hpP 12 P,hpP 13 B,hpP 14 V,hpP 15 Qr,(16,.mix [.p (.vsl (.sym 0) true []),.p (.bool false)]),(0,.fix 0 o),(17,.mix [.ptr 2 (.lit 0),.ptr 9 (.lit 0),.sl 18 3 1 (.lit 0) (.sym nc),.sl 19 3 1 (.lit 0) (.sym ng)]),hpP 18 CS,hpP 19 GS],20⟩ ∧ 0 ≤ i ∧ i ≤ nl ∧ i = xs.length ∧ kk = (nl - i).toNat ∧ Bs2 R ws vs C N W 0 L D Q z P B V Qr [] 0 (relink K (row2 c d xs ys)) (relink K (row2 c d xs ys)) ∧ Sys (relink K (row2 c d xs ys)) (row2 c d xs ys) ∧ K c = some (1,[0,0,0,0,b,-1,-1,-1,-1]) ∧ K d = some (1,[0,0,0,0,b2,-1,-1,-1,-1]) ∧ Wt2 K (fun _ => (c,false)) (fun _ => (d,true)) (fun _ => 8) (fun j => (j : Int)) grs xs ys 0 ∧ (objCount R : Int) ≤ 10 + 2 * i ∧ R.length = 60) nl.toNat _
  (Re.at [(0,0),(2,2),(3,3),(4,4),(5,5),(6,6),(7,7),(8,8),(9,9),(10,10),(11,11),(12,12),(13,13),(14,14),(15,15),(16,16),(17,17),(18,18),(19,19)] []) ⟨0,R,ws,vs,L,D,P,B,V,M,[],[],rfl,by omega,by omega,rfl,by omega,S2,hY2,hMc,hMd,hW0,by omega,hR0⟩ ?_
 clear S S2 hY hY2 hB hBC hBD hMc hMd hW0 hcnt hcnt0 hR hR0 hcl hdl
 rintro kk s ⟨i,R,ws,vs,L,D,P,B,V,K,xs,ys,rfl,hi0,hi1,hix,hkk,S1,hY1,hKc,hKd,hW1,hcnt,hR⟩
 have hkk : kk = (nl - i).toNat := hkk
 have hix : i = (xs.length : Int) := hix
 conv => cbv
 refine Br.mk (fun gi => ?_) (fun gi => ?_)
 ·have gi : i < nl := gi
  obtain ⟨g,hg⟩ : ∃ a,grs[xs.length]? = some a := ⟨_,List.getElem?_eq_getElem (by omega)⟩
  have hcellg : GS[i.toNat]? = some (.int .i64 (.sym g)) := by rw [hgs,show i.toNat = xs.length by omega]; exact ipv_get hg
  have hKg : K g = some (4,[i,0,0,0,0,0,0,0,0,-1]) := by rw [hix]; exact hW1.gr _ _ (Nat.le_refl _) hg
  conv => cbv
  refine readF_sound tok (by kernel_rfl) [0,2,3,4,5,6,7,8,9,10,11,12,13,14,15,16,17,18,19] [20,21] [(23,[])] [0,1,2,3,4,5,6,7,8,9,10,11,12,13,14,15,16,17,18,19,20,21,22,23,24] (by kernel_rfl) ?_
  conv => cbv
  refine Need.mk (show 0 ≤ i ∧ i < ng by omega) ?_
  conv => cbv
  refine Cell.at i _ hcellg (by simp [I.val]) rfl ?_
  conv => cbv
  refine Need.mk (show (0 : Int) ≤ 0 ∧ 0 < nc by omega) ?_
  conv => cbv
  refine Cell.at 0 _ (show CS[(0 : Int).toNat]? = some (.int .i64 (.sym c)) by rw [hcs]; exact ipv_get hc0) (by simp [I.val]) rfl ?_
  conv => cbv
  refine Need.mk (show (0 : Int) ≤ 1 ∧ 1 < nc by omega) ?_
  conv => cbv
  refine Cell.at 1 _ (show CS[(1 : Int).toNat]? = some (.int .i64 (.sym d)) by rw [hcs]; exact ipv_get hd0) (by simp [I.val]) rfl ?_
  conv => cbv
  refine CallF.re (args0 := [.ptr 17 (.lit 0),i6 g,.p (.vsl (.sym 2) true [.int .i64 (.sym c),.int .i64 (.sym d)]),.p (.vsl (.sym 2) true [.bool false,.bool true]),i6 8,i6 i]) (h' := [(0,.fix 0 o),hpA 2 3 7 8 3 W 0 0 0,hpB 3 4 6 3 W,hpC 4 5 233 2 N,hpP 5 L,hpP 6 D,hpF 7 z false,hpP 8 Q,hpR 9 10 15 3 W 16 0 0 0,hpB 10 11 14 3 W,hpD 11 12 3 1 N 13 231 8 N,hpP 12 P,hpP 13 B,hpP 14 V,hpP 15 Qr,(16,.mix [.p (.vsl (.sym 0) true []),.p (.bool false)]),(0,.fix 0 o),(17,.mix [.ptr 2 (.lit 0),.ptr 9 (.lit 0),.sl 18 3 1 (.lit 0) (.sym nc),.sl 19 3 1 (.lit 0) (.sym ng)]),hpP 18 CS,hpP 19 GS]) (Re.at [(0,0),(2,2),(3,3),(4,4),(5,5),(6,6),(7,7),(8,8),(9,9),(10,10),(11,11),(12,12),(13,13),(14,14),(15,15),(16,16),(17,17),(18,18),(19,19)] []) (cfr (wait17_lx R ws vs C N W 0 0 0 L D Q z false P B V Qr [] 0 K K (row2 c d xs ys) nc ng CS GS o S1 ho hY1 hY1 g 8 i i 0 0 0 0 0 0 0 0 (-1) hKg hKg rfl [(c,false),(d,true)] (by simp [hKc,hKd]) (by simp) (by simp) (by omega) (by simp; omega) 2 rfl [.int .i64 (.sym c),.int .i64 (.sym d)] [.bool false,.bool true] rfl rfl) [(0,2),(1,3),(2,4),(3,5),(4,6),(5,7),(6,8),(7,9),(8,10),(9,11),(10,12),(11,13),(12,14),(13,15),(14,16),(15,0),(16,17),(17,18),(18,19)] (fun r h' n' hrr => ?_))
  obtain ⟨us,R3,ws3,vs3,L3,D3,P3,B3,V3,e1,e2,e3,S3,hY3,hY4,hxl,hxn,hxK,hk3,hl3⟩ := hrr
  subst e1 e2 e3
  conv => cbv
  obtain ⟨x,y,rfl⟩ : ∃ x y,us = [x,y] := by
   match us,hxl with
   | [x,y],_ => exact ⟨x,y,rfl⟩
  obtain ⟨hKx,_⟩ := hxK x (by simp)
  obtain ⟨hKy,_⟩ := hxK y (by simp)
  have hxy : x ≠ y := by simpa using hxn
  have hcg : c ≠ g := fun e => by rw [← e,hKc] at hKg; cases hKg
  have hdg : d ≠ g := fun e => by rw [← e,hKd] at hKg; cases hKg
  have hcx : c ∉ [x,y] := by simp; exact ⟨fun e => (by rw [← e,hKc] at hKx; cases hKx),fun e => (by rw [← e,hKc] at hKy; cases hKy)⟩
  have hdx : d ∉ [x,y] := by simp; exact ⟨fun e => (by rw [← e,hKd] at hKx; cases hKx),fun e => (by rw [← e,hKd] at hKy; cases hKy)⟩
  have hWn := hW1.add (v := 8) (i := i) (n := i) (c := c) (d := false) (c' := d) (d' := true) hg hKx hKy hxy rfl hix hix rfl rfl
  have hKc3 := (waitB_ne (g := g) (v := 8) (tq := i) (ps := [(c,false),(d,true)]) (xs := [x,y]) (gF := [i,1,0,0,0,0,0,0,0,hdQ [x,y]]) (B := K) (a := c) hcg hcx).trans hKc
  have hKd3 := (waitB_ne (g := g) (v := 8) (tq := i) (ps := [(c,false),(d,true)]) (xs := [x,y]) (gF := [i,1,0,0,0,0,0,0,0,hdQ [x,y]]) (B := K) (a := d) hdg hdx).trans hKd
  rw [row2_add hcd] at S3 hY3
  generalize waitB g 8 i [(c,false),(d,true)] [x,y] [i,1,0,0,0,0,0,0,0,hdQ [x,y]] K = K3 at hWn hKc3 hKd3 S3 hY3
  refine fO (i + 1) fun i2 hi2 => ?_
  have hi2 : i2 = i + 1 := hi2
  conv => cbv
  refine Again.mk (nl - i2).toNat _ (by omega) (Re.at [(0,0),(2,2),(3,3),(4,4),(5,5),(6,6),(7,7),(8,8),(9,9),(10,10),(11,11),(12,12),(13,13),(14,14),(15,15),(16,16),(17,17),(18,18),(19,19)] []) ⟨i2,R3,ws3,vs3,L3,D3,P3,B3,V3,K3,xs ++ [x],ys ++ [y],rfl,by omega,by omega,by rw [List.length_append,List.length_singleton]; show i2 = ((xs.length + 1 : Nat) : Int); omega,rfl,S3,hY3,hKc3,hKd3,hWn,(show (objCount R3 : Int) ≤ 10 + 2 * i2 by simp at hk3; omega),hl3.trans hR⟩
 ·have gi : ¬ i < nl := gi
  obtain rfl : nl = i := by omega
  have hh := S1.h
  have hc := S1.c
  clear gi hkk
  cases sender with
  | true =>
   conv => cbv
   obtain ⟨g,hg⟩ : ∃ a,grs[xs.length]? = some a := ⟨_,List.getElem?_eq_getElem (by omega)⟩
   have hcellg : GS[nl.toNat]? = some (.int .i64 (.sym g)) := by rw [hgs,show nl.toNat = xs.length by omega]; exact ipv_get hg
   have hKg : K g = some (4,[nl,0,0,0,0,0,0,0,0,-1]) := by rw [hix]; exact hW1.gr _ _ (Nat.le_refl _) hg
   refine readF_sound tok (by kernel_rfl) [0,2,3,4,5,6,7,8,9,10,11,12,13,14,15,16,17,18,19] [16,17] [(18,[])] [0,1,2,3,4,5,6,7,8,9,10,11,12,13,14,15,16,17,18,19,20] (by kernel_rfl) ?_
   conv => cbv
   refine Need.mk (show 0 ≤ nl ∧ nl < ng by omega) ?_
   conv => cbv
   refine Cell.at nl _ hcellg (by simp [I.val]) rfl ?_
   conv => cbv
   refine Need.mk (show (0 : Int) ≤ 0 ∧ 0 < nc by omega) ?_
   conv => cbv
   refine Cell.at 0 _ (show CS[(0 : Int).toNat]? = some (.int .i64 (.sym c)) by rw [hcs]; exact ipv_get hc0) (by simp [I.val]) rfl ?_
   conv => cbv
   refine CallF.re (args0 := [.ptr 17 (.lit 0),i6 g,.p (.vsl (.sym 1) true [.int .i64 (.sym c)]),.p (.vsl (.sym 1) true [.bool true]),i6 8,i6 0]) (h' := [(0,.fix 0 o),hpA 2 3 7 8 3 W 0 0 0,hpB 3 4 6 3 W,hpC 4 5 233 2 N,hpP 5 L,hpP 6 D,hpF 7 z false,hpP 8 Q,hpR 9 10 15 3 W 16 0 0 0,hpB 10 11 14 3 W,hpD 11 12 3 1 N 13 231 8 N,hpP 12 P,hpP 13 B,hpP 14 V,hpP 15 Qr,(16,.mix [.p (.vsl (.sym 0) true []),.p (.bool false)]),(0,.fix 0 o),(17,.mix [.ptr 2 (.lit 0),.ptr 9 (.lit 0),.sl 18 3 1 (.lit 0) (.sym nc),.sl 19 3 1 (.lit 0) (.sym ng)]),hpP 18 CS,hpP 19 GS]) (Re.at [(0,0),(2,2),(3,3),(4,4),(5,5),(6,6),(7,7),(8,8),(9,9),(10,10),(11,11),(12,12),(13,13),(14,14),(15,15),(16,16),(17,17),(18,18),(19,19)] []) (cfr (wait17_lx R ws vs C N W 0 0 0 L D Q z false P B V Qr [] 0 K K (row2 c d xs ys) nc ng CS GS o S1 ho hY1 hY1 g 8 0 nl 0 0 0 0 0 0 0 0 (-1) hKg hKg rfl [(c,true)] (by simp [hKc]) (by simp) (by simp) (by decide) (by simp; omega) 1 rfl [.int .i64 (.sym c)] [.bool true] rfl rfl) [(0,2),(1,3),(2,4),(3,5),(4,6),(5,7),(6,8),(7,9),(8,10),(9,11),(10,12),(11,13),(12,14),(13,15),(14,16),(15,0),(16,17),(17,18),(18,19)] (fun r h' n' hrr => ?_))
   obtain ⟨us,R3,ws3,vs3,L3,D3,P3,B3,V3,e1,e2,e3,S3,hY3,hY4,hxl,hxn,hxK,hk3,hl3⟩ := hrr
   subst e1 e2 e3
   conv => cbv
   obtain ⟨x,rfl⟩ : ∃ x,us = [x] := by
    match us,hxl with
    | [x],_ => exact ⟨x,rfl⟩
   obtain ⟨hKx,_⟩ := hxK x (by simp)
   have hcg : c ≠ g := fun e => by rw [← e,hKc] at hKg; cases hKg
   have hcx : c ∉ [x] := by simp; exact fun e => (by rw [← e,hKc] at hKx; cases hKx)
   have hK3c := (waitB_ne (g := g) (v := 8) (tq := 0) (ps := [(c,true)]) (xs := [x]) (gF := [nl,1,0,0,0,0,0,0,0,hdQ [x]]) (B := K) (a := c) hcg hcx).trans hKc
   have hqt : addQ [(c,true)] [x] (row2 c d xs ys) c true ≠ [] := by
    show updQ (row2 c d xs ys) c true (row2 c d xs ys c true ++ [x]) c true ≠ []
    rw [updQ_same]; simp
   have hqf : addQ [(c,true)] [x] (row2 c d xs ys) c false = xs := by
    show updQ (row2 c d xs ys) c true (row2 c d xs ys c true ++ [x]) c false = xs
    rw [updQ_ne (fun k => by cases k.2),row2_c]
   have hh3 := S3.h
   have hc3 := S3.c
   generalize waitB g 8 0 [(c,true)] [x] [nl,1,0,0,0,0,0,0,0,hdQ [x]] K = K3 at hK3c hc3 hY3
   generalize addQ [(c,true)] [x] (row2 c d xs ys) = q3 at hqt hqf hc3 hY3
   obtain ⟨l5,l6,l7,l8,hM3c⟩ : ∃ l5 l6 l7 l8,relink K3 q3 c = some (1,[0,0,0,0,b,l5,l6,l7,l8]) := ⟨_,_,_,_,relink_ch hK3c⟩
   clear hxK hxl S3 hW1 S1 hY1
   refine drawn_sound tok (by kernel_rfl) [(12,[])] [0,1,2,3,4,5,6,7,8,9,10,11,12,13,14,15,16,17] (by kernel_rfl) ?_; conv => cbv
   refine Need.mk (show (0 : Int) ≤ 0 ∧ 0 < nc by omega) ?_
   conv => cbv
   refine Cell.at 0 _ (show CS[(0 : Int).toNat]? = some (.int .i64 (.sym c)) by rw [hcs]; exact ipv_get hc0) (by simp [I.val]) rfl ?_
   conv => cbv
   refine fO (2 * c) fun a1 ha1 => ?_
   have ha1 : a1 = 2 * c := ha1
   conv => cbv
   refine fO (a1 + 1) fun w1 hw1 => ?_
   have hw1 : w1 = a1 + 1 := hw1
   conv => cbv
   have hat1 : atW w1 = c := by rw [show w1 = 2 * c + 1 by omega]; exact hcw
   refine clE (args0 := [.ptr 2 (.lit 0),i6 w1]) (cfr (shutSend_lx R3 ws3 C [] N W 0 0 0 L3 D3 Q z false hh3 (relink K3 q3) hc3 q3 hY3 o w1 (by omega) (by omega) c 0 0 0 0 b l5 l6 l7 l8 hat1 hM3c rfl hqt) [(0,2),(1,3),(2,4),(3,5),(4,6),(5,7),(6,8),(7,0)] (fun r h' n' hrr => ?_))
   obtain ⟨e1,e2,e3⟩ := hrr
   subst e1 e2 e3
   conv => cbv
   refine read_sound tok (by kernel_rfl) [0,2,3,4,5,6,7,8,9,10,11,12,13,14,15,16,17,18,19] [10] [(14,[13,12,11,10,9,8,7,6,5,4,3,2,1,0]),(15,[13])] [0,1,2,3,4,5,6,7,8,9,10,11,12,13,14,15,16] (by kernel_rfl) ?_
   conv => cbv
   refine Need.mk (show (0 : Int) ≤ 0 ∧ 0 < nc by omega) ?_
   conv => cbv
   refine Cell.at 0 _ (show CS[(0 : Int).toNat]? = some (.int .i64 (.sym c)) by rw [hcs]; exact ipv_get hc0) (by simp [I.val]) rfl ?_
   conv => cbv
   refine ReadF.mk (.tup [.agg [i6 0,i6 0,i6 0,i6 0,i6 b,i6 l5,i6 l6,i6 l7,i6 l8],i6 0]) (fun h' n' hbR hnR => clE (args0 := [.ptr 2 (.lit 0),i6 c]) (callF_read ((chanM_lx R3 ws3 C [] N W 0 0 0 L3 D3 Q z false hh3 (relink K3 q3) hc3 c 0 0 0 0 b l5 l6 l7 l8 hM3c).mono (fun r h n ⟨⟨e,e1,he⟩,e2,e3⟩ => ⟨by rw [e1,he],e2,e3⟩)) [(0,2),(1,3),(2,4),(3,5),(4,6),(5,7),(6,8)] (by simp [fok,nget,nback]; omega) (by simp [hmapOk,nget,hbR,hget,renB,okB,renV,renVs,rn,okVs,okV]) rfl rfl rfl rfl)) ?_
   conv => cbv
   refine drawn_sound tok (by kernel_rfl) [(27,[29])] [0,1,2,3,4,5,6,7,8,9,10,11,12,13,14,15,16,17,18,19,20,21,22,23,24,25,26,29,27,28,30,31,32] (drawnOKF_ok (by kernel_rfl)) ?_; conv => cbv
   refine Br.yes (show (3 : Int) = 3 from rfl) ?_
   conv => cbv
   refine Br.yes (show (0 : Int) = 0 from rfl) ?_
   conv => cbv
   refine Br.yes (show (0 : Int) = 0 from rfl) ?_
   conv => cbv
   refine Need.mk (show (0 : Int) ≤ 0 ∧ 0 < nc by omega) ?_
   conv => cbv
   refine Cell.at 0 _ (show CS[(0 : Int).toNat]? = some (.int .i64 (.sym c)) by rw [hcs]; exact ipv_get hc0) (by simp [I.val]) rfl ?_
   conv => cbv
   refine clE (args0 := [.ptr 2 (.lit 0),i6 c,.p (.bool false)]) (cfr (listAll_lx R3 ws3 C [] N W 0 0 0 L3 D3 Q z false hh3 (relink K3 q3) hc3 q3 hY3 c false (hch9 hY3 c) (hsu7 hY3)) iZ6 (fun r h' n' hrr => ?_))
   obtain ⟨ml,cells,e1,e2,e3,hml,hcel⟩ := hrr
   subst e1 e2 e3
   conv => cbv
   refine Br.yes (show ml = nl from by rw [hml,hqf,hix]) ?_
   conv => cbv
   refine RetF.mk [.p (.bool true)] [(0,.fix 0 o)] 1 (Re.at [(0,0)] []) rfl rfl
  | false =>
   conv => cbv
   refine readF_sound tok (by kernel_rfl) [0,2,3,4,5,6,7,8,9,10,11,12,13,14,15,16,17,18,19] [16,17] [(18,[])] [0,1,2,3,4,5,6,7,8,9,10,11,12,13,14,15,16,17,18,19,20] (by kernel_rfl) ?_
   conv => cbv
   refine drawn_sound tok (by kernel_rfl) [(12,[])] [0,1,2,3,4,5,6,7,8,9,10,11,12,13,14,15,16,17] (by kernel_rfl) ?_; conv => cbv
   refine Need.mk (show (0 : Int) ≤ 0 ∧ 0 < nc by omega) ?_
   conv => cbv
   refine Cell.at 0 _ (show CS[(0 : Int).toNat]? = some (.int .i64 (.sym c)) by rw [hcs]; exact ipv_get hc0) (by simp [I.val]) rfl ?_
   conv => cbv
   refine fO (2 * c) fun a1 ha1 => ?_
   have ha1 : a1 = 2 * c := ha1
   conv => cbv
   refine fO (a1 + 1) fun w1 hw1 => ?_
   have hw1 : w1 = a1 + 1 := hw1
   conv => cbv
   have hat1 : atW w1 = c := by rw [show w1 = 2 * c + 1 by omega]; exact hcw
   have hKc0 := hKc
   refine clE (args0 := [.ptr 2 (.lit 0),i6 w1]) (cfr (shutTakers_lx R ws C [] N W 0 0 0 L D Q z false hh K c d hcd grs xs ys (fun _ => 8) hc hY1 hW1 o ho rfl w1 (by omega) (by omega) hat1 0 0 0 0 b (-1) (-1) (-1) (-1) hKc ⟨_,hKd⟩ (by omega) (by omega) rfl) [(0,2),(1,3),(2,4),(3,5),(4,6),(5,7),(6,8),(7,0)] (fun r h' n' hrr => ?_))
   obtain ⟨ws4,D4,K4,m4,cells,e1,e2,e3,hm4,hcs4,hh4,hc4,hY4,hdone,hK4c⟩ := hrr
   subst e1 e2 e3
   conv => cbv
   have hM4c : relink K4 (fun _ _ => []) c = some (1,[0,1,0,0,b,-1,-1,-1,-1]) := relink_ch hK4c
   have hm4n : m4 = nl := hm4.trans hix.symm
   clear hkk
   refine LoopF.mk (fun kk s => ∃ i : Int,s = ⟨.p (.int .i64 (.sym n)) :: .p (.bool false) :: (undefs 3 ++ .ptr 17 (.lit 0) :: .p (.int .i64 (.sym nl)) :: .undef :: .sl 20 3 1 (.lit 0) (.sym m4) :: .p (.int .i64 (.sym 1)) :: (undefs 2 ++ .p (.int .i64 (.sym i)) :: undefs 242)),[hpA 2 3 7 8 3 W 0 0 0,hpB 3 4 6 3 W,hpC 4 5 233 2 N,hpP 5 L,hpP 6 D4,hpF 7 z false,hpP 8 Q,hpR 9 10 15 3 W 16 0 0 0,hpB 10 11 14 3 W,hpD 11 12 3 1 N 13 231 8 N,hpP 12 P,hpP 13 B,hpP 14 V,hpP 15 Qr,(16,.mix [.p (.vsl (.sym 0) true []),.p (.bool false)]),(0,.fix 0 o),(17,.mix [.ptr 2 (.lit 0),.ptr 9 (.lit 0),.sl 18 3 1 (.lit 0) (.sym nc),.sl 19 3 1 (.lit 0) (.sym ng)]),hpP 18 CS,hpP 19 GS,hpP 20 cells],21⟩ ∧ 0 ≤ i ∧ i ≤ nl ∧ kk = (nl - i).toNat) nl.toNat _
    (Re.at [(0,0),(2,2),(3,3),(4,4),(5,5),(6,6),(7,7),(8,8),(9,9),(10,10),(11,11),(12,12),(13,13),(14,14),(15,15),(16,16),(17,17),(18,18),(19,19),(20,20)] []) ⟨0,rfl,by omega,by omega,by omega⟩ ?_
   rintro kk s ⟨i,rfl,hj0,hj1,hkk⟩
   have hkk : kk = (nl - i).toNat := hkk
   conv => cbv
   refine Br.mk (fun gj => ?_) (fun gj => ?_)
   ·have gj : i < nl := gj
    obtain ⟨g,hg⟩ : ∃ a,grs[i.toNat]? = some a := ⟨_,List.getElem?_eq_getElem (by omega)⟩
    have hcellg : GS[i.toNat]? = some (.int .i64 (.sym g)) := by rw [hgs]; exact ipv_get hg
    have hKg := hdone i.toNat g (by omega) hg
    rw [show ((i.toNat : Nat) : Int) = i by omega] at hKg
    have hMg := relink_other (q := fun _ _ => []) hKg ⟨by decide,by decide⟩
    conv => cbv
    refine read_sound tok (by kernel_rfl) [0,2,3,4,5,6,7,8,9,10,11,12,13,14,15,16,17,18,19,20] [11] [(15,[14,13,12,11,10,9,8,7,6,5,4,3,2,1,0]),(16,[14])] [0,1,2,3,4,5,6,7,8,9,10,11,12,13,14,15,16,17] (by kernel_rfl) ?_
    conv => cbv
    refine Need.mk (show 0 ≤ i ∧ i < ng by omega) ?_
    conv => cbv
    refine Cell.at i _ hcellg (by simp [I.val]) rfl ?_
    conv => cbv
    refine ReadF.mk (.tup [.agg [i6 i,i6 0,i6 i,i6 0,i6 0,i6 0,i6 0,i6 0,i6 0,i6 (-1)],i6 0]) (fun h' n' hbR hnR => clE (args0 := [.ptr 2 (.lit 0),i6 g]) (callF_read ((gorM_lx R ws4 C [] N W 0 0 0 L D4 Q z false hh4 (relink K4 (fun _ _ => [])) hc4 g i 0 i 0 0 0 0 0 0 (-1) hMg).mono (fun r h n ⟨⟨e,e1,he⟩,e2,e3⟩ => ⟨by rw [e1,he],e2,e3⟩)) [(0,2),(1,3),(2,4),(3,5),(4,6),(5,7),(6,8)] (by simp [fok,nget,nback]; omega) (by simp [hmapOk,nget,hbR,hget,renB,okB,renV,renVs,rn,okVs,okV]) rfl rfl rfl rfl)) ?_
    conv => cbv
    refine Br.no (show ¬ (¬ ((0 : Int) = (0 : Int))) from fun q => q rfl) ?_
    conv => cbv
    refine Br.no (show ¬ (¬ ((0 : Int) = (0 : Int))) from fun q => q rfl) ?_
    conv => cbv
    refine Br.no (show ¬ (¬ (i = i)) from fun q => q rfl) ?_
    conv => cbv
    refine Need.mk (show (0 : Int) ≤ 0 ∧ (0 : Int) < 6 by omega) ?_
    conv => cbv
    refine Br.no (show ¬ (¬ ((0 : Int) = (0 : Int))) from fun q => q rfl) ?_
    conv => cbv
    refine Br.no (show ¬ (¬ ((-1 : Int) = (-1 : Int))) from fun q => q rfl) ?_
    conv => cbv
    refine fO (i + 1) fun i2 hi2 => ?_
    have hi2 : i2 = i + 1 := hi2
    conv => cbv
    refine Again.mk (nl - i2).toNat _ (by omega) (Re.at [(0,0),(2,2),(3,3),(4,4),(5,5),(6,6),(7,7),(8,8),(9,9),(10,10),(11,11),(12,12),(13,13),(14,14),(15,15),(16,16),(17,17),(18,18),(19,19),(20,20)] []) ⟨i2,rfl,by omega,by omega,rfl⟩
   ·have gj : ¬ i < nl := gj
    conv => cbv
    refine read_sound tok (by kernel_rfl) [0,2,3,4,5,6,7,8,9,10,11,12,13,14,15,16,17,18,19,20] [10] [(14,[13,12,11,10,9,8,7,6,5,4,3,2,1,0]),(15,[13])] [0,1,2,3,4,5,6,7,8,9,10,11,12,13,14,15,16] (by kernel_rfl) ?_
    conv => cbv
    refine Need.mk (show (0 : Int) ≤ 0 ∧ 0 < nc by omega) ?_
    conv => cbv
    refine Cell.at 0 _ (show CS[(0 : Int).toNat]? = some (.int .i64 (.sym c)) by rw [hcs]; exact ipv_get hc0) (by simp [I.val]) rfl ?_
    conv => cbv
    refine ReadF.mk (.tup [.agg [i6 0,i6 1,i6 0,i6 0,i6 b,i6 (-1),i6 (-1),i6 (-1),i6 (-1)],i6 0]) (fun h' n' hbR hnR => clE (args0 := [.ptr 2 (.lit 0),i6 c]) (callF_read ((chanM_lx R ws4 C [] N W 0 0 0 L D4 Q z false hh4 (relink K4 (fun _ _ => [])) hc4 c 0 1 0 0 b (-1) (-1) (-1) (-1) hM4c).mono (fun r h n ⟨⟨e,e1,he⟩,e2,e3⟩ => ⟨by rw [e1,he],e2,e3⟩)) [(0,2),(1,3),(2,4),(3,5),(4,6),(5,7),(6,8)] (by simp [fok,nget,nback]; omega) (by simp [hmapOk,nget,hbR,hget,renB,okB,renV,renVs,rn,okVs,okV]) rfl rfl rfl rfl)) ?_
    conv => cbv
    refine drawn_sound tok (by kernel_rfl) [(10,[]),(32,[]),(47,[])] [0,1,2,3,4,5,6,7,8,9,10,11,12,13,14,15,16,17,18,19,20,21,22,23,24,25,26,27,28,29,30,31,32,33,34,35,36,37,38,39,40,41,42,43,44,45,46,47,48,49,50,51] (drawnOKF_ok (by kernel_rfl)) ?_; conv => cbv
    refine Br.yes (show (1 : Int) = 1 from rfl) ?_
    conv => cbv
    refine Need.mk ⟨(show (0 : Int) ≤ nl by omega),.inl (show nl ≤ ng by omega)⟩ ?_
    conv => cbv
    have htl : (((grs.take xs.length).length : Nat) : Int) = nl := by rw [List.length_take]; omega
    refine callF_lend (plainE_true (grs.take xs.length) nl cells (ipv (grs.take xs.length)) htl.symm hcs4 rfl (by omega)) (by
     simp only [lends,lendV,hget,I.val]
     exact ⟨⟨hm4n,_,_,rfl,.inl (by rw [Int.toNat_zero,List.drop_zero]; exact List.prefix_refl _)⟩,⟨trivial,_,_,rfl,.inl (by rw [Int.toNat_zero,List.drop_zero,hgs]; unfold ipv; rw [List.map_take]; exact List.take_prefix _ _)⟩,trivial⟩) (fun r h' n' ⟨e1,e2,e3⟩ => by subst e1 e2; exact ⟨trivial,trivial⟩) (fun r h' n' ⟨e1,e2,e3⟩ => ?_)
    subst e1 e2 e3
    conv => cbv
    refine Br.yes (show (0 : Int) = 0 from rfl) ?_
    conv => cbv
    refine Br.yes (show (1 : Int) = 1 from rfl) ?_
    conv => cbv
    refine Need.mk (show (0 : Int) ≤ 0 ∧ 0 < nc by omega) ?_
    conv => cbv
    refine Cell.at 0 _ (show CS[(0 : Int).toNat]? = some (.int .i64 (.sym c)) by rw [hcs]; exact ipv_get hc0) (by simp [I.val]) rfl ?_
    conv => cbv
    refine clE (args0 := [.ptr 2 (.lit 0),i6 c,.p (.bool false)]) (cfr (listAll_lx R ws4 C [] N W 0 0 0 L D4 Q z false hh4 (relink K4 (fun _ _ => [])) hc4 (fun _ _ => []) hY4 c false (hch9 hY4 c) (hsu7 hY4)) iZ6 (fun r h' n' hrr => ?_))
    obtain ⟨ml,cells2,e1,e2,e3,hml,hcel⟩ := hrr
    subst e1 e2 e3
    conv => cbv
    refine Br.yes (show ml = 0 from by rw [hml]; rfl) ?_
    conv => cbv
    refine Need.mk (show (0 : Int) ≤ 1 ∧ 1 < nc by omega) ?_
    conv => cbv
    refine Cell.at 1 _ (show CS[(1 : Int).toNat]? = some (.int .i64 (.sym d)) by rw [hcs]; exact ipv_get hd0) (by simp [I.val]) rfl ?_
    conv => cbv
    refine clE (args0 := [.ptr 2 (.lit 0),i6 d,.p (.bool true)]) (cfr (listAll_lx R ws4 C [] N W 0 0 0 L D4 Q z false hh4 (relink K4 (fun _ _ => [])) hc4 (fun _ _ => []) hY4 d true (hch9 hY4 d) (hsu7 hY4)) iZ6 (fun r h' n' hrr => ?_))
    obtain ⟨ml,cells2,e1,e2,e3,hml,hcel⟩ := hrr
    subst e1 e2 e3
    conv => cbv
    refine Br.yes (show ml = 0 from by rw [hml]; rfl) ?_
    conv => cbv
    refine RetF.mk [.p (.bool true)] [(0,.fix 0 o)] 1 (Re.at [(0,0)] []) rfl rfl
end Go.Proofs.YtkhfgngcoiablaaGreatDoor
