/-
  Layer 16: TakeOnce.
-/
import Derived.Test.YtjgbhpclmlcbbaaGreatDoorBi
import Derived.Test.YtjgbhpclmlcbbaaGreatDoorBj
namespace Go.Proofs.YtjgbhpclmlcbbaaGreatDoor
open Go Go.LX
set_option maxRecDepth 100000
set_option linter.unusedVariables false
set_option linter.unusedSimpArgs false
set_option maxHeartbeats 32000000
theorem takeOnce_law (o : Unit → Obj) (ho : IsPow o) (v0 : Int) (sd : Bool) (hv0 : (-9223372036854775808 ≤ v0 ∧ v0 ≤ 9223372036854775807)) : CallF (fun _ => Tryz.prog) 7 [i6 v0,.p (.bool sd)] [(0,.fix 0 o)] 1 (fun r _ _ => r = .p (.bool true)) := by
 refine callF_of_body tok Tryz.func7 (by kernel_rfl) rfl rfl rfl ?_; conv => cbv
 refine CallF.re (args0 := [.p (.vsl (.sym 2) true [.int .i64 (.sym 0),.int .i64 (.sym 0)]),i6 0]) (h' := [(0,.fix 0 o)]) (Re.at [(0,0)] []) (cfr (made16_lx o ho [0,0] 2 0 [.int .i64 (.sym 0),.int .i64 (.sym 0)] rfl rfl) [(0,0)] (fun r h' n' hrr => ?_))
 obtain ⟨N,W,C,R,ws,vs,L,D,Q,z,P,B,V,Qr,M,CS,GS,chs,bufs,grs,nc,ng,e1,e2,e3,S,hB,hY,hcs,hgs,hnc,hng,hnm,hn1,hn4,hngo,hcnt,hR,hW⟩ := hrr
 subst e1 e2 e3
 conv => cbv
 refine Sum.mk fun v hvv => ?_
 have hvv : v = v0.tmod 1099511627776 := hvv
 have hv1 : v < 1099511627776 := by rw [hvv]; exact Int.tmod_lt_of_pos _ (by decide)
 have hv2 : -1099511627776 < v := by rw [hvv]; exact Int.lt_tmod_of_pos _ (by decide)
 clear hvv
 conv => cbv
 have hnc1 : nc = 2 := by omega
 obtain ⟨c,d,hcc⟩ := chA2 hnc hnc1
 have hc0 : chs[0]? = some c := by rw [hcc]; rfl
 have hd0 : chs[1]? = some d := by rw [hcc]; rfl
 obtain ⟨b,hb0,hBC⟩ := hB.ch 0 c 0 hc0 rfl
 obtain ⟨b2,hb2,hBD⟩ := hB.ch 1 d 0 hd0 rfl
 have hMc := hBC.c
 have hMd := hBD.c
 rw [capS (by decide)] at hMc hMd
 have hcl := S.c.len S.h.a hMc
 have hdl := S.c.len S.h.a hMd
 have hcw : atW (2 * c + 1) = c := atW_ptr c
 have hdw : atW (2 * d + 1) = d := atW_ptr d
 have hcd : c ≠ d := fun q => by
  have := hB.nd
  rw [hcc,q] at this
  simp at this
 have hngb := ngor_bd 0
 obtain ⟨g,hg0⟩ : ∃ g,grs[0]? = some g := ⟨_,List.getElem?_eq_getElem (by omega)⟩
 have hMg : M g = some (4,[0,0,0,0,0,0,0,0,0,-1]) := hB.gr 0 g hg0
 have hgl := S.c.len S.h.a hMg
 have hgc : g ≠ c := fun q => by rw [q,hMc] at hMg; cases hMg
 have hgd : g ≠ d := fun q => by rw [q,hMd] at hMg; cases hMg
 refine readF_sound tok (by kernel_rfl) [0,2,3,4,5,6,7,8,9,10,11,12,13,14,15,16,17,18,19] [0,9,22,23] [(25,[])] [0,1,2,3,4,5,6,7,8,9,10,11,12,13,14,15,16,17,18,19,20,21,22,23,24,25,26,27] (by kernel_rfl) ?_
 conv => cbv
 refine ReadF.mk (.p (.bool true)) (fun h' n' hbR hnR => callF_read (awake16_lx o ho) [(0,0)] (by simp [fok,nget,nback]; omega) (by simp [hmapOk,nget,hbR,hget,renB,okB,renV,renVs,rn,okVs,okV]) rfl rfl rfl rfl) ?_
 conv => cbv
 refine ReadF.mk (.p (.int .i64 (.sym g))) (fun h' n' hbR hnR => clE (args0 := [.ptr 17 (.lit 0),i6 0]) (callF_read ((gor16_lx R ws vs C N W 0 0 0 L D Q z false P B V Qr [] 0 M nc ng CS GS o 0 grs hgs hng (by omega) (by omega)).mono (fun r h n ⟨⟨x,e1,hx⟩,e2,e3⟩ => ⟨by rw [e1,ix0 hx hg0],e2,e3⟩)) [(0,2),(1,3),(2,4),(3,5),(4,6),(5,7),(6,8),(7,9),(8,10),(9,11),(10,12),(11,13),(12,14),(13,15),(14,16),(15,0),(16,17),(17,18),(18,19)] (by simp [fok,nget,nback]; omega) (by simp [hmapOk,nget,hbR,hget,renB,okB,renV,renVs,rn,okVs,okV]) rfl rfl rfl rfl)) ?_
 conv => cbv
 refine Need.mk (show (0 : Int) ≤ 0 ∧ 0 < nc by omega) ?_
 conv => cbv
 refine Cell.at 0 _ (show CS[(0 : Int).toNat]? = some (.int .i64 (.sym c)) by rw [hcs]; exact ipv_get hc0) (by simp [I.val]) rfl ?_
 conv => cbv
 refine Need.mk (show (0 : Int) ≤ 1 ∧ 1 < nc by omega) ?_
 conv => cbv
 refine Cell.at 1 _ (show CS[(1 : Int).toNat]? = some (.int .i64 (.sym d)) by rw [hcs]; exact ipv_get hd0) (by simp [I.val]) rfl ?_
 conv => cbv
 have S2 : Bs2 R ws vs C N W 0 L D Q z P B V Qr [] 0 (relink M (fun _ _ => [])) (relink M (fun _ _ => [])) := by rw [hY.ln]; exact S.two
 have hY2 : Sys (relink M (fun _ _ => [])) (fun _ _ => []) := by rw [hY.ln]; exact hY
 refine CallF.re (args0 := [.ptr 17 (.lit 0),i6 g,.p (.vsl (.sym 2) true [.int .i64 (.sym c),.int .i64 (.sym d)]),.p (.vsl (.sym 2) true [.bool true,.bool true]),i6 v,i6 20]) (h' := [(0,.fix 0 o),hpA 2 3 7 8 3 W 0 0 0,hpB 3 4 6 3 W,hpC 4 5 214 2 N,hpP 5 L,hpP 6 D,hpF 7 z false,hpP 8 Q,hpR 9 10 15 3 W 16 0 0 0,hpB 10 11 14 3 W,hpD 11 12 3 1 N 13 209 8 N,hpP 12 P,hpP 13 B,hpP 14 V,hpP 15 Qr,(16,.mix [.p (.vsl (.sym 0) true []),.p (.bool false)]),(0,.fix 0 o),(17,.mix [.ptr 2 (.lit 0),.ptr 9 (.lit 0),.sl 18 3 1 (.lit 0) (.sym nc),.sl 19 3 1 (.lit 0) (.sym ng)]),hpP 18 CS,hpP 19 GS]) (Re.at [(0,0),(2,2),(3,3),(4,4),(5,5),(6,6),(7,7),(8,8),(9,9),(10,10),(11,11),(12,12),(13,13),(14,14),(15,15),(16,16),(17,17),(18,18),(19,19)] []) (cfr (wait16_lx R ws vs C N W 0 0 0 L D Q z false P B V Qr [] 0 M M (fun _ _ => []) nc ng CS GS o S2 ho hY2 hY2 g v 20 0 0 0 0 0 0 0 0 0 (-1) hMg hMg rfl [(c,true),(d,true)] (by simp [hMc,hMd]) (by simp) (by simp; omega) (by decide) (by simp; omega) 2 rfl [.int .i64 (.sym c),.int .i64 (.sym d)] [.bool true,.bool true] rfl rfl) iZ6 (fun r h' n' hrr => ?_))
 obtain ⟨xs,R3,ws3,vs3,L3,D3,P3,B3,V3,e1,e2,e3,S3,hY3,hY4,hxl,hxn,hxK,hk3,hl3⟩ := hrr
 subst e1 e2 e3
 conv => cbv
 obtain ⟨x,y,rfl⟩ : ∃ x y,xs = [x,y] := by
  match xs,hxl with
  | [x,y],_ => exact ⟨x,y,rfl⟩
 have hxy : x ≠ y := fun e => by rw [e] at hxn; simp at hxn
 obtain ⟨hMx,_⟩ := hxK x (by simp)
 obtain ⟨hMy,_⟩ := hxK y (by simp)
 have hxg : x ≠ g := fun e => by rw [e,hMg] at hMx; cases hMx
 have hyg : y ≠ g := fun e => by rw [e,hMg] at hMy; cases hMy
 have hxc : c ≠ x := fun e => by rw [← e,hMc] at hMx; cases hMx
 have hyc : c ≠ y := fun e => by rw [← e,hMc] at hMy; cases hMy
 have hxd : d ≠ x := fun e => by rw [← e,hMd] at hMx; cases hMx
 have hyd : d ≠ y := fun e => by rw [← e,hMd] at hMy; cases hMy
 obtain ⟨hKx,hKy⟩ := waitB_2 (v := v) (tq := 20) (c := c) (c' := d) (d := true) (d' := true) (gF := [0,1,0,0,0,0,0,0,0,hdQ [x,y]]) (B := M) hxg hyg hxy
 obtain ⟨hq1,hq2,hqa⟩ := q0_two (x := x) (y := y) (d := true) (d' := true) hcd
 have hKc := (waitB_ne (g := g) (v := v) (tq := 20) (ps := [(c,true),(d,true)]) (xs := [x,y]) (gF := [0,1,0,0,0,0,0,0,0,hdQ [x,y]]) (B := M) (a := c) hgc.symm (by simp [hxc,hyc])).trans hMc
 have hKd := (waitB_ne (g := g) (v := v) (tq := 20) (ps := [(c,true),(d,true)]) (xs := [x,y]) (gF := [0,1,0,0,0,0,0,0,0,hdQ [x,y]]) (B := M) (a := d) hgd.symm (by simp [hxd,hyd])).trans hMd
 have hKg := waitB_g g v 20 [(c,true),(d,true)] [x,y] [0,1,0,0,0,0,0,0,0,hdQ [x,y]] M
 have hh3 := S3.h
 have hc3 := S3.c
 generalize hK1 : waitB g v 20 [(c,true),(d,true)] [x,y] [0,1,0,0,0,0,0,0,0,hdQ [x,y]] M = K1 at hKx hKy hKc hKd hKg hc3 hY3
 generalize hQ1 : addQ [(c,true),(d,true)] [x,y] (fun _ _ => []) = q1 at hq1 hq2 hqa hc3 hY3
 have hKn : K1 (-1) = none := rl_none (neg_none hh3.a hc3)
 have hmor := mor2 (q := q1) hKx hKy hKc hKd hKn
 have hrm := rmQ_all hqa
 obtain ⟨n1,hMx3⟩ := relink_su (q := q1) hKx
 obtain ⟨n2,hMy3⟩ := relink_su (q := q1) hKy
 have hMc3 := relink_ch (q := q1) hKc
 have hMd3 := relink_ch (q := q1) hKd
 have hMg3 := relink_other (q := q1) hKg ⟨by decide,by decide⟩
 have hY5 := sysFilt hY3 [x,y]
 rw [relink_relink,hrm] at hY5
 have hMc5 : relink K1 (fun _ _ => []) c = some (1,[0,0,0,0,b,-1,-1,-1,-1]) := relink_ch hKc
 have hMd5 : relink K1 (fun _ _ => []) d = some (1,[0,0,0,0,b2,-1,-1,-1,-1]) := relink_ch hKd
 have hMg5 := relink_other (q := fun _ _ => []) hKg ⟨by decide,by decide⟩
 clear hK1 hQ1 hxK hxl S2 hY2 S3 hY4 S hY
 cases sd with
 | false =>
  conv => cbv
  refine drawn_sound tok (by kernel_rfl) [(13,[])] [0,1,2,3,4,5,6,7,8,9,10,11,12,13,14,15,16,17,18,19,20] (by kernel_rfl) ?_; conv => cbv
  refine Need.mk (show (0 : Int) ≤ 0 ∧ 0 < nc by omega) ?_
  conv => cbv
  refine Cell.at 0 _ (show CS[(0 : Int).toNat]? = some (.int .i64 (.sym c)) by rw [hcs]; exact ipv_get hc0) (by simp [I.val]) rfl ?_
  conv => cbv
  refine fO (2 * c) fun a1 ha1 => ?_
  have ha1 : a1 = 2 * c := ha1
  conv => cbv
  refine fO (a1 + 1) fun w1 hw1 => ?_
  have hw1 : w1 = a1 + 1 := hw1
  conv => cbv
  have hat1 : atW w1 = c := by rw [show w1 = 2 * c + 1 by omega]; exact hcw
  refine clE (args0 := [.ptr 2 (.lit 0),i6 w1]) (cfr (takeWakes_lx R3 ws3 C [] N W 0 0 0 L3 D3 Q z false hh3 (relink K1 q1) hc3 q1 hY3 o ho rfl w1 (by omega) (by omega) c 0 0 0 0 b _ _ _ _ hat1 hMc3 x g v n1 20 (-1) y 0 1 0 0 0 0 0 0 0 _ [x,y] hMx3 hMg3 hmor hxn (by simp) [] hq1 (.inl (by decide))) iZ3 (fun r h' n' hrr => ?_))
  obtain ⟨ws4,D4,e1,e2,e3,hh4,hc4⟩ := hrr
  subst e1 e2 e3
  conv => cbv
  rw [relink_relink,hrm] at hc4
  have hgf : ([0,0,20] ++ setR (-1) 0 [0,0,0,0,0,0] ++ [-1] : List Int) = [0,0,20,0,0,0,0,0,0,-1] := rfl
  rw [hgf] at hc4
  have hY6 := sysOther (F := [0,0,20,0,0,0,0,0,0,-1]) hY5 hMg5 ⟨by decide,by decide⟩
  generalize hM4 : upd (relink K1 (fun _ _ => [])) g (4,[0,0,20,0,0,0,0,0,0,-1]) = M4 at hc4 hY6
  have hM4g : M4 g = some (4,[0,0,20,0,0,0,0,0,0,-1]) := by rw [← hM4]; exact upd_same _ _ _
  have hM4o : M4 d = some (1,[0,0,0,0,b2,-1,-1,-1,-1]) := by rw [← hM4,upd_ne hgd.symm]; exact hMd5
  refine drawn_sound tok (by kernel_rfl) [(13,[])] [0,1,2,3,4,5,6,7,8,9,10,11,12,13,14,15,16,17,18,19,20] (by kernel_rfl) ?_; conv => cbv
  refine Need.mk (show (0 : Int) ≤ 1 ∧ 1 < nc by omega) ?_
  conv => cbv
  refine Cell.at 1 _ (show CS[(1 : Int).toNat]? = some (.int .i64 (.sym d)) by rw [hcs]; exact ipv_get hd0) (by simp [I.val]) rfl ?_
  conv => cbv
  refine fO (2 * d) fun a2 ha2 => ?_
  have ha2 : a2 = 2 * d := ha2
  conv => cbv
  refine fO (a2 + 1) fun w2 hw2 => ?_
  have hw2 : w2 = a2 + 1 := hw2
  conv => cbv
  have hat2 : atW w2 = d := by rw [show w2 = 2 * d + 1 by omega]; exact hdw
  refine clE (args0 := [.ptr 2 (.lit 0),i6 w2]) (cfr (takeDry_lx R3 ws4 C [] N W 0 0 0 L3 D4 Q z false hh4 M4 hc4 (fun _ _ => []) hY6 o ho rfl w2 (by omega) (by omega) d 0 0 0 0 b2 (-1) (-1) (-1) (-1) hat2 hM4o rfl (.inl (by decide)) rfl) iZ3 (fun r h' n' hrr => ?_))
  obtain ⟨⟨x0,e1,hx0⟩,e2,e3⟩ := hrr
  subst e1 e2 e3
  conv => cbv
  refine readF_sound tok (by kernel_rfl) [0,2,3,4,5,6,7,8,9,10,11,12,13,14,15,16,17,18,19] [5,6] [(10,[9,8,7,6,5,4,3,2,1,0]),(11,[9])] [0,1,2,3,4,5,6,7,8,9,10,11,12] (by kernel_rfl) ?_
  conv => cbv
  refine ReadF.mk (.p (.int .i64 (.sym g))) (fun h' n' hbR hnR => clE (args0 := [.ptr 17 (.lit 0),i6 0]) (callF_read ((gor16_lx R3 ws4 vs3 C N W 0 0 0 L3 D4 Q z false P3 B3 V3 Qr [] 0 M4 nc ng CS GS o 0 grs hgs hng (by omega) (by omega)).mono (fun r h n ⟨⟨x,e1,hx⟩,e2,e3⟩ => ⟨by rw [e1,ix0 hx hg0],e2,e3⟩)) [(0,2),(1,3),(2,4),(3,5),(4,6),(5,7),(6,8),(7,9),(8,10),(9,11),(10,12),(11,13),(12,14),(13,15),(14,16),(15,0),(16,17),(17,18),(18,19)] (by simp [fok,nget,nback]; omega) (by simp [hmapOk,nget,hbR,hget,renB,okB,renV,renVs,rn,okVs,okV]) rfl rfl rfl rfl)) ?_
  conv => cbv
  refine ReadF.mk (.tup [.agg [i6 0,i6 0,i6 20,i6 0,i6 0,i6 0,i6 0,i6 0,i6 0,i6 (-1)],i6 0]) (fun h' n' hbR hnR => clE (args0 := [.ptr 2 (.lit 0),i6 g]) (callF_read ((gorM_lx R3 ws4 C [] N W 0 0 0 L3 D4 Q z false hh4 M4 hc4 g 0 0 20 0 0 0 0 0 0 (-1) hM4g).mono (fun r h n ⟨⟨e,e1,he⟩,e2,e3⟩ => ⟨by rw [e1,he],e2,e3⟩)) [(0,2),(1,3),(2,4),(3,5),(4,6),(5,7),(6,8)] (by simp [fok,nget,nback]; omega) (by simp [hmapOk,nget,hbR,hget,renB,okB,renV,renVs,rn,okVs,okV]) rfl rfl rfl rfl)) ?_
  conv => cbv
  refine fO (v + 0) fun vk hvk => ?_
  have hvk : vk = v + 0 := hvk
  conv => cbv
  refine Br.yes (show v = vk from by omega) ?_
  conv => cbv
  refine clE (args0 := [.ptr 17 (.lit 0),i6 0]) (cfr (gor16_lx R3 ws4 vs3 C N W 0 0 0 L3 D4 Q z false P3 B3 V3 Qr [] 0 M4 nc ng CS GS o 0 grs hgs hng (by omega) (by omega)) iZ6 (fun r h' n' hrr => ?_))
  obtain ⟨⟨x9,e1,hx9⟩,e2,e3⟩ := hrr
  subst e1 e2 e3
  conv => cbv
  obtain rfl : g = x9 := (ix0 hx9 hg0).symm
  refine Br.yes (show g = g from rfl) ?_
  conv => cbv
  refine Br.yes (show (1 : Int) = 1 from rfl) ?_
  conv => cbv
  refine Br.yes (show (-1 : Int) = -1 from rfl) ?_
  conv => cbv
  refine Br.yes (show (0 : Int) = 0 from rfl) ?_
  conv => cbv
  refine Br.yes (show (0 : Int) = 0 from rfl) ?_
  conv => cbv
  refine Br.yes (show (20 : Int) = 20 from rfl) ?_
  conv => cbv
  refine Need.mk (show (0 : Int) ≤ 0 ∧ (0 : Int) < 6 by omega) ?_
  conv => cbv
  refine Br.yes (show (0 : Int) = 0 from rfl) ?_
  conv => cbv
  refine Need.mk (show (0 : Int) ≤ 1 ∧ (1 : Int) < 6 by omega) ?_
  conv => cbv
  refine Br.yes (show (0 : Int) = 0 from rfl) ?_
  conv => cbv
  refine RetF.mk [.p (.bool true)] [(0,.fix 0 o)] 1 (Re.at [(0,0)] []) rfl rfl
 | true =>
  conv => cbv
  refine drawn_sound tok (by kernel_rfl) [(13,[])] [0,1,2,3,4,5,6,7,8,9,10,11,12,13,14,15,16,17,18,19,20] (by kernel_rfl) ?_; conv => cbv
  refine Need.mk (show (0 : Int) ≤ 1 ∧ 1 < nc by omega) ?_
  conv => cbv
  refine Cell.at 1 _ (show CS[(1 : Int).toNat]? = some (.int .i64 (.sym d)) by rw [hcs]; exact ipv_get hd0) (by simp [I.val]) rfl ?_
  conv => cbv
  refine fO (2 * d) fun a1 ha1 => ?_
  have ha1 : a1 = 2 * d := ha1
  conv => cbv
  refine fO (a1 + 1) fun w1 hw1 => ?_
  have hw1 : w1 = a1 + 1 := hw1
  conv => cbv
  have hat1 : atW w1 = d := by rw [show w1 = 2 * d + 1 by omega]; exact hdw
  refine clE (args0 := [.ptr 2 (.lit 0),i6 w1]) (cfr (takeWakes_lx R3 ws3 C [] N W 0 0 0 L3 D3 Q z false hh3 (relink K1 q1) hc3 q1 hY3 o ho rfl w1 (by omega) (by omega) d 0 0 0 0 b2 _ _ _ _ hat1 hMd3 y g (v + 2) n2 (20 + 1) (-1) (-1) 0 1 0 0 0 0 0 0 0 _ [x,y] hMy3 hMg3 hmor hxn (by simp) [] hq2 (.inl (by decide))) iZ3 (fun r h' n' hrr => ?_))
  obtain ⟨ws4,D4,e1,e2,e3,hh4,hc4⟩ := hrr
  subst e1 e2 e3
  conv => cbv
  rw [relink_relink,hrm] at hc4
  have hgf : ([0,0,(20 + 1)] ++ setR (-1) 0 [0,0,0,0,0,0] ++ [-1] : List Int) = [0,0,(20 + 1),0,0,0,0,0,0,-1] := rfl
  rw [hgf] at hc4
  have hY6 := sysOther (F := [0,0,(20 + 1),0,0,0,0,0,0,-1]) hY5 hMg5 ⟨by decide,by decide⟩
  generalize hM4 : upd (relink K1 (fun _ _ => [])) g (4,[0,0,(20 + 1),0,0,0,0,0,0,-1]) = M4 at hc4 hY6
  have hM4g : M4 g = some (4,[0,0,(20 + 1),0,0,0,0,0,0,-1]) := by rw [← hM4]; exact upd_same _ _ _
  have hM4o : M4 c = some (1,[0,0,0,0,b,-1,-1,-1,-1]) := by rw [← hM4,upd_ne hgc.symm]; exact hMc5
  refine drawn_sound tok (by kernel_rfl) [(13,[])] [0,1,2,3,4,5,6,7,8,9,10,11,12,13,14,15,16,17,18,19,20] (by kernel_rfl) ?_; conv => cbv
  refine Need.mk (show (0 : Int) ≤ 0 ∧ 0 < nc by omega) ?_
  conv => cbv
  refine Cell.at 0 _ (show CS[(0 : Int).toNat]? = some (.int .i64 (.sym c)) by rw [hcs]; exact ipv_get hc0) (by simp [I.val]) rfl ?_
  conv => cbv
  refine fO (2 * c) fun a2 ha2 => ?_
  have ha2 : a2 = 2 * c := ha2
  conv => cbv
  refine fO (a2 + 1) fun w2 hw2 => ?_
  have hw2 : w2 = a2 + 1 := hw2
  conv => cbv
  have hat2 : atW w2 = c := by rw [show w2 = 2 * c + 1 by omega]; exact hcw
  refine clE (args0 := [.ptr 2 (.lit 0),i6 w2]) (cfr (takeDry_lx R3 ws4 C [] N W 0 0 0 L3 D4 Q z false hh4 M4 hc4 (fun _ _ => []) hY6 o ho rfl w2 (by omega) (by omega) c 0 0 0 0 b (-1) (-1) (-1) (-1) hat2 hM4o rfl (.inl (by decide)) rfl) iZ3 (fun r h' n' hrr => ?_))
  obtain ⟨⟨x0,e1,hx0⟩,e2,e3⟩ := hrr
  subst e1 e2 e3
  conv => cbv
  refine readF_sound tok (by kernel_rfl) [0,2,3,4,5,6,7,8,9,10,11,12,13,14,15,16,17,18,19] [5,6] [(10,[9,8,7,6,5,4,3,2,1,0]),(11,[9])] [0,1,2,3,4,5,6,7,8,9,10,11,12] (by kernel_rfl) ?_
  conv => cbv
  refine ReadF.mk (.p (.int .i64 (.sym g))) (fun h' n' hbR hnR => clE (args0 := [.ptr 17 (.lit 0),i6 0]) (callF_read ((gor16_lx R3 ws4 vs3 C N W 0 0 0 L3 D4 Q z false P3 B3 V3 Qr [] 0 M4 nc ng CS GS o 0 grs hgs hng (by omega) (by omega)).mono (fun r h n ⟨⟨x,e1,hx⟩,e2,e3⟩ => ⟨by rw [e1,ix0 hx hg0],e2,e3⟩)) [(0,2),(1,3),(2,4),(3,5),(4,6),(5,7),(6,8),(7,9),(8,10),(9,11),(10,12),(11,13),(12,14),(13,15),(14,16),(15,0),(16,17),(17,18),(18,19)] (by simp [fok,nget,nback]; omega) (by simp [hmapOk,nget,hbR,hget,renB,okB,renV,renVs,rn,okVs,okV]) rfl rfl rfl rfl)) ?_
  conv => cbv
  refine ReadF.mk (.tup [.agg [i6 0,i6 0,i6 (20 + 1),i6 0,i6 0,i6 0,i6 0,i6 0,i6 0,i6 (-1)],i6 0]) (fun h' n' hbR hnR => clE (args0 := [.ptr 2 (.lit 0),i6 g]) (callF_read ((gorM_lx R3 ws4 C [] N W 0 0 0 L3 D4 Q z false hh4 M4 hc4 g 0 0 (20 + 1) 0 0 0 0 0 0 (-1) hM4g).mono (fun r h n ⟨⟨e,e1,he⟩,e2,e3⟩ => ⟨by rw [e1,he],e2,e3⟩)) [(0,2),(1,3),(2,4),(3,5),(4,6),(5,7),(6,8)] (by simp [fok,nget,nback]; omega) (by simp [hmapOk,nget,hbR,hget,renB,okB,renV,renVs,rn,okVs,okV]) rfl rfl rfl rfl)) ?_
  conv => cbv
  refine fO (v + 2) fun vk hvk => ?_
  have hvk : vk = v + 2 := hvk
  conv => cbv
  refine Br.yes (show (v + 2) = vk from by omega) ?_
  conv => cbv
  refine clE (args0 := [.ptr 17 (.lit 0),i6 0]) (cfr (gor16_lx R3 ws4 vs3 C N W 0 0 0 L3 D4 Q z false P3 B3 V3 Qr [] 0 M4 nc ng CS GS o 0 grs hgs hng (by omega) (by omega)) iZ6 (fun r h' n' hrr => ?_))
  obtain ⟨⟨x9,e1,hx9⟩,e2,e3⟩ := hrr
  subst e1 e2 e3
  conv => cbv
  obtain rfl : g = x9 := (ix0 hx9 hg0).symm
  refine Br.yes (show g = g from rfl) ?_
  conv => cbv
  refine Br.yes (show (1 : Int) = 1 from rfl) ?_
  conv => cbv
  refine Br.yes (show (-1 : Int) = -1 from rfl) ?_
  conv => cbv
  refine Br.yes (show (0 : Int) = 0 from rfl) ?_
  conv => cbv
  refine Br.yes (show (0 : Int) = 0 from rfl) ?_
  conv => cbv
  refine Br.yes (show ((20 + 1) : Int) = 21 from rfl) ?_
  conv => cbv
  refine Need.mk (show (0 : Int) ≤ 0 ∧ (0 : Int) < 6 by omega) ?_
  conv => cbv
  refine Br.yes (show (0 : Int) = 0 from rfl) ?_
  conv => cbv
  refine Need.mk (show (0 : Int) ≤ 1 ∧ (1 : Int) < 6 by omega) ?_
  conv => cbv
  refine Br.yes (show (0 : Int) = 0 from rfl) ?_
  conv => cbv
  refine RetF.mk [.p (.bool true)] [(0,.fix 0 o)] 1 (Re.at [(0,0)] []) rfl rfl
end Go.Proofs.YtjgbhpclmlcbbaaGreatDoor
