/-
  Layer 14: WakeRegs.
-/
import Derived.Test.YtmckfhnijeiklaaGreatDoorBi
import Derived.Test.YtmckfhnijeiklaaGreatDoorBg
import Derived.Test.YtmckfhnijeiklaaGreatDoorBj
import Derived.Test.YtmckfhnijeiklaaGreatDoorBf
namespace Go.Proofs.YtmckfhnijeiklaaGreatDoor
open Go Go.LX
set_option maxRecDepth 100000
set_option linter.unusedVariables false
set_option linter.unusedSimpArgs false
set_option maxHeartbeats 32000000
theorem chX14_lx (R : List Rw) (ws vs C : List Int) (N W ph sp cy ph2 sp2 cy2 : Int) (L D Q : List PV) (z : ByteArray) (ov ov2 : Bool) (P B V Qr la : List PV) (m : Int) (M : Hp) (nc ng : Int) (cs gs : List PV) (o : Unit → Obj) (n : Int) (l : List Int) (hl : cs = ipv l) (hn : nc = l.length) (h0 : 0 < nc) (hb : nc ≤ 100) : CallF (fun _ => Tryz.prog) 22 [.ptr 16 (.lit 0),i6 n] [hpA 0 1 5 6 3 W ph sp cy,hpB 1 2 4 3 W,hpC 2 3 127 2 N,hpP 3 L,hpP 4 D,hpF 5 z ov,hpP 6 Q,hpR 7 8 13 3 W 14 ph2 sp2 cy2,hpB 8 9 12 3 W,hpD 9 10 3 1 N 11 197 8 N,hpP 10 P,hpP 11 B,hpP 12 V,hpP 13 Qr,(14,.mix [.p (.vsl (.sym m) true la),.p (.bool ov2)]),(15,.fix 0 o),(16,.mix [.ptr 0 (.lit 0),.ptr 7 (.lit 0),.sl 17 3 1 (.lit 0) (.sym nc),.sl 18 3 1 (.lit 0) (.sym ng)]),hpP 17 cs,hpP 18 gs] 19 (fun r h n' => (∃ x : Int,r = .p (.int .i64 (.sym x)) ∧ l[(IntKind.u64.wrap n % nc).toNat]? = some x) ∧ h = [hpA 0 1 5 6 3 W ph sp cy,hpB 1 2 4 3 W,hpC 2 3 127 2 N,hpP 3 L,hpP 4 D,hpF 5 z ov,hpP 6 Q,hpR 7 8 13 3 W 14 ph2 sp2 cy2,hpB 8 9 12 3 W,hpD 9 10 3 1 N 11 197 8 N,hpP 10 P,hpP 11 B,hpP 12 V,hpP 13 Qr,(14,.mix [.p (.vsl (.sym m) true la),.p (.bool ov2)]),(15,.fix 0 o),(16,.mix [.ptr 0 (.lit 0),.ptr 7 (.lit 0),.sl 17 3 1 (.lit 0) (.sym nc),.sl 18 3 1 (.lit 0) (.sym ng)]),hpP 17 cs,hpP 18 gs] ∧ n' = 19) := by
 refine callF_of_body tok Tryz.func22 (by kernel_rfl) rfl rfl rfl ?_; conv => cbv
 refine Br.no (show ¬ nc = 0 by omega) ?_
 conv => cbv
 refine drawn_sound tok (by kernel_rfl) [] [0,1,2,3,4,5,6,7,8,9,10,11,12,13,14,15,16] (by kernel_rfl) ?_; conv => cbv
 refine Fit.wrap fun xn hxn => ?_
 have hxn : xn = IntKind.u64.wrap n := hxn
 have hyn : 0 ≤ xn := by rw [hxn]; simp [IntKind.wrap,IntKind.bits,IntKind.signed]; omega
 conv => cbv
 refine Fit.mk (by show (0 : Int) ≤ nc; omega) (by show nc ≤ 18446744073709551615; omega) fun c2 hc2 => ?_
 have hc2 : c2 = nc := hc2
 conv => cbv
 refine Need.mk (show ¬ c2 = 0 by omega) ?_
 conv => cbv
 refine Sum.mk fun tn htn => ?_
 have htn : tn = xn % nc := (show tn = xn.tmod c2 from htn).trans (by rw [hc2]; exact Int.tmod_eq_emod_of_nonneg hyn)
 have ht0 := Int.emod_nonneg xn (show nc ≠ 0 by omega)
 have ht1 := Int.emod_lt_of_pos xn h0
 conv => cbv
 refine Fit.mk (by show (-9223372036854775808 : Int) ≤ tn; omega) (by show tn ≤ 9223372036854775807; omega) fun i hi => ?_
 have hi : i = tn := hi
 obtain ⟨x,hx⟩ : ∃ x,l[i.toNat]? = some x := ⟨_,List.getElem?_eq_getElem (by omega)⟩
 have hcell : cs[i.toNat]? = some (.int .i64 (.sym x)) := by rw [hl]; exact ipv_get hx
 conv => cbv
 refine Need.mk (show 0 ≤ i ∧ i < nc by omega) ?_
 conv => cbv
 refine Cell.at i _ hcell (by simp [I.val]) rfl ?_
 conv => cbv
 refine RetF.mk [i6 x] [hpA 0 1 5 6 3 W ph sp cy,hpB 1 2 4 3 W,hpC 2 3 127 2 N,hpP 3 L,hpP 4 D,hpF 5 z ov,hpP 6 Q,hpR 7 8 13 3 W 14 ph2 sp2 cy2,hpB 8 9 12 3 W,hpD 9 10 3 1 N 11 197 8 N,hpP 10 P,hpP 11 B,hpP 12 V,hpP 13 Qr,(14,.mix [.p (.vsl (.sym m) true la),.p (.bool ov2)]),(15,.fix 0 o),(16,.mix [.ptr 0 (.lit 0),.ptr 7 (.lit 0),.sl 17 3 1 (.lit 0) (.sym nc),.sl 18 3 1 (.lit 0) (.sym ng)]),hpP 17 cs,hpP 18 gs] 19 (Re.at [(0,0),(1,1),(2,2),(3,3),(4,4),(5,5),(6,6),(7,7),(8,8),(9,9),(10,10),(11,11),(12,12),(13,13),(14,14),(15,15),(16,16),(17,17),(18,18)] []) rfl ⟨⟨x,rfl,by rw [← hxn,← htn,← hi]; exact hx⟩,rfl,rfl⟩
theorem listAllW_lx (R : List Rw) (ws C G : List Int) (N W ph sp cy : Int) (L D Q : List PV) (z : ByteArray) (ov : Bool) (h : HM R ws C G N W L D Q z) (M : Hp) (hM : Cont R ws M) (q : Qs) (hY : Sys M q) (a : Int) (d : Bool) (ml : Int) (cells : List PV) (hml : ml = (q a d).length) (hcel : cells = ipv (q a d)) : CallF (fun _ => Tryz.prog) 28 [.ptr 0 (.lit 0),i6 a,.p (.bool d)] [hpA 0 1 5 6 3 W ph sp cy,hpB 1 2 4 3 W,hpC 2 3 127 2 N,hpP 3 L,hpP 4 D,hpF 5 z ov,hpP 6 Q] 7 (fun r h n => r = .p (.vsl (.sym ml) true cells) ∧ h = [hpA 0 1 5 6 3 W ph sp cy,hpB 1 2 4 3 W,hpC 2 3 127 2 N,hpP 3 L,hpP 4 D,hpF 5 z ov,hpP 6 Q] ∧ n = 7) := by
 refine CallF.ret (listAll_lx R ws C G N W ph sp cy L D Q z ov h M hM q hY a d (hch9 hY a) (hsu7 hY)) (fun r h' n' hrr => ?_)
 obtain ⟨ml2,cells2,e1,e2,e3,hml2,hcel2⟩ := hrr
 subst e1 e2 e3
 obtain rfl : ml2 = ml := hml2.trans hml.symm
 obtain rfl : cells2 = cells := hcel2.trans hcel.symm
 exact RetF.mk [.p (.vsl (.sym ml2) true cells2)] [hpA 0 1 5 6 3 W ph sp cy,hpB 1 2 4 3 W,hpC 2 3 127 2 N,hpP 3 L,hpP 4 D,hpF 5 z ov,hpP 6 Q] 7 (Re.at [(0,0),(1,1),(2,2),(3,3),(4,4),(5,5),(6,6)] []) rfl ⟨rfl,rfl,rfl⟩
theorem wakeRegs_law (o : Unit → Obj) (ho : IsPow o) (reg tq v : Int) (mark : Bool) (hv : -9223372036854775808 ≤ v ∧ v ≤ 9223372036854775807) : CallF (fun _ => Tryz.prog) 4 [i6 reg,i6 tq,i6 v,.p (.bool mark)] [(0,.fix 0 o)] 1 (fun r _ _ => r = .p (.bool true)) := by
 refine callF_of_body tok Tryz.func4 (by kernel_rfl) rfl rfl rfl ?_; conv => cbv
 refine Sum.mk fun r1 hr1 => ?_
 have hr1 : r1 = reg.tmod 9 := hr1
 have hr9 : r1 < 9 := by rw [hr1]; exact Int.tmod_lt_of_pos reg (by decide)
 have hr8 : -9 < r1 := by rw [hr1]; exact Int.lt_tmod_of_pos reg (by decide)
 clear hr1
 conv => cbv
 refine Fit.wrap fun xn hxn => ?_
 have hxn : xn = IntKind.u64.wrap tq := hxn
 have hyn : 0 ≤ xn := by rw [hxn]; simp [IntKind.wrap,IntKind.bits,IntKind.signed]; omega
 clear hxn
 conv => cbv
 refine Sum.mk fun tn htn => ?_
 have htn : tn = xn % 100 := (show tn = xn.tmod 100 from htn).trans (Int.tmod_eq_emod_of_nonneg hyn)
 conv => cbv
 refine Fit.mk (by show (-9223372036854775808 : Int) ≤ tn; omega) (by show tn ≤ 9223372036854775807; omega) fun t1 ht1 => ?_
 have ht1 : t1 = tn := ht1
 have ht10 : 0 ≤ t1 := by omega
 have ht11 : t1 < 100 := by omega
 clear ht1 htn hyn
 conv => cbv
 refine CallF.re (args0 := [.p (.vsl (.sym 1) true [.int .i64 (.sym 0)]),i6 1]) (h' := [(0,.fix 0 o)]) (Re.at [(0,0)] []) (cfr (made14_lx o ho [0] 1 1 [.int .i64 (.sym 0)] rfl rfl) [(0,0)] (fun r h' n' hrr => ?_))
 obtain ⟨N,W,C,R,ws,vs,L,D,Q,z,P,B,V,Qr,M,CS,GS,chs,bufs,grs,nc,ng,e1,e2,e3,S,hB,hY,hcs,hgs,hnc,hng,hnm,hn1,hn4,hngo,hcnt,hR,hW⟩ := hrr
 subst e1 e2 e3
 conv => cbv
 refine cfr (awake14_lx o ho) [(0,0)] (fun r h' n' ⟨e1,e2,e3⟩ => ?_)
 subst e1 e2 e3
 conv => cbv
 have hnc1 : nc = 1 := by omega
 obtain ⟨c,hcc⟩ := chA1 hnc hnc1
 have hc0 : chs[0]? = some c := by rw [hcc]; rfl
 obtain ⟨b,hb0,hBC⟩ := hB.ch 0 c 0 hc0 rfl
 have hMc := hBC.c
 rw [capS (by decide)] at hMc
 have hcl := S.c.len S.h.a hMc
 have hcw : atW (2 * c + 1) = c := atW_ptr c
 have hngb := ngor_bd 1
 obtain ⟨g,hg0⟩ : ∃ g,grs[0]? = some g := ⟨_,List.getElem?_eq_getElem (by omega)⟩
 have hMg : M g = some (4,[0,0,0,0,0,0,0,0,0,-1]) := hB.gr 0 g hg0
 have hgl := S.c.len S.h.a hMg
 have hgc : g ≠ c := fun q => by rw [q,hMc] at hMg; cases hMg
 have hcbd : 0 ≤ c ∧ c ≤ 2000 := by omega
 have hgbd : 0 ≤ g ∧ g ≤ 2000 := by omega
 have hbm : b = -1 := by
  rcases hBC.b with q | q
  ·exact q.2
  ·rw [capS (by decide)] at q; omega
 subst hbm
 obtain ⟨hcnt0,hR0⟩ : (objCount R : Int) ≤ 8 ∧ R.length = 60 := ⟨by omega,hR⟩
 have S2 := S.two
 refine CallF.le (args0 := [.ptr 17 (.lit 0),i6 3,i6 7]) (cfr (allocT14_lx R ws vs C N W 0 0 0 L D Q z false P B V Qr [] 0 M M nc ng CS GS o S2 3 7 (by decide) (by unfold lenK; decide) (by omega)) [(0,2),(1,3),(2,4),(3,5),(4,6),(5,7),(6,8),(7,9),(8,10),(9,11),(10,12),(11,13),(12,14),(13,15),(14,16),(15,0),(16,17),(17,18),(18,19)] (fun r h' n' hrr => ?_)) (by simp [ales,ale,pvle,I.val])
 obtain ⟨x,R3,ws3,vs3,L3,D3,P3,B3,V3,e1,e2,e3,S3,hk3,hKn,hK2n,hx0,hxW,hl3⟩ := hrr
 subst e1 e2 e3
 conv => cbv
 have hYx := (newSu2 (g := g) (c := c) (w := 0) (p := t1) (r := r1) (m := -1) hY hKn).1
 have hxc : c ≠ x := fun e => by rw [← e,hMc] at hKn; cases hKn
 have hxg : g ≠ x := fun e => by rw [← e,hMg] at hKn; cases hKn
 refine drawn_sound tok (by kernel_rfl) [(6,[10,9,7,4,3,2,1,0]),(8,[10,9,4,3,2,1,0]),(12,[])] [0,1,2,3,4,5,7,9,10,6,8,11,12] (by kernel_rfl) ?_; conv => cbv
 refine CallF.le (args0 := [.ptr 17 (.lit 0),i6 0]) (cfr (gor14_lx R3 ws3 vs3 C N W 0 0 0 L3 D3 Q z false P3 B3 V3 Qr [] 0 M nc ng CS GS o 0 grs hgs hng (by omega) (by omega)) [(0,2),(1,3),(2,4),(3,5),(4,6),(5,7),(6,8),(7,9),(8,10),(9,11),(10,12),(11,13),(12,14),(13,15),(14,16),(15,0),(16,17),(17,18),(18,19)] (fun r h' n' hrr => ?_)) (by simp [ales,ale,pvle,I.val])
 obtain ⟨⟨y1,e1,hy1⟩,e2,e3⟩ := hrr
 subst e1 e2 e3
 conv => cbv
 obtain rfl : g = y1 := (ix0 hy1 hg0).symm
 refine CallF.le (args0 := [.ptr 17 (.lit 0),i6 0]) (cfr (ch14_lx R3 ws3 vs3 C N W 0 0 0 L3 D3 Q z false P3 B3 V3 Qr [] 0 M nc ng CS GS o 0 chs hcs hnc (by omega) (by omega)) [(0,2),(1,3),(2,4),(3,5),(4,6),(5,7),(6,8),(7,9),(8,10),(9,11),(10,12),(11,13),(12,14),(13,15),(14,16),(15,0),(16,17),(17,18),(18,19)] (fun r h' n' hrr => ?_)) (by simp [ales,ale,pvle,I.val])
 obtain ⟨⟨x5,e1,hx5⟩,e2,e3⟩ := hrr
 subst e1 e2 e3
 conv => cbv
 obtain rfl : c = x5 := (ix0 hx5 hc0).symm
 have hbz : ∀ q ∈ [g,c,-1,t1,r1,-1],b62 q := by
  simp only [List.forall_mem_cons]; unfold b62
  exact ⟨by omega,by omega,by omega,by omega,by omega,by omega,fun q hq => by cases hq⟩
 have hpz : ∀ q ∈ [g,c,-1,-1],-1 ≤ q := by
  simp only [List.forall_mem_cons]
  exact ⟨by omega,by omega,by omega,by omega,fun q hq => by cases hq⟩
 have hwz : ∀ q ∈ [(0 : Int)],-9223372036854775808 ≤ q ∧ q ≤ 9223372036854775807 := fun q hq => by simp at hq; subst hq; decide
 have hMz : upd M x (3,zerK 3 7) x = some (3,[-1,-1,0,-1,0,0,-1]) := upd_same _ _ _
 refine CallF.le (args0 := [.ptr 2 (.lit 0),i6 x,.agg [i6 g,i6 c,i6 0,i6 (-1),i6 t1,i6 r1,i6 (-1)]]) (cfr (putSudogM_lx R3 ws3 C [] N W 0 0 0 L3 D3 Q z false S3.h _ S3.c o ho rfl x g c 0 (-1) t1 r1 (-1) [-1,-1,0,-1,0,0,-1] hMz rfl hbz hwz hpz) [(0,2),(1,3),(2,4),(3,5),(4,6),(5,7),(6,8),(7,0)] (fun r h' n' hrr => ?_)) (by simp [ales,ale,pvle,I.val])
 obtain ⟨e8,ws4,D4,e1,he8,e2,e3,hh4,hc4⟩ := hrr
 subst e1 e2 e3
 conv => cbv
 rw [upd_upd2] at hc4
 obtain ⟨K1,hK1⟩ : ∃ K,K = upd M x (3,[g,c,0,-1,t1,r1,-1]) := ⟨_,rfl⟩
 have hKx : K1 x = some (3,[g,c,0,-1,t1,r1,-1]) := by rw [hK1]; exact upd_same _ _ _
 have hKc : K1 c = some (1,[0,0,0,0,-1,-1,-1,-1,-1]) := by rw [hK1,upd_ne hxc]; exact hMc
 have hKg : K1 g = some (4,[0,0,0,0,0,0,0,0,0,-1]) := by rw [hK1,upd_ne hxg]; exact hMg
 have hY1 : Sys K1 (fun _ _ => []) := by rw [hK1]; exact hYx
 rw [← hK1] at hc4
 clear hK1 hYx hMz S2 S
 refine drawn_sound tok (by kernel_rfl) [(5,[6,3,2,1,0]),(7,[])] [0,1,2,3,4,6,5,7] (by kernel_rfl) ?_; conv => cbv
 refine CallF.le (args0 := [.ptr 17 (.lit 0),i6 0]) (cfr (ch14_lx R3 ws4 vs3 C N W 0 0 0 L3 D4 Q z false P3 B3 V3 Qr [] 0 M nc ng CS GS o 0 chs hcs hnc (by omega) (by omega)) [(0,2),(1,3),(2,4),(3,5),(4,6),(5,7),(6,8),(7,9),(8,10),(9,11),(10,12),(11,13),(12,14),(13,15),(14,16),(15,0),(16,17),(17,18),(18,19)] (fun r h' n' hrr => ?_)) (by simp [ales,ale,pvle,I.val])
 obtain ⟨⟨x6,e1,hx6⟩,e2,e3⟩ := hrr
 subst e1 e2 e3
 conv => cbv
 obtain rfl : c = x6 := (ix0 hx6 hc0).symm
 refine CallF.le (args0 := [.ptr 2 (.lit 0),i6 c,.p (.bool false),i6 x]) (cfr (listPush0_lx R3 ws4 C [] N W 0 0 0 L3 D4 Q z false hh4 K1 hc4 (fun _ _ => []) hY1 o ho rfl (hch9 hY1) (hsu7 hY1) c x 0 0 0 0 (-1) (-1) (-1) (-1) (-1) g 0 (-1) t1 r1 (-1) hKc hKx (fun _ h => by cases h)) [(0,2),(1,3),(2,4),(3,5),(4,6),(5,7),(6,8),(7,0)] (fun r h' n' hrr => ?_)) (by simp [ales,ale,pvle,I.val])
 obtain ⟨e9,ws5,D5,e1,he9,e2,e3,hh5,hc5⟩ := hrr
 subst e1 e2 e3
 conv => cbv
 obtain ⟨q1,hq1⟩ : ∃ q,q = updQ (fun _ _ => []) c false ([] ++ [x]) := ⟨_,rfl⟩
 have hc5 : Cont R3 ws5 (relink K1 q1) := by rw [hq1]; exact hc5
 have hqx : ∀ a d y,y ∈ q1 a d → y = x ∧ a = c ∧ d = false := fun a d y hy => by
  rw [hq1] at hy
  by_cases k : a = c ∧ d = false
  ·obtain ⟨rfl,rfl⟩ := k; rw [updQ_same] at hy; exact ⟨by simpa using hy,rfl,rfl⟩
  ·rw [updQ_ne k] at hy; cases hy
 have hqc : q1 c false = [x] := by rw [hq1,updQ_same]; rfl
 have hY5 : Sys (relink K1 q1) q1 := hY1.relink (fun a d s hs => by
   obtain ⟨rfl,rfl,rfl⟩ := hqx a d s hs
   exact ⟨⟨_,hKc⟩,_,_,_,_,_,_,hKx⟩) (fun a d => by
   by_cases k : a = c ∧ d = false
   ·obtain ⟨rfl,rfl⟩ := k; rw [hqc]; simp
   ·rw [hq1,updQ_ne k]; exact List.nodup_nil) (fun a s hs ht => by
   have := (hqx a true s ht).2.2
   cases this)
 obtain ⟨n1,hMx5⟩ := relink_su (q := q1) hKx
 have hMc5 := relink_ch (q := q1) hKc
 have hMg5 := relink_other (q := q1) hKg ⟨by decide,by decide⟩
 have hneg := neg_none hh5.a hc5
 refine readF_sound tok (by kernel_rfl) [0,2,3,4,5,6,7,8,9,10,11,12,13,14,15,16,17,18,19] [5,7] [(8,[])] [0,1,2,3,4,5,6,7,8] (by kernel_rfl) ?_
 conv => cbv
 refine ReadF.mk (.p (.int .i64 (.sym g))) (fun h' n' hbR hnR => CallF.le (args0 := [.ptr 17 (.lit 0),i6 0]) (callF_read ((gor14_lx R3 ws5 vs3 C N W 0 0 0 L3 D5 Q z false P3 B3 V3 Qr [] 0 M nc ng CS GS o 0 grs hgs hng (by omega) (by omega)).mono (fun r h n ⟨⟨x,e1,hx⟩,e2,e3⟩ => ⟨by rw [e1,ix0 hx hg0],e2,e3⟩)) [(0,2),(1,3),(2,4),(3,5),(4,6),(5,7),(6,8),(7,9),(8,10),(9,11),(10,12),(11,13),(12,14),(13,15),(14,16),(15,0),(16,17),(17,18),(18,19)] (by simp [fok,nget,nback]; omega) (by simp [hmapOk,nget,hbR,hget,renB,okB,renV,renVs,rn,okVs,okV]) rfl rfl rfl rfl) (by simp [ales,ale,pvle,I.val])) ?_
 conv => cbv
 refine CallF.re (args0 := [.ptr 2 (.lit 0),i6 g,.p (.vsl (.sym 1) true [.int .i64 (.sym x)])]) (h' := [hpA 2 3 7 8 3 W 0 0 0,hpB 3 4 6 3 W,hpC 4 5 127 2 N,hpP 5 L3,hpP 6 D5,hpF 7 z false,hpP 8 Q,hpR 9 10 15 3 W 16 0 0 0,hpB 10 11 14 3 W,hpD 11 12 3 1 N 13 197 8 N,hpP 12 P3,hpP 13 B3,hpP 14 V3,hpP 15 Qr,(16,.mix [.p (.vsl (.sym 0) true []),.p (.bool false)]),(0,.fix 0 o),(17,.mix [.ptr 2 (.lit 0),.ptr 9 (.lit 0),.sl 18 3 1 (.lit 0) (.sym nc),.sl 19 3 1 (.lit 0) (.sym ng)]),hpP 18 CS,hpP 19 GS,(0,.fix 0 o)]) (Re.at [(0,0),(2,2),(3,3),(4,4),(5,5),(6,6),(7,7),(8,8),(9,9),(10,10),(11,11),(12,12),(13,13),(14,14),(15,15),(16,16),(17,17),(18,18),(19,19)] []) (cfr (park_lx R3 ws5 C [] N W 0 0 0 L3 D5 Q z false hh5 _ hc5 q1 hY5 o ho rfl g 0 0 0 0 0 0 0 0 0 (-1) [x] 1 [.int .i64 (.sym x)] rfl rfl (by decide) hMg5 (fun a ha => by rw [List.mem_singleton] at ha; rw [ha]; exact ⟨_,_,_,_,_,_,_,hMx5⟩)) [(0,2),(1,3),(2,4),(3,5),(4,6),(5,7),(6,8),(7,0)] (fun r h' n' hrr => ?_))
 obtain ⟨e10,he10,ws6,D6,e1,e2,e3,hh6,hc6⟩ := hrr
 subst e1 e2 e3
 conv => cbv
 obtain ⟨K6,hK6⟩ : ∃ K,K = upd (parkM (relink K1 q1) [x]) g (4,[0,1,0,0,0,0,0,0,0,hdQ [x]]) := ⟨_,rfl⟩
 rw [← hK6] at hc6
 have hY6 : Sys K6 q1 := by
  rw [hK6]
  refine sysOther (G := [0,0,0,0,0,0,0,0,0,-1]) (sysParkM hY5 (fun a ha => by rw [List.mem_singleton] at ha; rw [ha]; exact ⟨_,_,_,_,_,_,_,hMx5⟩)) ?_ ⟨by decide,by decide⟩
  rw [parkM_ne (by simp [Ne.symm hxg.symm])]
  exact hMg5
 have hKg6 : K6 g = some (4,[0,1,0,0,0,0,0,0,0,x]) := by rw [hK6]; exact upd_same _ _ _
 have hKx6 : K6 x = some (3,[g,c,0,n1,t1,r1,-1]) := by
  rw [hK6,upd_ne hxg.symm]
  show setM (relink K1 q1) x (-1) x = _
  rw [setM_eq hMx5,upd_same]
 have hKc6 : K6 c = some (1,[0,0,0,0,-1,x,x,-1,-1]) := by
  rw [hK6,upd_ne hgc.symm,parkM_ne (by simp [hxc]),hMc5,hqc]
  have : q1 c true = [] := by rw [hq1,updQ_ne (by simp)]
  rw [this]; rfl
 have hneg6 := neg_none hh6.a hc6
 have hmor6 : Mor K6 x [x] := ⟨rfl,g,c,0,n1,t1,r1,-1,_,hKx6,hKc6,fun F e => by rw [hneg6] at e; cases e⟩
 clear hK6
 have hrm : rmQ q1 [x] = fun _ _ => [] := rmQ_all (fun a d y hy => by rw [(hqx a d y hy).1]; simp)
 clear hqc hMx5 hMc5 hMg5 hY5 hKx hKc hKg hq1
 cases mark with
 | true =>
  conv => cbv
  refine CallF.le (args0 := [.ptr 2 (.lit 0),.p (.vsl (.sym 0) true [])]) (cfr (begin_lx R3 ws6 C [] N W 0 0 0 L3 D6 Q z false hh6 o ho [] 0 [] rfl rfl (by decide) rfl) [(0,2),(1,3),(2,4),(3,5),(4,6),(5,7),(6,8),(7,0)] (fun r h' n' hrr => ?_)) (by simp [ales,ale,pvle,I.val])
  obtain ⟨c7,g7,v7,q7,z7,e1,e2,e3,hh7,hs7⟩ := hrr
  subst e1 e2 e3
  conv => cbv
  refine CallF.le (args0 := [.ptr 2 (.lit 0),i6 x,i6 v]) (cfr (wakeP_lx R3 ws6 c7 g7 N W 1 0 0 L3 D6 q7 z7 v7 hh7 K6 hc6 q1 hY6 o ho x v hv g c 0 n1 t1 r1 (-1) 0 1 0 0 0 0 0 0 0 x [x] hKx6 hKg6 hmor6 (by simp)) [(0,2),(1,3),(2,4),(3,5),(4,6),(5,20),(6,8),(7,0)] (fun r h' n' hrr => ?_)) (by simp [ales,ale,pvle,I.val])
  obtain ⟨e11,he11,ws8,c8,g8,D8,q8,z8,v8,e1,e2,e3,hh8,hc8,ca,ga,va,hsh⟩ := hrr
  subst e1 e2 e3
  conv => cbv
  rw [hrm] at hc8
  obtain ⟨a0,a1,a2,a3,a4,a5,hset⟩ : ∃ a0 a1 a2 a3 a4 a5,setR r1 v [0,0,0,0,0,0] = [a0,a1,a2,a3,a4,a5] := by
   match hS : setR r1 v [0,0,0,0,0,0],setR_len r1 v [0,0,0,0,0,0] with
   | [a0,a1,a2,a3,a4,a5],_ => exact ⟨a0,a1,a2,a3,a4,a5,rfl⟩
  have hreg : ∀ i : Int,0 ≤ i → i < 6 → [a0,a1,a2,a3,a4,a5][i.toNat]? = some (if i = r1 then v else 0) := fun i h0 h6 => by
   rw [← hset]
   unfold setR
   by_cases hr : 0 ≤ r1 ∧ r1 < 6
   ·rw [if_pos hr,List.getElem?_set]
    by_cases hi : i = r1
    ·rw [if_pos hi,if_pos (by omega),if_pos (by simp; omega)]
    ·rw [if_neg hi,if_neg (by omega)]
     rcases (by omega : i = 0 ∨ i = 1 ∨ i = 2 ∨ i = 3 ∨ i = 4 ∨ i = 5) with e | e | e | e | e | e <;> subst e <;> rfl
   ·rw [if_neg hr,if_neg (by omega)]
    rcases (by omega : i = 0 ∨ i = 1 ∨ i = 2 ∨ i = 3 ∨ i = 4 ∨ i = 5) with e | e | e | e | e | e <;> subst e <;> rfl
  rw [hset] at hc8
  have hY8 : Sys (upd (relink K6 (fun _ _ => [])) g (4,[0,0,t1,a0,a1,a2,a3,a4,a5,-1])) (fun _ _ => []) := by
   have h := sysFilt hY6 [x]
   rw [hrm] at h
   exact sysOther (G := [0,1,0,0,0,0,0,0,0,x]) h (relink_other hKg6 ⟨by decide,by decide⟩) ⟨by decide,by decide⟩
  have hc8 : Cont R3 ws8 (upd (relink K6 (fun _ _ => [])) g (4,[0,0,t1,a0,a1,a2,a3,a4,a5,-1])) := hc8
  have hK8g : upd (relink K6 (fun _ _ => [])) g (4,[0,0,t1,a0,a1,a2,a3,a4,a5,-1]) g = some (4,[0,0,t1,a0,a1,a2,a3,a4,a5,-1]) := upd_same _ _ _
  generalize upd (relink K6 (fun _ _ => [])) g (4,[0,0,t1,a0,a1,a2,a3,a4,a5,-1]) = K8 at hc8 hK8g hY8
  clear hset
  refine CallF.le (args0 := [.ptr 2 (.lit 0),i6 g]) (cfr (gorM_lx R3 ws8 c8 g8 N W 1 0 0 L3 D8 q8 z8 v8 hh8 K8 hc8 g 0 0 t1 a0 a1 a2 a3 a4 a5 (-1) hK8g) [(0,2),(1,3),(2,4),(3,5),(4,6),(5,20),(6,8)] (fun r h' n' hrr => ?_)) (by simp [ales,ale,pvle,I.val])
  obtain ⟨⟨e12,e1,he12⟩,e2,e3⟩ := hrr
  subst e1 e2 e3
  conv => cbv
  refine LoopF.mk (fun kk s => ∃ (i : Int),s = ⟨.p (.int .i64 (.sym r1)) :: .p (.int .i64 (.sym t1)) :: .p (.int .i64 (.sym v)) :: .p (.bool true) :: (undefs 5 ++ .ptr 17 (.lit 0) :: (undefs 1 ++ .p (.int .i64 (.sym g)) :: .p (.int .i64 (.sym e11)) :: .ptr 21 (.lit 0) :: .p (.int .i64 (.sym e12)) :: .p (.int .i64 (.sym i)) :: undefs 121)),[hpA 2 3 20 8 3 W 1 0 0,hpB 3 4 6 3 W,hpC 4 5 127 2 N,hpP 5 L3,hpP 6 D8,hpF 20 z8 v8,hpP 8 q8,hpR 9 10 15 3 W 16 0 0 0,hpB 10 11 14 3 W,hpD 11 12 3 1 N 13 197 8 N,hpP 12 P3,hpP 13 B3,hpP 14 V3,hpP 15 Qr,(16,.mix [.p (.vsl (.sym 0) true []),.p (.bool false)]),(0,.fix 0 o),(17,.mix [.ptr 2 (.lit 0),.ptr 9 (.lit 0),.sl 18 3 1 (.lit 0) (.sym nc),.sl 19 3 1 (.lit 0) (.sym ng)]),hpP 18 CS,hpP 19 GS,(0,.fix 0 o),(21,.pure false [.int .i64 (.sym 0),.int .i64 (.sym 0),.int .i64 (.sym t1),.int .i64 (.sym a0),.int .i64 (.sym a1),.int .i64 (.sym a2),.int .i64 (.sym a3),.int .i64 (.sym a4),.int .i64 (.sym a5),.int .i64 (.sym (-1))])],22⟩ ∧ 0 ≤ i ∧ i ≤ 6 ∧ kk = (6 - i).toNat) 6 _
   (Re.at [(0,0),(2,2),(3,3),(4,4),(5,5),(6,6),(20,20),(8,8),(9,9),(10,10),(11,11),(12,12),(13,13),(14,14),(15,15),(16,16),(17,17),(18,18),(19,19),(21,21)] []) ⟨0,rfl,by omega,by omega,rfl⟩ ?_
  rintro kk s ⟨i,rfl,hi0,hi6,hkk⟩
  have hkk : kk = (6 - i).toNat := hkk
  conv => cbv
  refine Br.mk (fun gi => ?_) (fun gi => ?_)
  ·have gi : i < 6 := gi
   have hri := hreg i hi0 gi
   have hcx : ∀ y,(if i = r1 then v else 0) = y → ([.int .i64 (.sym 0),.int .i64 (.sym 0),.int .i64 (.sym t1),.int .i64 (.sym a0),.int .i64 (.sym a1),.int .i64 (.sym a2),.int .i64 (.sym a3),.int .i64 (.sym a4),.int .i64 (.sym a5),.int .i64 (.sym (-1))] : List PV)[(3 + i).toNat]? = some (.int .i64 (.sym y)) := fun y hy => by
    rw [hy] at hri
    rcases (by omega : i = 0 ∨ i = 1 ∨ i = 2 ∨ i = 3 ∨ i = 4 ∨ i = 5) with e | e | e | e | e | e <;> subst e <;> cases hri <;> rfl
   conv => cbv
   refine Br.mk (fun gr => ?_) (fun gr => ?_)
   ·have gr : i = r1 := gr
    have hw := hcx v (if_pos gr)
    conv => cbv
    refine Need.mk (show 0 ≤ i ∧ i < 6 by omega) ?_
    conv => cbv
    refine Sum.mk fun z hz => ?_
    have hz : z = 3 + i := hz
    conv => cbv
    refine Cell.at z _ (by rw [hz]; exact hw) (by simp [I.val]) rfl ?_
    conv => cbv
    refine Br.no (show ¬ (¬ (v = v)) from fun q => q rfl) ?_
    conv => cbv
    refine Fit.mk (by show (-9223372036854775808 : Int) ≤ i + 1; omega) (by show i + 1 ≤ 9223372036854775807; omega) fun j2 hj2 => ?_
    have hj2 : j2 = i + 1 := hj2
    conv => cbv
    refine Again.mk (6 - j2).toNat _ (by omega) (Re.at [(0,0),(2,2),(3,3),(4,4),(5,5),(6,6),(20,20),(8,8),(9,9),(10,10),(11,11),(12,12),(13,13),(14,14),(15,15),(16,16),(17,17),(18,18),(19,19),(21,21)] []) ⟨j2,rfl,by omega,by omega,rfl⟩
   ·have gr : ¬ i = r1 := gr
    have hw := hcx 0 (if_neg gr)
    conv => cbv
    refine Need.mk (show 0 ≤ i ∧ i < 6 by omega) ?_
    conv => cbv
    refine Sum.mk fun z hz => ?_
    have hz : z = 3 + i := hz
    conv => cbv
    refine Cell.at z _ (by rw [hz]; exact hw) (by simp [I.val]) rfl ?_
    conv => cbv
    refine Br.no (show ¬ (¬ ((0 : Int) = (0 : Int))) from fun q => q rfl) ?_
    conv => cbv
    refine Fit.mk (by show (-9223372036854775808 : Int) ≤ i + 1; omega) (by show i + 1 ≤ 9223372036854775807; omega) fun j2 hj2 => ?_
    have hj2 : j2 = i + 1 := hj2
    conv => cbv
    refine Again.mk (6 - j2).toNat _ (by omega) (Re.at [(0,0),(2,2),(3,3),(4,4),(5,5),(6,6),(20,20),(8,8),(9,9),(10,10),(11,11),(12,12),(13,13),(14,14),(15,15),(16,16),(17,17),(18,18),(19,19),(21,21)] []) ⟨j2,rfl,by omega,by omega,rfl⟩
  ·have gi : ¬ i < 6 := gi
   conv => cbv
   refine readF_sound tok (by kernel_rfl) [0,2,3,4,5,6,20,8,9,10,11,12,13,14,15,16,17,18,19,21] [18,30,31] [] [0,1,2,3,4,5,6,7,8,9,10,11,12,13,14,15,16,17,18,19,20,21,22,23,24,25,26,27,28,29,30,31,32,33,34,35] (by kernel_rfl) ?_
   conv => cbv
   have hgo : g ∈ objs R3 := (obj_iff hh8.a g).2 (Kept.obj (hc8.kept hK8g))
   obtain ⟨hgo0,hgo1⟩ := obj_bd hh8.a hgo
   have hcl8 := hh8.c
   have hw8 := hh8.w
   have hn8 := hh8.n
   obtain ⟨cg,hcg⟩ : ∃ cg,c8[g.toNat]? = some cg := ⟨_,List.getElem?_eq_getElem (by omega)⟩
   have hcg0 : ¬ cg = 0 := fun e => by
    subst e
    unfold shade at hsh
    split at hsh
    ·simp only [Prod.mk.injEq] at hsh
     rw [hsh.1,List.getElem?_set,if_pos rfl] at hcg
     split at hcg <;> simp at hcg
    ·rename_i hns
     simp only [Prod.mk.injEq] at hsh
     exact hns ⟨rfl,hgo,by rw [← hsh.1]; exact hcg⟩
   refine Br.yes (show e11 = 0 from he11) ?_
   conv => cbv
   refine Br.yes (show e12 = 0 from he12) ?_
   conv => cbv
   refine Br.yes (show t1 = t1 from rfl) ?_
   conv => cbv
   refine ReadF.mk (.p (.int .i64 (.sym cg))) (fun h' n' hbR hnR => CallF.le (args0 := [.ptr 2 (.lit 0),i6 g]) (callF_read ((colour_lx R3 ws8 c8 g8 N W 1 0 0 L3 D8 q8 z8 v8 hh8 g).mono (fun r h n ⟨cx,e1,e2,e3,e4,e5⟩ => ⟨by rw [e1,Option.some.inj ((e4 hgo).symm.trans hcg)],e2,e3⟩)) [(0,2),(1,3),(2,4),(3,5),(4,6),(5,20),(6,8)] (by simp [fok,nget,nback]; omega) (by simp [hmapOk,nget,hbR,hget,renB,okB,renV,renVs,rn,okVs,okV]) rfl rfl rfl rfl) (by simp [ales,ale,pvle,I.val])) ?_
   conv => cbv
   refine Br.no (show ¬ (cg = 0) from hcg0) ?_
   conv => cbv
   refine ReadF.mk (.p (.int .i64 (.sym c))) (fun h' n' hbR hnR => CallF.le (args0 := [.ptr 17 (.lit 0),i6 0]) (callF_read ((chX14_lx R3 ws8 vs3 c8 N W 1 0 0 0 0 0 L3 D8 q8 z8 v8 false P3 B3 V3 Qr [] 0 M nc ng CS GS o 0 chs hcs hnc (by omega) (by omega)).mono (fun r h n ⟨⟨x,e1,hx⟩,e2,e3⟩ => ⟨by rw [e1,ix0 hx hc0],e2,e3⟩)) [(0,2),(1,3),(2,4),(3,5),(4,6),(5,20),(6,8),(7,9),(8,10),(9,11),(10,12),(11,13),(12,14),(13,15),(14,16),(15,0),(16,17),(17,18),(18,19)] (by simp [fok,nget,nback]; omega) (by simp [hmapOk,nget,hbR,hget,renB,okB,renV,renVs,rn,okVs,okV]) rfl rfl rfl rfl) (by simp [ales,ale,pvle,I.val])) ?_
   conv => cbv
   refine ReadF.mk (.p (.vsl (.sym 0) true [])) (fun h' n' hbR hnR => CallF.le (args0 := [.ptr 2 (.lit 0),i6 c,.p (.bool false)]) (callF_read (listAllW_lx R3 ws8 c8 g8 N W 1 0 0 L3 D8 q8 z8 v8 hh8 K8 hc8 (fun _ _ => []) hY8 c false 0 [] rfl rfl) [(0,2),(1,3),(2,4),(3,5),(4,6),(5,20),(6,8)] (by simp [fok,nget,nback]; omega) (by simp [hmapOk,nget,hbR,hget,renB,okB,renV,renVs,rn,okVs,okV]) rfl rfl rfl rfl) (by simp [ales,ale,pvle,I.val])) ?_
   conv => cbv
   refine Br.yes (show (0 : Int) = 0 from rfl) ?_
   conv => cbv
   refine RetF.mk [.p (.bool true)] [(0,.fix 0 o)] 1 (Re.at [(0,0)] []) rfl rfl
 | false =>
  conv => cbv
  refine CallF.le (args0 := [.ptr 2 (.lit 0),i6 x,i6 v]) (cfr (wake_lx R3 ws6 C [] N W 0 0 0 L3 D6 Q z false hh6 K6 hc6 q1 hY6 o ho rfl x v hv g c 0 n1 t1 r1 (-1) 0 1 0 0 0 0 0 0 0 x [x] hKx6 hKg6 hmor6 (by simp)) [(0,2),(1,3),(2,4),(3,5),(4,6),(5,7),(6,8),(7,0)] (fun r h' n' hrr => ?_)) (by simp [ales,ale,pvle,I.val])
  obtain ⟨e11,he11,ws8,D8,e1,e2,e3,hh8,hc8⟩ := hrr
  subst e1 e2 e3
  conv => cbv
  rw [hrm] at hc8
  obtain ⟨a0,a1,a2,a3,a4,a5,hset⟩ : ∃ a0 a1 a2 a3 a4 a5,setR r1 v [0,0,0,0,0,0] = [a0,a1,a2,a3,a4,a5] := by
   match hS : setR r1 v [0,0,0,0,0,0],setR_len r1 v [0,0,0,0,0,0] with
   | [a0,a1,a2,a3,a4,a5],_ => exact ⟨a0,a1,a2,a3,a4,a5,rfl⟩
  have hreg : ∀ i : Int,0 ≤ i → i < 6 → [a0,a1,a2,a3,a4,a5][i.toNat]? = some (if i = r1 then v else 0) := fun i h0 h6 => by
   rw [← hset]
   unfold setR
   by_cases hr : 0 ≤ r1 ∧ r1 < 6
   ·rw [if_pos hr,List.getElem?_set]
    by_cases hi : i = r1
    ·rw [if_pos hi,if_pos (by omega),if_pos (by simp; omega)]
    ·rw [if_neg hi,if_neg (by omega)]
     rcases (by omega : i = 0 ∨ i = 1 ∨ i = 2 ∨ i = 3 ∨ i = 4 ∨ i = 5) with e | e | e | e | e | e <;> subst e <;> rfl
   ·rw [if_neg hr,if_neg (by omega)]
    rcases (by omega : i = 0 ∨ i = 1 ∨ i = 2 ∨ i = 3 ∨ i = 4 ∨ i = 5) with e | e | e | e | e | e <;> subst e <;> rfl
  rw [hset] at hc8
  have hY8 : Sys (upd (relink K6 (fun _ _ => [])) g (4,[0,0,t1,a0,a1,a2,a3,a4,a5,-1])) (fun _ _ => []) := by
   have h := sysFilt hY6 [x]
   rw [hrm] at h
   exact sysOther (G := [0,1,0,0,0,0,0,0,0,x]) h (relink_other hKg6 ⟨by decide,by decide⟩) ⟨by decide,by decide⟩
  have hc8 : Cont R3 ws8 (upd (relink K6 (fun _ _ => [])) g (4,[0,0,t1,a0,a1,a2,a3,a4,a5,-1])) := hc8
  have hK8g : upd (relink K6 (fun _ _ => [])) g (4,[0,0,t1,a0,a1,a2,a3,a4,a5,-1]) g = some (4,[0,0,t1,a0,a1,a2,a3,a4,a5,-1]) := upd_same _ _ _
  generalize upd (relink K6 (fun _ _ => [])) g (4,[0,0,t1,a0,a1,a2,a3,a4,a5,-1]) = K8 at hc8 hK8g hY8
  clear hset
  refine CallF.le (args0 := [.ptr 2 (.lit 0),i6 g]) (cfr (gorM_lx R3 ws8 C [] N W 0 0 0 L3 D8 Q z false hh8 K8 hc8 g 0 0 t1 a0 a1 a2 a3 a4 a5 (-1) hK8g) [(0,2),(1,3),(2,4),(3,5),(4,6),(5,7),(6,8)] (fun r h' n' hrr => ?_)) (by simp [ales,ale,pvle,I.val])
  obtain ⟨⟨e12,e1,he12⟩,e2,e3⟩ := hrr
  subst e1 e2 e3
  conv => cbv
  refine LoopF.mk (fun kk s => ∃ (i : Int),s = ⟨.p (.int .i64 (.sym r1)) :: .p (.int .i64 (.sym t1)) :: .p (.int .i64 (.sym v)) :: .p (.bool false) :: (undefs 5 ++ .ptr 17 (.lit 0) :: (undefs 1 ++ .p (.int .i64 (.sym g)) :: .p (.int .i64 (.sym e11)) :: .ptr 20 (.lit 0) :: .p (.int .i64 (.sym e12)) :: .p (.int .i64 (.sym i)) :: undefs 121)),[hpA 2 3 7 8 3 W 0 0 0,hpB 3 4 6 3 W,hpC 4 5 127 2 N,hpP 5 L3,hpP 6 D8,hpF 7 z false,hpP 8 Q,hpR 9 10 15 3 W 16 0 0 0,hpB 10 11 14 3 W,hpD 11 12 3 1 N 13 197 8 N,hpP 12 P3,hpP 13 B3,hpP 14 V3,hpP 15 Qr,(16,.mix [.p (.vsl (.sym 0) true []),.p (.bool false)]),(0,.fix 0 o),(17,.mix [.ptr 2 (.lit 0),.ptr 9 (.lit 0),.sl 18 3 1 (.lit 0) (.sym nc),.sl 19 3 1 (.lit 0) (.sym ng)]),hpP 18 CS,hpP 19 GS,(0,.fix 0 o),(20,.pure false [.int .i64 (.sym 0),.int .i64 (.sym 0),.int .i64 (.sym t1),.int .i64 (.sym a0),.int .i64 (.sym a1),.int .i64 (.sym a2),.int .i64 (.sym a3),.int .i64 (.sym a4),.int .i64 (.sym a5),.int .i64 (.sym (-1))])],21⟩ ∧ 0 ≤ i ∧ i ≤ 6 ∧ kk = (6 - i).toNat) 6 _
   (Re.at [(0,0),(2,2),(3,3),(4,4),(5,5),(6,6),(7,7),(8,8),(9,9),(10,10),(11,11),(12,12),(13,13),(14,14),(15,15),(16,16),(17,17),(18,18),(19,19),(20,20)] []) ⟨0,rfl,by omega,by omega,rfl⟩ ?_
  rintro kk s ⟨i,rfl,hi0,hi6,hkk⟩
  have hkk : kk = (6 - i).toNat := hkk
  conv => cbv
  refine Br.mk (fun gi => ?_) (fun gi => ?_)
  ·have gi : i < 6 := gi
   have hri := hreg i hi0 gi
   have hcx : ∀ y,(if i = r1 then v else 0) = y → ([.int .i64 (.sym 0),.int .i64 (.sym 0),.int .i64 (.sym t1),.int .i64 (.sym a0),.int .i64 (.sym a1),.int .i64 (.sym a2),.int .i64 (.sym a3),.int .i64 (.sym a4),.int .i64 (.sym a5),.int .i64 (.sym (-1))] : List PV)[(3 + i).toNat]? = some (.int .i64 (.sym y)) := fun y hy => by
    rw [hy] at hri
    rcases (by omega : i = 0 ∨ i = 1 ∨ i = 2 ∨ i = 3 ∨ i = 4 ∨ i = 5) with e | e | e | e | e | e <;> subst e <;> cases hri <;> rfl
   conv => cbv
   refine Br.mk (fun gr => ?_) (fun gr => ?_)
   ·have gr : i = r1 := gr
    have hw := hcx v (if_pos gr)
    conv => cbv
    refine Need.mk (show 0 ≤ i ∧ i < 6 by omega) ?_
    conv => cbv
    refine Sum.mk fun z hz => ?_
    have hz : z = 3 + i := hz
    conv => cbv
    refine Cell.at z _ (by rw [hz]; exact hw) (by simp [I.val]) rfl ?_
    conv => cbv
    refine Br.no (show ¬ (¬ (v = v)) from fun q => q rfl) ?_
    conv => cbv
    refine Fit.mk (by show (-9223372036854775808 : Int) ≤ i + 1; omega) (by show i + 1 ≤ 9223372036854775807; omega) fun j2 hj2 => ?_
    have hj2 : j2 = i + 1 := hj2
    conv => cbv
    refine Again.mk (6 - j2).toNat _ (by omega) (Re.at [(0,0),(2,2),(3,3),(4,4),(5,5),(6,6),(7,7),(8,8),(9,9),(10,10),(11,11),(12,12),(13,13),(14,14),(15,15),(16,16),(17,17),(18,18),(19,19),(20,20)] []) ⟨j2,rfl,by omega,by omega,rfl⟩
   ·have gr : ¬ i = r1 := gr
    have hw := hcx 0 (if_neg gr)
    conv => cbv
    refine Need.mk (show 0 ≤ i ∧ i < 6 by omega) ?_
    conv => cbv
    refine Sum.mk fun z hz => ?_
    have hz : z = 3 + i := hz
    conv => cbv
    refine Cell.at z _ (by rw [hz]; exact hw) (by simp [I.val]) rfl ?_
    conv => cbv
    refine Br.no (show ¬ (¬ ((0 : Int) = (0 : Int))) from fun q => q rfl) ?_
    conv => cbv
    refine Fit.mk (by show (-9223372036854775808 : Int) ≤ i + 1; omega) (by show i + 1 ≤ 9223372036854775807; omega) fun j2 hj2 => ?_
    have hj2 : j2 = i + 1 := hj2
    conv => cbv
    refine Again.mk (6 - j2).toNat _ (by omega) (Re.at [(0,0),(2,2),(3,3),(4,4),(5,5),(6,6),(7,7),(8,8),(9,9),(10,10),(11,11),(12,12),(13,13),(14,14),(15,15),(16,16),(17,17),(18,18),(19,19),(20,20)] []) ⟨j2,rfl,by omega,by omega,rfl⟩
  ·have gi : ¬ i < 6 := gi
   conv => cbv
   refine readF_sound tok (by kernel_rfl) [0,2,3,4,5,6,7,8,9,10,11,12,13,14,15,16,17,18,19,20] [18,30,31] [] [0,1,2,3,4,5,6,7,8,9,10,11,12,13,14,15,16,17,18,19,20,21,22,23,24,25,26,27,28,29,30,31,32,33,34,35] (by kernel_rfl) ?_
   conv => cbv
   have hgo : g ∈ objs R3 := (obj_iff hh8.a g).2 (Kept.obj (hc8.kept hK8g))
   obtain ⟨hgo0,hgo1⟩ := obj_bd hh8.a hgo
   have hcl8 := hh8.c
   have hw8 := hh8.w
   have hn8 := hh8.n
   obtain ⟨cg,hcg0⟩ : ∃ cg : Int,cg = 0 := ⟨_,rfl⟩
   have hcg : C[g.toNat]? = some cg := by rw [hcg0,S3.w,List.getElem?_replicate,if_pos (by omega)]
   refine Br.yes (show e11 = 0 from he11) ?_
   conv => cbv
   refine Br.yes (show e12 = 0 from he12) ?_
   conv => cbv
   refine Br.yes (show t1 = t1 from rfl) ?_
   conv => cbv
   refine ReadF.mk (.p (.int .i64 (.sym cg))) (fun h' n' hbR hnR => CallF.le (args0 := [.ptr 2 (.lit 0),i6 g]) (callF_read ((colour_lx R3 ws8 C [] N W 0 0 0 L3 D8 Q z false hh8 g).mono (fun r h n ⟨cx,e1,e2,e3,e4,e5⟩ => ⟨by rw [e1,Option.some.inj ((e4 hgo).symm.trans hcg)],e2,e3⟩)) [(0,2),(1,3),(2,4),(3,5),(4,6),(5,7),(6,8)] (by simp [fok,nget,nback]; omega) (by simp [hmapOk,nget,hbR,hget,renB,okB,renV,renVs,rn,okVs,okV]) rfl rfl rfl rfl) (by simp [ales,ale,pvle,I.val])) ?_
   conv => cbv
   refine Br.yes (show cg = 0 from hcg0) ?_
   conv => cbv
   refine ReadF.mk (.p (.int .i64 (.sym c))) (fun h' n' hbR hnR => CallF.le (args0 := [.ptr 17 (.lit 0),i6 0]) (callF_read ((chX14_lx R3 ws8 vs3 C N W 0 0 0 0 0 0 L3 D8 Q z false false P3 B3 V3 Qr [] 0 M nc ng CS GS o 0 chs hcs hnc (by omega) (by omega)).mono (fun r h n ⟨⟨x,e1,hx⟩,e2,e3⟩ => ⟨by rw [e1,ix0 hx hc0],e2,e3⟩)) [(0,2),(1,3),(2,4),(3,5),(4,6),(5,7),(6,8),(7,9),(8,10),(9,11),(10,12),(11,13),(12,14),(13,15),(14,16),(15,0),(16,17),(17,18),(18,19)] (by simp [fok,nget,nback]; omega) (by simp [hmapOk,nget,hbR,hget,renB,okB,renV,renVs,rn,okVs,okV]) rfl rfl rfl rfl) (by simp [ales,ale,pvle,I.val])) ?_
   conv => cbv
   refine ReadF.mk (.p (.vsl (.sym 0) true [])) (fun h' n' hbR hnR => CallF.le (args0 := [.ptr 2 (.lit 0),i6 c,.p (.bool false)]) (callF_read (listAllW_lx R3 ws8 C [] N W 0 0 0 L3 D8 Q z false hh8 K8 hc8 (fun _ _ => []) hY8 c false 0 [] rfl rfl) [(0,2),(1,3),(2,4),(3,5),(4,6),(5,7),(6,8)] (by simp [fok,nget,nback]; omega) (by simp [hmapOk,nget,hbR,hget,renB,okB,renV,renVs,rn,okVs,okV]) rfl rfl rfl rfl) (by simp [ales,ale,pvle,I.val])) ?_
   conv => cbv
   refine Br.yes (show (0 : Int) = 0 from rfl) ?_
   conv => cbv
   refine RetF.mk [.p (.bool true)] [(0,.fix 0 o)] 1 (Re.at [(0,0)] []) rfl rfl
end Go.Proofs.YtmckfhnijeiklaaGreatDoor
