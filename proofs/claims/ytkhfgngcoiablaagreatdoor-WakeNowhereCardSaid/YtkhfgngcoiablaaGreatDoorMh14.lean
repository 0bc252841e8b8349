/-
  Layer 14: WakeNowhere.
-/
import Derived.Test.YtkhfgngcoiablaaGreatDoorBi
import Derived.Test.YtkhfgngcoiablaaGreatDoorBh
import Derived.Test.YtkhfgngcoiablaaGreatDoorBg
namespace Go.Proofs.YtkhfgngcoiablaaGreatDoor
open Go Go.LX
set_option maxRecDepth 100000
set_option linter.unusedVariables false
set_option linter.unusedSimpArgs false
set_option maxHeartbeats 32000000
theorem chA3 {chs : List Int} {nc : Int} (hn : nc = (chs.length : Int)) (h1 : nc = 3) : ∃ c d e,chs = [c,d,e] := by
 match chs with
 | [c,d,e] => exact ⟨c,d,e,rfl⟩
 | [] => simp at hn; omega
 | [_] => simp at hn; omega
 | [_,_] => simp at hn; omega
 | _ :: _ :: _ :: _ :: _ => simp at hn; omega
theorem nd_len : ∀ {l m : List Int},l.Nodup → (∀ a ∈ l,a ∈ m) → l.length ≤ m.length
 | [],m,_,_ => Nat.zero_le _
 | a :: l,m,hn,hs => by
  rw [List.nodup_cons] at hn
  have ha := hs a List.mem_cons_self
  have h1 := nd_len (l := l) (m := m.erase a) hn.2 (fun b hb => (List.mem_erase_of_ne (fun e => hn.1 (by rw [← e]; exact hb))).2 (hs b (List.mem_cons_of_mem _ hb)))
  rw [List.length_erase_of_mem ha] at h1
  have h2 := List.length_pos_of_mem ha
  rw [List.length_cons]
  omega
theorem Rows2.le {M : Hp} {q : Qs} {ch ch' : Nat → Int × Bool} {xs ys : List Int} (h : Rows2 q ch ch' xs ys) (hY : Sys M q) (c : Int) (d : Bool) : (q c d).length ≤ xs.length + ys.length := by
 rw [← List.length_append]
 exact nd_len (hY.nd c d) fun a ha => List.mem_append.2 (h.all c d a ha)
theorem listAllV_lx (R : List Rw) (ws C G : List Int) (N W ph sp cy : Int) (L D Q : List PV) (z : ByteArray) (ov : Bool) (h : HM R ws C G N W L D Q z) (M : Hp) (hM : Cont R ws M) (q : Qs) (hY : Sys M q) (a : Int) (d : Bool) (ml : Int) (cells : List PV) (hml : ml = (q a d).length) (hcel : cells = ipv (q a d)) : CallF (fun _ => Tryz.prog) 38 [.ptr 0 (.lit 0),i6 a,.p (.bool d)] [hpA 0 1 5 6 3 W ph sp cy,hpB 1 2 4 3 W,hpC 2 3 233 2 N,hpP 3 L,hpP 4 D,hpF 5 z ov,hpP 6 Q] 7 (fun r h n => r = .p (.vsl (.sym ml) true cells) ∧ h = [hpA 0 1 5 6 3 W ph sp cy,hpB 1 2 4 3 W,hpC 2 3 233 2 N,hpP 3 L,hpP 4 D,hpF 5 z ov,hpP 6 Q] ∧ n = 7) := by
 refine CallF.ret (listAll_lx R ws C G N W ph sp cy L D Q z ov h M hM q hY a d (hch9 hY a) (hsu7 hY)) (fun r h' n' hrr => ?_)
 obtain ⟨ml2,cells2,e1,e2,e3,hml2,hcel2⟩ := hrr
 subst e1 e2 e3
 obtain rfl : ml2 = ml := hml2.trans hml.symm
 obtain rfl : cells2 = cells := hcel2.trans hcel.symm
 exact RetF.mk [.p (.vsl (.sym ml2) true cells2)] [hpA 0 1 5 6 3 W ph sp cy,hpB 1 2 4 3 W,hpC 2 3 233 2 N,hpP 3 L,hpP 4 D,hpF 5 z ov,hpP 6 Q] 7 (Re.at [(0,0),(1,1),(2,2),(3,3),(4,4),(5,5),(6,6)] []) rfl ⟨rfl,rfl,rfl⟩
theorem wakeNowhere_law (o : Unit → Obj) (ho : IsPow o) (n : Int) (sends : List Bool) (ms which : Int) (SL : List PV) (hSL : SL = sends.map PV.bool) (hms : ms = sends.length) : CallF (fun _ => Tryz.prog) 7 [i6 n,.p (.vsl (.sym ms) true SL),i6 which] [(0,.fix 0 o)] 1 (fun r _ _ => r = .p (.bool true)) := by
 refine callF_of_body tok Tryz.func7 (by kernel_rfl) rfl rfl rfl ?_; conv => cbv
 refine Fit.wrap fun xn hxn => ?_
 have hxn : xn = IntKind.u64.wrap n := hxn
 have hyn : 0 ≤ xn := by rw [hxn]; simp [IntKind.wrap,IntKind.bits,IntKind.signed]; omega
 clear hxn
 conv => cbv
 refine Sum.mk fun tn htn => ?_
 have htn : tn = xn % 5 := (show tn = xn.tmod 5 from htn).trans (Int.tmod_eq_emod_of_nonneg hyn)
 conv => cbv
 refine fO (tn) fun u hu => ?_
 have hu : u = tn := hu
 have hu0 : 0 ≤ u := by omega
 have hu1 : u < 5 := by omega
 clear hu htn hyn
 conv => cbv
 refine fO (1 + u) fun n1 hn1' => ?_
 have hn1' : n1 = 1 + u := hn1'
 conv => cbv
 refine CallF.re (args0 := [.p (.vsl (.sym 3) true [.int .i64 (.sym 0),.int .i64 (.sym 0),.int .i64 (.sym 0)]),i6 n1]) (h' := [(0,.fix 0 o)]) (Re.at [(0,0)] []) (cfr (made14_lx o ho [0,0,0] 3 n1 [.int .i64 (.sym 0),.int .i64 (.sym 0),.int .i64 (.sym 0)] rfl rfl) [(0,0)] (fun r h' n' hrr => ?_))
 obtain ⟨N,W,C,R,ws,vs,L,D,Q,z,P,B,V,Qr,M,CS,GS,chs,bufs,grs,nc,ng,e1,e2,e3,S,hB,hY,hcs,hgs,hnc,hng,hnm,hnx1,hn4,hngo,hcnt,hR,hW⟩ := hrr
 subst e1 e2 e3
 conv => cbv
 refine cfr (awake14_lx o ho) [(0,0)] (fun r h' n' ⟨e1,e2,e3⟩ => ?_)
 subst e1 e2 e3
 conv => cbv
 have hnc3 : nc = 3 := by omega
 obtain ⟨c0,c1,c2,hcc⟩ := chA3 hnc hnc3
 have hngb := ngor_bd n1
 have hng1 : 1 ≤ ng ∧ ng ≤ 6 := by omega
 obtain ⟨hcnt0,hR0⟩ : (objCount R : Int) ≤ 12 ∧ R.length = 60 := ⟨by omega,hR⟩
 obtain ⟨cc,hcc2⟩ : ∃ cc : Nat → Int,∀ j,cc j = (chs[j % 3]?).getD 0 := ⟨_,fun _ => rfl⟩
 have hccj : ∀ j,chs[j % 3]? = some (cc j) := fun j => by
  rw [hcc2,hcc]
  rcases (by omega : j % 3 = 0 ∨ j % 3 = 1 ∨ j % 3 = 2) with e | e | e <;> rw [e] <;> rfl
 obtain ⟨sd,hsd⟩ : ∃ sd : Nat → Bool,∀ j,sd j = (sends[j]?).getD false := ⟨_,fun _ => rfl⟩
 obtain ⟨ch,hch⟩ : ∃ ch : Nat → Int × Bool,∀ j,ch j = (cc j,sd j) := ⟨_,fun _ => rfl⟩
 obtain ⟨ch',hch'⟩ : ∃ ch : Nat → Int × Bool,∀ j,ch j = (cc (j + 1),!sd j) := ⟨_,fun _ => rfl⟩
 obtain ⟨vv,hvv⟩ : ∃ vv : Nat → Int,∀ j,vv j = 2 * (j : Int) := ⟨_,fun _ => rfl⟩
 obtain ⟨tq,htq⟩ : ∃ tq : Nat → Int,∀ j,tq j = 10 * (j : Int) := ⟨_,fun _ => rfl⟩
 have hK0 : ∀ e,e ∈ chs → ∃ F,M e = some (1,F) := fun e he => by
  obtain ⟨j,hj⟩ := List.getElem?_of_mem he
  have hjl := (List.getElem?_eq_some_iff.1 hj).1
  have h3 : chs.length = 3 := by rw [hcc]; rfl
  obtain ⟨bb,_,hb⟩ := hB.ch j e 0 hj (by
   rcases (by omega : j = 0 ∨ j = 1 ∨ j = 2) with q | q | q <;> subst q <;> rfl)
  exact ⟨_,hb.c⟩
 have hW0 : Wt2 M ch ch' vv tq grs [] [] 0 := Wt2.nil (fun j g h => hB.gr j g h) hB.gnd
 have hRw0 : Rows2 (fun _ _ => []) ch ch' [] [] := Rows2.nil
 have S2 : Bs2 R ws vs C N W 0 L D Q z P B V Qr [] 0 (relink M (fun _ _ => [])) (relink M (fun _ _ => [])) := by rw [hY.ln]; exact S.two
 have hY2 : Sys (relink M (fun _ _ => [])) (fun _ _ => []) := by rw [hY.ln]; exact hY
 have hgnd := hB.gnd
 have hcnd := hB.nd
 refine LoopF.mk (fun kk s => ∃ (i : Int) (R : List Rw) (ws vs : List Int) (L D P B V : List PV) (K : Hp) (q : Qs) (xs ys : List Int),s = ⟨.p (.int .i64 (.sym n1)) :: .p (.vsl (.sym ms) true SL) :: .p (.int .i64 (.sym which)) :: (undefs 4 ++ .ptr 17 (.lit 0) :: .p (.int .i64 (.sym i)) :: undefs 281),[hpA 2 3 7 8 3 W 0 0 0,hpB 3 4 6 3 W,hpC 4 5 233 2 N,hpP 5 L,hpP 6 D,hpF 7 z false,hpP 8 Q,hpR 9 10 15 3 W 16 0 0 0,hpB 10 11 14 3 W,hpD 11 12 3 1 N 13 231 8 N,hpP 12 P,hpP 13 B,hpP 14 V,hpP 15 Qr,(16,.mix [.p (.vsl (.sym 0) true []),.p (.bool false)]),(0,.fix 0 o),(17,.mix [.ptr 2 (.lit 0),.ptr 9 (.lit 0),.sl 18 3 1 (.lit 0) (.sym nc),.sl 19 3 1 (.lit 0) (.sym ng)]),hpP 18 CS,hpP 19 GS],20⟩ ∧ 0 ≤ i ∧ i ≤ ng ∧ i = xs.length ∧ kk = (ng - i).toNat ∧ Bs2 R ws vs C N W 0 L D Q z P B V Qr [] 0 (relink K q) (relink K q) ∧ Sys (relink K q) q ∧ Wt2 K ch ch' vv tq grs xs ys 0 ∧ Rows2 q ch ch' xs ys ∧ (∀ e,e ∈ chs → ∃ F,K e = some (1,F)) ∧ (objCount R : Int) ≤ 12 + 2 * i ∧ R.length = 60) ng.toNat _
  (Re.at [(0,0),(2,2),(3,3),(4,4),(5,5),(6,6),(7,7),(8,8),(9,9),(10,10),(11,11),(12,12),(13,13),(14,14),(15,15),(16,16),(17,17),(18,18),(19,19)] []) ⟨0,R,ws,vs,L,D,P,B,V,M,(fun _ _ => []),[],[],rfl,by omega,by omega,rfl,by omega,S2,hY2,hW0,hRw0,hK0,by omega,hR0⟩ ?_
 clear S S2 hY hY2 hB hW0 hRw0 hK0 hcnt hcnt0 hR hR0
 rintro kk s ⟨i,R,ws,vs,L,D,P,B,V,K,q,xs,ys,rfl,hi0,hi1,hix,hkk,S1,hY1,hW1,hRw,hKch,hcnt,hR⟩
 have hkk : kk = (ng - i).toNat := hkk
 have hix : i = (xs.length : Int) := hix
 conv => cbv
 refine Br.mk (fun gi => ?_) (fun gi => ?_)
 ·have gi : i < ng := gi
  obtain ⟨g,hg⟩ : ∃ a,grs[xs.length]? = some a := ⟨_,List.getElem?_eq_getElem (by omega)⟩
  have hcellg : GS[i.toNat]? = some (.int .i64 (.sym g)) := by rw [hgs,show i.toNat = xs.length by omega]; exact ipv_get hg
  have hKg : K g = some (4,[i,0,0,0,0,0,0,0,0,-1]) := by rw [hix]; exact hW1.gr _ _ (Nat.le_refl _) hg
  have hxi : xs.length = i.toNat := by omega
  obtain ⟨ca,hca⟩ : ∃ ca,ca = cc i.toNat := ⟨_,rfl⟩
  obtain ⟨cb,hcb⟩ : ∃ cb,cb = cc (i.toNat + 1) := ⟨_,rfl⟩
  have hcA : chs[i.toNat % 3]? = some ca := by rw [hca]; exact hccj _
  have hcB : chs[(i.toNat + 1) % 3]? = some cb := by rw [hcb]; exact hccj _
  obtain ⟨FA,hKA⟩ := hKch ca (List.mem_of_getElem? hcA)
  obtain ⟨FB,hKB⟩ := hKch cb (List.mem_of_getElem? hcB)
  conv => cbv
  refine Br.mk (fun gs => ?_) (fun gs => ?_)
  ·have gs : i < ms := gs
   obtain ⟨sv,hsv⟩ : ∃ b,sends[i.toNat]? = some b := ⟨_,List.getElem?_eq_getElem (by omega)⟩
   have hcs2 : SL[i.toNat]? = some (.bool sv) := by rw [hSL,List.getElem?_map,hsv]; rfl
   have hsdi : sd i.toNat = sv := by rw [hsd,hsv]; rfl
   conv => cbv
   refine Need.mk (show 0 ≤ i ∧ i < ms by omega) ?_
   conv => cbv
   refine Cell.at i _ hcs2 (by simp [I.val]) rfl ?_
   cases sv with
   | true =>
    conv => cbv
    refine readF_sound tok (by kernel_rfl) [0,2,3,4,5,6,7,8,9,10,11,12,13,14,15,16,17,18,19] [25,29] [(34,[])] [0,1,2,3,4,5,6,7,8,9,10,11,12,13,14,15,16,17,18,19,20,21,22,23,24,25,26,27,28,29,30,31,32,33,34,35] (by kernel_rfl) ?_
    conv => cbv
    refine Need.mk (show 0 ≤ i ∧ i < ng by omega) ?_
    conv => cbv
    refine Cell.at i _ hcellg (by simp [I.val]) rfl ?_
    conv => cbv
    refine Sum.mk fun r3 hr3 => ?_
    have hr3 : r3 = i % 3 := (show r3 = i.tmod 3 from hr3).trans (Int.tmod_eq_emod_of_nonneg hi0)
    have hcellA : CS[r3.toNat]? = some (.int .i64 (.sym ca)) := by rw [hcs,show r3.toNat = i.toNat % 3 by omega]; exact ipv_get hcA
    conv => cbv
    refine Need.mk (show 0 ≤ r3 ∧ r3 < nc by omega) ?_
    conv => cbv
    refine Cell.at r3 _ hcellA (by simp [I.val]) rfl ?_
    conv => cbv
    refine fO (i + 1) fun j1 hj1 => ?_
    have hj1 : j1 = i + 1 := hj1
    conv => cbv
    refine Sum.mk fun r4 hr4 => ?_
    have hr4 : r4 = j1 % 3 := (show r4 = j1.tmod 3 from hr4).trans (Int.tmod_eq_emod_of_nonneg (by omega))
    have hcellB : CS[r4.toNat]? = some (.int .i64 (.sym cb)) := by rw [hcs,show r4.toNat = (i.toNat + 1) % 3 by omega]; exact ipv_get hcB
    conv => cbv
    refine Need.mk (show 0 ≤ r4 ∧ r4 < nc by omega) ?_
    conv => cbv
    refine Cell.at r4 _ hcellB (by simp [I.val]) rfl ?_
    conv => cbv
    refine fO (2 * i) fun v2 hv2 => ?_
    have hv2 : v2 = 2 * i := hv2
    conv => cbv
    refine fO (10 * i) fun t2 ht2 => ?_
    have ht2 : t2 = 10 * i := ht2
    conv => cbv
    refine CallF.re (args0 := [.ptr 17 (.lit 0),i6 g,.p (.vsl (.sym 2) true [.int .i64 (.sym ca),.int .i64 (.sym cb)]),.p (.vsl (.sym 2) true [.bool true,.bool false]),i6 v2,i6 t2]) (h' := [(0,.fix 0 o),hpA 2 3 7 8 3 W 0 0 0,hpB 3 4 6 3 W,hpC 4 5 233 2 N,hpP 5 L,hpP 6 D,hpF 7 z false,hpP 8 Q,hpR 9 10 15 3 W 16 0 0 0,hpB 10 11 14 3 W,hpD 11 12 3 1 N 13 231 8 N,hpP 12 P,hpP 13 B,hpP 14 V,hpP 15 Qr,(16,.mix [.p (.vsl (.sym 0) true []),.p (.bool false)]),(0,.fix 0 o),(17,.mix [.ptr 2 (.lit 0),.ptr 9 (.lit 0),.sl 18 3 1 (.lit 0) (.sym nc),.sl 19 3 1 (.lit 0) (.sym ng)]),hpP 18 CS,hpP 19 GS]) (Re.at [(0,0),(2,2),(3,3),(4,4),(5,5),(6,6),(7,7),(8,8),(9,9),(10,10),(11,11),(12,12),(13,13),(14,14),(15,15),(16,16),(17,17),(18,18),(19,19)] []) (cfr (wait14_lx R ws vs C N W 0 0 0 L D Q z false P B V Qr [] 0 K K q nc ng CS GS o S1 ho hY1 hY1 g v2 t2 i 0 0 0 0 0 0 0 0 (-1) hKg hKg rfl [(ca,true),(cb,false)] (by simp [hKA,hKB]) (by simp) (by simp; omega) (by omega) (by simp; omega) 2 rfl [.int .i64 (.sym ca),.int .i64 (.sym cb)] [.bool true,.bool false] rfl rfl) iZ5 (fun r h' n' hrr => ?_))
    obtain ⟨us,R3,ws3,vs3,L3,D3,P3,B3,V3,e1,e2,e3,S3,hY3,hY4,hxl,hxn,hxK,hk3,hl3⟩ := hrr
    subst e1 e2 e3
    conv => cbv
    obtain ⟨x,y,rfl⟩ : ∃ x y,us = [x,y] := by
     match us,hxl with
     | [x,y],_ => exact ⟨x,y,rfl⟩
    obtain ⟨hKx,_⟩ := hxK x (by simp)
    obtain ⟨hKy,_⟩ := hxK y (by simp)
    have hxy : x ≠ y := by simpa using hxn
    have hchi : ch xs.length = (ca,true) := by rw [hxi,hch,← hca,hsdi]
    have hchi' : ch' xs.length = (cb,false) := by rw [hxi,hch',← hcb,hsdi]; rfl
    have hWn := hW1.add (v := v2) (i := t2) (n := i) (c := ca) (d := true) (c' := cb) (d' := false) hg hKx hKy hxy (by rw [hvv,hv2,hix]) (by rw [htq,ht2,hix]) hix hchi hchi'
    have hRn := hRw.add hW1.ln (x := x) (y := y) hchi hchi'
    have hKn : ∀ e,e ∈ chs → ∃ F,waitB g v2 t2 [(ca,true),(cb,false)] [x,y] [i,1,0,0,0,0,0,0,0,hdQ [x,y]] K e = some (1,F) := fun e he => by
     obtain ⟨F,hF⟩ := hKch e he
     refine ⟨F,(waitB_ne (fun q => by rw [q,hKg] at hF; cases hF) ?_).trans hF⟩
     simp
     exact ⟨fun q => (by rw [q,hKx] at hF; cases hF),fun q => (by rw [q,hKy] at hF; cases hF)⟩
    generalize waitB g v2 t2 [(ca,true),(cb,false)] [x,y] [i,1,0,0,0,0,0,0,0,hdQ [x,y]] K = K3 at hWn hKn S3 hY3
    generalize addQ [(ca,true),(cb,false)] [x,y] q = q3 at hRn S3 hY3
    refine fO (i + 1) fun i2 hi2 => ?_
    have hi2 : i2 = i + 1 := hi2
    conv => cbv
    refine Again.mk (ng - i2).toNat _ (by omega) (Re.at [(0,0),(2,2),(3,3),(4,4),(5,5),(6,6),(7,7),(8,8),(9,9),(10,10),(11,11),(12,12),(13,13),(14,14),(15,15),(16,16),(17,17),(18,18),(19,19)] []) ⟨i2,R3,ws3,vs3,L3,D3,P3,B3,V3,K3,q3,xs ++ [x],ys ++ [y],rfl,by omega,by omega,by rw [List.length_append,List.length_singleton]; show i2 = ((xs.length + 1 : Nat) : Int); omega,rfl,S3,hY3,hWn,hRn,hKn,(show (objCount R3 : Int) ≤ 12 + 2 * i2 by simp at hk3; omega),hl3.trans hR⟩
   | false =>
    conv => cbv
    refine readF_sound tok (by kernel_rfl) [0,2,3,4,5,6,7,8,9,10,11,12,13,14,15,16,17,18,19] [25,29] [(34,[])] [0,1,2,3,4,5,6,7,8,9,10,11,12,13,14,15,16,17,18,19,20,21,22,23,24,25,26,27,28,29,30,31,32,33,34,35] (by kernel_rfl) ?_
    conv => cbv
    refine Need.mk (show 0 ≤ i ∧ i < ng by omega) ?_
    conv => cbv
    refine Cell.at i _ hcellg (by simp [I.val]) rfl ?_
    conv => cbv
    refine Sum.mk fun r3 hr3 => ?_
    have hr3 : r3 = i % 3 := (show r3 = i.tmod 3 from hr3).trans (Int.tmod_eq_emod_of_nonneg hi0)
    have hcellA : CS[r3.toNat]? = some (.int .i64 (.sym ca)) := by rw [hcs,show r3.toNat = i.toNat % 3 by omega]; exact ipv_get hcA
    conv => cbv
    refine Need.mk (show 0 ≤ r3 ∧ r3 < nc by omega) ?_
    conv => cbv
    refine Cell.at r3 _ hcellA (by simp [I.val]) rfl ?_
    conv => cbv
    refine fO (i + 1) fun j1 hj1 => ?_
    have hj1 : j1 = i + 1 := hj1
    conv => cbv
    refine Sum.mk fun r4 hr4 => ?_
    have hr4 : r4 = j1 % 3 := (show r4 = j1.tmod 3 from hr4).trans (Int.tmod_eq_emod_of_nonneg (by omega))
    have hcellB : CS[r4.toNat]? = some (.int .i64 (.sym cb)) := by rw [hcs,show r4.toNat = (i.toNat + 1) % 3 by omega]; exact ipv_get hcB
    conv => cbv
    refine Need.mk (show 0 ≤ r4 ∧ r4 < nc by omega) ?_
    conv => cbv
    refine Cell.at r4 _ hcellB (by simp [I.val]) rfl ?_
    conv => cbv
    refine fO (2 * i) fun v2 hv2 => ?_
    have hv2 : v2 = 2 * i := hv2
    conv => cbv
    refine fO (10 * i) fun t2 ht2 => ?_
    have ht2 : t2 = 10 * i := ht2
    conv => cbv
    refine CallF.re (args0 := [.ptr 17 (.lit 0),i6 g,.p (.vsl (.sym 2) true [.int .i64 (.sym ca),.int .i64 (.sym cb)]),.p (.vsl (.sym 2) true [.bool false,.bool true]),i6 v2,i6 t2]) (h' := [(0,.fix 0 o),hpA 2 3 7 8 3 W 0 0 0,hpB 3 4 6 3 W,hpC 4 5 233 2 N,hpP 5 L,hpP 6 D,hpF 7 z false,hpP 8 Q,hpR 9 10 15 3 W 16 0 0 0,hpB 10 11 14 3 W,hpD 11 12 3 1 N 13 231 8 N,hpP 12 P,hpP 13 B,hpP 14 V,hpP 15 Qr,(16,.mix [.p (.vsl (.sym 0) true []),.p (.bool false)]),(0,.fix 0 o),(17,.mix [.ptr 2 (.lit 0),.ptr 9 (.lit 0),.sl 18 3 1 (.lit 0) (.sym nc),.sl 19 3 1 (.lit 0) (.sym ng)]),hpP 18 CS,hpP 19 GS]) (Re.at [(0,0),(2,2),(3,3),(4,4),(5,5),(6,6),(7,7),(8,8),(9,9),(10,10),(11,11),(12,12),(13,13),(14,14),(15,15),(16,16),(17,17),(18,18),(19,19)] []) (cfr (wait14_lx R ws vs C N W 0 0 0 L D Q z false P B V Qr [] 0 K K q nc ng CS GS o S1 ho hY1 hY1 g v2 t2 i 0 0 0 0 0 0 0 0 (-1) hKg hKg rfl [(ca,false),(cb,true)] (by simp [hKA,hKB]) (by simp) (by simp; omega) (by omega) (by simp; omega) 2 rfl [.int .i64 (.sym ca),.int .i64 (.sym cb)] [.bool false,.bool true] rfl rfl) iZ5 (fun r h' n' hrr => ?_))
    obtain ⟨us,R3,ws3,vs3,L3,D3,P3,B3,V3,e1,e2,e3,S3,hY3,hY4,hxl,hxn,hxK,hk3,hl3⟩ := hrr
    subst e1 e2 e3
    conv => cbv
    obtain ⟨x,y,rfl⟩ : ∃ x y,us = [x,y] := by
     match us,hxl with
     | [x,y],_ => exact ⟨x,y,rfl⟩
    obtain ⟨hKx,_⟩ := hxK x (by simp)
    obtain ⟨hKy,_⟩ := hxK y (by simp)
    have hxy : x ≠ y := by simpa using hxn
    have hchi : ch xs.length = (ca,false) := by rw [hxi,hch,← hca,hsdi]
    have hchi' : ch' xs.length = (cb,true) := by rw [hxi,hch',← hcb,hsdi]; rfl
    have hWn := hW1.add (v := v2) (i := t2) (n := i) (c := ca) (d := false) (c' := cb) (d' := true) hg hKx hKy hxy (by rw [hvv,hv2,hix]) (by rw [htq,ht2,hix]) hix hchi hchi'
    have hRn := hRw.add hW1.ln (x := x) (y := y) hchi hchi'
    have hKn : ∀ e,e ∈ chs → ∃ F,waitB g v2 t2 [(ca,false),(cb,true)] [x,y] [i,1,0,0,0,0,0,0,0,hdQ [x,y]] K e = some (1,F) := fun e he => by
     obtain ⟨F,hF⟩ := hKch e he
     refine ⟨F,(waitB_ne (fun q => by rw [q,hKg] at hF; cases hF) ?_).trans hF⟩
     simp
     exact ⟨fun q => (by rw [q,hKx] at hF; cases hF),fun q => (by rw [q,hKy] at hF; cases hF)⟩
    generalize waitB g v2 t2 [(ca,false),(cb,true)] [x,y] [i,1,0,0,0,0,0,0,0,hdQ [x,y]] K = K3 at hWn hKn S3 hY3
    generalize addQ [(ca,false),(cb,true)] [x,y] q = q3 at hRn S3 hY3
    refine fO (i + 1) fun i2 hi2 => ?_
    have hi2 : i2 = i + 1 := hi2
    conv => cbv
    refine Again.mk (ng - i2).toNat _ (by omega) (Re.at [(0,0),(2,2),(3,3),(4,4),(5,5),(6,6),(7,7),(8,8),(9,9),(10,10),(11,11),(12,12),(13,13),(14,14),(15,15),(16,16),(17,17),(18,18),(19,19)] []) ⟨i2,R3,ws3,vs3,L3,D3,P3,B3,V3,K3,q3,xs ++ [x],ys ++ [y],rfl,by omega,by omega,by rw [List.length_append,List.length_singleton]; show i2 = ((xs.length + 1 : Nat) : Int); omega,rfl,S3,hY3,hWn,hRn,hKn,(show (objCount R3 : Int) ≤ 12 + 2 * i2 by simp at hk3; omega),hl3.trans hR⟩
  ·have gs : ¬ i < ms := gs
   have hsdi : sd i.toNat = false := by rw [hsd,List.getElem?_eq_none (by omega)]; rfl
   conv => cbv
   refine readF_sound tok (by kernel_rfl) [0,2,3,4,5,6,7,8,9,10,11,12,13,14,15,16,17,18,19] [25,29] [(34,[])] [0,1,2,3,4,5,6,7,8,9,10,11,12,13,14,15,16,17,18,19,20,21,22,23,24,25,26,27,28,29,30,31,32,33,34,35] (by kernel_rfl) ?_
   conv => cbv
   refine Need.mk (show 0 ≤ i ∧ i < ng by omega) ?_
   conv => cbv
   refine Cell.at i _ hcellg (by simp [I.val]) rfl ?_
   conv => cbv
   refine Sum.mk fun r3 hr3 => ?_
   have hr3 : r3 = i % 3 := (show r3 = i.tmod 3 from hr3).trans (Int.tmod_eq_emod_of_nonneg hi0)
   have hcellA : CS[r3.toNat]? = some (.int .i64 (.sym ca)) := by rw [hcs,show r3.toNat = i.toNat % 3 by omega]; exact ipv_get hcA
   conv => cbv
   refine Need.mk (show 0 ≤ r3 ∧ r3 < nc by omega) ?_
   conv => cbv
   refine Cell.at r3 _ hcellA (by simp [I.val]) rfl ?_
   conv => cbv
   refine fO (i + 1) fun j1 hj1 => ?_
   have hj1 : j1 = i + 1 := hj1
   conv => cbv
   refine Sum.mk fun r4 hr4 => ?_
   have hr4 : r4 = j1 % 3 := (show r4 = j1.tmod 3 from hr4).trans (Int.tmod_eq_emod_of_nonneg (by omega))
   have hcellB : CS[r4.toNat]? = some (.int .i64 (.sym cb)) := by rw [hcs,show r4.toNat = (i.toNat + 1) % 3 by omega]; exact ipv_get hcB
   conv => cbv
   refine Need.mk (show 0 ≤ r4 ∧ r4 < nc by omega) ?_
   conv => cbv
   refine Cell.at r4 _ hcellB (by simp [I.val]) rfl ?_
   conv => cbv
   refine fO (2 * i) fun v2 hv2 => ?_
   have hv2 : v2 = 2 * i := hv2
   conv => cbv
   refine fO (10 * i) fun t2 ht2 => ?_
   have ht2 : t2 = 10 * i := ht2
   conv => cbv
   refine CallF.re (args0 := [.ptr 17 (.lit 0),i6 g,.p (.vsl (.sym 2) true [.int .i64 (.sym ca),.int .i64 (.sym cb)]),.p (.vsl (.sym 2) true [.bool false,.bool true]),i6 v2,i6 t2]) (h' := [(0,.fix 0 o),hpA 2 3 7 8 3 W 0 0 0,hpB 3 4 6 3 W,hpC 4 5 233 2 N,hpP 5 L,hpP 6 D,hpF 7 z false,hpP 8 Q,hpR 9 10 15 3 W 16 0 0 0,hpB 10 11 14 3 W,hpD 11 12 3 1 N 13 231 8 N,hpP 12 P,hpP 13 B,hpP 14 V,hpP 15 Qr,(16,.mix [.p (.vsl (.sym 0) true []),.p (.bool false)]),(0,.fix 0 o),(17,.mix [.ptr 2 (.lit 0),.ptr 9 (.lit 0),.sl 18 3 1 (.lit 0) (.sym nc),.sl 19 3 1 (.lit 0) (.sym ng)]),hpP 18 CS,hpP 19 GS]) (Re.at [(0,0),(2,2),(3,3),(4,4),(5,5),(6,6),(7,7),(8,8),(9,9),(10,10),(11,11),(12,12),(13,13),(14,14),(15,15),(16,16),(17,17),(18,18),(19,19)] []) (cfr (wait14_lx R ws vs C N W 0 0 0 L D Q z false P B V Qr [] 0 K K q nc ng CS GS o S1 ho hY1 hY1 g v2 t2 i 0 0 0 0 0 0 0 0 (-1) hKg hKg rfl [(ca,false),(cb,true)] (by simp [hKA,hKB]) (by simp) (by simp; omega) (by omega) (by simp; omega) 2 rfl [.int .i64 (.sym ca),.int .i64 (.sym cb)] [.bool false,.bool true] rfl rfl) iZ5 (fun r h' n' hrr => ?_))
   obtain ⟨us,R3,ws3,vs3,L3,D3,P3,B3,V3,e1,e2,e3,S3,hY3,hY4,hxl,hxn,hxK,hk3,hl3⟩ := hrr
   subst e1 e2 e3
   conv => cbv
   obtain ⟨x,y,rfl⟩ : ∃ x y,us = [x,y] := by
    match us,hxl with
    | [x,y],_ => exact ⟨x,y,rfl⟩
   obtain ⟨hKx,_⟩ := hxK x (by simp)
   obtain ⟨hKy,_⟩ := hxK y (by simp)
   have hxy : x ≠ y := by simpa using hxn
   have hchi : ch xs.length = (ca,false) := by rw [hxi,hch,← hca,hsdi]
   have hchi' : ch' xs.length = (cb,true) := by rw [hxi,hch',← hcb,hsdi]; rfl
   have hWn := hW1.add (v := v2) (i := t2) (n := i) (c := ca) (d := false) (c' := cb) (d' := true) hg hKx hKy hxy (by rw [hvv,hv2,hix]) (by rw [htq,ht2,hix]) hix hchi hchi'
   have hRn := hRw.add hW1.ln (x := x) (y := y) hchi hchi'
   have hKn : ∀ e,e ∈ chs → ∃ F,waitB g v2 t2 [(ca,false),(cb,true)] [x,y] [i,1,0,0,0,0,0,0,0,hdQ [x,y]] K e = some (1,F) := fun e he => by
    obtain ⟨F,hF⟩ := hKch e he
    refine ⟨F,(waitB_ne (fun q => by rw [q,hKg] at hF; cases hF) ?_).trans hF⟩
    simp
    exact ⟨fun q => (by rw [q,hKx] at hF; cases hF),fun q => (by rw [q,hKy] at hF; cases hF)⟩
   generalize waitB g v2 t2 [(ca,false),(cb,true)] [x,y] [i,1,0,0,0,0,0,0,0,hdQ [x,y]] K = K3 at hWn hKn S3 hY3
   generalize addQ [(ca,false),(cb,true)] [x,y] q = q3 at hRn S3 hY3
   refine fO (i + 1) fun i2 hi2 => ?_
   have hi2 : i2 = i + 1 := hi2
   conv => cbv
   refine Again.mk (ng - i2).toNat _ (by omega) (Re.at [(0,0),(2,2),(3,3),(4,4),(5,5),(6,6),(7,7),(8,8),(9,9),(10,10),(11,11),(12,12),(13,13),(14,14),(15,15),(16,16),(17,17),(18,18),(19,19)] []) ⟨i2,R3,ws3,vs3,L3,D3,P3,B3,V3,K3,q3,xs ++ [x],ys ++ [y],rfl,by omega,by omega,by rw [List.length_append,List.length_singleton]; show i2 = ((xs.length + 1 : Nat) : Int); omega,rfl,S3,hY3,hWn,hRn,hKn,(show (objCount R3 : Int) ≤ 12 + 2 * i2 by simp at hk3; omega),hl3.trans hR⟩
 ·have gi : ¬ i < ng := gi
  conv => cbv
  obtain rfl : ng = i := by omega
  have hh := S1.h
  have hc := S1.c
  clear hkk gi
  refine Fit.wrap fun xn2 hxn2 => ?_
  have hxn2 : xn2 = IntKind.u64.wrap which := hxn2
  have hyn2 : 0 ≤ xn2 := by rw [hxn2]; simp [IntKind.wrap,IntKind.bits,IntKind.signed]; omega
  clear hxn2
  conv => cbv
  refine Fit.mk (by show (0 : Int) ≤ ng; omega) (by show ng ≤ 18446744073709551615; omega) fun ng2 hng2 => ?_
  have hng2 : ng2 = ng := hng2
  conv => cbv
  refine Need.mk (show ¬ ng2 = 0 by omega) ?_
  conv => cbv
  refine Sum.mk fun tn2 htn2 => ?_
  have htn2 : tn2 = xn2 % ng := (show tn2 = xn2.tmod ng2 from htn2).trans (by rw [hng2,Int.tmod_eq_emod_of_nonneg hyn2])
  have hk0 : 0 ≤ tn2 := by rw [htn2]; exact Int.emod_nonneg _ (by omega)
  have hk1 : tn2 < ng := by rw [htn2]; exact Int.emod_lt_of_pos _ (by omega)
  clear htn2
  conv => cbv
  refine fO (tn2) fun k hk => ?_
  have hk : k = tn2 := hk
  obtain ⟨g,hg⟩ : ∃ a,grs[k.toNat]? = some a := ⟨_,List.getElem?_eq_getElem (by omega)⟩
  have hcellg : GS[k.toNat]? = some (.int .i64 (.sym g)) := by rw [hgs]; exact ipv_get hg
  have hkn : ((k.toNat : Nat) : Int) = k := by omega
  obtain ⟨x,hx,hKg⟩ := hW1.gw k.toNat g (Nat.zero_le _) (by omega) hg
  obtain ⟨y,hy⟩ : ∃ y,ys[k.toNat]? = some y := ⟨_,List.getElem?_eq_getElem (by rw [hW1.ln]; omega)⟩
  obtain ⟨g',hg',hKx,hKy⟩ := hW1.su k.toNat x y (Nat.zero_le _) hx hy
  obtain rfl : g = g' := Option.some.inj (hg.symm.trans hg')
  rw [hkn] at hKg
  have hMg := relink_other (q := q) hKg ⟨by decide,by decide⟩
  conv => cbv
  refine read_sound tok (by kernel_rfl) [0,2,3,4,5,6,7,8,9,10,11,12,13,14,15,16,17,18,19] [11] [(15,[14,13,12,11,10,9,8,7,6,5,4,3,2,1,0]),(16,[14])] [0,1,2,3,4,5,6,7,8,9,10,11,12,13,14,15,16,17] (by kernel_rfl) ?_
  conv => cbv
  refine Need.mk (show 0 ≤ k ∧ k < ng by omega) ?_
  conv => cbv
  refine Cell.at k _ hcellg (by simp [I.val]) rfl ?_
  conv => cbv
  refine ReadF.mk (.tup [.agg [i6 k,i6 1,i6 0,i6 0,i6 0,i6 0,i6 0,i6 0,i6 0,i6 x],i6 0]) (fun h' n' hbR hnR => clE (args0 := [.ptr 2 (.lit 0),i6 g]) (callF_read ((gorM_lx R ws C [] N W 0 0 0 L D Q z false hh (relink K q) hc g k 1 0 0 0 0 0 0 0 x hMg).mono (fun r h n ⟨⟨e,e1,he⟩,e2,e3⟩ => ⟨by rw [e1,he],e2,e3⟩)) [(0,2),(1,3),(2,4),(3,5),(4,6),(5,7),(6,8)] (by simp [fok,nget,nback]; omega) (by simp [hmapOk,nget,hbR,hget,renB,okB,renV,renVs,rn,okVs,okV]) rfl rfl rfl rfl)) ?_
  conv => cbv
  refine LoopF.rounds 4 ?_
  conv => cbv
  obtain ⟨mT0,hmT0⟩ : ∃ m : Int,m = (q c0 true).length := ⟨_,rfl⟩
  obtain ⟨mF0,hmF0⟩ : ∃ m : Int,m = (q c0 false).length := ⟨_,rfl⟩
  obtain ⟨LT0,hLT0⟩ : ∃ l,l = ipv (q c0 true) := ⟨_,rfl⟩
  obtain ⟨LF0,hLF0⟩ : ∃ l,l = ipv (q c0 false) := ⟨_,rfl⟩
  have hlT0 := hRw.le hY1 c0 true
  have hlF0 := hRw.le hY1 c0 false
  obtain ⟨mT1,hmT1⟩ : ∃ m : Int,m = (q c1 true).length := ⟨_,rfl⟩
  obtain ⟨mF1,hmF1⟩ : ∃ m : Int,m = (q c1 false).length := ⟨_,rfl⟩
  obtain ⟨LT1,hLT1⟩ : ∃ l,l = ipv (q c1 true) := ⟨_,rfl⟩
  obtain ⟨LF1,hLF1⟩ : ∃ l,l = ipv (q c1 false) := ⟨_,rfl⟩
  have hlT1 := hRw.le hY1 c1 true
  have hlF1 := hRw.le hY1 c1 false
  obtain ⟨mT2,hmT2⟩ : ∃ m : Int,m = (q c2 true).length := ⟨_,rfl⟩
  obtain ⟨mF2,hmF2⟩ : ∃ m : Int,m = (q c2 false).length := ⟨_,rfl⟩
  obtain ⟨LT2,hLT2⟩ : ∃ l,l = ipv (q c2 true) := ⟨_,rfl⟩
  obtain ⟨LF2,hLF2⟩ : ∃ l,l = ipv (q c2 false) := ⟨_,rfl⟩
  have hlT2 := hRw.le hY1 c2 true
  have hlF2 := hRw.le hY1 c2 false
  have hly := hW1.ln
  refine readF_sound tok (by kernel_rfl) [0,2,3,4,5,6,7,8,9,10,11,12,13,14,15,16,17,18,19,20] [13,26] [(29,[])] [0,1,2,3,4,5,6,7,8,9,10,11,12,13,14,15,16,17,18,19,20,21,22,23,24,25,26,27,28,29] (by kernel_rfl) ?_
  conv => cbv
  refine Need.mk (show (0 : Int) ≤ 0 ∧ 0 < nc by omega) ?_
  conv => cbv
  refine Cell.at 0 _ (show CS[(0 : Int).toNat]? = some (.int .i64 (.sym c0)) by rw [hcs,hcc]; rfl) (by simp [I.val]) rfl ?_
  conv => cbv
  refine ReadF.mk (.p (.vsl (.sym mT0) true LT0)) (fun h' n' hbR hnR => clE (args0 := [.ptr 2 (.lit 0),i6 c0,.p (.bool true)]) (callF_read (listAllV_lx R ws C [] N W 0 0 0 L D Q z false hh (relink K q) hc q hY1 c0 true mT0 LT0 hmT0 hLT0) [(0,2),(1,3),(2,4),(3,5),(4,6),(5,7),(6,8)] (by simp [fok,nget,nback]; omega) (by simp [hmapOk,nget,hbR,hget,renB,okB,renV,renVs,rn,okVs,okV]) rfl rfl rfl rfl)) ?_
  conv => cbv
  refine Need.mk (show (0 : Int) ≤ 0 ∧ 0 < nc by omega) ?_
  conv => cbv
  refine Cell.at 0 _ (show CS[(0 : Int).toNat]? = some (.int .i64 (.sym c0)) by rw [hcs,hcc]; rfl) (by simp [I.val]) rfl ?_
  conv => cbv
  refine ReadF.mk (.p (.vsl (.sym mF0) true LF0)) (fun h' n' hbR hnR => clE (args0 := [.ptr 2 (.lit 0),i6 c0,.p (.bool false)]) (callF_read (listAllV_lx R ws C [] N W 0 0 0 L D Q z false hh (relink K q) hc q hY1 c0 false mF0 LF0 hmF0 hLF0) [(0,2),(1,3),(2,4),(3,5),(4,6),(5,7),(6,8)] (by simp [fok,nget,nback]; omega) (by simp [hmapOk,nget,hbR,hget,renB,okB,renV,renVs,rn,okVs,okV]) rfl rfl rfl rfl)) ?_
  conv => cbv
  refine fO (mT0 + mF0) fun bw0 hbw0 => ?_
  have hbw0 : bw0 = mT0 + mF0 := hbw0
  conv => cbv
  refine Need.mk (by decide) ?_
  conv => cbv
  refine readF_sound tok (by kernel_rfl) [0,2,3,4,5,6,7,8,9,10,11,12,13,14,15,16,17,18,19,20] [13,26] [(29,[])] [0,1,2,3,4,5,6,7,8,9,10,11,12,13,14,15,16,17,18,19,20,21,22,23,24,25,26,27,28,29] (by kernel_rfl) ?_
  conv => cbv
  refine Need.mk (show (0 : Int) ≤ 1 ∧ 1 < nc by omega) ?_
  conv => cbv
  refine Cell.at 1 _ (show CS[(1 : Int).toNat]? = some (.int .i64 (.sym c1)) by rw [hcs,hcc]; rfl) (by simp [I.val]) rfl ?_
  conv => cbv
  refine ReadF.mk (.p (.vsl (.sym mT1) true LT1)) (fun h' n' hbR hnR => clE (args0 := [.ptr 2 (.lit 0),i6 c1,.p (.bool true)]) (callF_read (listAllV_lx R ws C [] N W 0 0 0 L D Q z false hh (relink K q) hc q hY1 c1 true mT1 LT1 hmT1 hLT1) [(0,2),(1,3),(2,4),(3,5),(4,6),(5,7),(6,8)] (by simp [fok,nget,nback]; omega) (by simp [hmapOk,nget,hbR,hget,renB,okB,renV,renVs,rn,okVs,okV]) rfl rfl rfl rfl)) ?_
  conv => cbv
  refine Need.mk (show (0 : Int) ≤ 1 ∧ 1 < nc by omega) ?_
  conv => cbv
  refine Cell.at 1 _ (show CS[(1 : Int).toNat]? = some (.int .i64 (.sym c1)) by rw [hcs,hcc]; rfl) (by simp [I.val]) rfl ?_
  conv => cbv
  refine ReadF.mk (.p (.vsl (.sym mF1) true LF1)) (fun h' n' hbR hnR => clE (args0 := [.ptr 2 (.lit 0),i6 c1,.p (.bool false)]) (callF_read (listAllV_lx R ws C [] N W 0 0 0 L D Q z false hh (relink K q) hc q hY1 c1 false mF1 LF1 hmF1 hLF1) [(0,2),(1,3),(2,4),(3,5),(4,6),(5,7),(6,8)] (by simp [fok,nget,nback]; omega) (by simp [hmapOk,nget,hbR,hget,renB,okB,renV,renVs,rn,okVs,okV]) rfl rfl rfl rfl)) ?_
  conv => cbv
  refine fO (mT1 + mF1) fun bw1 hbw1 => ?_
  have hbw1 : bw1 = mT1 + mF1 := hbw1
  conv => cbv
  refine Need.mk (by decide) ?_
  conv => cbv
  refine readF_sound tok (by kernel_rfl) [0,2,3,4,5,6,7,8,9,10,11,12,13,14,15,16,17,18,19,20] [13,26] [(29,[])] [0,1,2,3,4,5,6,7,8,9,10,11,12,13,14,15,16,17,18,19,20,21,22,23,24,25,26,27,28,29] (by kernel_rfl) ?_
  conv => cbv
  refine Need.mk (show (0 : Int) ≤ 2 ∧ 2 < nc by omega) ?_
  conv => cbv
  refine Cell.at 2 _ (show CS[(2 : Int).toNat]? = some (.int .i64 (.sym c2)) by rw [hcs,hcc]; rfl) (by simp [I.val]) rfl ?_
  conv => cbv
  refine ReadF.mk (.p (.vsl (.sym mT2) true LT2)) (fun h' n' hbR hnR => clE (args0 := [.ptr 2 (.lit 0),i6 c2,.p (.bool true)]) (callF_read (listAllV_lx R ws C [] N W 0 0 0 L D Q z false hh (relink K q) hc q hY1 c2 true mT2 LT2 hmT2 hLT2) [(0,2),(1,3),(2,4),(3,5),(4,6),(5,7),(6,8)] (by simp [fok,nget,nback]; omega) (by simp [hmapOk,nget,hbR,hget,renB,okB,renV,renVs,rn,okVs,okV]) rfl rfl rfl rfl)) ?_
  conv => cbv
  refine Need.mk (show (0 : Int) ≤ 2 ∧ 2 < nc by omega) ?_
  conv => cbv
  refine Cell.at 2 _ (show CS[(2 : Int).toNat]? = some (.int .i64 (.sym c2)) by rw [hcs,hcc]; rfl) (by simp [I.val]) rfl ?_
  conv => cbv
  refine ReadF.mk (.p (.vsl (.sym mF2) true LF2)) (fun h' n' hbR hnR => clE (args0 := [.ptr 2 (.lit 0),i6 c2,.p (.bool false)]) (callF_read (listAllV_lx R ws C [] N W 0 0 0 L D Q z false hh (relink K q) hc q hY1 c2 false mF2 LF2 hmF2 hLF2) [(0,2),(1,3),(2,4),(3,5),(4,6),(5,7),(6,8)] (by simp [fok,nget,nback]; omega) (by simp [hmapOk,nget,hbR,hget,renB,okB,renV,renVs,rn,okVs,okV]) rfl rfl rfl rfl)) ?_
  conv => cbv
  refine fO (mT2 + mF2) fun bw2 hbw2 => ?_
  have hbw2 : bw2 = mT2 + mF2 := hbw2
  conv => cbv
  refine Need.mk (by decide) ?_
  conv => cbv
  obtain ⟨cA,hcA⟩ : ∃ a,a = cc k.toNat := ⟨_,rfl⟩
  obtain ⟨cB,hcB⟩ : ∃ a,a = cc (k.toNat + 1) := ⟨_,rfl⟩
  obtain ⟨FA,hKA⟩ := hKch cA (List.mem_of_getElem? (by rw [hcA]; exact hccj k.toNat))
  obtain ⟨FB,hKB⟩ := hKch cB (List.mem_of_getElem? (by rw [hcB]; exact hccj (k.toNat + 1)))
  obtain ⟨rA,hrA⟩ : ∃ r : Int,r = if (ch k.toNat).2 = true then -1 else 0 := ⟨_,rfl⟩
  obtain ⟨rB,hrB⟩ : ∃ r : Int,r = if (ch' k.toNat).2 = true then -1 else 1 := ⟨_,rfl⟩
  have hxr := hRw.x k.toNat x hx
  have hyr := hRw.y k.toNat y hy
  have hchk : ch k.toNat = (cA,sd k.toNat) := by rw [hch,hcA]
  have hchk' : ch' k.toNat = (cB,!sd k.toNat) := by rw [hch',hcB]
  rw [← hrA,hchk,htq,hvv,hkn] at hKx
  rw [← hrB,hchk',htq,hvv,hkn] at hKy
  rw [hchk] at hxr
  rw [hchk'] at hyr
  have hxyne : x ≠ y := by
   have := hW1.nd
   rw [List.nodup_append] at this
   exact this.2.2 x (List.mem_of_getElem? hx) y (List.mem_of_getElem? hy)
  have hKneg : K (-1) = none := rl_none (neg_none hh.a hc)
  have hmor := mor2 (q := q) hKx hKy hKA hKB hKneg
  obtain ⟨nx,hMx⟩ := relink_su (q := q) hKx
  obtain ⟨s0,s1,s2,s3,s4,s5,hset⟩ : ∃ s0 s1 s2 s3 s4 s5,setR rA 6 [0,0,0,0,0,0] = [s0,s1,s2,s3,s4,s5] := by
   rcases (by rw [hrA]; split <;> omega : rA = -1 ∨ rA = 0) with e | e <;> rw [e] <;> exact ⟨_,_,_,_,_,_,rfl⟩
  refine drawn_sound tok (by kernel_rfl) [(6,[])] [0,1,2,3,4,5,6,7,8,9,10,11] (by kernel_rfl) ?_; conv => cbv
  refine clE (args0 := [.ptr 2 (.lit 0),i6 x,i6 6]) (cfr (wake_lx R ws C [] N W 0 0 0 L D Q z false hh (relink K q) hc q hY1 o ho rfl x 6 (by decide) g cA _ _ _ _ _ k 1 0 0 0 0 0 0 0 x [x,y] hMx hMg hmor (by simp; exact hxyne)) [(0,2),(1,3),(2,4),(3,5),(4,6),(5,7),(6,8),(7,0)] (fun r h' n' hrr => ?_))
  obtain ⟨e8,he8,ws4,D4,e1,e2,e3,hh4,hc4⟩ := hrr
  subst e1 e2 e3
  conv => cbv
  have hgf : ([k,0,10 * k] ++ setR rA 6 [0,0,0,0,0,0] ++ [-1] : List Int) = [k,0,10 * k,s0,s1,s2,s3,s4,s5,-1] := by rw [hset]; rfl
  rw [hgf,relink_relink,rl_ot ⟨by decide,by decide⟩] at hc4
  have hY4 := sysFilt hY1 [x,y]
  rw [relink_relink] at hY4
  have hY5 := sysOther (F := [k,0,10 * k,s0,s1,s2,s3,s4,s5,-1]) hY4 (relink_other hKg ⟨by decide,by decide⟩) ⟨by decide,by decide⟩
  rw [rl_ot ⟨by decide,by decide⟩] at hY5
  have hMg4 : relink (upd K g (4,[k,0,10 * k,s0,s1,s2,s3,s4,s5,-1])) (rmQ q [x,y]) g = some (4,[k,0,10 * k,s0,s1,s2,s3,s4,s5,-1]) := relink_other (upd_same _ _ _) ⟨by decide,by decide⟩
  have hwr := waits_rm hY1 hxyne hxr hyr
  have hall4 : ∀ (c : Int) (d : Bool) (a : Int),a ∈ rmQ q [x,y] c d → ∃ g' F,upd K g (4,[k,0,10 * k,s0,s1,s2,s3,s4,s5,-1]) a = some (3,g' :: F) ∧ F.length = 6 ∧ g' ≠ g := fun c d a ha => by
   obtain ⟨ha1,ha2⟩ := rmQ_mem.1 ha
   have key : ∀ j : Nat,j ≠ k.toNat → ∀ g',grs[j]? = some g' → g' ≠ g := fun j hj g' hg' => nodup_ne hgnd hg' hg hj
   rcases hRw.all c d a ha1 with hm | hm
   ·obtain ⟨j,hj⟩ := List.getElem?_of_mem hm
    have hjl := (List.getElem?_eq_some_iff.1 hj).1
    obtain ⟨g',hg',hKa,_⟩ := hW1.su j a _ (Nat.zero_le _) hj (List.getElem?_eq_getElem (by rw [hW1.ln]; exact hjl))
    have hjk : j ≠ k.toNat := fun e => by subst e; rw [hx] at hj; cases hj; exact ha2 (by simp)
    have hag : a ≠ g := fun e => by rw [e,hKg] at hKa; cases hKa
    exact ⟨g',_,(upd_ne hag).trans hKa,rfl,key j hjk g' hg'⟩
   ·obtain ⟨j,hj⟩ := List.getElem?_of_mem hm
    have hjl := (List.getElem?_eq_some_iff.1 hj).1
    obtain ⟨g',hg',_,hKa⟩ := hW1.su j _ a (Nat.zero_le _) (List.getElem?_eq_getElem (by rw [← hW1.ln]; exact hjl)) hj
    have hjk : j ≠ k.toNat := fun e => by subst e; rw [hy] at hj; cases hj; exact ha2 (by simp)
    have hag : a ≠ g := fun e => by rw [e,hKg] at hKa; cases hKa
    exact ⟨g',_,(upd_ne hag).trans hKa,rfl,key j hjk g' hg'⟩
  have hle4 : ∀ c d,(rmQ q [x,y] c d).length ≤ (q c d).length := fun c d => List.length_filter_le _ _
  generalize upd K g (4,[k,0,10 * k,s0,s1,s2,s3,s4,s5,-1]) = K4 at hc4 hY5 hMg4 hall4
  obtain ⟨q4,hq4⟩ : ∃ q4,q4 = rmQ q [x,y] := ⟨_,rfl⟩
  rw [← hq4] at hc4 hY5 hMg4 hall4 hwr hle4
  clear hY4 hmor
  refine read_sound tok (by kernel_rfl) [0,2,3,4,5,6,7,8,9,10,11,12,13,14,15,16,17,18,19,20,21] [11] [(15,[14,13,12,11,10,9,8,7,6,5,4,3,2,1,0]),(16,[14])] [0,1,2,3,4,5,6,7,8,9,10,11,12,13,14,15,16,17] (by kernel_rfl) ?_
  conv => cbv
  refine Need.mk (show 0 ≤ k ∧ k < ng by omega) ?_
  conv => cbv
  refine Cell.at k _ hcellg (by simp [I.val]) rfl ?_
  conv => cbv
  obtain ⟨pc,hpc⟩ : ∃ p : Int,p = 10 * k := ⟨_,rfl⟩
  rw [← hpc] at hMg4
  refine ReadF.mk (.tup [.agg [i6 k,i6 0,i6 pc,i6 s0,i6 s1,i6 s2,i6 s3,i6 s4,i6 s5,i6 (-1)],i6 0]) (fun h' n' hbR hnR => clE (args0 := [.ptr 2 (.lit 0),i6 g]) (callF_read ((gorM_lx R ws4 C [] N W 0 0 0 L D4 Q z false hh4 (relink K4 q4) hc4 g k 0 pc s0 s1 s2 s3 s4 s5 (-1) hMg4).mono (fun r h n ⟨⟨e,e1,he⟩,e2,e3⟩ => ⟨by rw [e1,he],e2,e3⟩)) [(0,2),(1,3),(2,4),(3,5),(4,6),(5,7),(6,8)] (by simp [fok,nget,nback]; omega) (by simp [hmapOk,nget,hbR,hget,renB,okB,renV,renVs,rn,okVs,okV]) rfl rfl rfl rfl)) ?_
  conv => cbv
  refine LoopF.mk (fun kk s => ∃ i : Int,s = ⟨undefs 7 ++ .ptr 17 (.lit 0) :: (undefs 2 ++ .p (.int .i64 (.sym k)) :: (undefs 2 ++ .mp 21 :: .undef :: .p (.int .i64 (.sym g)) :: .p (.int .i64 (.sym e8)) :: .ptr 22 (.lit 0) :: .undef :: .p (.int .i64 (.sym i)) :: undefs 270)),[hpA 2 3 7 8 3 W 0 0 0,hpB 3 4 6 3 W,hpC 4 5 233 2 N,hpP 5 L,hpP 6 D4,hpF 7 z false,hpP 8 Q,hpR 9 10 15 3 W 16 0 0 0,hpB 10 11 14 3 W,hpD 11 12 3 1 N 13 231 8 N,hpP 12 P,hpP 13 B,hpP 14 V,hpP 15 Qr,(16,.mix [.p (.vsl (.sym 0) true []),.p (.bool false)]),(0,.fix 0 o),(17,.mix [.ptr 2 (.lit 0),.ptr 9 (.lit 0),.sl 18 3 1 (.lit 0) (.sym nc),.sl 19 3 1 (.lit 0) (.sym ng)]),hpP 18 CS,hpP 19 GS,(21,.kv [0,1,2] [bw0,bw1,bw2]),(22,.pure false [.int .i64 (.sym k),.int .i64 (.sym 0),.int .i64 (.sym pc),.int .i64 (.sym s0),.int .i64 (.sym s1),.int .i64 (.sym s2),.int .i64 (.sym s3),.int .i64 (.sym s4),.int .i64 (.sym s5),.int .i64 (.sym (-1))])],23⟩ ∧ 0 ≤ i ∧ i ≤ 3 ∧ kk = (3 - i).toNat) 3 _
   (Re.at [(0,0),(2,2),(3,3),(4,4),(5,5),(6,6),(7,7),(8,8),(9,9),(10,10),(11,11),(12,12),(13,13),(14,14),(15,15),(16,16),(17,17),(18,18),(19,19),(21,21),(22,22)] []) ⟨0,rfl,by omega,by omega,by omega⟩ ?_
  rintro kk s ⟨i,rfl,hi30,hi31,hkk⟩
  have hkk : kk = (3 - i).toNat := hkk
  conv => cbv
  refine Br.mk (fun g3 => ?_) (fun g3 => ?_)
  ·have g3 : i < 3 := g3
   obtain ⟨e,bw,hce,hkv,hbw⟩ : ∃ e bw,chs[i.toNat]? = some e ∧ kvGet [0,1,2] [bw0,bw1,bw2] i = some bw ∧ bw = (waits q e : Int) := by
    rcases (by omega : i = 0 ∨ i = 1 ∨ i = 2) with q0 | q0 | q0 <;> subst q0
    ·exact ⟨c0,bw0,by rw [hcc]; rfl,rfl,by rw [hbw0,hmT0,hmF0]; rfl⟩
    ·exact ⟨c1,bw1,by rw [hcc]; rfl,rfl,by rw [hbw1,hmT1,hmF1]; rfl⟩
    ·exact ⟨c2,bw2,by rw [hcc]; rfl,rfl,by rw [hbw2,hmT2,hmF2]; rfl⟩
   have hcelle : CS[i.toNat]? = some (.int .i64 (.sym e)) := by rw [hcs]; exact ipv_get hce
   conv => cbv
   obtain ⟨mT,hmT⟩ : ∃ m : Int,m = (q4 e true).length := ⟨_,rfl⟩
   obtain ⟨mF,hmF⟩ : ∃ m : Int,m = (q4 e false).length := ⟨_,rfl⟩
   have hlT := Nat.le_trans (hle4 e true) (hRw.le hY1 e true)
   have hlF := Nat.le_trans (hle4 e false) (hRw.le hY1 e false)
   have hkc : (k.toNat : Int) = k := hkn
   have h3l : chs.length = 3 := by rw [hcc]; rfl
   have hnd3 : ∀ (a b : Nat) (u v : Int),chs[a]? = some u → chs[b]? = some v → a ≠ b → u ≠ v := fun a b u v h1 h2 h3 => nodup_ne hcnd h1 h2 h3
   have heA : e = cA ↔ i = k % 3 := by
    have h1 := hccj k.toNat
    rw [← hcA] at h1
    constructor
    ·intro q0
     rcases Nat.lt_trichotomy i.toNat (k.toNat % 3) with h | h | h
     ·exact absurd q0 (hnd3 _ _ _ _ hce h1 (by omega))
     ·omega
     ·exact absurd q0 (hnd3 _ _ _ _ hce h1 (by omega))
    ·intro q0
     rw [show k.toNat % 3 = i.toNat by omega,hce] at h1
     exact Option.some.inj h1
   have heB : e = cB ↔ i = (k + 1) % 3 := by
    have h1 := hccj (k.toNat + 1)
    rw [← hcB] at h1
    constructor
    ·intro q0
     rcases Nat.lt_trichotomy i.toNat ((k.toNat + 1) % 3) with h | h | h
     ·exact absurd q0 (hnd3 _ _ _ _ hce h1 (by omega))
     ·omega
     ·exact absurd q0 (hnd3 _ _ _ _ hce h1 (by omega))
    ·intro q0
     rw [show (k.toNat + 1) % 3 = i.toNat by omega,hce] at h1
     exact Option.some.inj h1
   have hwe := hwr e
   refine drawn_sound tok (by kernel_rfl) [(11,[22,21,20,19,18,17,16,15,14,13,12]),(23,[]),(24,[])] [0,1,2,3,4,5,6,7,8,9,10,12,13,14,15,16,17,18,19,20,21,22,11,23,24,25] (by kernel_rfl) ?_; conv => cbv
   refine Need.mk (show 0 ≤ i ∧ i < nc by omega) ?_
   conv => cbv
   refine Cell.at i _ hcelle (by simp [I.val]) rfl ?_
   conv => cbv
   refine Need.mk (show 0 ≤ i ∧ i < nc by omega) ?_
   conv => cbv
   refine Cell.at i _ hcelle (by simp [I.val]) rfl ?_
   conv => cbv
   refine clE (args0 := [.ptr 2 (.lit 0),i6 e,.p (.bool true)]) (cfr (listAll_lx R ws4 C [] N W 0 0 0 L D4 Q z false hh4 (relink K4 q4) hc4 q4 hY5 e true (hch9 hY5 e) (hsu7 hY5)) [(0,2),(1,3),(2,4),(3,5),(4,6),(5,7),(6,8)] (fun r h' n' hrr => ?_))
   obtain ⟨mT',LT,e1,e2,e3,hmT',hLT⟩ := hrr
   subst e1 e2 e3
   obtain rfl : mT = mT' := hmT.trans hmT'.symm
   conv => cbv
   refine clE (args0 := [.ptr 2 (.lit 0),i6 e,.p (.bool false)]) (cfr (listAll_lx R ws4 C [] N W 0 0 0 L D4 Q z false hh4 (relink K4 q4) hc4 q4 hY5 e false (hch9 hY5 e) (hsu7 hY5)) [(0,2),(1,3),(2,4),(3,5),(4,6),(5,7),(6,8)] (fun r h' n' hrr => ?_))
   obtain ⟨mF',LF,e1,e2,e3,hmF',hLF⟩ := hrr
   subst e1 e2 e3
   obtain rfl : mF = mF' := hmF.trans hmF'.symm
   conv => cbv
   have hLTl : ((LT.length : Nat) : Int) = mT := by rw [hLT,ipv_length]; exact hmT.symm
   have hLFl : ((LF.length : Nat) : Int) = mF := by rw [hLF,ipv_length]; exact hmF.symm
   refine Room.new (show ((LF.length : Nat) : Int) = mF * 1 by omega) ?_
   conv => cbv
   refine Room.new ⟨?_,?_,?_⟩ ?_
   ·show ((LT.length : Nat) : Int) = mT * 1; omega
   ·show (mT + mF) * 8 ≤ 140737488355328; omega
   ·show mT + mF ≤ 9223372036854775807; omega
   conv => cbv
   refine Upd.mk fun LL hLL => ?_
   have hLL : LL = LT ++ LF := hLL
   have hLL2 : LL = ipv (q4 e true ++ q4 e false) := by rw [hLL,hLT,hLF,ipv_app]
   conv => cbv
   refine Sum.mk fun nl hnl => ?_
   have hnl : nl = mT + mF := hnl
   have hnl2 : nl = ((q4 e true ++ q4 e false).length : Nat) := by rw [List.length_append,hnl,hmT,hmF]; push_cast; rfl
   conv => cbv
   refine LoopF.mk (fun kk s => ∃ m : Int,s = ⟨undefs 7 ++ .ptr 17 (.lit 0) :: (undefs 2 ++ .p (.int .i64 (.sym k)) :: (undefs 2 ++ .mp 21 :: .undef :: .p (.int .i64 (.sym g)) :: .p (.int .i64 (.sym e8)) :: .ptr 22 (.lit 0) :: .undef :: .p (.int .i64 (.sym i)) :: .sl 23 3 1 (.lit 0) (.sym nl) :: .p (.int .i64 (.sym m)) :: undefs 268)),[hpA 2 3 7 8 3 W 0 0 0,hpB 3 4 6 3 W,hpC 4 5 233 2 N,hpP 5 L,hpP 6 D4,hpF 7 z false,hpP 8 Q,hpR 9 10 15 3 W 16 0 0 0,hpB 10 11 14 3 W,hpD 11 12 3 1 N 13 231 8 N,hpP 12 P,hpP 13 B,hpP 14 V,hpP 15 Qr,(16,.mix [.p (.vsl (.sym 0) true []),.p (.bool false)]),(0,.fix 0 o),(17,.mix [.ptr 2 (.lit 0),.ptr 9 (.lit 0),.sl 18 3 1 (.lit 0) (.sym nc),.sl 19 3 1 (.lit 0) (.sym ng)]),hpP 18 CS,hpP 19 GS,(21,.kv [0,1,2] [bw0,bw1,bw2]),(22,.pure false [.int .i64 (.sym k),.int .i64 (.sym 0),.int .i64 (.sym pc),.int .i64 (.sym s0),.int .i64 (.sym s1),.int .i64 (.sym s2),.int .i64 (.sym s3),.int .i64 (.sym s4),.int .i64 (.sym s5),.int .i64 (.sym (-1))]),hpP 23 LL],24⟩ ∧ 0 ≤ m ∧ m ≤ nl ∧ kk = (nl - m).toNat) nl.toNat _
    (Re.at [(0,0),(2,2),(3,3),(4,4),(5,5),(6,6),(7,7),(8,8),(9,9),(10,10),(11,11),(12,12),(13,13),(14,14),(15,15),(16,16),(17,17),(18,18),(19,19),(21,21),(22,22),(25,23)] []) ⟨0,rfl,by omega,by omega,by omega⟩ ?_
   rintro kk2 s ⟨m,rfl,hm0,hm1,hkk2⟩
   have hkk2 : kk2 = (nl - m).toNat := hkk2
   conv => cbv
   refine Br.mk (fun gm => ?_) (fun gm => ?_)
   ·have gm : m < nl := gm
    obtain ⟨a,ha⟩ : ∃ a,(q4 e true ++ q4 e false)[m.toNat]? = some a := ⟨_,List.getElem?_eq_getElem (by omega)⟩
    have hcella : LL[m.toNat]? = some (.int .i64 (.sym a)) := by rw [hLL2]; exact ipv_get ha
    obtain ⟨g',F,hKa,hF6,hgg⟩ : ∃ g' F,K4 a = some (3,g' :: F) ∧ F.length = 6 ∧ g' ≠ g := by
     rcases List.mem_append.1 (List.mem_of_getElem? ha) with h | h
     ·exact hall4 e true a h
     ·exact hall4 e false a h
    obtain ⟨f1,f2,f3,f4,f5,f6,rfl⟩ : ∃ f1 f2 f3 f4 f5 f6,F = [f1,f2,f3,f4,f5,f6] := by
     match F,hF6 with
     | [f1,f2,f3,f4,f5,f6],_ => exact ⟨_,_,_,_,_,_,rfl⟩
    obtain ⟨f7,hMa⟩ := relink_su (q := q4) hKa
    conv => cbv
    refine read_sound tok (by kernel_rfl) [0,2,3,4,5,6,7,8,9,10,11,12,13,14,15,16,17,18,19,21,22,23] [8] [(12,[11,10,9,8,7,6,5,4,3,2,1,0]),(13,[11])] [0,1,2,3,4,5,6,7,8,9,10,11,12,13,14] (by kernel_rfl) ?_
    conv => cbv
    refine Need.mk (show 0 ≤ m ∧ m < nl from ⟨hm0,gm⟩) ?_
    conv => cbv
    refine Cell.at m _ hcella (by simp [I.val]) rfl ?_
    conv => cbv
    refine ReadF.mk (.tup [.agg [i6 g',i6 f1,i6 f2,i6 f7,i6 f4,i6 f5,i6 f6],i6 0]) (fun h' n' hbR hnR => clE (args0 := [.ptr 2 (.lit 0),i6 a]) (callF_read ((sudogM_lx R ws4 C [] N W 0 0 0 L D4 Q z false hh4 (relink K4 q4) hc4 a g' f1 f2 f7 f4 f5 f6 hMa).mono (fun r h n ⟨⟨e,e1,he⟩,e2,e3⟩ => ⟨by rw [e1,he],e2,e3⟩)) [(0,2),(1,3),(2,4),(3,5),(4,6),(5,7),(6,8)] (by simp [fok,nget,nback]; omega) (by simp [hmapOk,nget,hbR,hget,renB,okB,renV,renVs,rn,okVs,okV]) rfl rfl rfl rfl)) ?_
    conv => cbv
    refine drawn_sound tok (by kernel_rfl) [] [0,1,2,3,4,5,6,7,8,9,10,11,12,13] (by kernel_rfl) ?_; conv => cbv
    refine Br.no (show ¬ (¬ ((0 : Int) = (0 : Int))) from fun q => q rfl) ?_
    conv => cbv
    refine Need.mk (show 0 ≤ k ∧ k < ng by omega) ?_
    conv => cbv
    refine Cell.at k _ hcellg (by simp [I.val]) rfl ?_
    conv => cbv
    refine Br.no (show ¬ (g' = g) from hgg) ?_
    conv => cbv
    refine fO (m + 1) fun m2 hm2 => ?_
    have hm2 : m2 = m + 1 := hm2
    conv => cbv
    refine Again.mk (nl - m2).toNat _ (by omega) (Re.at [(0,0),(2,2),(3,3),(4,4),(5,5),(6,6),(7,7),(8,8),(9,9),(10,10),(11,11),(12,12),(13,13),(14,14),(15,15),(16,16),(17,17),(18,18),(19,19),(21,21),(22,22),(23,23)] []) ⟨m2,rfl,by omega,by omega,rfl⟩
   ·have gm : ¬ m < nl := gm
    have hw4 : (waits q4 e : Int) = mT + mF := by rw [hmT,hmF]; rfl
    conv => cbv
    refine Sum.mk fun r5 hr5 => ?_
    have hr5 : r5 = k % 3 := (show r5 = k.tmod 3 from hr5).trans (Int.tmod_eq_emod_of_nonneg (by omega))
    conv => cbv
    refine Br.mk (fun ga => ?_) (fun ga => ?_)
    ·have ga : i = r5 := ga
     conv => cbv
     refine fO (k + 1) fun k2 hk2 => ?_
     have hk2 : k2 = k + 1 := hk2
     conv => cbv
     refine Sum.mk fun r6 hr6 => ?_
     have hr6 : r6 = k2 % 3 := (show r6 = k2.tmod 3 from hr6).trans (Int.tmod_eq_emod_of_nonneg (by omega))
     conv => cbv
     refine Br.mk (fun gb => ?_) (fun gb => ?_)
     ·have gb : i = r6 := gb
      conv => cbv
      have hA : (if e = cA then 1 else (0 : Nat)) = 1 := if_pos (heA.2 (by omega))
      have hB2 : (if e = cB then 1 else (0 : Nat)) = 1 := if_pos (heB.2 (by omega))
      rw [hA,hB2] at hwe
      refine KvAt.mk bw hkv ?_
      conv => cbv
      refine fO (bw - 2) fun dd hdd => ?_
      have hdd : dd = bw - 2 := hdd
      conv => cbv
      refine Br.no (show ¬ ¬ (nl = dd) from fun q0 => q0 (by omega)) ?_
      conv => cbv
      refine fO (i + 1) fun i2 hi2 => ?_
      have hi2 : i2 = i + 1 := hi2
      conv => cbv
      refine Again.mk (3 - i2).toNat _ (by omega) (Re.at [(0,0),(2,2),(3,3),(4,4),(5,5),(6,6),(7,7),(8,8),(9,9),(10,10),(11,11),(12,12),(13,13),(14,14),(15,15),(16,16),(17,17),(18,18),(19,19),(21,21),(22,22)] []) ⟨i2,rfl,by omega,by omega,rfl⟩
     ·have gb : ¬ i = r6 := gb
      conv => cbv
      have hA : (if e = cA then 1 else (0 : Nat)) = 1 := if_pos (heA.2 (by omega))
      have hB2 : (if e = cB then 1 else (0 : Nat)) = 0 := if_neg (fun q0 => by have := heB.1 q0; omega)
      rw [hA,hB2] at hwe
      refine KvAt.mk bw hkv ?_
      conv => cbv
      refine fO (bw - 1) fun dd hdd => ?_
      have hdd : dd = bw - 1 := hdd
      conv => cbv
      refine Br.no (show ¬ ¬ (nl = dd) from fun q0 => q0 (by omega)) ?_
      conv => cbv
      refine fO (i + 1) fun i2 hi2 => ?_
      have hi2 : i2 = i + 1 := hi2
      conv => cbv
      refine Again.mk (3 - i2).toNat _ (by omega) (Re.at [(0,0),(2,2),(3,3),(4,4),(5,5),(6,6),(7,7),(8,8),(9,9),(10,10),(11,11),(12,12),(13,13),(14,14),(15,15),(16,16),(17,17),(18,18),(19,19),(21,21),(22,22)] []) ⟨i2,rfl,by omega,by omega,rfl⟩
    ·have ga : ¬ i = r5 := ga
     conv => cbv
     refine fO (k + 1) fun k2 hk2 => ?_
     have hk2 : k2 = k + 1 := hk2
     conv => cbv
     refine Sum.mk fun r6 hr6 => ?_
     have hr6 : r6 = k2 % 3 := (show r6 = k2.tmod 3 from hr6).trans (Int.tmod_eq_emod_of_nonneg (by omega))
     conv => cbv
     refine Br.mk (fun gb => ?_) (fun gb => ?_)
     ·have gb : i = r6 := gb
      conv => cbv
      have hA : (if e = cA then 1 else (0 : Nat)) = 0 := if_neg (fun q0 => by have := heA.1 q0; omega)
      have hB2 : (if e = cB then 1 else (0 : Nat)) = 1 := if_pos (heB.2 (by omega))
      rw [hA,hB2] at hwe
      refine KvAt.mk bw hkv ?_
      conv => cbv
      refine fO (bw - 1) fun dd hdd => ?_
      have hdd : dd = bw - 1 := hdd
      conv => cbv
      refine Br.no (show ¬ ¬ (nl = dd) from fun q0 => q0 (by omega)) ?_
      conv => cbv
      refine fO (i + 1) fun i2 hi2 => ?_
      have hi2 : i2 = i + 1 := hi2
      conv => cbv
      refine Again.mk (3 - i2).toNat _ (by omega) (Re.at [(0,0),(2,2),(3,3),(4,4),(5,5),(6,6),(7,7),(8,8),(9,9),(10,10),(11,11),(12,12),(13,13),(14,14),(15,15),(16,16),(17,17),(18,18),(19,19),(21,21),(22,22)] []) ⟨i2,rfl,by omega,by omega,rfl⟩
     ·have gb : ¬ i = r6 := gb
      conv => cbv
      have hA : (if e = cA then 1 else (0 : Nat)) = 0 := if_neg (fun q0 => by have := heA.1 q0; omega)
      have hB2 : (if e = cB then 1 else (0 : Nat)) = 0 := if_neg (fun q0 => by have := heB.1 q0; omega)
      rw [hA,hB2] at hwe
      refine KvAt.mk bw hkv ?_
      conv => cbv
      refine fO (bw - 0) fun dd hdd => ?_
      have hdd : dd = bw - 0 := hdd
      conv => cbv
      refine Br.no (show ¬ ¬ (nl = dd) from fun q0 => q0 (by omega)) ?_
      conv => cbv
      refine fO (i + 1) fun i2 hi2 => ?_
      have hi2 : i2 = i + 1 := hi2
      conv => cbv
      refine Again.mk (3 - i2).toNat _ (by omega) (Re.at [(0,0),(2,2),(3,3),(4,4),(5,5),(6,6),(7,7),(8,8),(9,9),(10,10),(11,11),(12,12),(13,13),(14,14),(15,15),(16,16),(17,17),(18,18),(19,19),(21,21),(22,22)] []) ⟨i2,rfl,by omega,by omega,rfl⟩
  ·have g3 : ¬ i < 3 := g3
   conv => cbv
   refine Br.yes (show e8 = 0 from he8) ?_
   conv => cbv
   refine Need.mk (show 0 ≤ k ∧ k < ng by omega) ?_
   conv => cbv
   refine Cell.at k _ hcellg (by simp [I.val]) rfl ?_
   conv => cbv
   refine Br.yes (show g = g from rfl) ?_
   conv => cbv
   refine Br.yes (show (-1 : Int) = -1 from rfl) ?_
   conv => cbv
   refine Br.yes (show (0 : Int) = 0 from rfl) ?_
   conv => cbv
   refine fO (10 * k) fun p9 hp9 => ?_
   have hp9 : p9 = 10 * k := hp9
   conv => cbv
   refine Br.yes (show pc = p9 from hpc.trans hp9.symm) ?_
   conv => cbv
   refine RetF.mk [.p (.bool true)] [(0,.fix 0 o)] 1 (Re.at [(0,0)] []) rfl rfl
end Go.Proofs.YtkhfgngcoiablaaGreatDoor
