/-
  Layer 21: objects are allotted, where the roots stand in a block of their own.
-/
import Derived.Test.YtpbhcdbkmmjimaaGreatDoorVx
import Derived.Test.YtpbhcdbkmmjimaaGreatDoorBh
namespace Go.Proofs.YtpbhcdbkmmjimaaGreatDoor
open Go Go.LX
set_option maxRecDepth 100000
set_option linter.unusedVariables false
set_option linter.unusedSimpArgs false
set_option maxHeartbeats 32000000
theorem allocB_lx (R : List Rw) (ws C G : List Int) (N W ph sp cy : Int) (L D Q : List PV) (z : ByteArray) (ov : Bool) (h : HM R ws C G N W L D Q z) (o : Unit → Obj) (ho : IsPow o) (st as_ : Int) (hc : COk N st as_) (hg : Good N ⟨R,ws,C,G,ov,ph,sp,cy⟩) (hcy : cy ≤ 700000000) (l : List (Int × Int)) (k : Int) (cells : List PV) (hk : k = l.length) (hcs : cells = twosP l) (hl : l.length ≤ 100000) (A : List Int) (j : Int) (ca : List PV) (hca : ca = ipv A) (hj : j = A.length) (hAl : A.length ≤ 100000) :
  CallF (fun _ => Tryz.prog) 24 [.ptr 0 (.lit 0),.p (.vsl (.sym k) true cells),.sl 9 3 1 (.lit 0) (.sym j)] [(0,.mix [.ptr 1 (.lit 0),i6 st,i6 as_]),hpA 1 2 6 7 3 W ph sp cy,hpB 2 3 5 3 W,hpC 3 4 137 2 N,hpP 4 L,hpP 5 D,hpF 6 z ov,hpP 7 Q,(8,.fix 0 o),hpP 9 ca] 10 (fun r h n => (r = .tup [.p .nils,.p .nils,.p (.int .i64 (.lit 1))] ∧ (∃ p ∈ l,∃ v,NeedR p.1 p.2 v false) ∧ h = [(0,.mix [.ptr 1 (.lit 0),i6 st,i6 as_]),hpA 1 2 6 7 3 W ph sp cy,hpB 2 3 5 3 W,hpC 3 4 137 2 N,hpP 4 L,hpP 5 D,hpF 6 z ov,hpP 7 Q,(8,.fix 0 o),hpP 9 ca] ∧ n = 10) ∨ ∃ (X x : List Int) (out : List Gn) (e mx mg : Int) (T cellsh : List PV) (Rh : List Rw) (wh Ch Gh : List Int) (ovh : Bool) (ph2 sp2 cy2 : Int) (Lh Dh Qh : List PV) (zh : ByteArray),r = .tup [.p (.vsl (.sym mx) true T),.p (.vsl (.sym mg) true cellsh),i6 e] ∧ Sz l X ∧ ((h = [(0,.mix [.ptr 1 (.lit 0),i6 st,i6 as_]),hpA 1 2 6 7 3 W ph2 sp2 cy2,hpB 2 3 5 3 W,hpC 3 4 137 2 N,hpP 4 Lh,hpP 5 Dh,hpF 6 zh ovh,hpP 7 Qh,(8,.fix 0 o),hpP 9 ca] ∧ n = 10) ∨ (h = [(0,.mix [.ptr 1 (.lit 0),i6 st,i6 as_]),hpA 1 2 10 7 3 W ph2 sp2 cy2,hpB 2 3 5 3 W,hpC 3 4 137 2 N,hpP 4 Lh,hpP 5 Dh,hpF 10 zh ovh,hpP 7 Qh,(8,.fix 0 o),hpP 9 ca] ∧ n = 11 ∧ Renewed W st ((l.map Prod.fst).zip X) A ⟨R,ws,C,G,ov,ph,sp,cy⟩)) ∧ HM Rh wh Ch Gh N W Lh Dh Qh zh ∧ T = ipv x ∧ mx = x.length ∧ cellsh = gpv out ∧ mg = out.length ∧ Alcd W st (as_ * wdsOf X).toNat ((l.map Prod.fst).zip X) A ⟨R,ws,C,G,ov,ph,sp,cy⟩ x out e ⟨Rh,wh,Ch,Gh,ovh,ph2,sp2,cy2⟩) := by
 have hW : W = 32 * N := h.w
 have hn1 := hg.n1
 have hn2 := hg.n2
 have hNR := h.n
 unfold COk at hc
 refine callF_of_bodyB tok Tryz.func24 (by kernel_rfl) rfl rfl rfl [7,11] ?_; conv => cbv
 refine cfr (heapS_lx R ws C G N W ph sp cy L D Q z ov st as_) [(0,0),(1,1),(2,2),(3,3),(4,4),(5,5),(6,6),(7,7)] (fun r h' n' ⟨e1,e2,e3⟩ => ?_)
 subst e1 e2 e3
 conv => cbv
 refine CallF.re (args0 := [.p (.vsl (.sym k) true cells)]) (h' := [(0,.mix [.ptr 1 (.lit 0),i6 st,i6 as_]),hpA 1 2 6 7 3 W ph sp cy,hpB 2 3 5 3 W,hpC 3 4 137 2 N,hpP 4 L,hpP 5 D,hpF 6 z ov,hpP 7 Q,(8,.fix 0 o),hpP 9 ca]) (Re.at [(0,0),(1,1),(2,2),(3,3),(4,4),(5,5),(6,6),(7,7),(8,8),(9,9)] []) (cfr (sizesOf_lx l k cells hk hcs hl) [] (fun r h' n' hrr => ?_))
 obtain ⟨hrr,e2,e3⟩ := hrr
 subst e2 e3
 rcases hrr with ⟨X,jx,O,e1,hO,hjx,hX⟩ | ⟨e1,hbad⟩
 case inr =>
  subst e1
  conv => cbv
  refine RetF.mk [.p .nils,.p .nils,.p (.int .i64 (.lit 1))] [(0,.mix [.ptr 1 (.lit 0),i6 st,i6 as_]),hpA 1 2 6 7 3 W ph sp cy,hpB 2 3 5 3 W,hpC 3 4 137 2 N,hpP 4 L,hpP 5 D,hpF 6 z ov,hpP 7 Q,(8,.fix 0 o),hpP 9 ca] 10 (Re.at [(0,0),(1,1),(2,2),(3,3),(4,4),(5,5),(6,6),(7,7),(8,8),(9,9)] []) rfl (.inl ⟨rfl,hbad,rfl,rfl⟩)
 subst e1
 conv => cbv
 refine JoinF.mk (fun s => (s = ⟨.ptr 0 (.lit 0) :: .p (.vsl (.sym k) true cells) :: .sl 9 3 1 (.lit 0) (.sym j) :: (undefs 6 ++ .ptr 1 (.lit 0) :: .p (.vsl (.sym jx) true O) :: undefs 69),[(0,.mix [.ptr 1 (.lit 0),i6 st,i6 as_]),hpA 1 2 6 7 3 W ph sp cy,hpB 2 3 5 3 W,hpC 3 4 137 2 N,hpP 4 L,hpP 5 D,hpF 6 z ov,hpP 7 Q,(8,.fix 0 o),hpP 9 ca],10⟩ ∧ ¬ (ph = 0 ∧ st * W ≤ 100 * usedW R)) ∨ ∃ (C3 G3 : List Int) (ov3 : Bool) (Q3 : List PV) (z3 : ByteArray),s = ⟨.ptr 0 (.lit 0) :: .p (.vsl (.sym k) true cells) :: .sl 9 3 1 (.lit 0) (.sym j) :: (undefs 6 ++ .ptr 1 (.lit 0) :: .p (.vsl (.sym jx) true O) :: undefs 69),[(0,.mix [.ptr 1 (.lit 0),i6 st,i6 as_]),hpA 1 2 10 7 3 W 1 sp cy,hpB 2 3 5 3 W,hpC 3 4 137 2 N,hpP 4 L,hpP 5 D,hpF 10 z3 ov3,hpP 7 Q3,(8,.fix 0 o),hpP 9 ca],11⟩ ∧ HM R ws C3 G3 N W L D Q3 z3 ∧ (ph = 0 ∧ st * W ≤ 100 * usedW R) ∧ (C3,G3,ov3) = begS R W A) ?_ ?_
 ·refine drawn_sound tok (by kernel_rfl) [(1,[]),(5,[12,11,10,9,8]),(6,[12,11,10,9,8]),(13,[7,11,10,9,8]),(14,[7,11,10,9,8])] [0,1,2,3,4,8,9,10,11,12,5,6,7,13,14,15,16,17] (by kernel_rfl) ?_; conv => cbv
  conv => cbv
  refine cfr (phase_lx R ws C G N W ph sp cy L D Q z ov) [(0,1),(1,2),(2,3),(3,4),(4,5),(5,6),(6,7)] (fun r h' n' ⟨e1,e2,e3⟩ => ?_)
  subst e1 e2 e3
  conv => cbv
  refine Br.mk (fun q => ?_) (fun q => ?_)
  case refine_2 =>
   have q : ¬ ph = 0 := q
   conv => cbv
   refine Joined.mk _ (Re.at [(0,0),(1,1),(2,2),(3,3),(4,4),(5,5),(6,6),(7,7),(8,8),(9,9)] []) (.inl ⟨rfl,fun w => q w.1⟩)
  have q : ph = 0 := q
  conv => cbv
  refine cfr (arena_lx R ws C G N W ph sp cy L D Q z ov) [(0,1),(1,2),(2,3),(3,4),(4,5),(5,6),(6,7)] (fun r h' n' ⟨e1,e2,e3⟩ => ?_)
  subst e1 e2 e3
  conv => cbv
  obtain ⟨u,hu⟩ : ∃ u : Int,u = usedW R := ⟨_,rfl⟩
  refine cfr (usedA_lx R ws N W L D h.l h.d h.n h.r h.a h.w u hu) [(0,2),(1,3),(2,4),(3,5)] (fun r h' n' ⟨e1,e2,e3⟩ => ?_)
  subst e1 e2 e3
  conv => cbv
  have hub := usedW_bd (R := R) (fun e he => (h.a.rows e he).1)
  rw [← hu] at hub
  have hsW : 0 ≤ st * W ∧ st * W ≤ 100 * 4096 := ⟨Int.mul_nonneg (by omega) (by omega),Int.mul_le_mul hc.2.1 (by omega) (by omega) (by decide)⟩
  refine Fit.mk (by show (-9223372036854775808 : Int) ≤ 100 * u; omega) (by show 100 * u ≤ 9223372036854775807; omega) fun u2 hu2 => ?_
  have hu2 : u2 = 100 * u := hu2
  conv => cbv
  refine cfr (arena_lx R ws C G N W ph sp cy L D Q z ov) [(0,1),(1,2),(2,3),(3,4),(4,5),(5,6),(6,7)] (fun r h' n' ⟨e1,e2,e3⟩ => ?_)
  subst e1 e2 e3
  conv => cbv
  refine cfr (wordsA_lx R ws N W L D h.l h.d h.n h.r h.a h.w) [(0,2),(1,3),(2,4),(3,5)] (fun r h' n' ⟨e1,e2,e3⟩ => ?_)
  subst e1 e2 e3
  conv => cbv
  refine Fit.mk (by show (-9223372036854775808 : Int) ≤ st * W; omega) (by show st * W ≤ 9223372036854775807; omega) fun w2 hw2 => ?_
  have hw2 : w2 = st * W := hw2
  conv => cbv
  refine Br.mk (fun q2 => ?_) (fun q2 => ?_)
  case refine_2 =>
   have q2 : ¬ w2 ≤ u2 := q2
   conv => cbv
   refine Joined.mk _ (Re.at [(0,0),(1,1),(2,2),(3,3),(4,4),(5,5),(6,6),(7,7),(8,8),(9,9)] []) (.inl ⟨rfl,fun w => q2 (by rw [hw2,hu2,hu]; exact w.2)⟩)
  have q2 : w2 ≤ u2 := q2
  conv => cbv
  refine cfr (beginB_lx R ws C G N W ph sp cy L D Q z ov h o ho A j ca hca hj (by omega) q) [(0,1),(1,2),(2,3),(3,4),(4,5),(5,6),(6,7),(7,8),(8,9)] (fun r h' n' hrr => ?_)
  obtain ⟨C3,G3,ov3,Q3,z3,e1,e2,e3,h3,hb3⟩ := hrr
  subst e1 e2 e3
  conv => cbv
  refine Joined.mk _ (Re.at [(0,0),(1,1),(2,2),(3,3),(4,4),(5,5),(6,6),(7,7),(8,8),(9,9),(10,10)] []) (.inr ⟨C3,G3,ov3,Q3,z3,rfl,h3,⟨q,by rw [← hu,← hu2,← hw2]; exact q2⟩,hb3⟩)
 have hXl : X.length = l.length := hX.1
 rintro s (⟨rfl,hnd⟩ | ⟨C3,G3,ov3,Q3,z3,rfl,h3,hdue,hb3⟩)
 ·have hg0 : Good N ⟨R,ws,C,G,ov,ph,sp,cy⟩ := hg
  have hpre : Pre W st A ⟨R,ws,C,G,ov,ph,sp,cy⟩ ⟨R,ws,C,G,ov,ph,sp,cy⟩ := .inr ⟨hnd,rfl⟩
  conv => cbv
  refine cfr (allot_lx R ws C G N W ph sp cy L D Q z ov h l X k jx cells O hk hcs hXl hjx hO hl ((l.map Prod.fst).zip X) rfl) [(0,1),(1,2),(2,3),(3,4),(4,5),(5,6),(6,7)] (fun r h' n' hrr => ?_)
  obtain ⟨b1,x1,R1,ws1,C1,L1,D1,Q1,⟨mx,Tx,e1,hTx,hmx⟩,e2,e3,h1,hA1⟩ := hrr
  subst e1 e2 e3
  conv => cbv
  obtain ⟨hg1,hmo1,_⟩ := hA1.good hg0
  refine JoinF.mk (fun s => (∃ (m2 : Int) (x2 : List Int) (T2 : List PV) (R2 : List Rw) (ws2 C2 : List Int) (L2 D2 Q2 : List PV),s = ⟨.ptr 0 (.lit 0) :: .p (.vsl (.sym k) true cells) :: .sl 9 3 1 (.lit 0) (.sym j) :: (undefs 6 ++ .ptr 1 (.lit 0) :: .p (.vsl (.sym jx) true O) :: .p (.bool true) :: .p .nils :: .p (.vsl (.sym m2) true T2) :: undefs 66),[(0,.mix [.ptr 1 (.lit 0),i6 st,i6 as_]),hpA 1 2 6 7 3 W ph sp cy,hpB 2 3 5 3 W,hpC 3 4 137 2 N,hpP 4 L2,hpP 5 D2,hpF 6 z ov,hpP 7 Q2,(8,.fix 0 o),hpP 9 ca],10⟩ ∧ T2 = ipv x2 ∧ m2 = x2.length ∧ HM R2 ws2 C2 G N W L2 D2 Q2 z ∧ Allot ⟨R,ws,C,G,ov,ph,sp,cy⟩ ((l.map Prod.fst).zip X) true x2 ⟨R2,ws2,C2,G,ov,ph,sp,cy⟩) ∨ ∃ (b2 : Bool) (m2 mg : Int) (x2 : List Int) (og : List Gn) (T2 cg : List PV) (R2 : List Rw) (ws2 C2 G2 : List Int) (ov2 : Bool) (sp2 cy2 : Int) (L2 D2 Q2 : List PV) (z2 : ByteArray),s = ⟨.ptr 0 (.lit 0) :: .p (.vsl (.sym k) true cells) :: .sl 9 3 1 (.lit 0) (.sym j) :: (undefs 6 ++ .ptr 1 (.lit 0) :: .p (.vsl (.sym jx) true O) :: .p (.bool b2) :: .sl 11 40 4 (.lit 0) (.sym mg) :: .p (.vsl (.sym m2) true T2) :: undefs 66),[(0,.mix [.ptr 1 (.lit 0),i6 st,i6 as_]),hpA 1 2 10 7 3 W 0 sp2 cy2,hpB 2 3 5 3 W,hpC 3 4 137 2 N,hpP 4 L2,hpP 5 D2,hpF 10 z2 ov2,hpP 7 Q2,(8,.fix 0 o),hpP 9 ca,hpP 11 cg],12⟩ ∧ T2 = ipv x2 ∧ m2 = x2.length ∧ cg = gpv og ∧ mg = og.length ∧ HM R2 ws2 C2 G2 N W L2 D2 Q2 z2 ∧ (∃ t1,Allot ⟨R,ws,C,G,ov,ph,sp,cy⟩ ((l.map Prod.fst).zip X) false [] t1) ∧ Tried W ((l.map Prod.fst).zip X) A ⟨R,ws,C,G,ov,ph,sp,cy⟩ b2 x2 og ⟨R2,ws2,C2,G2,ov2,0,sp2,cy2⟩) ?_ ?_
  ·cases b1 with
   | true =>
    conv => cbv
    refine Joined.mk _ (Re.at [(0,0),(1,1),(2,2),(3,3),(4,4),(5,5),(6,6),(7,7),(8,8),(9,9)] []) (.inl ⟨mx,x1,Tx,R1,ws1,C1,L1,D1,Q1,rfl,hTx,hmx,h1,hA1⟩)
   | false =>
    conv => cbv
    refine cfr (makeRoomB_lx R1 ws1 C1 G N W ph sp cy L1 D1 Q1 z ov h1 o ho hg1 (by omega) A j ca hca hj hAl) [(0,1),(1,2),(2,3),(3,4),(4,5),(5,6),(6,7),(7,8),(8,9)] (fun r h' n' hrr => ?_)
    obtain ⟨og,mg,cg,R4,ws4,C4,G4,ov4,sp4,cy4,L4,D4,Q4,z4,e1,e2,e3,h4,hcg,hmg,hMd⟩ := hrr
    subst e1 e2 e3
    conv => cbv
    refine cfr (allot_lx R4 ws4 C4 G4 N W 0 sp4 cy4 L4 D4 Q4 z4 ov4 h4 l X k jx cells O hk hcs hXl hjx hO hl ((l.map Prod.fst).zip X) rfl) [(0,1),(1,2),(2,3),(3,4),(4,5),(5,10),(6,7)] (fun r h' n' hrr => ?_)
    obtain ⟨b2,x2,R2,ws2,C2,L2,D2,Q2,⟨m2,T2,e1,hT2,hm2⟩,e2,e3,h2,hA2⟩ := hrr
    subst e1 e2 e3
    conv => cbv
    refine Joined.mk _ (Re.at [(0,0),(1,1),(2,2),(3,3),(4,4),(5,5),(7,7),(8,8),(9,9),(10,10),(11,11)] []) (.inr ⟨b2,m2,mg,x2,og,T2,cg,R2,ws2,C2,G4,ov4,sp4,cy4,L2,D2,Q2,z4,rfl,hT2,hm2,hcg,hmg,h2,⟨_,by have w := hA1.no_x; subst w; exact hA1⟩,hMd.tried hA1 hA2⟩)
  rintro s (⟨m2,x2,T2,R2,ws2,C2,L2,D2,Q2,rfl,hT2,hm2,h2,hA2⟩ | ⟨b2,m2,mg,x2,og,T2,cg,R2,ws2,C2,G2,ov2,sp2,cy2,L2,D2,Q2,z2,rfl,hT2,hm2,hcg,hmg,h2,hA2,hTr⟩)
  ·have hg2 := (hA2.good hg0).1
   have hcy2 : cy ≤ 900000000 := by omega
   conv => cbv
   refine drawn_sound tok (by kernel_rfl) [(8,[6,5,4,3,2,1,0]),(10,[1,0]),(11,[0])] [0,1,2,3,4,5,6,7,8,9,10,11,12,13,14] (by kernel_rfl) ?_; conv => cbv
   conv => cbv
   refine cfr (wordsOf_lx X jx O hjx hO (by omega) (sz_bd hX)) [] (fun r h' n' hrr => ?_)
   obtain ⟨v,e1,e2,e3,hv⟩ := hrr
   subst e1 e2 e3
   have hvb := wdsOf_bd X
   rw [← hv] at hvb
   have hav : 0 ≤ as_ * v ∧ as_ * v ≤ 8 * 3200000 := ⟨Int.mul_nonneg (by omega) (by omega),Int.mul_le_mul (by omega) (by omega) (by omega) (by decide)⟩
   conv => cbv
   refine Fit.mk (by show (-9223372036854775808 : Int) ≤ as_ * v; omega) (by show as_ * v ≤ 9223372036854775807; omega) fun c hc2 => ?_
   have hc2 : c = as_ * wdsOf X := by rw [← hv]; exact hc2
   conv => cbv
   have hcb : 0 ≤ c ∧ c ≤ 25600000 := by rw [hv] at hav; omega
   refine cfr (steps_lx R2 ws2 C2 G N W ph sp cy L2 D2 Q2 z ov h2 o ho hg2 hcy2 c hcb.1 (by omega)) [(0,1),(1,2),(2,3),(3,4),(4,5),(5,6),(6,7),(7,8)] (fun r h' n' hrr => ?_)
   obtain ⟨os,ms,ph5,cs,R5,ws5,C5,G5,ov5,sp5,cy5,L5,D5,Q5,z5,e1,e2,e3,h5,hcs5,hms,hAs⟩ := hrr
   subst e1 e2 e3
   rw [hc2] at hAs
   have hsg := hAs.good hW hg2
   have hsl : os.length ≤ 69664 := hsg.2.2
   have hcl5 : cs.length = 4 * os.length := by rw [hcs5,gpv_length]
   conv => cbv
   refine Need.mk (by show (cs.length : Int) = ms * 4; omega) ?_
   conv => cbv
   refine Need.mk ⟨by show ms * 48 ≤ 140737488355328; omega,by show ms ≤ 9223372036854775807; omega⟩ ?_
   conv => cbv
   refine RetF.mk [.p (.vsl (.sym m2) true T2),.p (.vsl (.sym ms) true cs),i6 0] [(0,.mix [.ptr 1 (.lit 0),i6 st,i6 as_]),hpA 1 2 6 7 3 W ph5 sp5 cy5,hpB 2 3 5 3 W,hpC 3 4 137 2 N,hpP 4 L5,hpP 5 D5,hpF 6 z5 ov5,hpP 7 Q5,(8,.fix 0 o),hpP 9 ca] 10 (Re.at [(0,0),(1,1),(2,2),(3,3),(4,4),(5,5),(6,6),(7,7),(8,8),(9,9)] []) rfl (.inr ⟨X,x2,os,0,m2,ms,T2,cs,R5,ws5,C5,G5,ov5,ph5,sp5,cy5,L5,D5,Q5,z5,rfl,hX,.inl ⟨rfl,rfl⟩,h5,hT2,hm2,hcs5,hms,.ok x2 [] os _ _ _ hpre (.quick x2 _ hA2) hAs⟩)
  ·obtain ⟨hg2,hcyq,_,hogl⟩ := hTr.good hW hg0
   have hcy2 : cy2 ≤ 900000000 := by have h9 : cy2 ≤ cy + 4354 := hcyq; omega
   cases b2 with
   | false =>
    conv => cbv
    refine RetF.mk [.p (.vsl (.sym 0) true []),.p (.vsl (.sym mg) true cg),i6 9] [(0,.mix [.ptr 1 (.lit 0),i6 st,i6 as_]),hpA 1 2 10 7 3 W 0 sp2 cy2,hpB 2 3 5 3 W,hpC 3 4 137 2 N,hpP 4 L2,hpP 5 D2,hpF 10 z2 ov2,hpP 7 Q2,(8,.fix 0 o),hpP 9 ca] 11 (Re.at [(0,0),(1,1),(2,2),(3,3),(4,4),(5,5),(10,10),(7,7),(8,8),(9,9)] []) rfl (.inr ⟨X,[],og,9,0,mg,[],cg,R2,ws2,C2,G2,ov2,0,sp2,cy2,L2,D2,Q2,z2,rfl,hX,.inr ⟨rfl,rfl,.inr ⟨_,_,hpre,hA2.choose_spec⟩⟩,h2,rfl,rfl,hcg,hmg,.room x2 og _ _ hpre hTr⟩)
   | true =>
    conv => cbv
    refine drawn_sound tok (by kernel_rfl) [(8,[6,5,4,3,2,1,0]),(10,[1,0]),(11,[0])] [0,1,2,3,4,5,6,7,8,9,10,11,12,13,14] (by kernel_rfl) ?_; conv => cbv
    conv => cbv
    refine cfr (wordsOf_lx X jx O hjx hO (by omega) (sz_bd hX)) [] (fun r h' n' hrr => ?_)
    obtain ⟨v,e1,e2,e3,hv⟩ := hrr
    subst e1 e2 e3
    have hvb := wdsOf_bd X
    rw [← hv] at hvb
    have hav : 0 ≤ as_ * v ∧ as_ * v ≤ 8 * 3200000 := ⟨Int.mul_nonneg (by omega) (by omega),Int.mul_le_mul (by omega) (by omega) (by omega) (by decide)⟩
    conv => cbv
    refine Fit.mk (by show (-9223372036854775808 : Int) ≤ as_ * v; omega) (by show as_ * v ≤ 9223372036854775807; omega) fun c hc2 => ?_
    have hc2 : c = as_ * wdsOf X := by rw [← hv]; exact hc2
    conv => cbv
    have hcb : 0 ≤ c ∧ c ≤ 25600000 := by rw [hv] at hav; omega
    refine cfr (steps_lx R2 ws2 C2 G2 N W 0 sp2 cy2 L2 D2 Q2 z2 ov2 h2 o ho hg2 hcy2 c hcb.1 (by omega)) [(0,1),(1,2),(2,3),(3,4),(4,5),(5,10),(6,7),(7,8)] (fun r h' n' hrr => ?_)
    obtain ⟨os,ms,ph5,cs,R5,ws5,C5,G5,ov5,sp5,cy5,L5,D5,Q5,z5,e1,e2,e3,h5,hcs5,hms,hAs⟩ := hrr
    subst e1 e2 e3
    rw [hc2] at hAs
    have hsg := hAs.good hW hg2
    have hsl : os.length ≤ 69664 := hsg.2.2
    have hcl5 : cs.length = 4 * os.length := by rw [hcs5,gpv_length]
    conv => cbv
    refine Need.mk (by show (cs.length : Int) = ms * 4; omega) ?_
    conv => cbv
    have hclg : cg.length = 4 * og.length := by rw [hcg,gpv_length]
    refine Room.new ⟨by show (cg.length : Int) = mg * 4; omega,by show (mg + ms) * 48 ≤ 140737488355328; omega,by show mg + ms ≤ 9223372036854775807; omega⟩ ?_
    conv => cbv
    refine Upd.mk fun c6 hc6 => ?_
    have hc6 : c6 = gpv (og ++ os) := by rw [show c6 = cg ++ cs from hc6,hcg,hcs5,← gpv_app]
    conv => cbv
    refine Sum.mk fun m6 hm6 => ?_
    have hm6 : m6 = ((og ++ os).length : Int) := by rw [show m6 = mg + ms from hm6,hmg,hms,List.length_append]; rfl
    conv => cbv
    refine RetF.mk [.p (.vsl (.sym m2) true T2),.p (.vsl (.sym m6) true c6),i6 0] [(0,.mix [.ptr 1 (.lit 0),i6 st,i6 as_]),hpA 1 2 10 7 3 W ph5 sp5 cy5,hpB 2 3 5 3 W,hpC 3 4 137 2 N,hpP 4 L5,hpP 5 D5,hpF 10 z5 ov5,hpP 7 Q5,(8,.fix 0 o),hpP 9 ca] 11 (Re.at [(0,0),(1,1),(2,2),(3,3),(4,4),(5,5),(10,10),(7,7),(8,8),(9,9)] []) rfl (.inr ⟨X,x2,(og ++ os),0,m2,m6,T2,c6,R5,ws5,C5,G5,ov5,ph5,sp5,cy5,L5,D5,Q5,z5,rfl,hX,.inr ⟨rfl,rfl,.inr ⟨_,_,hpre,hA2.choose_spec⟩⟩,h5,hT2,hm2,hc6,hm6,.ok x2 og os _ _ _ hpre hTr hAs⟩)
 ·have hbg : Bgn W ⟨R,ws,C,G,ov,ph,sp,cy⟩ A ⟨R,ws,C3,G3,ov3,1,sp,cy⟩ := ⟨rfl,rfl,rfl,rfl,rfl,(by have := h3.c; show (C3.length : Int) = W; exact this),hb3⟩
  have hg0 : Good N ⟨R,ws,C3,G3,ov3,1,sp,cy⟩ := hbg.good hW hg
  have hpre : Pre W st A ⟨R,ws,C,G,ov,ph,sp,cy⟩ ⟨R,ws,C3,G3,ov3,1,sp,cy⟩ := .inl ⟨hdue.1,hdue.2,hbg⟩
  conv => cbv
  refine cfr (allot_lx R ws C3 G3 N W 1 sp cy L D Q3 z3 ov3 h3 l X k jx cells O hk hcs hXl hjx hO hl ((l.map Prod.fst).zip X) rfl) [(0,1),(1,2),(2,3),(3,4),(4,5),(5,10),(6,7)] (fun r h' n' hrr => ?_)
  obtain ⟨b1,x1,R1,ws1,C1,L1,D1,Q1,⟨mx,Tx,e1,hTx,hmx⟩,e2,e3,h1,hA1⟩ := hrr
  subst e1 e2 e3
  conv => cbv
  obtain ⟨hg1,hmo1,_⟩ := hA1.good hg0
  refine JoinF.mk (fun s => (∃ (m2 : Int) (x2 : List Int) (T2 : List PV) (R2 : List Rw) (ws2 C2 : List Int) (L2 D2 Q2 : List PV),s = ⟨.ptr 0 (.lit 0) :: .p (.vsl (.sym k) true cells) :: .sl 9 3 1 (.lit 0) (.sym j) :: (undefs 6 ++ .ptr 1 (.lit 0) :: .p (.vsl (.sym jx) true O) :: .p (.bool true) :: .p .nils :: .p (.vsl (.sym m2) true T2) :: undefs 66),[(0,.mix [.ptr 1 (.lit 0),i6 st,i6 as_]),hpA 1 2 10 7 3 W 1 sp cy,hpB 2 3 5 3 W,hpC 3 4 137 2 N,hpP 4 L2,hpP 5 D2,hpF 10 z3 ov3,hpP 7 Q2,(8,.fix 0 o),hpP 9 ca],11⟩ ∧ T2 = ipv x2 ∧ m2 = x2.length ∧ HM R2 ws2 C2 G3 N W L2 D2 Q2 z3 ∧ Allot ⟨R,ws,C3,G3,ov3,1,sp,cy⟩ ((l.map Prod.fst).zip X) true x2 ⟨R2,ws2,C2,G3,ov3,1,sp,cy⟩) ∨ ∃ (b2 : Bool) (m2 mg : Int) (x2 : List Int) (og : List Gn) (T2 cg : List PV) (R2 : List Rw) (ws2 C2 G2 : List Int) (ov2 : Bool) (sp2 cy2 : Int) (L2 D2 Q2 : List PV) (z2 : ByteArray),s = ⟨.ptr 0 (.lit 0) :: .p (.vsl (.sym k) true cells) :: .sl 9 3 1 (.lit 0) (.sym j) :: (undefs 6 ++ .ptr 1 (.lit 0) :: .p (.vsl (.sym jx) true O) :: .p (.bool b2) :: .sl 11 40 4 (.lit 0) (.sym mg) :: .p (.vsl (.sym m2) true T2) :: undefs 66),[(0,.mix [.ptr 1 (.lit 0),i6 st,i6 as_]),hpA 1 2 10 7 3 W 0 sp2 cy2,hpB 2 3 5 3 W,hpC 3 4 137 2 N,hpP 4 L2,hpP 5 D2,hpF 10 z2 ov2,hpP 7 Q2,(8,.fix 0 o),hpP 9 ca,hpP 11 cg],12⟩ ∧ T2 = ipv x2 ∧ m2 = x2.length ∧ cg = gpv og ∧ mg = og.length ∧ HM R2 ws2 C2 G2 N W L2 D2 Q2 z2 ∧ (∃ t1,Allot ⟨R,ws,C3,G3,ov3,1,sp,cy⟩ ((l.map Prod.fst).zip X) false [] t1) ∧ Tried W ((l.map Prod.fst).zip X) A ⟨R,ws,C3,G3,ov3,1,sp,cy⟩ b2 x2 og ⟨R2,ws2,C2,G2,ov2,0,sp2,cy2⟩) ?_ ?_
  ·cases b1 with
   | true =>
    conv => cbv
    refine Joined.mk _ (Re.at [(0,0),(1,1),(2,2),(3,3),(4,4),(5,5),(6,6),(7,7),(8,8),(9,9),(10,10)] []) (.inl ⟨mx,x1,Tx,R1,ws1,C1,L1,D1,Q1,rfl,hTx,hmx,h1,hA1⟩)
   | false =>
    conv => cbv
    refine cfr (makeRoomB_lx R1 ws1 C1 G3 N W 1 sp cy L1 D1 Q1 z3 ov3 h1 o ho hg1 (by omega) A j ca hca hj hAl) [(0,1),(1,2),(2,3),(3,4),(4,5),(5,10),(6,7),(7,8),(8,9)] (fun r h' n' hrr => ?_)
    obtain ⟨og,mg,cg,R4,ws4,C4,G4,ov4,sp4,cy4,L4,D4,Q4,z4,e1,e2,e3,h4,hcg,hmg,hMd⟩ := hrr
    subst e1 e2 e3
    conv => cbv
    refine cfr (allot_lx R4 ws4 C4 G4 N W 0 sp4 cy4 L4 D4 Q4 z4 ov4 h4 l X k jx cells O hk hcs hXl hjx hO hl ((l.map Prod.fst).zip X) rfl) [(0,1),(1,2),(2,3),(3,4),(4,5),(5,11),(6,7)] (fun r h' n' hrr => ?_)
    obtain ⟨b2,x2,R2,ws2,C2,L2,D2,Q2,⟨m2,T2,e1,hT2,hm2⟩,e2,e3,h2,hA2⟩ := hrr
    subst e1 e2 e3
    conv => cbv
    refine Joined.mk _ (Re.at [(0,0),(1,1),(2,2),(3,3),(4,4),(5,5),(7,7),(8,8),(9,9),(11,10),(12,11)] []) (.inr ⟨b2,m2,mg,x2,og,T2,cg,R2,ws2,C2,G4,ov4,sp4,cy4,L2,D2,Q2,z4,rfl,hT2,hm2,hcg,hmg,h2,⟨_,by have w := hA1.no_x; subst w; exact hA1⟩,hMd.tried hA1 hA2⟩)
  rintro s (⟨m2,x2,T2,R2,ws2,C2,L2,D2,Q2,rfl,hT2,hm2,h2,hA2⟩ | ⟨b2,m2,mg,x2,og,T2,cg,R2,ws2,C2,G2,ov2,sp2,cy2,L2,D2,Q2,z2,rfl,hT2,hm2,hcg,hmg,h2,hA2,hTr⟩)
  ·have hg2 := (hA2.good hg0).1
   have hcy2 : cy ≤ 900000000 := by omega
   conv => cbv
   refine drawn_sound tok (by kernel_rfl) [(8,[6,5,4,3,2,1,0]),(10,[1,0]),(11,[0])] [0,1,2,3,4,5,6,7,8,9,10,11,12,13,14] (by kernel_rfl) ?_; conv => cbv
   conv => cbv
   refine cfr (wordsOf_lx X jx O hjx hO (by omega) (sz_bd hX)) [] (fun r h' n' hrr => ?_)
   obtain ⟨v,e1,e2,e3,hv⟩ := hrr
   subst e1 e2 e3
   have hvb := wdsOf_bd X
   rw [← hv] at hvb
   have hav : 0 ≤ as_ * v ∧ as_ * v ≤ 8 * 3200000 := ⟨Int.mul_nonneg (by omega) (by omega),Int.mul_le_mul (by omega) (by omega) (by omega) (by decide)⟩
   conv => cbv
   refine Fit.mk (by show (-9223372036854775808 : Int) ≤ as_ * v; omega) (by show as_ * v ≤ 9223372036854775807; omega) fun c hc2 => ?_
   have hc2 : c = as_ * wdsOf X := by rw [← hv]; exact hc2
   conv => cbv
   have hcb : 0 ≤ c ∧ c ≤ 25600000 := by rw [hv] at hav; omega
   refine cfr (steps_lx R2 ws2 C2 G3 N W 1 sp cy L2 D2 Q2 z3 ov3 h2 o ho hg2 hcy2 c hcb.1 (by omega)) [(0,1),(1,2),(2,3),(3,4),(4,5),(5,10),(6,7),(7,8)] (fun r h' n' hrr => ?_)
   obtain ⟨os,ms,ph5,cs,R5,ws5,C5,G5,ov5,sp5,cy5,L5,D5,Q5,z5,e1,e2,e3,h5,hcs5,hms,hAs⟩ := hrr
   subst e1 e2 e3
   rw [hc2] at hAs
   have hsg := hAs.good hW hg2
   have hsl : os.length ≤ 69664 := hsg.2.2
   have hcl5 : cs.length = 4 * os.length := by rw [hcs5,gpv_length]
   conv => cbv
   refine Need.mk (by show (cs.length : Int) = ms * 4; omega) ?_
   conv => cbv
   refine Need.mk ⟨by show ms * 48 ≤ 140737488355328; omega,by show ms ≤ 9223372036854775807; omega⟩ ?_
   conv => cbv
   refine RetF.mk [.p (.vsl (.sym m2) true T2),.p (.vsl (.sym ms) true cs),i6 0] [(0,.mix [.ptr 1 (.lit 0),i6 st,i6 as_]),hpA 1 2 10 7 3 W ph5 sp5 cy5,hpB 2 3 5 3 W,hpC 3 4 137 2 N,hpP 4 L5,hpP 5 D5,hpF 10 z5 ov5,hpP 7 Q5,(8,.fix 0 o),hpP 9 ca] 11 (Re.at [(0,0),(1,1),(2,2),(3,3),(4,4),(5,5),(10,10),(7,7),(8,8),(9,9)] []) rfl (.inr ⟨X,x2,os,0,m2,ms,T2,cs,R5,ws5,C5,G5,ov5,ph5,sp5,cy5,L5,D5,Q5,z5,rfl,hX,.inr ⟨rfl,rfl,.inl hdue⟩,h5,hT2,hm2,hcs5,hms,.ok x2 [] os _ _ _ hpre (.quick x2 _ hA2) hAs⟩)
  ·obtain ⟨hg2,hcyq,_,hogl⟩ := hTr.good hW hg0
   have hcy2 : cy2 ≤ 900000000 := by have h9 : cy2 ≤ cy + 4354 := hcyq; omega
   cases b2 with
   | false =>
    conv => cbv
    refine RetF.mk [.p (.vsl (.sym 0) true []),.p (.vsl (.sym mg) true cg),i6 9] [(0,.mix [.ptr 1 (.lit 0),i6 st,i6 as_]),hpA 1 2 10 7 3 W 0 sp2 cy2,hpB 2 3 5 3 W,hpC 3 4 137 2 N,hpP 4 L2,hpP 5 D2,hpF 10 z2 ov2,hpP 7 Q2,(8,.fix 0 o),hpP 9 ca] 11 (Re.at [(0,0),(1,1),(2,2),(3,3),(4,4),(5,5),(10,10),(7,7),(8,8),(9,9)] []) rfl (.inr ⟨X,[],og,9,0,mg,[],cg,R2,ws2,C2,G2,ov2,0,sp2,cy2,L2,D2,Q2,z2,rfl,hX,.inr ⟨rfl,rfl,.inl hdue⟩,h2,rfl,rfl,hcg,hmg,.room x2 og _ _ hpre hTr⟩)
   | true =>
    conv => cbv
    refine drawn_sound tok (by kernel_rfl) [(8,[6,5,4,3,2,1,0]),(10,[1,0]),(11,[0])] [0,1,2,3,4,5,6,7,8,9,10,11,12,13,14] (by kernel_rfl) ?_; conv => cbv
    conv => cbv
    refine cfr (wordsOf_lx X jx O hjx hO (by omega) (sz_bd hX)) [] (fun r h' n' hrr => ?_)
    obtain ⟨v,e1,e2,e3,hv⟩ := hrr
    subst e1 e2 e3
    have hvb := wdsOf_bd X
    rw [← hv] at hvb
    have hav : 0 ≤ as_ * v ∧ as_ * v ≤ 8 * 3200000 := ⟨Int.mul_nonneg (by omega) (by omega),Int.mul_le_mul (by omega) (by omega) (by omega) (by decide)⟩
    conv => cbv
    refine Fit.mk (by show (-9223372036854775808 : Int) ≤ as_ * v; omega) (by show as_ * v ≤ 9223372036854775807; omega) fun c hc2 => ?_
    have hc2 : c = as_ * wdsOf X := by rw [← hv]; exact hc2
    conv => cbv
    have hcb : 0 ≤ c ∧ c ≤ 25600000 := by rw [hv] at hav; omega
    refine cfr (steps_lx R2 ws2 C2 G2 N W 0 sp2 cy2 L2 D2 Q2 z2 ov2 h2 o ho hg2 hcy2 c hcb.1 (by omega)) [(0,1),(1,2),(2,3),(3,4),(4,5),(5,10),(6,7),(7,8)] (fun r h' n' hrr => ?_)
    obtain ⟨os,ms,ph5,cs,R5,ws5,C5,G5,ov5,sp5,cy5,L5,D5,Q5,z5,e1,e2,e3,h5,hcs5,hms,hAs⟩ := hrr
    subst e1 e2 e3
    rw [hc2] at hAs
    have hsg := hAs.good hW hg2
    have hsl : os.length ≤ 69664 := hsg.2.2
    have hcl5 : cs.length = 4 * os.length := by rw [hcs5,gpv_length]
    conv => cbv
    refine Need.mk (by show (cs.length : Int) = ms * 4; omega) ?_
    conv => cbv
    have hclg : cg.length = 4 * og.length := by rw [hcg,gpv_length]
    refine Room.new ⟨by show (cg.length : Int) = mg * 4; omega,by show (mg + ms) * 48 ≤ 140737488355328; omega,by show mg + ms ≤ 9223372036854775807; omega⟩ ?_
    conv => cbv
    refine Upd.mk fun c6 hc6 => ?_
    have hc6 : c6 = gpv (og ++ os) := by rw [show c6 = cg ++ cs from hc6,hcg,hcs5,← gpv_app]
    conv => cbv
    refine Sum.mk fun m6 hm6 => ?_
    have hm6 : m6 = ((og ++ os).length : Int) := by rw [show m6 = mg + ms from hm6,hmg,hms,List.length_append]; rfl
    conv => cbv
    refine RetF.mk [.p (.vsl (.sym m2) true T2),.p (.vsl (.sym m6) true c6),i6 0] [(0,.mix [.ptr 1 (.lit 0),i6 st,i6 as_]),hpA 1 2 10 7 3 W ph5 sp5 cy5,hpB 2 3 5 3 W,hpC 3 4 137 2 N,hpP 4 L5,hpP 5 D5,hpF 10 z5 ov5,hpP 7 Q5,(8,.fix 0 o),hpP 9 ca] 11 (Re.at [(0,0),(1,1),(2,2),(3,3),(4,4),(5,5),(10,10),(7,7),(8,8),(9,9)] []) rfl (.inr ⟨X,x2,(og ++ os),0,m2,m6,T2,c6,R5,ws5,C5,G5,ov5,ph5,sp5,cy5,L5,D5,Q5,z5,rfl,hX,.inr ⟨rfl,rfl,.inl hdue⟩,h5,hT2,hm2,hc6,hm6,.ok x2 og os _ _ _ hpre hTr hAs⟩)
end Go.Proofs.YtpbhcdbkmmjimaaGreatDoor
