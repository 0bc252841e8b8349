/-
  Layer 21: the reference's store is asked for objects.
-/
import Derived.Test.YtcbombkaacjngaaGreatDoorBh
namespace Go.Proofs.YtcbombkaacjngaaGreatDoor
open Go Go.LX
set_option maxRecDepth 100000
set_option linter.unusedVariables false
set_option linter.unusedSimpArgs false
set_option maxHeartbeats 32000000
theorem Alcd.split {W st : Int} {n : Nat} {l : List (Int × Int)} {A : List Int} {s t : Hst} {x : List Int} {o : List Gn} {e : Int} (h : Alcd W st n l A s x o e t) : ∃ t0 b x1 t1 o1,Pre W st A s t0 ∧ Tried W l A t0 b x1 o1 t1 ∧ ((b = true ∧ ∃ o2,e = 0 ∧ x = x1 ∧ o = o1 ++ o2 ∧ Asst W n t1 o2 t) ∨ (b = false ∧ e = 9 ∧ x = [] ∧ o = o1 ∧ t = t1)) := by
 cases h with
 | ok x o1 o2 t0 t1 t h0 h1 h2 => exact ⟨t0,true,x,t1,o1,h0,h1,.inl ⟨rfl,o2,rfl,rfl,rfl,h2⟩⟩
 | room x o t0 t h0 h1 => exact ⟨t0,false,x,t,o,h0,h1,.inr ⟨rfl,rfl,rfl,rfl,rfl⟩⟩
theorem rAlloc21_lx (R : List Rw) (vs C G : List Int) (N W ph sp cy : Int) (P B V Q la : List PV) (m : Int) (ov : Bool) (h : RM R vs C G N W P B V Q la m) (st as_ : Int) (hc : COk N st as_) (s t : Hst) (hsm : Sm s ⟨R,vs,C,G,ov,ph,sp,cy⟩) (hg : Good N s) (hcy : s.cy ≤ 700000000) (l : List (Int × Int)) (X x : List Int) (out : List Gn) (e : Int) (k : Int) (cells : List PV) (hk : k = l.length) (hcs : cells = twosP l) (hX : Sz l X) (hl : l.length ≤ 100000) (A : List Int) (j : Int) (ca : List PV) (hca : ca = ipv A) (hj : j = A.length) (hAl : A.length ≤ 100000) (hA : Alcd W st (as_ * wdsOf X).toNat ((l.map Prod.fst).zip X) A s x out e t) :
  CallF (fun _ => Tryz.prog) 22 [.ptr 0 (.lit 0),.p (.vsl (.sym k) true cells),.p (.vsl (.sym j) true ca)] [(0,.mix [.ptr 1 (.lit 0),i6 N,i6 st,i6 as_]),hpR 1 2 7 3 W 8 ph sp cy,hpB 2 3 6 3 W,hpD 3 4 3 1 N 5 203 8 N,hpP 4 P,hpP 5 B,hpP 6 V,hpP 7 Q,(8,.mix [.p (.vsl (.sym m) true la),.p (.bool ov)])] 9 (fun r h n => ∃ (mx mg : Int) (T cellsh : List PV) (ph2 sp2 cy2 : Int) (R2 : List Rw) (vs2 C2 G2 : List Int) (ov2 : Bool) (P2 B2 V2 Q2 la2 : List PV) (m2 : Int),r = .tup [.p (.vsl (.sym mx) true T),.p (.vsl (.sym mg) true cellsh),i6 e] ∧ ((h = [(0,.mix [.ptr 1 (.lit 0),i6 N,i6 st,i6 as_]),hpR 1 2 7 3 W 8 ph2 sp2 cy2,hpB 2 3 6 3 W,hpD 3 4 3 1 N 5 203 8 N,hpP 4 P2,hpP 5 B2,hpP 6 V2,hpP 7 Q2,(8,.mix [.p (.vsl (.sym m2) true la2),.p (.bool ov2)])] ∧ n = 9) ∨ (h = [(0,.mix [.ptr 1 (.lit 0),i6 N,i6 st,i6 as_]),hpR 1 2 7 3 W 9 ph2 sp2 cy2,hpB 2 3 6 3 W,hpD 3 4 3 1 N 5 203 8 N,hpP 4 P2,hpP 5 B2,hpP 6 V2,hpP 7 Q2,(9,.mix [.p (.vsl (.sym m2) true la2),.p (.bool ov2)])] ∧ n = 10)) ∧ RM R2 vs2 C2 G2 N W P2 B2 V2 Q2 la2 m2 ∧ T = ipv x ∧ mx = x.length ∧ cellsh = gpv out ∧ mg = out.length ∧ Sm t ⟨R2,vs2,C2,G2,ov2,ph2,sp2,cy2⟩) := by
 have hW : W = 32 * N := h.w
 have hcl : cells.length = 2 * l.length := by rw [hcs,twosP_length]
 have hXl : X.length = l.length := hX.1
 have hXb := sz_bd hX
 have hn1 := hg.n1
 have hn2 := hg.n2
 unfold COk at hc
 refine callF_of_bodyB tok Tryz.func22 (by kernel_rfl) rfl rfl rfl [10] ?_; conv => cbv
 refine LoopF.mk (fun kk sx => ∃ (i sz : Int),sx = ⟨.ptr 0 (.lit 0) :: .p (.vsl (.sym k) true cells) :: .p (.vsl (.sym j) true ca) :: (undefs 6 ++ .p (.int .i64 (.sym sz)) :: .p (.int .i64 (.sym i)) :: undefs 148),[(0,.mix [.ptr 1 (.lit 0),i6 N,i6 st,i6 as_]),hpR 1 2 7 3 W 8 ph sp cy,hpB 2 3 6 3 W,hpD 3 4 3 1 N 5 203 8 N,hpP 4 P,hpP 5 B,hpP 6 V,hpP 7 Q,(8,.mix [.p (.vsl (.sym m) true la),.p (.bool ov)])],9⟩ ∧ 0 ≤ i ∧ i ≤ k ∧ sz = wdsOf (X.take i.toNat) ∧ kk = (k - i).toNat) k.toNat _
  (Re.at [(0,0),(1,1),(2,2),(3,3),(4,4),(5,5),(6,6),(7,7),(8,8)] []) ⟨0,0,rfl,by omega,by omega,rfl,by omega⟩ ?_
 rintro kk sx ⟨i,sz,rfl,hi0,hik,hsz,hkk⟩
 conv => cbv
 refine Br.mk (fun q => ?_) (fun q => ?_)
 case refine_2 =>
  have q : ¬ i < k := q
  rw [List.take_of_length_le (by omega : X.length ≤ i.toNat)] at hsz
  conv => cbv
  obtain ⟨t0,bt,x1,t1,o1,hpre,htr,hend⟩ := hA.split
  have hps : ph = s.ph := hsm.p
  have hRs : R = s.R := hsm.r
  refine JoinF.mk (fun sx => ∃ (ph2 sp2 cy2 : Int) (R2 : List Rw) (vs2 C2 G2 : List Int) (ov2 : Bool) (P2 B2 V2 Q2 la2 : List PV) (m2 : Int),(sx = ⟨.ptr 0 (.lit 0) :: .p (.vsl (.sym k) true cells) :: .p (.vsl (.sym j) true ca) :: (undefs 6 ++ .p (.int .i64 (.sym sz)) :: undefs 149),[(0,.mix [.ptr 1 (.lit 0),i6 N,i6 st,i6 as_]),hpR 1 2 7 3 W 8 ph2 sp2 cy2,hpB 2 3 6 3 W,hpD 3 4 3 1 N 5 203 8 N,hpP 4 P2,hpP 5 B2,hpP 6 V2,hpP 7 Q2,(8,.mix [.p (.vsl (.sym m2) true la2),.p (.bool ov2)])],9⟩ ∨ sx = ⟨.ptr 0 (.lit 0) :: .p (.vsl (.sym k) true cells) :: .p (.vsl (.sym j) true ca) :: (undefs 6 ++ .p (.int .i64 (.sym sz)) :: undefs 149),[(0,.mix [.ptr 1 (.lit 0),i6 N,i6 st,i6 as_]),hpR 1 2 7 3 W 9 ph2 sp2 cy2,hpB 2 3 6 3 W,hpD 3 4 3 1 N 5 203 8 N,hpP 4 P2,hpP 5 B2,hpP 6 V2,hpP 7 Q2,(9,.mix [.p (.vsl (.sym m2) true la2),.p (.bool ov2)])],10⟩) ∧ RM R2 vs2 C2 G2 N W P2 B2 V2 Q2 la2 m2 ∧ Sm t0 ⟨R2,vs2,C2,G2,ov2,ph2,sp2,cy2⟩) ?_ ?_
  ·conv => cbv
   refine drawn_sound tok (by kernel_rfl) [(19,[37,36,35,34,33,32,31,30,29,28,27,26,25,24,23,22,21])] [0,1,2,3,4,5,6,7,8,9,10,11,12,13,14,15,16,17,18,21,22,23,24,25,26,27,28,29,30,31,32,33,34,35,36,37,19,20,38,39] (by kernel_rfl) ?_; conv => cbv
   conv => cbv
   refine Br.mk (fun qp => ?_) (fun qp => ?_)
   case refine_2 =>
    have qp : ¬ ph = 0 := qp
    conv => cbv
    have e0 : t0 = s := hpre.not (fun w => qp (by rw [hps]; exact w.1))
    subst e0
    refine Joined.mk _ (Re.at [(0,0),(1,1),(2,2),(3,3),(4,4),(5,5),(6,6),(7,7),(8,8)] []) ⟨ph,sp,cy,R,vs,C,G,ov,P,B,V,Q,la,m,.inl rfl,h,hsm⟩
   have qp : ph = 0 := qp
   conv => cbv
   obtain ⟨u,hu⟩ : ∃ u : Int,u = usedW R := ⟨_,rfl⟩
   have hub := usedW_bd (R := R) (fun e he => (h.a.rows e he).1)
   rw [← hu] at hub
   have hNR := h.n
   have hsW : 0 ≤ st * W ∧ st * W ≤ 100 * 4096 := ⟨Int.mul_nonneg (by omega) (by omega),Int.mul_le_mul hc.2.1 (by omega) (by omega) (by decide)⟩
   refine Fit.mk (by show (-9223372036854775808 : Int) ≤ st * W; omega) (by show st * W ≤ 9223372036854775807; omega) fun w2 hw2 => ?_
   have hw2 : w2 = st * W := hw2
   conv => cbv
   refine cfr (rwords_lx R N P B h.p h.b h.n h.r (rok_of h.a.rows) u hu) [(0,3),(1,4),(2,5)] (fun r h' n' ⟨e1,e2,e3⟩ => ?_)
   subst e1 e2 e3
   conv => cbv
   refine Fit.mk (by show (-9223372036854775808 : Int) ≤ 100 * u; omega) (by show 100 * u ≤ 9223372036854775807; omega) fun u2 hu2 => ?_
   have hu2 : u2 = 100 * u := hu2
   conv => cbv
   refine Br.mk (fun q2 => ?_) (fun q2 => ?_)
   case refine_2 =>
    have q2 : ¬ w2 ≤ u2 := q2
    conv => cbv
    have e0 : t0 = s := hpre.not (fun w => q2 (by rw [hw2,hu2,hu,hRs]; exact w.2))
    subst e0
    refine Joined.mk _ (Re.at [(0,0),(1,1),(2,2),(3,3),(4,4),(5,5),(6,6),(7,7),(8,8)] []) ⟨ph,sp,cy,R,vs,C,G,ov,P,B,V,Q,la,m,.inl rfl,h,hsm⟩
   have q2 : w2 ≤ u2 := q2
   conv => cbv
   refine cfr (rbegin_lx R vs C G N W ph sp cy P B V Q la m ov h A j ca hca hj (by omega) qp) [(0,1),(1,2),(2,3),(3,4),(4,5),(5,6),(6,7),(7,8)] (fun r h' n' hrr => ?_)
   obtain ⟨C3,G3,ov3,Q3,la3,m3,e1,e2,e3,h3,hb3⟩ := hrr
   subst e1 e2 e3
   have hbg : Bgn W s A t0 := by
    rcases hpre with ⟨_,_,w⟩ | ⟨w,_⟩
    ·exact w
    ·exact absurd ⟨by rw [← hps]; exact qp,by rw [← hRs,← hu,← hu2,← hw2]; exact q2⟩ w
   have hs0 : Sm t0 ⟨R,vs,C3,G3,ov3,1,sp,cy⟩ := hsm.bgn hbg ⟨rfl,rfl,rfl,rfl,rfl,hb3⟩
   conv => cbv
   refine Joined.mk _ (Re.at [(0,0),(1,1),(2,2),(3,3),(4,4),(5,5),(6,6),(7,7),(9,9)] []) ⟨1,sp,cy,R,vs,C3,G3,ov3,P,B,V,Q3,la3,m3,.inr rfl,h3,hs0⟩
  rintro sx ⟨ph0,sp0,cy0,R0,vs0,C0,G0,ov0,P0,B0,V0,Q0,la0,m0,hsx,h0,hs0⟩
  obtain ⟨hg0,hcy0,_⟩ := hpre.good hW hg
  have hbx := htr.good hW hg0
  rcases hsx with rfl | rfl
  ·conv => cbv
   refine cfr (rAll_lx R0 vs0 C0 G0 N W ph0 sp0 cy0 P0 B0 V0 Q0 la0 m0 ov0 h0 st as_ l X k cells hk hcs hX hl) [(0,0),(1,1),(2,2),(3,3),(4,4),(5,5),(6,6),(7,7),(8,8)] (fun r h' n' hrr => ?_)
   obtain ⟨b5,x5,mo5,T5,R5,vs5,C5,P5,B5,V5,Q5,e1,hT5,hmo5,e2,e3,h5,hRA⟩ := hrr
   subst e1 e2 e3
   conv => cbv
   have htr2 := htr
   cases htr with
   | quick x1 t1 hal =>
    obtain ⟨hb5,hx5,hs5⟩ := hs0.allot hal hRA
    subst hb5 hx5
    obtain ⟨o2,he,hx,ho,k0,hk0,hM0,hz0⟩ : ∃ o2,e = 0 ∧ x = x1 ∧ out = [] ++ o2 ∧ Asst W (as_ * wdsOf X).toNat t1 o2 t := by
     rcases hend with ⟨_,w⟩ | ⟨w,_⟩
     ·exact w
     ·cases w
    have hMl := hM0.l
    have hkb := (hM0.cyb hW hbx.1).2
    have hszb := wdsOf_bd X
    rw [← hsz] at hszb
    have hasz : 0 ≤ as_ * sz ∧ as_ * sz ≤ 8 * 3200000 := ⟨Int.mul_nonneg (by omega) (by omega),Int.mul_le_mul (by omega) (by omega) (by omega) (by decide)⟩
    conv => cbv
    refine LoopF.mk (fun kk sx => ∃ (i mg : Int) (cells6 : List PV) (s2 : Hst) (k2 : Nat) (acc rest : List Gn) (ph6 sp6 cy6 : Int) (R6 : List Rw) (vs6 C6 G6 : List Int) (ov6 : Bool) (P6 B6 V6 Q6 la6 : List PV) (m6 : Int),sx = ⟨.ptr 0 (.lit 0) :: .p (.vsl (.sym k) true cells) :: .p (.vsl (.sym j) true ca) :: (undefs 6 ++ .p (.int .i64 (.sym sz)) :: (undefs 5 ++ .sl 9 40 4 (.lit 0) (.sym mg) :: .p (.vsl (.sym mo5) true T5) :: .p (.bool true) :: .p (.int .i64 (.sym i)) :: undefs 140)),[(0,.mix [.ptr 1 (.lit 0),i6 N,i6 st,i6 as_]),hpR 1 2 7 3 W 8 ph6 sp6 cy6,hpB 2 3 6 3 W,hpD 3 4 3 1 N 5 203 8 N,hpP 4 P6,hpP 5 B6,hpP 6 V6,hpP 7 Q6,(8,.mix [.p (.vsl (.sym m6) true la6),.p (.bool ov6)]),hpP 9 cells6],10⟩ ∧ RM R6 vs6 C6 G6 N W P6 B6 V6 Q6 la6 m6 ∧ Sm s2 ⟨R6,vs6,C6,G6,ov6,ph6,sp6,cy6⟩ ∧ ManyL W s2 k2 rest t ∧ Good N s2 ∧ out = acc ++ rest ∧ cells6 = gpv acc ∧ mg = acc.length ∧ acc.length + 32 * k2 ≤ 300000 ∧ s2.cy + k2 ≤ 700010000 ∧ 0 ≤ i ∧ i.toNat + k2 = k0 ∧ kk = k2) k0 _
     (Re.at [(0,0),(1,1),(2,2),(3,3),(4,4),(5,5),(6,6),(7,7),(8,8)] [9]) ⟨0,0,[],t1,k0,[],o2,ph0,sp0,cy0,R5,vs5,C5,G0,ov0,P5,B5,V5,Q5,la0,m0,rfl,h5,hs5,hMl,hbx.1,ho,rfl,rfl,by show 0 + 32 * k0 ≤ 300000; omega,by omega,by decide,by show 0 + k0 = k0; omega,rfl⟩ ?_
    rintro kk sx ⟨i,mg,cells6,s2,k2,acc,rest,ph6,sp6,cy6,R6,vs6,C6,G6,ov6,P6,B6,V6,Q6,la6,m6,rfl,h6,hs6,hm6,hg6,hout6,hcs6,hmg6,hlen6,hcy6,hi6,hik6,hkk⟩
    conv => cbv
    refine Fit.mk (by show (-9223372036854775808 : Int) ≤ as_ * sz; omega) (by show as_ * sz ≤ 9223372036854775807; omega) fun c hcv => ?_
    have hcv : c = as_ * sz := hcv
    have hcn : c = (as_ * wdsOf X).toNat := by rw [hcv,hsz] at *; omega
    have hp6 : ph6 = s2.ph := hs6.p
    have hsp6 : sp6 = s2.sp := hs6.q
    have hy6 : cy6 = s2.cy := hs6.y
    have hspb := hg6.p
    have hy0 := hg6.y
    have hNb := hg6.n2
    conv => cbv
    refine Br.mk (fun q3 => ?_) (fun q3 => ?_)
    case refine_2 =>
     have q3 : ¬ i < c := q3
     have hk20 : k2 = 0 := by omega
     subst hk20
     obtain ⟨rfl,rfl⟩ : rest = [] ∧ t = s2 := by cases hm6; exact ⟨rfl,rfl⟩
     rw [List.append_nil] at hout6
     subst hout6
     conv => cbv
     refine RetF.mk [.p (.vsl (.sym mo5) true T5),.p (.vsl (.sym mg) true cells6),i6 0] [(0,.mix [.ptr 1 (.lit 0),i6 N,i6 st,i6 as_]),hpR 1 2 7 3 W 8 ph6 sp6 cy6,hpB 2 3 6 3 W,hpD 3 4 3 1 N 5 203 8 N,hpP 4 P6,hpP 5 B6,hpP 6 V6,hpP 7 Q6,(8,.mix [.p (.vsl (.sym m6) true la6),.p (.bool ov6)])] 9 (Re.at [(0,0),(1,1),(2,2),(3,3),(4,4),(5,5),(6,6),(7,7),(8,8)] []) rfl ⟨mo5,mg,T5,cells6,ph6,sp6,cy6,R6,vs6,C6,G6,ov6,P6,B6,V6,Q6,la6,m6,(congrArg (fun z => LV.tup [.p (.vsl (.sym mo5) true T5),.p (.vsl (.sym mg) true cells6),i6 z]) he.symm),.inl ⟨rfl,rfl⟩,h6,(by rw [hx]; exact hT5),(by rw [hx]; exact hmo5),hcs6,hmg6,hs6⟩
    have q3 : i < c := q3
    conv => cbv
    refine Br.mk (fun q4 => ?_) (fun q4 => ?_)
    case refine_2 =>
     have q4 : ph6 = 0 := Classical.byContradiction q4
     have hk20 : k2 = 0 := by cases hm6 with | zero _ => rfl | cons _ _ _ _ _ _ hp _ _ => exact absurd (by rw [← hp6]; exact q4) hp
     subst hk20
     obtain ⟨rfl,rfl⟩ : rest = [] ∧ t = s2 := by cases hm6; exact ⟨rfl,rfl⟩
     rw [List.append_nil] at hout6
     subst hout6
     conv => cbv
     refine RetF.mk [.p (.vsl (.sym mo5) true T5),.p (.vsl (.sym mg) true cells6),i6 0] [(0,.mix [.ptr 1 (.lit 0),i6 N,i6 st,i6 as_]),hpR 1 2 7 3 W 8 ph6 sp6 cy6,hpB 2 3 6 3 W,hpD 3 4 3 1 N 5 203 8 N,hpP 4 P6,hpP 5 B6,hpP 6 V6,hpP 7 Q6,(8,.mix [.p (.vsl (.sym m6) true la6),.p (.bool ov6)])] 9 (Re.at [(0,0),(1,1),(2,2),(3,3),(4,4),(5,5),(6,6),(7,7),(8,8)] []) rfl ⟨mo5,mg,T5,cells6,ph6,sp6,cy6,R6,vs6,C6,G6,ov6,P6,B6,V6,Q6,la6,m6,(congrArg (fun z => LV.tup [.p (.vsl (.sym mo5) true T5),.p (.vsl (.sym mg) true cells6),i6 z]) he.symm),.inl ⟨rfl,rfl⟩,h6,(by rw [hx]; exact hT5),(by rw [hx]; exact hmo5),hcs6,hmg6,hs6⟩
    have q4 : ¬ ph6 = 0 := q4
    cases hm6 with
    | zero s2 =>
     exfalso
     rcases hz0 with hz | hz
     ·omega
     ·exact q4 (by rw [hp6]; exact hz)
    | cons s2 s3 t k3 o1 o2 hp hs hm3 =>
     conv => cbv
     refine cfr (rstep_lx R6 vs6 C6 G6 N W ph6 sp6 cy6 P6 B6 V6 Q6 la6 m6 ov6 h6 ⟨by omega,by omega⟩ ⟨by omega,by omega⟩) [(0,1),(1,2),(2,3),(3,4),(4,5),(5,6),(6,7),(7,8)] (fun r h' n' hrr => ?_)
     obtain ⟨o3,kx,ph7,sp7,cy7,R7,vs7,C7,G7,ov7,cells',P7,B7,V7,Q7,la7,m7,e4,e5,e6,h7,hcs7,hkx,hst⟩ := hrr
     subst e4 e5 e6
     obtain ⟨eo,hs7⟩ := Sm.stp (v := ⟨R7,vs7,C7,G7,ov7,ph7,sp7,cy7⟩) hs6 hspb.1 hs hst
     subst eo
     obtain ⟨g1,g2,g3,g4⟩ := hg6.step hW hp hs
     have hcy9 : s3.cy + ((k3 : Nat) : Int) ≤ 700010000 := by
      have h9 : s2.cy + ((k3 + 1 : Nat) : Int) ≤ 700010000 := hcy6
      omega
     have hcl2 : cells'.length = 4 * o1.length := by rw [hcs7,gpv_length]
     have hcl1 : cells6.length = 4 * acc.length := by rw [hcs6,gpv_length]
     conv => cbv
     refine Need.mk (by show (cells'.length : Int) = kx * 4; omega) ?_
     conv => cbv
     refine Room.new ⟨by show (cells6.length : Int) = mg * 4; omega,by show (mg + kx) * 48 ≤ 140737488355328; omega,by show mg + kx ≤ 9223372036854775807; omega⟩ ?_
     conv => cbv
     refine Upd.mk fun c2 hc2 => ?_
     have hc2 : c2 = gpv (acc ++ o1) := by rw [show c2 = cells6 ++ cells' from hc2,hcs6,hcs7,gpv_app]
     conv => cbv
     refine Sum.mk fun mg2 hm4 => ?_
     have hm4 : mg2 = ((acc ++ o1).length : Int) := by rw [show mg2 = mg + kx from hm4,hmg6,hkx,List.length_append]; rfl
     conv => cbv
     refine Fit.mk (by show (-9223372036854775808 : Int) ≤ i + 1; omega) (by show i + 1 ≤ 9223372036854775807; omega) fun i2 hi2 => ?_
     have hi2 : i2 = i + 1 := hi2
     conv => cbv
     refine Again.mk k3 _ (by omega) (Re.at [(0,0),(1,1),(2,2),(3,3),(4,4),(5,5),(6,6),(7,7),(8,8),(10,9)] []) ⟨i2,mg2,c2,s3,k3,acc ++ o1,o2,ph7,sp7,cy7,R7,vs7,C7,G7,ov7,P7,B7,V7,Q7,la7,m7,rfl,h7,hs7,hm3,g1,by rw [hout6,List.append_assoc],hc2,hm4,by rw [List.length_append]; omega,hcy9,by omega,by omega,rfl⟩
   | forced b x1 oa ob ka kb u1 u2 u3 u4 u5 hal1 hm1 hp1 hbg hm2 hp2 hal2 =>
    obtain ⟨hb5,hx5,hs5⟩ := hs0.allot hal1 hRA
    subst hb5
    obtain ⟨gu1,_⟩ := hal1.good hg0
    have hcu1 : cy0 = u1.cy := hs5.y
    have hcu0 : cy0 = t0.cy := hs0.y
    have hb1 := (hm1.cyb hW gu1)
    conv => cbv
    refine cfr (rIdle_lx R5 vs5 C5 G0 N W ph0 sp0 cy0 P5 B5 V5 Q5 la0 m0 ov0 h5 st as_ u1 u2 ka oa hs5 hm1.l hp1 gu1 (by omega) (by omega)) [(0,0),(1,1),(2,2),(3,3),(4,4),(5,5),(6,6),(7,7),(8,8)] (fun r h' n' hrr => ?_)
    obtain ⟨mg,cg,ph6,sp6,cy6,R6,vs6,C6,G6,ov6,P6,B6,V6,Q6,la6,m6,e1,e2,e3,h6,hcg,hmg,hs6,gu2⟩ := hrr
    subst e1 e2 e3
    have hclg : cg.length = 4 * oa.length := by rw [hcg,gpv_length]
    conv => cbv
    refine Room.new (by show (cg.length : Int) = mg * 4; omega) ?_
    conv => cbv
    refine Need.mk ⟨by show mg * 48 ≤ 140737488355328; omega,by show mg ≤ 9223372036854775807; omega⟩ ?_
    conv => cbv
    refine drawn_sound tok (by kernel_rfl) [(6,[3,2,1,0]),(7,[])] [0,1,2,3,4,5,6,7] (by kernel_rfl) ?_; conv => cbv
    conv => cbv
    refine callF_lend (withKept_lx A j ca hca hj hAl oa mg cg hmg hcg (by omega)) (by simp [lends,lendV,hget,I.val,pvle]) (fun r h' n' hrr => ?_) (fun r h' n' hrr => ?_)
    ·obtain ⟨m8,T8,e1,e2,e3,hT8,hm8⟩ := hrr
     subst e1 e2
     exact ⟨trivial,fun u hu => by rw [hT8] at hu; obtain ⟨y,_,rfl⟩ := List.mem_map.1 hu; exact trivial,trivial⟩
    obtain ⟨m8,T8,e1,e2,e3,hT8,hm8⟩ := hrr
    subst e1 e2 e3
    have hgk := gone_kept oa
    have hp6 : ph6 = 0 := by rw [show ph6 = u2.ph from hs6.p,hp1]
    conv => cbv
    refine CallF.re (args0 := [.ptr 1 (.lit 0),.p (.vsl (.sym m8) true T8)]) (h' := [(0,.mix [.ptr 1 (.lit 0),i6 N,i6 st,i6 as_]),hpR 1 2 7 3 W 8 ph6 sp6 cy6,hpB 2 3 6 3 W,hpD 3 4 3 1 N 5 203 8 N,hpP 4 P6,hpP 5 B6,hpP 6 V6,hpP 7 Q6,(8,.mix [.p (.vsl (.sym m6) true la6),.p (.bool ov6)]),hpP 10 cg]) (Re.at [(0,0),(1,1),(2,2),(3,3),(4,4),(5,5),(6,6),(7,7),(8,8),(10,10)] []) (cfr (rbegin_lx R6 vs6 C6 G6 N W ph6 sp6 cy6 P6 B6 V6 Q6 la6 m6 ov6 h6 (A ++ keptOf oa) m8 T8 hT8 hm8 (by rw [List.length_append]; omega) hp6) [(0,1),(1,2),(2,3),(3,4),(4,5),(5,6),(6,7),(7,8)] (fun r h' n' hrr => ?_))
    obtain ⟨C7,G7,ov7,Q7,la7,m7,e1,e2,e3,h7,hb7⟩ := hrr
    subst e1 e2 e3
    have hs7 : Sm u3 ⟨R6,vs6,C7,G7,ov7,1,sp6,cy6⟩ := hs6.bgn hbg ⟨rfl,rfl,rfl,rfl,rfl,hb7⟩
    have gu3 := hbg.good hW gu2
    have hb2 := (hm2.cyb hW gu3)
    have hcu3 : u3.cy = u2.cy := hbg.y
    conv => cbv
    refine cfr (rIdle_lx R6 vs6 C7 G7 N W 1 sp6 cy6 P6 B6 V6 Q7 la7 m7 ov7 h7 st as_ u3 u4 kb ob hs7 hm2.l hp2 gu3 (by omega) (by have := hb1.1; omega)) [(0,0),(1,1),(2,2),(3,3),(4,4),(5,5),(6,6),(7,7),(8,12)] (fun r h' n' hrr => ?_)
    obtain ⟨mg8,cg8,ph8,sp8,cy8,R8,vs8,C8,G8,ov8,P8,B8,V8,Q8,la8,m8b,e1,e2,e3,h8,hcg8,hmg8,hs8,gu4⟩ := hrr
    subst e1 e2 e3
    have hclg8 : cg8.length = 4 * ob.length := by rw [hcg8,gpv_length]
    conv => cbv
    refine Room.new (by show (cg8.length : Int) = mg8 * 4; omega) ?_
    conv => cbv
    refine Room.new ⟨by show (cg.length : Int) = mg * 4; omega,by show (mg + mg8) * 48 ≤ 140737488355328; omega,by show mg + mg8 ≤ 9223372036854775807; omega⟩ ?_
    conv => cbv
    refine Upd.mk fun cF hcF => ?_
    have hcF : cF = gpv (oa ++ ob) := by rw [show cF = cg ++ cg8 from hcF,hcg,hcg8,gpv_app]
    conv => cbv
    refine Sum.mk fun mF hmF => ?_
    have hmF : mF = ((oa ++ ob).length : Int) := by rw [show mF = mg + mg8 from hmF,hmg,hmg8,List.length_append]; rfl
    conv => cbv
    refine cfr (rAll_lx R8 vs8 C8 G8 N W ph8 sp8 cy8 P8 B8 V8 Q8 la8 m8b ov8 h8 st as_ l X k cells hk hcs hX hl) [(0,0),(1,1),(2,2),(3,3),(4,4),(5,5),(6,6),(7,7),(8,12)] (fun r h' n' hrr => ?_)
    obtain ⟨b9,x9,mo9,T9,R9,vs9,C9,P9,B9,V9,Q9,e1,hT9,hmo9,e2,e3,h9,hRA9⟩ := hrr
    subst e1 e2 e3
    obtain ⟨hb9,hx9,hs9⟩ := hs8.allot hal2 hRA9
    subst hb9 hx9
    have hlF : (oa ++ ob).length ≤ 139328 := by rw [List.length_append]; omega
    cases bt with
    | false =>
     obtain ⟨he,hx,ho,ht⟩ : e = 9 ∧ x = [] ∧ out = oa ++ ob ∧ t = t1 := by
      rcases hend with ⟨w,_⟩ | ⟨_,w⟩
      ·cases w
      ·exact w
     conv => cbv
     refine RetF.mk [.p (.vsl (.sym 0) true []),.p (.vsl (.sym mF) true cF),i6 9] [(0,.mix [.ptr 1 (.lit 0),i6 N,i6 st,i6 as_]),hpR 1 2 7 3 W 9 ph8 sp8 cy8,hpB 2 3 6 3 W,hpD 3 4 3 1 N 5 203 8 N,hpP 4 P9,hpP 5 B9,hpP 6 V9,hpP 7 Q9,(9,.mix [.p (.vsl (.sym m8b) true la8),.p (.bool ov8)])] 10 (Re.at [(0,0),(1,1),(2,2),(3,3),(4,4),(5,5),(6,6),(7,7),(12,9)] []) rfl ⟨0,mF,[],cF,ph8,sp8,cy8,R9,vs9,C9,G8,ov8,P9,B9,V9,Q9,la8,m8b,(congrArg (fun z => LV.tup [.p (.vsl (.sym 0) true []),.p (.vsl (.sym mF) true cF),i6 z]) he.symm),.inr ⟨rfl,rfl⟩,h9,(by rw [hx]; rfl),(by rw [hx]; rfl),(by rw [ho]; exact hcF),(by rw [ho]; exact hmF),(by rw [ht]; exact hs9)⟩
    | true =>
     obtain ⟨o2,he,hx,ho,k0,hk0,hM0,hz0⟩ : ∃ o2,e = 0 ∧ x = x1 ∧ out = (oa ++ ob) ++ o2 ∧ Asst W (as_ * wdsOf X).toNat t1 o2 t := by
      rcases hend with ⟨_,w⟩ | ⟨w,_⟩
      ·exact w
      ·cases w
     have hMl := hM0.l
     have hkb := (hM0.cyb hW hbx.1).2
     have hszb := wdsOf_bd X
     rw [← hsz] at hszb
     have hasz : 0 ≤ as_ * sz ∧ as_ * sz ≤ 8 * 3200000 := ⟨Int.mul_nonneg (by omega) (by omega),Int.mul_le_mul (by omega) (by omega) (by omega) (by decide)⟩
     conv => cbv
     refine LoopF.mk (fun kk sx => ∃ (i mg : Int) (cells6 : List PV) (s2 : Hst) (k2 : Nat) (acc rest : List Gn) (ph6 sp6 cy6 : Int) (R6 : List Rw) (vs6 C6 G6 : List Int) (ov6 : Bool) (P6 B6 V6 Q6 la6 : List PV) (m6 : Int),sx = ⟨.ptr 0 (.lit 0) :: .p (.vsl (.sym k) true cells) :: .p (.vsl (.sym j) true ca) :: (undefs 6 ++ .p (.int .i64 (.sym sz)) :: (undefs 5 ++ .sl 10 40 4 (.lit 0) (.sym mg) :: .p (.vsl (.sym mo9) true T9) :: .p (.bool true) :: .p (.int .i64 (.sym i)) :: undefs 140)),[(0,.mix [.ptr 1 (.lit 0),i6 N,i6 st,i6 as_]),hpR 1 2 7 3 W 9 ph6 sp6 cy6,hpB 2 3 6 3 W,hpD 3 4 3 1 N 5 203 8 N,hpP 4 P6,hpP 5 B6,hpP 6 V6,hpP 7 Q6,(9,.mix [.p (.vsl (.sym m6) true la6),.p (.bool ov6)]),hpP 10 cells6],11⟩ ∧ RM R6 vs6 C6 G6 N W P6 B6 V6 Q6 la6 m6 ∧ Sm s2 ⟨R6,vs6,C6,G6,ov6,ph6,sp6,cy6⟩ ∧ ManyL W s2 k2 rest t ∧ Good N s2 ∧ out = acc ++ rest ∧ cells6 = gpv acc ∧ mg = acc.length ∧ acc.length + 32 * k2 ≤ 300000 ∧ s2.cy + k2 ≤ 700010000 ∧ 0 ≤ i ∧ i.toNat + k2 = k0 ∧ kk = k2) k0 _
      (Re.at [(0,0),(1,1),(2,2),(3,3),(4,4),(5,5),(6,6),(7,7),(12,9),(14,10)] []) ⟨0,mF,cF,t1,k0,(oa ++ ob),o2,ph8,sp8,cy8,R9,vs9,C9,G8,ov8,P9,B9,V9,Q9,la8,m8b,rfl,h9,hs9,hMl,hbx.1,ho,hcF,hmF,by omega,by omega,by decide,by show 0 + k0 = k0; omega,rfl⟩ ?_
     rintro kk sx ⟨i,mg,cells6,s2,k2,acc,rest,ph6,sp6,cy6,R6,vs6,C6,G6,ov6,P6,B6,V6,Q6,la6,m6,rfl,h6,hs6,hm6,hg6,hout6,hcs6,hmg6,hlen6,hcy6,hi6,hik6,hkk⟩
     conv => cbv
     refine Fit.mk (by show (-9223372036854775808 : Int) ≤ as_ * sz; omega) (by show as_ * sz ≤ 9223372036854775807; omega) fun c hcv => ?_
     have hcv : c = as_ * sz := hcv
     have hcn : c = (as_ * wdsOf X).toNat := by rw [hcv,hsz] at *; omega
     have hp6 : ph6 = s2.ph := hs6.p
     have hsp6 : sp6 = s2.sp := hs6.q
     have hy6 : cy6 = s2.cy := hs6.y
     have hspb := hg6.p
     have hy0 := hg6.y
     have hNb := hg6.n2
     conv => cbv
     refine Br.mk (fun q3 => ?_) (fun q3 => ?_)
     case refine_2 =>
      have q3 : ¬ i < c := q3
      have hk20 : k2 = 0 := by omega
      subst hk20
      obtain ⟨rfl,rfl⟩ : rest = [] ∧ t = s2 := by cases hm6; exact ⟨rfl,rfl⟩
      rw [List.append_nil] at hout6
      subst hout6
      conv => cbv
      refine RetF.mk [.p (.vsl (.sym mo9) true T9),.p (.vsl (.sym mg) true cells6),i6 0] [(0,.mix [.ptr 1 (.lit 0),i6 N,i6 st,i6 as_]),hpR 1 2 7 3 W 9 ph6 sp6 cy6,hpB 2 3 6 3 W,hpD 3 4 3 1 N 5 203 8 N,hpP 4 P6,hpP 5 B6,hpP 6 V6,hpP 7 Q6,(9,.mix [.p (.vsl (.sym m6) true la6),.p (.bool ov6)])] 10 (Re.at [(0,0),(1,1),(2,2),(3,3),(4,4),(5,5),(6,6),(7,7),(9,9)] []) rfl ⟨mo9,mg,T9,cells6,ph6,sp6,cy6,R6,vs6,C6,G6,ov6,P6,B6,V6,Q6,la6,m6,(congrArg (fun z => LV.tup [.p (.vsl (.sym mo9) true T9),.p (.vsl (.sym mg) true cells6),i6 z]) he.symm),.inr ⟨rfl,rfl⟩,h6,(by rw [hx]; exact hT9),(by rw [hx]; exact hmo9),hcs6,hmg6,hs6⟩
     have q3 : i < c := q3
     conv => cbv
     refine Br.mk (fun q4 => ?_) (fun q4 => ?_)
     case refine_2 =>
      have q4 : ph6 = 0 := Classical.byContradiction q4
      have hk20 : k2 = 0 := by cases hm6 with | zero _ => rfl | cons _ _ _ _ _ _ hp _ _ => exact absurd (by rw [← hp6]; exact q4) hp
      subst hk20
      obtain ⟨rfl,rfl⟩ : rest = [] ∧ t = s2 := by cases hm6; exact ⟨rfl,rfl⟩
      rw [List.append_nil] at hout6
      subst hout6
      conv => cbv
      refine RetF.mk [.p (.vsl (.sym mo9) true T9),.p (.vsl (.sym mg) true cells6),i6 0] [(0,.mix [.ptr 1 (.lit 0),i6 N,i6 st,i6 as_]),hpR 1 2 7 3 W 9 ph6 sp6 cy6,hpB 2 3 6 3 W,hpD 3 4 3 1 N 5 203 8 N,hpP 4 P6,hpP 5 B6,hpP 6 V6,hpP 7 Q6,(9,.mix [.p (.vsl (.sym m6) true la6),.p (.bool ov6)])] 10 (Re.at [(0,0),(1,1),(2,2),(3,3),(4,4),(5,5),(6,6),(7,7),(9,9)] []) rfl ⟨mo9,mg,T9,cells6,ph6,sp6,cy6,R6,vs6,C6,G6,ov6,P6,B6,V6,Q6,la6,m6,(congrArg (fun z => LV.tup [.p (.vsl (.sym mo9) true T9),.p (.vsl (.sym mg) true cells6),i6 z]) he.symm),.inr ⟨rfl,rfl⟩,h6,(by rw [hx]; exact hT9),(by rw [hx]; exact hmo9),hcs6,hmg6,hs6⟩
     have q4 : ¬ ph6 = 0 := q4
     cases hm6 with
     | zero s2 =>
      exfalso
      rcases hz0 with hz | hz
      ·omega
      ·exact q4 (by rw [hp6]; exact hz)
     | cons s2 s3 t k3 o1 o2 hp hs hm3 =>
      conv => cbv
      refine cfr (rstep_lx R6 vs6 C6 G6 N W ph6 sp6 cy6 P6 B6 V6 Q6 la6 m6 ov6 h6 ⟨by omega,by omega⟩ ⟨by omega,by omega⟩) [(0,1),(1,2),(2,3),(3,4),(4,5),(5,6),(6,7),(7,9)] (fun r h' n' hrr => ?_)
      obtain ⟨o3,kx,ph7,sp7,cy7,R7,vs7,C7,G7,ov7,cells',P7,B7,V7,Q7,la7,m7,e4,e5,e6,h7,hcs7,hkx,hst⟩ := hrr
      subst e4 e5 e6
      obtain ⟨eo,hs7⟩ := Sm.stp (v := ⟨R7,vs7,C7,G7,ov7,ph7,sp7,cy7⟩) hs6 hspb.1 hs hst
      subst eo
      obtain ⟨g1,g2,g3,g4⟩ := hg6.step hW hp hs
      have hcy9 : s3.cy + ((k3 : Nat) : Int) ≤ 700010000 := by
       have h9 : s2.cy + ((k3 + 1 : Nat) : Int) ≤ 700010000 := hcy6
       omega
      have hcl2 : cells'.length = 4 * o1.length := by rw [hcs7,gpv_length]
      have hcl1 : cells6.length = 4 * acc.length := by rw [hcs6,gpv_length]
      conv => cbv
      refine Need.mk (by show (cells'.length : Int) = kx * 4; omega) ?_
      conv => cbv
      refine Room.new ⟨by show (cells6.length : Int) = mg * 4; omega,by show (mg + kx) * 48 ≤ 140737488355328; omega,by show mg + kx ≤ 9223372036854775807; omega⟩ ?_
      conv => cbv
      refine Upd.mk fun c2 hc2 => ?_
      have hc2 : c2 = gpv (acc ++ o1) := by rw [show c2 = cells6 ++ cells' from hc2,hcs6,hcs7,gpv_app]
      conv => cbv
      refine Sum.mk fun mg2 hm4 => ?_
      have hm4 : mg2 = ((acc ++ o1).length : Int) := by rw [show mg2 = mg + kx from hm4,hmg6,hkx,List.length_append]; rfl
      conv => cbv
      refine Fit.mk (by show (-9223372036854775808 : Int) ≤ i + 1; omega) (by show i + 1 ≤ 9223372036854775807; omega) fun i2 hi2 => ?_
      have hi2 : i2 = i + 1 := hi2
      conv => cbv
      refine Again.mk k3 _ (by omega) (Re.at [(0,0),(1,1),(2,2),(3,3),(4,4),(5,5),(6,6),(7,7),(9,9),(11,10)] []) ⟨i2,mg2,c2,s3,k3,acc ++ o1,o2,ph7,sp7,cy7,R7,vs7,C7,G7,ov7,P7,B7,V7,Q7,la7,m7,rfl,h7,hs7,hm3,g1,by rw [hout6,List.append_assoc],hc2,hm4,by rw [List.length_append]; omega,hcy9,by omega,by omega,rfl⟩
  ·conv => cbv
   refine cfr (rAll_lx R0 vs0 C0 G0 N W ph0 sp0 cy0 P0 B0 V0 Q0 la0 m0 ov0 h0 st as_ l X k cells hk hcs hX hl) [(0,0),(1,1),(2,2),(3,3),(4,4),(5,5),(6,6),(7,7),(8,9)] (fun r h' n' hrr => ?_)
   obtain ⟨b5,x5,mo5,T5,R5,vs5,C5,P5,B5,V5,Q5,e1,hT5,hmo5,e2,e3,h5,hRA⟩ := hrr
   subst e1 e2 e3
   conv => cbv
   have htr2 := htr
   cases htr with
   | quick x1 t1 hal =>
    obtain ⟨hb5,hx5,hs5⟩ := hs0.allot hal hRA
    subst hb5 hx5
    obtain ⟨o2,he,hx,ho,k0,hk0,hM0,hz0⟩ : ∃ o2,e = 0 ∧ x = x1 ∧ out = [] ++ o2 ∧ Asst W (as_ * wdsOf X).toNat t1 o2 t := by
     rcases hend with ⟨_,w⟩ | ⟨w,_⟩
     ·exact w
     ·cases w
    have hMl := hM0.l
    have hkb := (hM0.cyb hW hbx.1).2
    have hszb := wdsOf_bd X
    rw [← hsz] at hszb
    have hasz : 0 ≤ as_ * sz ∧ as_ * sz ≤ 8 * 3200000 := ⟨Int.mul_nonneg (by omega) (by omega),Int.mul_le_mul (by omega) (by omega) (by omega) (by decide)⟩
    conv => cbv
    refine LoopF.mk (fun kk sx => ∃ (i mg : Int) (cells6 : List PV) (s2 : Hst) (k2 : Nat) (acc rest : List Gn) (ph6 sp6 cy6 : Int) (R6 : List Rw) (vs6 C6 G6 : List Int) (ov6 : Bool) (P6 B6 V6 Q6 la6 : List PV) (m6 : Int),sx = ⟨.ptr 0 (.lit 0) :: .p (.vsl (.sym k) true cells) :: .p (.vsl (.sym j) true ca) :: (undefs 6 ++ .p (.int .i64 (.sym sz)) :: (undefs 5 ++ .sl 10 40 4 (.lit 0) (.sym mg) :: .p (.vsl (.sym mo5) true T5) :: .p (.bool true) :: .p (.int .i64 (.sym i)) :: undefs 140)),[(0,.mix [.ptr 1 (.lit 0),i6 N,i6 st,i6 as_]),hpR 1 2 7 3 W 9 ph6 sp6 cy6,hpB 2 3 6 3 W,hpD 3 4 3 1 N 5 203 8 N,hpP 4 P6,hpP 5 B6,hpP 6 V6,hpP 7 Q6,(9,.mix [.p (.vsl (.sym m6) true la6),.p (.bool ov6)]),hpP 10 cells6],11⟩ ∧ RM R6 vs6 C6 G6 N W P6 B6 V6 Q6 la6 m6 ∧ Sm s2 ⟨R6,vs6,C6,G6,ov6,ph6,sp6,cy6⟩ ∧ ManyL W s2 k2 rest t ∧ Good N s2 ∧ out = acc ++ rest ∧ cells6 = gpv acc ∧ mg = acc.length ∧ acc.length + 32 * k2 ≤ 300000 ∧ s2.cy + k2 ≤ 700010000 ∧ 0 ≤ i ∧ i.toNat + k2 = k0 ∧ kk = k2) k0 _
     (Re.at [(0,0),(1,1),(2,2),(3,3),(4,4),(5,5),(6,6),(7,7),(9,9)] [10]) ⟨0,0,[],t1,k0,[],o2,ph0,sp0,cy0,R5,vs5,C5,G0,ov0,P5,B5,V5,Q5,la0,m0,rfl,h5,hs5,hMl,hbx.1,ho,rfl,rfl,by show 0 + 32 * k0 ≤ 300000; omega,by omega,by decide,by show 0 + k0 = k0; omega,rfl⟩ ?_
    rintro kk sx ⟨i,mg,cells6,s2,k2,acc,rest,ph6,sp6,cy6,R6,vs6,C6,G6,ov6,P6,B6,V6,Q6,la6,m6,rfl,h6,hs6,hm6,hg6,hout6,hcs6,hmg6,hlen6,hcy6,hi6,hik6,hkk⟩
    conv => cbv
    refine Fit.mk (by show (-9223372036854775808 : Int) ≤ as_ * sz; omega) (by show as_ * sz ≤ 9223372036854775807; omega) fun c hcv => ?_
    have hcv : c = as_ * sz := hcv
    have hcn : c = (as_ * wdsOf X).toNat := by rw [hcv,hsz] at *; omega
    have hp6 : ph6 = s2.ph := hs6.p
    have hsp6 : sp6 = s2.sp := hs6.q
    have hy6 : cy6 = s2.cy := hs6.y
    have hspb := hg6.p
    have hy0 := hg6.y
    have hNb := hg6.n2
    conv => cbv
    refine Br.mk (fun q3 => ?_) (fun q3 => ?_)
    case refine_2 =>
     have q3 : ¬ i < c := q3
     have hk20 : k2 = 0 := by omega
     subst hk20
     obtain ⟨rfl,rfl⟩ : rest = [] ∧ t = s2 := by cases hm6; exact ⟨rfl,rfl⟩
     rw [List.append_nil] at hout6
     subst hout6
     conv => cbv
     refine RetF.mk [.p (.vsl (.sym mo5) true T5),.p (.vsl (.sym mg) true cells6),i6 0] [(0,.mix [.ptr 1 (.lit 0),i6 N,i6 st,i6 as_]),hpR 1 2 7 3 W 9 ph6 sp6 cy6,hpB 2 3 6 3 W,hpD 3 4 3 1 N 5 203 8 N,hpP 4 P6,hpP 5 B6,hpP 6 V6,hpP 7 Q6,(9,.mix [.p (.vsl (.sym m6) true la6),.p (.bool ov6)])] 10 (Re.at [(0,0),(1,1),(2,2),(3,3),(4,4),(5,5),(6,6),(7,7),(9,9)] []) rfl ⟨mo5,mg,T5,cells6,ph6,sp6,cy6,R6,vs6,C6,G6,ov6,P6,B6,V6,Q6,la6,m6,(congrArg (fun z => LV.tup [.p (.vsl (.sym mo5) true T5),.p (.vsl (.sym mg) true cells6),i6 z]) he.symm),.inr ⟨rfl,rfl⟩,h6,(by rw [hx]; exact hT5),(by rw [hx]; exact hmo5),hcs6,hmg6,hs6⟩
    have q3 : i < c := q3
    conv => cbv
    refine Br.mk (fun q4 => ?_) (fun q4 => ?_)
    case refine_2 =>
     have q4 : ph6 = 0 := Classical.byContradiction q4
     have hk20 : k2 = 0 := by cases hm6 with | zero _ => rfl | cons _ _ _ _ _ _ hp _ _ => exact absurd (by rw [← hp6]; exact q4) hp
     subst hk20
     obtain ⟨rfl,rfl⟩ : rest = [] ∧ t = s2 := by cases hm6; exact ⟨rfl,rfl⟩
     rw [List.append_nil] at hout6
     subst hout6
     conv => cbv
     refine RetF.mk [.p (.vsl (.sym mo5) true T5),.p (.vsl (.sym mg) true cells6),i6 0] [(0,.mix [.ptr 1 (.lit 0),i6 N,i6 st,i6 as_]),hpR 1 2 7 3 W 9 ph6 sp6 cy6,hpB 2 3 6 3 W,hpD 3 4 3 1 N 5 203 8 N,hpP 4 P6,hpP 5 B6,hpP 6 V6,hpP 7 Q6,(9,.mix [.p (.vsl (.sym m6) true la6),.p (.bool ov6)])] 10 (Re.at [(0,0),(1,1),(2,2),(3,3),(4,4),(5,5),(6,6),(7,7),(9,9)] []) rfl ⟨mo5,mg,T5,cells6,ph6,sp6,cy6,R6,vs6,C6,G6,ov6,P6,B6,V6,Q6,la6,m6,(congrArg (fun z => LV.tup [.p (.vsl (.sym mo5) true T5),.p (.vsl (.sym mg) true cells6),i6 z]) he.symm),.inr ⟨rfl,rfl⟩,h6,(by rw [hx]; exact hT5),(by rw [hx]; exact hmo5),hcs6,hmg6,hs6⟩
    have q4 : ¬ ph6 = 0 := q4
    cases hm6 with
    | zero s2 =>
     exfalso
     rcases hz0 with hz | hz
     ·omega
     ·exact q4 (by rw [hp6]; exact hz)
    | cons s2 s3 t k3 o1 o2 hp hs hm3 =>
     conv => cbv
     refine cfr (rstep_lx R6 vs6 C6 G6 N W ph6 sp6 cy6 P6 B6 V6 Q6 la6 m6 ov6 h6 ⟨by omega,by omega⟩ ⟨by omega,by omega⟩) [(0,1),(1,2),(2,3),(3,4),(4,5),(5,6),(6,7),(7,9)] (fun r h' n' hrr => ?_)
     obtain ⟨o3,kx,ph7,sp7,cy7,R7,vs7,C7,G7,ov7,cells',P7,B7,V7,Q7,la7,m7,e4,e5,e6,h7,hcs7,hkx,hst⟩ := hrr
     subst e4 e5 e6
     obtain ⟨eo,hs7⟩ := Sm.stp (v := ⟨R7,vs7,C7,G7,ov7,ph7,sp7,cy7⟩) hs6 hspb.1 hs hst
     subst eo
     obtain ⟨g1,g2,g3,g4⟩ := hg6.step hW hp hs
     have hcy9 : s3.cy + ((k3 : Nat) : Int) ≤ 700010000 := by
      have h9 : s2.cy + ((k3 + 1 : Nat) : Int) ≤ 700010000 := hcy6
      omega
     have hcl2 : cells'.length = 4 * o1.length := by rw [hcs7,gpv_length]
     have hcl1 : cells6.length = 4 * acc.length := by rw [hcs6,gpv_length]
     conv => cbv
     refine Need.mk (by show (cells'.length : Int) = kx * 4; omega) ?_
     conv => cbv
     refine Room.new ⟨by show (cells6.length : Int) = mg * 4; omega,by show (mg + kx) * 48 ≤ 140737488355328; omega,by show mg + kx ≤ 9223372036854775807; omega⟩ ?_
     conv => cbv
     refine Upd.mk fun c2 hc2 => ?_
     have hc2 : c2 = gpv (acc ++ o1) := by rw [show c2 = cells6 ++ cells' from hc2,hcs6,hcs7,gpv_app]
     conv => cbv
     refine Sum.mk fun mg2 hm4 => ?_
     have hm4 : mg2 = ((acc ++ o1).length : Int) := by rw [show mg2 = mg + kx from hm4,hmg6,hkx,List.length_append]; rfl
     conv => cbv
     refine Fit.mk (by show (-9223372036854775808 : Int) ≤ i + 1; omega) (by show i + 1 ≤ 9223372036854775807; omega) fun i2 hi2 => ?_
     have hi2 : i2 = i + 1 := hi2
     conv => cbv
     refine Again.mk k3 _ (by omega) (Re.at [(0,0),(1,1),(2,2),(3,3),(4,4),(5,5),(6,6),(7,7),(9,9),(11,10)] []) ⟨i2,mg2,c2,s3,k3,acc ++ o1,o2,ph7,sp7,cy7,R7,vs7,C7,G7,ov7,P7,B7,V7,Q7,la7,m7,rfl,h7,hs7,hm3,g1,by rw [hout6,List.append_assoc],hc2,hm4,by rw [List.length_append]; omega,hcy9,by omega,by omega,rfl⟩
   | forced b x1 oa ob ka kb u1 u2 u3 u4 u5 hal1 hm1 hp1 hbg hm2 hp2 hal2 =>
    obtain ⟨hb5,hx5,hs5⟩ := hs0.allot hal1 hRA
    subst hb5
    obtain ⟨gu1,_⟩ := hal1.good hg0
    have hcu1 : cy0 = u1.cy := hs5.y
    have hcu0 : cy0 = t0.cy := hs0.y
    have hb1 := (hm1.cyb hW gu1)
    conv => cbv
    refine cfr (rIdle_lx R5 vs5 C5 G0 N W ph0 sp0 cy0 P5 B5 V5 Q5 la0 m0 ov0 h5 st as_ u1 u2 ka oa hs5 hm1.l hp1 gu1 (by omega) (by omega)) [(0,0),(1,1),(2,2),(3,3),(4,4),(5,5),(6,6),(7,7),(8,9)] (fun r h' n' hrr => ?_)
    obtain ⟨mg,cg,ph6,sp6,cy6,R6,vs6,C6,G6,ov6,P6,B6,V6,Q6,la6,m6,e1,e2,e3,h6,hcg,hmg,hs6,gu2⟩ := hrr
    subst e1 e2 e3
    have hclg : cg.length = 4 * oa.length := by rw [hcg,gpv_length]
    conv => cbv
    refine Room.new (by show (cg.length : Int) = mg * 4; omega) ?_
    conv => cbv
    refine Need.mk ⟨by show mg * 48 ≤ 140737488355328; omega,by show mg ≤ 9223372036854775807; omega⟩ ?_
    conv => cbv
    refine drawn_sound tok (by kernel_rfl) [(6,[3,2,1,0]),(7,[])] [0,1,2,3,4,5,6,7] (by kernel_rfl) ?_; conv => cbv
    conv => cbv
    refine callF_lend (withKept_lx A j ca hca hj hAl oa mg cg hmg hcg (by omega)) (by simp [lends,lendV,hget,I.val,pvle]) (fun r h' n' hrr => ?_) (fun r h' n' hrr => ?_)
    ·obtain ⟨m8,T8,e1,e2,e3,hT8,hm8⟩ := hrr
     subst e1 e2
     exact ⟨trivial,fun u hu => by rw [hT8] at hu; obtain ⟨y,_,rfl⟩ := List.mem_map.1 hu; exact trivial,trivial⟩
    obtain ⟨m8,T8,e1,e2,e3,hT8,hm8⟩ := hrr
    subst e1 e2 e3
    have hgk := gone_kept oa
    have hp6 : ph6 = 0 := by rw [show ph6 = u2.ph from hs6.p,hp1]
    conv => cbv
    refine CallF.re (args0 := [.ptr 1 (.lit 0),.p (.vsl (.sym m8) true T8)]) (h' := [(0,.mix [.ptr 1 (.lit 0),i6 N,i6 st,i6 as_]),hpR 1 2 7 3 W 9 ph6 sp6 cy6,hpB 2 3 6 3 W,hpD 3 4 3 1 N 5 203 8 N,hpP 4 P6,hpP 5 B6,hpP 6 V6,hpP 7 Q6,(9,.mix [.p (.vsl (.sym m6) true la6),.p (.bool ov6)]),hpP 11 cg]) (Re.at [(0,0),(1,1),(2,2),(3,3),(4,4),(5,5),(6,6),(7,7),(9,9),(11,11)] []) (cfr (rbegin_lx R6 vs6 C6 G6 N W ph6 sp6 cy6 P6 B6 V6 Q6 la6 m6 ov6 h6 (A ++ keptOf oa) m8 T8 hT8 hm8 (by rw [List.length_append]; omega) hp6) [(0,1),(1,2),(2,3),(3,4),(4,5),(5,6),(6,7),(7,9)] (fun r h' n' hrr => ?_))
    obtain ⟨C7,G7,ov7,Q7,la7,m7,e1,e2,e3,h7,hb7⟩ := hrr
    subst e1 e2 e3
    have hs7 : Sm u3 ⟨R6,vs6,C7,G7,ov7,1,sp6,cy6⟩ := hs6.bgn hbg ⟨rfl,rfl,rfl,rfl,rfl,hb7⟩
    have gu3 := hbg.good hW gu2
    have hb2 := (hm2.cyb hW gu3)
    have hcu3 : u3.cy = u2.cy := hbg.y
    conv => cbv
    refine cfr (rIdle_lx R6 vs6 C7 G7 N W 1 sp6 cy6 P6 B6 V6 Q7 la7 m7 ov7 h7 st as_ u3 u4 kb ob hs7 hm2.l hp2 gu3 (by omega) (by have := hb1.1; omega)) [(0,0),(1,1),(2,2),(3,3),(4,4),(5,5),(6,6),(7,7),(8,13)] (fun r h' n' hrr => ?_)
    obtain ⟨mg8,cg8,ph8,sp8,cy8,R8,vs8,C8,G8,ov8,P8,B8,V8,Q8,la8,m8b,e1,e2,e3,h8,hcg8,hmg8,hs8,gu4⟩ := hrr
    subst e1 e2 e3
    have hclg8 : cg8.length = 4 * ob.length := by rw [hcg8,gpv_length]
    conv => cbv
    refine Room.new (by show (cg8.length : Int) = mg8 * 4; omega) ?_
    conv => cbv
    refine Room.new ⟨by show (cg.length : Int) = mg * 4; omega,by show (mg + mg8) * 48 ≤ 140737488355328; omega,by show mg + mg8 ≤ 9223372036854775807; omega⟩ ?_
    conv => cbv
    refine Upd.mk fun cF hcF => ?_
    have hcF : cF = gpv (oa ++ ob) := by rw [show cF = cg ++ cg8 from hcF,hcg,hcg8,gpv_app]
    conv => cbv
    refine Sum.mk fun mF hmF => ?_
    have hmF : mF = ((oa ++ ob).length : Int) := by rw [show mF = mg + mg8 from hmF,hmg,hmg8,List.length_append]; rfl
    conv => cbv
    refine cfr (rAll_lx R8 vs8 C8 G8 N W ph8 sp8 cy8 P8 B8 V8 Q8 la8 m8b ov8 h8 st as_ l X k cells hk hcs hX hl) [(0,0),(1,1),(2,2),(3,3),(4,4),(5,5),(6,6),(7,7),(8,13)] (fun r h' n' hrr => ?_)
    obtain ⟨b9,x9,mo9,T9,R9,vs9,C9,P9,B9,V9,Q9,e1,hT9,hmo9,e2,e3,h9,hRA9⟩ := hrr
    subst e1 e2 e3
    obtain ⟨hb9,hx9,hs9⟩ := hs8.allot hal2 hRA9
    subst hb9 hx9
    have hlF : (oa ++ ob).length ≤ 139328 := by rw [List.length_append]; omega
    cases bt with
    | false =>
     obtain ⟨he,hx,ho,ht⟩ : e = 9 ∧ x = [] ∧ out = oa ++ ob ∧ t = t1 := by
      rcases hend with ⟨w,_⟩ | ⟨_,w⟩
      ·cases w
      ·exact w
     conv => cbv
     refine RetF.mk [.p (.vsl (.sym 0) true []),.p (.vsl (.sym mF) true cF),i6 9] [(0,.mix [.ptr 1 (.lit 0),i6 N,i6 st,i6 as_]),hpR 1 2 7 3 W 9 ph8 sp8 cy8,hpB 2 3 6 3 W,hpD 3 4 3 1 N 5 203 8 N,hpP 4 P9,hpP 5 B9,hpP 6 V9,hpP 7 Q9,(9,.mix [.p (.vsl (.sym m8b) true la8),.p (.bool ov8)])] 10 (Re.at [(0,0),(1,1),(2,2),(3,3),(4,4),(5,5),(6,6),(7,7),(13,9)] []) rfl ⟨0,mF,[],cF,ph8,sp8,cy8,R9,vs9,C9,G8,ov8,P9,B9,V9,Q9,la8,m8b,(congrArg (fun z => LV.tup [.p (.vsl (.sym 0) true []),.p (.vsl (.sym mF) true cF),i6 z]) he.symm),.inr ⟨rfl,rfl⟩,h9,(by rw [hx]; rfl),(by rw [hx]; rfl),(by rw [ho]; exact hcF),(by rw [ho]; exact hmF),(by rw [ht]; exact hs9)⟩
    | true =>
     obtain ⟨o2,he,hx,ho,k0,hk0,hM0,hz0⟩ : ∃ o2,e = 0 ∧ x = x1 ∧ out = (oa ++ ob) ++ o2 ∧ Asst W (as_ * wdsOf X).toNat t1 o2 t := by
      rcases hend with ⟨_,w⟩ | ⟨w,_⟩
      ·exact w
      ·cases w
     have hMl := hM0.l
     have hkb := (hM0.cyb hW hbx.1).2
     have hszb := wdsOf_bd X
     rw [← hsz] at hszb
     have hasz : 0 ≤ as_ * sz ∧ as_ * sz ≤ 8 * 3200000 := ⟨Int.mul_nonneg (by omega) (by omega),Int.mul_le_mul (by omega) (by omega) (by omega) (by decide)⟩
     conv => cbv
     refine LoopF.mk (fun kk sx => ∃ (i mg : Int) (cells6 : List PV) (s2 : Hst) (k2 : Nat) (acc rest : List Gn) (ph6 sp6 cy6 : Int) (R6 : List Rw) (vs6 C6 G6 : List Int) (ov6 : Bool) (P6 B6 V6 Q6 la6 : List PV) (m6 : Int),sx = ⟨.ptr 0 (.lit 0) :: .p (.vsl (.sym k) true cells) :: .p (.vsl (.sym j) true ca) :: (undefs 6 ++ .p (.int .i64 (.sym sz)) :: (undefs 5 ++ .sl 10 40 4 (.lit 0) (.sym mg) :: .p (.vsl (.sym mo9) true T9) :: .p (.bool true) :: .p (.int .i64 (.sym i)) :: undefs 140)),[(0,.mix [.ptr 1 (.lit 0),i6 N,i6 st,i6 as_]),hpR 1 2 7 3 W 9 ph6 sp6 cy6,hpB 2 3 6 3 W,hpD 3 4 3 1 N 5 203 8 N,hpP 4 P6,hpP 5 B6,hpP 6 V6,hpP 7 Q6,(9,.mix [.p (.vsl (.sym m6) true la6),.p (.bool ov6)]),hpP 10 cells6],11⟩ ∧ RM R6 vs6 C6 G6 N W P6 B6 V6 Q6 la6 m6 ∧ Sm s2 ⟨R6,vs6,C6,G6,ov6,ph6,sp6,cy6⟩ ∧ ManyL W s2 k2 rest t ∧ Good N s2 ∧ out = acc ++ rest ∧ cells6 = gpv acc ∧ mg = acc.length ∧ acc.length + 32 * k2 ≤ 300000 ∧ s2.cy + k2 ≤ 700010000 ∧ 0 ≤ i ∧ i.toNat + k2 = k0 ∧ kk = k2) k0 _
      (Re.at [(0,0),(1,1),(2,2),(3,3),(4,4),(5,5),(6,6),(7,7),(13,9),(15,10)] []) ⟨0,mF,cF,t1,k0,(oa ++ ob),o2,ph8,sp8,cy8,R9,vs9,C9,G8,ov8,P9,B9,V9,Q9,la8,m8b,rfl,h9,hs9,hMl,hbx.1,ho,hcF,hmF,by omega,by omega,by decide,by show 0 + k0 = k0; omega,rfl⟩ ?_
     rintro kk sx ⟨i,mg,cells6,s2,k2,acc,rest,ph6,sp6,cy6,R6,vs6,C6,G6,ov6,P6,B6,V6,Q6,la6,m6,rfl,h6,hs6,hm6,hg6,hout6,hcs6,hmg6,hlen6,hcy6,hi6,hik6,hkk⟩
     conv => cbv
     refine Fit.mk (by show (-9223372036854775808 : Int) ≤ as_ * sz; omega) (by show as_ * sz ≤ 9223372036854775807; omega) fun c hcv => ?_
     have hcv : c = as_ * sz := hcv
     have hcn : c = (as_ * wdsOf X).toNat := by rw [hcv,hsz] at *; omega
     have hp6 : ph6 = s2.ph := hs6.p
     have hsp6 : sp6 = s2.sp := hs6.q
     have hy6 : cy6 = s2.cy := hs6.y
     have hspb := hg6.p
     have hy0 := hg6.y
     have hNb := hg6.n2
     conv => cbv
     refine Br.mk (fun q3 => ?_) (fun q3 => ?_)
     case refine_2 =>
      have q3 : ¬ i < c := q3
      have hk20 : k2 = 0 := by omega
      subst hk20
      obtain ⟨rfl,rfl⟩ : rest = [] ∧ t = s2 := by cases hm6; exact ⟨rfl,rfl⟩
      rw [List.append_nil] at hout6
      subst hout6
      conv => cbv
      refine RetF.mk [.p (.vsl (.sym mo9) true T9),.p (.vsl (.sym mg) true cells6),i6 0] [(0,.mix [.ptr 1 (.lit 0),i6 N,i6 st,i6 as_]),hpR 1 2 7 3 W 9 ph6 sp6 cy6,hpB 2 3 6 3 W,hpD 3 4 3 1 N 5 203 8 N,hpP 4 P6,hpP 5 B6,hpP 6 V6,hpP 7 Q6,(9,.mix [.p (.vsl (.sym m6) true la6),.p (.bool ov6)])] 10 (Re.at [(0,0),(1,1),(2,2),(3,3),(4,4),(5,5),(6,6),(7,7),(9,9)] []) rfl ⟨mo9,mg,T9,cells6,ph6,sp6,cy6,R6,vs6,C6,G6,ov6,P6,B6,V6,Q6,la6,m6,(congrArg (fun z => LV.tup [.p (.vsl (.sym mo9) true T9),.p (.vsl (.sym mg) true cells6),i6 z]) he.symm),.inr ⟨rfl,rfl⟩,h6,(by rw [hx]; exact hT9),(by rw [hx]; exact hmo9),hcs6,hmg6,hs6⟩
     have q3 : i < c := q3
     conv => cbv
     refine Br.mk (fun q4 => ?_) (fun q4 => ?_)
     case refine_2 =>
      have q4 : ph6 = 0 := Classical.byContradiction q4
      have hk20 : k2 = 0 := by cases hm6 with | zero _ => rfl | cons _ _ _ _ _ _ hp _ _ => exact absurd (by rw [← hp6]; exact q4) hp
      subst hk20
      obtain ⟨rfl,rfl⟩ : rest = [] ∧ t = s2 := by cases hm6; exact ⟨rfl,rfl⟩
      rw [List.append_nil] at hout6
      subst hout6
      conv => cbv
      refine RetF.mk [.p (.vsl (.sym mo9) true T9),.p (.vsl (.sym mg) true cells6),i6 0] [(0,.mix [.ptr 1 (.lit 0),i6 N,i6 st,i6 as_]),hpR 1 2 7 3 W 9 ph6 sp6 cy6,hpB 2 3 6 3 W,hpD 3 4 3 1 N 5 203 8 N,hpP 4 P6,hpP 5 B6,hpP 6 V6,hpP 7 Q6,(9,.mix [.p (.vsl (.sym m6) true la6),.p (.bool ov6)])] 10 (Re.at [(0,0),(1,1),(2,2),(3,3),(4,4),(5,5),(6,6),(7,7),(9,9)] []) rfl ⟨mo9,mg,T9,cells6,ph6,sp6,cy6,R6,vs6,C6,G6,ov6,P6,B6,V6,Q6,la6,m6,(congrArg (fun z => LV.tup [.p (.vsl (.sym mo9) true T9),.p (.vsl (.sym mg) true cells6),i6 z]) he.symm),.inr ⟨rfl,rfl⟩,h6,(by rw [hx]; exact hT9),(by rw [hx]; exact hmo9),hcs6,hmg6,hs6⟩
     have q4 : ¬ ph6 = 0 := q4
     cases hm6 with
     | zero s2 =>
      exfalso
      rcases hz0 with hz | hz
      ·omega
      ·exact q4 (by rw [hp6]; exact hz)
     | cons s2 s3 t k3 o1 o2 hp hs hm3 =>
      conv => cbv
      refine cfr (rstep_lx R6 vs6 C6 G6 N W ph6 sp6 cy6 P6 B6 V6 Q6 la6 m6 ov6 h6 ⟨by omega,by omega⟩ ⟨by omega,by omega⟩) [(0,1),(1,2),(2,3),(3,4),(4,5),(5,6),(6,7),(7,9)] (fun r h' n' hrr => ?_)
      obtain ⟨o3,kx,ph7,sp7,cy7,R7,vs7,C7,G7,ov7,cells',P7,B7,V7,Q7,la7,m7,e4,e5,e6,h7,hcs7,hkx,hst⟩ := hrr
      subst e4 e5 e6
      obtain ⟨eo,hs7⟩ := Sm.stp (v := ⟨R7,vs7,C7,G7,ov7,ph7,sp7,cy7⟩) hs6 hspb.1 hs hst
      subst eo
      obtain ⟨g1,g2,g3,g4⟩ := hg6.step hW hp hs
      have hcy9 : s3.cy + ((k3 : Nat) : Int) ≤ 700010000 := by
       have h9 : s2.cy + ((k3 + 1 : Nat) : Int) ≤ 700010000 := hcy6
       omega
      have hcl2 : cells'.length = 4 * o1.length := by rw [hcs7,gpv_length]
      have hcl1 : cells6.length = 4 * acc.length := by rw [hcs6,gpv_length]
      conv => cbv
      refine Need.mk (by show (cells'.length : Int) = kx * 4; omega) ?_
      conv => cbv
      refine Room.new ⟨by show (cells6.length : Int) = mg * 4; omega,by show (mg + kx) * 48 ≤ 140737488355328; omega,by show mg + kx ≤ 9223372036854775807; omega⟩ ?_
      conv => cbv
      refine Upd.mk fun c2 hc2 => ?_
      have hc2 : c2 = gpv (acc ++ o1) := by rw [show c2 = cells6 ++ cells' from hc2,hcs6,hcs7,gpv_app]
      conv => cbv
      refine Sum.mk fun mg2 hm4 => ?_
      have hm4 : mg2 = ((acc ++ o1).length : Int) := by rw [show mg2 = mg + kx from hm4,hmg6,hkx,List.length_append]; rfl
      conv => cbv
      refine Fit.mk (by show (-9223372036854775808 : Int) ≤ i + 1; omega) (by show i + 1 ≤ 9223372036854775807; omega) fun i2 hi2 => ?_
      have hi2 : i2 = i + 1 := hi2
      conv => cbv
      refine Again.mk k3 _ (by omega) (Re.at [(0,0),(1,1),(2,2),(3,3),(4,4),(5,5),(6,6),(7,7),(9,9),(11,10)] []) ⟨i2,mg2,c2,s3,k3,acc ++ o1,o2,ph7,sp7,cy7,R7,vs7,C7,G7,ov7,P7,B7,V7,Q7,la7,m7,rfl,h7,hs7,hm3,g1,by rw [hout6,List.append_assoc],hc2,hm4,by rw [List.length_append]; omega,hcy9,by omega,by omega,rfl⟩
 have q : i < k := q
 obtain ⟨⟨p1,p2⟩,hp⟩ : ∃ p,l[i.toNat]? = some p := ⟨_,List.getElem?_eq_getElem (by omega)⟩
 obtain ⟨v,hv,hN⟩ := hX.2 _ _ hp
 have hN : NeedR p1 p2 v true := hN
 have hcc := twosP_get l i.toNat _ hp
 rw [← hcs] at hcc
 dsimp only at hcc
 conv => cbv
 refine drawn_sound tok (by kernel_rfl) [(10,[])] [0,1,2,3,4,5,6,7,8,9,10,11,12,13,14,15] (by kernel_rfl) ?_; conv => cbv
 conv => cbv
 refine Need.mk ⟨hi0,by show i < k; omega⟩ ?_
 conv => cbv
 refine Sum.mk fun w1 hw1 => ?_
 have hw1 : w1 = i * 2 := hw1
 conv => cbv
 refine Cell.at (w1 + 0) _ hcc.1 rfl (by omega) ?_
 conv => cbv
 refine Need.mk ⟨hi0,by show i < k; omega⟩ ?_
 conv => cbv
 refine Sum.mk fun w2 hw2 => ?_
 have hw2 : w2 = i * 2 := hw2
 conv => cbv
 refine Sum.mk fun y2 hy2 => ?_
 have hy2 : y2 = w2 + 1 := hy2
 conv => cbv
 refine Cell.at y2 _ hcc.2 (by simp [I.val]) (by omega) ?_
 conv => cbv
 refine cfr (rNeedAny_lx p1 p2) [] (fun r h' n' hrr => ?_)
 obtain ⟨⟨v2,b2,e1,hv2⟩,e2,e3⟩ := hrr
 subst e1 e2 e3
 have hb2 := need_detB hv2 hN
 subst hb2
 have hvv := need_v hv2 hN
 subst hvv
 have hval := need_val hv2
 conv => cbv
 refine cfr (classOf21_lx v2) [] (fun r h' n' hrr => ?_)
 obtain ⟨c,b,e1,e2,e3,hC⟩ := hrr
 subst e1 e2 e3
 obtain ⟨rfl,hcv⟩ : b = true ∧ c = ofN v2 := by
  cases hC with
  | yes _ hc _ => exact ⟨rfl,hc⟩
  | no h => exact absurd ⟨hval.1,hval.2.1⟩ h
 obtain ⟨wc,hwc⟩ : ∃ w,w = wordsOf c := ⟨_,rfl⟩
 have hwcb := wordsOfS_bd c
 rw [← hwc] at hwcb
 conv => cbv
 refine cfr (refWordsA_lx c wc hwc) [] (fun r h' n' ⟨e1,e2,e3⟩ => ?_)
 subst e1 e2 e3
 have hszb := wdsOf_bd (X.take i.toNat)
 rw [← hsz,List.length_take] at hszb
 conv => cbv
 refine Fit.mk (by show (-9223372036854775808 : Int) ≤ sz + wc; omega) (by show sz + wc ≤ 9223372036854775807; omega) fun sz2 hsz2 => ?_
 have hsz2 : sz2 = wdsOf (X.take (i.toNat + 1)) := by rw [wdsOf_take hv,← hsz,← hcv,← hwc]; exact hsz2
 conv => cbv
 refine Fit.mk (by show (-9223372036854775808 : Int) ≤ i + 1; omega) (by show i + 1 ≤ 9223372036854775807; omega) fun i2 hi2 => ?_
 have hi2 : i2 = i + 1 := hi2
 conv => cbv
 refine Again.mk (k - i2).toNat _ (by omega) (Re.at [(0,0),(1,1),(2,2),(3,3),(4,4),(5,5),(6,6),(7,7),(8,8)] []) ⟨i2,sz2,rfl,by omega,by omega,by rw [show i2.toNat = i.toNat + 1 by omega]; exact hsz2,rfl⟩
end Go.Proofs.YtcbombkaacjngaaGreatDoor
