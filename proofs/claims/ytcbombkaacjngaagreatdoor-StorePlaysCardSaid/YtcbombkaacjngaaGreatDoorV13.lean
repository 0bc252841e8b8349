/-
  Layer 21: the reference's store: what may not be is refused; it is made, and collected.
-/
import Derived.Test.YtcbombkaacjngaaGreatDoorBh
namespace Go.Proofs.YtcbombkaacjngaaGreatDoor
open Go Go.LX
set_option maxRecDepth 100000
set_option linter.unusedVariables false
set_option linter.unusedSimpArgs false
set_option maxHeartbeats 32000000
theorem rAllocArg_lx (R : List Rw) (vs C G : List Int) (N W ph sp cy : Int) (P B V Q la : List PV) (m : Int) (ov : Bool) (h : RM R vs C G N W P B V Q la m) (st as_ : Int) (l : List (Int × Int)) (k : Int) (cells : List PV) (hk : k = l.length) (hcs : cells = twosP l) (hl : l.length ≤ 100000) (hbad : ∃ p ∈ l,∃ v,NeedR p.1 p.2 v false) (j : Int) (ca : List PV) :
  CallF (fun _ => Tryz.prog) 22 [.ptr 0 (.lit 0),.p (.vsl (.sym k) true cells),.p (.vsl (.sym j) true ca)] [(0,.mix [.ptr 1 (.lit 0),i6 N,i6 st,i6 as_]),hpR 1 2 7 3 W 8 ph sp cy,hpB 2 3 6 3 W,hpD 3 4 3 1 N 5 203 8 N,hpP 4 P,hpP 5 B,hpP 6 V,hpP 7 Q,(8,.mix [.p (.vsl (.sym m) true la),.p (.bool ov)])] 9 (fun r h n => r = .tup [.p .nils,.p .nils,.p (.int .i64 (.lit 1))] ∧ h = [(0,.mix [.ptr 1 (.lit 0),i6 N,i6 st,i6 as_]),hpR 1 2 7 3 W 8 ph sp cy,hpB 2 3 6 3 W,hpD 3 4 3 1 N 5 203 8 N,hpP 4 P,hpP 5 B,hpP 6 V,hpP 7 Q,(8,.mix [.p (.vsl (.sym m) true la),.p (.bool ov)])] ∧ n = 9) := by
 have hcl : cells.length = 2 * l.length := by rw [hcs,twosP_length]
 refine callF_of_body tok Tryz.func22 (by kernel_rfl) rfl rfl rfl ?_; conv => cbv
 refine LoopF.mk (fun kk sx => ∃ (i sz : Int),sx = ⟨.ptr 0 (.lit 0) :: .p (.vsl (.sym k) true cells) :: .p (.vsl (.sym j) true ca) :: (undefs 6 ++ .p (.int .i64 (.sym sz)) :: .p (.int .i64 (.sym i)) :: undefs 148),[(0,.mix [.ptr 1 (.lit 0),i6 N,i6 st,i6 as_]),hpR 1 2 7 3 W 8 ph sp cy,hpB 2 3 6 3 W,hpD 3 4 3 1 N 5 203 8 N,hpP 4 P,hpP 5 B,hpP 6 V,hpP 7 Q,(8,.mix [.p (.vsl (.sym m) true la),.p (.bool ov)])],9⟩ ∧ 0 ≤ i ∧ i ≤ k ∧ 0 ≤ sz ∧ sz ≤ 32 * i ∧ (∀ q : Nat,(q : Int) < i → ∀ p,l[q]? = some p → ∃ v,NeedR p.1 p.2 v true) ∧ kk = (k - i).toNat) k.toNat _
  (Re.at [(0,0),(1,1),(2,2),(3,3),(4,4),(5,5),(6,6),(7,7),(8,8)] []) ⟨0,0,rfl,by omega,by omega,by omega,by omega,fun q hq => by omega,by omega⟩ ?_
 rintro kk sx ⟨i,sz,rfl,hi0,hik,hs0,hs1,hall,hkk⟩
 conv => cbv
 refine Br.mk (fun q => ?_) (fun q => ?_)
 case refine_2 =>
  have q : ¬ i < k := q
  exfalso
  obtain ⟨p,hp,v,hv⟩ := hbad
  obtain ⟨y,hy⟩ := List.getElem?_of_mem hp
  have hyl := (List.getElem?_eq_some_iff.1 hy).1
  obtain ⟨v2,hv2⟩ := hall y (by omega) p hy
  have := need_detB hv hv2
  cases this
 have q : i < k := q
 obtain ⟨⟨p1,p2⟩,hp⟩ : ∃ p,l[i.toNat]? = some p := ⟨_,List.getElem?_eq_getElem (by omega)⟩
 have hcc := twosP_get l i.toNat _ hp
 rw [← hcs] at hcc
 dsimp only at hcc
 conv => cbv
 refine drawn_sound tok (by kernel_rfl) [(10,[])] [0,1,2,3,4,5,6,7,8,9,10,11,12,13,14,15] (by kernel_rfl) ?_; conv => cbv
 conv => cbv
 refine Need.mk ⟨hi0,by show i < k; omega⟩ ?_
 conv => cbv
 refine Sum.mk fun w1 hw1 => ?_
 have hw1 : w1 = i * 2 := hw1
 conv => cbv
 refine Cell.at (w1 + 0) _ hcc.1 rfl (by omega) ?_
 conv => cbv
 refine Need.mk ⟨hi0,by show i < k; omega⟩ ?_
 conv => cbv
 refine Sum.mk fun w2 hw2 => ?_
 have hw2 : w2 = i * 2 := hw2
 conv => cbv
 refine Sum.mk fun y2 hy2 => ?_
 have hy2 : y2 = w2 + 1 := hy2
 conv => cbv
 refine Cell.at y2 _ hcc.2 (by simp [I.val]) (by omega) ?_
 conv => cbv
 refine cfr (rNeedAny_lx p1 p2) [] (fun r h' n' hrr => ?_)
 obtain ⟨⟨v2,b2,e1,hv2⟩,e2,e3⟩ := hrr
 subst e1 e2 e3
 cases b2 with
 | false =>
  conv => cbv
  refine RetF.mk [.p .nils,.p .nils,.p (.int .i64 (.lit 1))] [(0,.mix [.ptr 1 (.lit 0),i6 N,i6 st,i6 as_]),hpR 1 2 7 3 W 8 ph sp cy,hpB 2 3 6 3 W,hpD 3 4 3 1 N 5 203 8 N,hpP 4 P,hpP 5 B,hpP 6 V,hpP 7 Q,(8,.mix [.p (.vsl (.sym m) true la),.p (.bool ov)])] 9 (Re.at [(0,0),(1,1),(2,2),(3,3),(4,4),(5,5),(6,6),(7,7),(8,8)] []) rfl ⟨rfl,rfl,rfl⟩
 | true =>
  have hval := need_val hv2
  conv => cbv
  refine cfr (classOf21_lx v2) [] (fun r h' n' hrr => ?_)
  obtain ⟨c,b,e1,e2,e3,hC⟩ := hrr
  subst e1 e2 e3
  obtain ⟨wc,hwc⟩ : ∃ w,w = wordsOf c := ⟨_,rfl⟩
  have hwcb := wordsOfS_bd c
  rw [← hwc] at hwcb
  conv => cbv
  refine cfr (refWordsA_lx c wc hwc) [] (fun r h' n' ⟨e1,e2,e3⟩ => ?_)
  subst e1 e2 e3
  conv => cbv
  refine Fit.mk (by show (-9223372036854775808 : Int) ≤ sz + wc; omega) (by show sz + wc ≤ 9223372036854775807; omega) fun sz2 hsz2 => ?_
  have hsz2 : sz2 = sz + wc := hsz2
  conv => cbv
  refine Fit.mk (by show (-9223372036854775808 : Int) ≤ i + 1; omega) (by show i + 1 ≤ 9223372036854775807; omega) fun i2 hi2 => ?_
  have hi2 : i2 = i + 1 := hi2
  have hall2 : ∀ q : Nat,(q : Int) < i2 → ∀ p,l[q]? = some p → ∃ v,NeedR p.1 p.2 v true := by
   intro y hy p hpy
   by_cases hyi : (y : Int) < i
   ·exact hall y hyi p hpy
   ·rw [show y = i.toNat by omega,hp] at hpy
    cases hpy
    exact ⟨v2,hv2⟩
  conv => cbv
  refine Again.mk (k - i2).toNat _ (by omega) (Re.at [(0,0),(1,1),(2,2),(3,3),(4,4),(5,5),(6,6),(7,7),(8,8)] []) ⟨i2,sz2,rfl,by omega,by omega,by omega,by omega,hall2,rfl⟩
theorem rNewStore_lx (N W st as_ : Int) (hc : COk N st as_) (hN0 : 2 ≤ N) (hN1 : N ≤ 128) (hW : W = 32 * N) : CallF (fun _ => Tryz.prog) 9 [.agg [i6 N,i6 st,i6 as_]] [] 0 (fun r h n => ∃ P B V Q : List PV,r = .tup [.ptr 0 (.lit 0),.p (.int .i64 (.lit 0))] ∧ h = [(0,.mix [.ptr 1 (.lit 0),i6 N,i6 st,i6 as_]),hpR 1 2 7 3 W 8 0 0 0,hpB 2 3 6 3 W,hpD 3 4 3 1 N 5 203 8 N,hpP 4 P,hpP 5 B,hpP 6 V,hpP 7 Q,(8,.mix [.p (.vsl (.sym 0) true []),.p (.bool false)])] ∧ n = 9 ∧ RM (List.replicate N.toNat (0,[])) (List.replicate W.toNat 0) (List.replicate W.toNat 0) [] N W P B V Q [] 0) := by
 unfold COk at hc
 refine callF_of_body tok Tryz.func9 (by kernel_rfl) rfl rfl rfl ?_; conv => cbv
 refine Br.no (show ¬ st < 1 by omega) ?_
 conv => cbv
 refine Br.no (show ¬ 100 < st by omega) ?_
 conv => cbv
 refine Br.no (show ¬ as_ < 0 by omega) ?_
 conv => cbv
 refine Br.no (show ¬ 8 < as_ by omega) ?_
 conv => cbv
 refine callF_frame (rnewH_lx N W hN0 hN1 hW) [] rfl trivial rfl rfl (fun r h' n' hrr => ?_)
 obtain ⟨P,B,V,Q,e1,e2,e3,hR⟩ := hrr
 subst e1 e2 e3
 conv => cbv
 refine RetF.mk [.ptr 0 (.lit 0),.p (.int .i64 (.lit 0))] [(0,.mix [.ptr 1 (.lit 0),i6 N,i6 st,i6 as_]),hpR 1 2 7 3 W 8 0 0 0,hpB 2 3 6 3 W,hpD 3 4 3 1 N 5 203 8 N,hpP 4 P,hpP 5 B,hpP 6 V,hpP 7 Q,(8,.mix [.p (.vsl (.sym 0) true []),.p (.bool false)])] 9 (Re.at [(9,0),(1,1),(2,2),(3,3),(4,4),(5,5),(6,6),(7,7),(8,8)] []) rfl ⟨P,B,V,Q,rfl,rfl,rfl,hR⟩
theorem rCollect_idle (R : List Rw) (vs C G : List Int) (N W ph sp cy : Int) (P B V Q la : List PV) (m : Int) (ov : Bool) (h : RM R vs C G N W P B V Q la m) (st as_ : Int) (hp : ph = 0) (A : List Int) (j : Int) (ca : List PV) (hca : ca = ipv A) (hj : j = A.length) (hAl : A.length ≤ 100000) : CallF (fun _ => Tryz.prog) 13 [.ptr 0 (.lit 0),.p (.vsl (.sym j) true ca)] [(0,.mix [.ptr 1 (.lit 0),i6 N,i6 st,i6 as_]),hpR 1 2 7 3 W 8 ph sp cy,hpB 2 3 6 3 W,hpD 3 4 3 1 N 5 203 8 N,hpP 4 P,hpP 5 B,hpP 6 V,hpP 7 Q,(8,.mix [.p (.vsl (.sym m) true la),.p (.bool ov)])] 9 (fun r h n => ∃ (C3 G3 : List Int) (ov3 : Bool) (Q3 la3 : List PV) (m3 : Int),r = .p .nils ∧ h = [(0,.mix [.ptr 1 (.lit 0),i6 N,i6 st,i6 as_]),hpR 1 2 7 3 W 9 1 sp cy,hpB 2 3 6 3 W,hpD 3 4 3 1 N 5 203 8 N,hpP 4 P,hpP 5 B,hpP 6 V,hpP 7 Q3,(9,.mix [.p (.vsl (.sym m3) true la3),.p (.bool ov3)])] ∧ n = 10 ∧ RM R vs C3 G3 N W P B V Q3 la3 m3 ∧ (C3,G3,ov3) = begS R W A) := by
 refine callF_of_body tok Tryz.func13 (by kernel_rfl) rfl rfl rfl ?_; conv => cbv
 refine Br.yes (show ph = 0 from hp) ?_
 conv => cbv
 refine cfr (rbegin_lx R vs C G N W ph sp cy P B V Q la m ov h A j ca hca hj (by omega) hp) [(0,1),(1,2),(2,3),(3,4),(4,5),(5,6),(6,7),(7,8)] (fun r h' n' hrr => ?_)
 obtain ⟨C3,G3,ov3,Q3,la3,m3,e1,e2,e3,h3,hb3⟩ := hrr
 subst e1 e2 e3
 conv => cbv
 refine RetF.mk [.p .nils] [(0,.mix [.ptr 1 (.lit 0),i6 N,i6 st,i6 as_]),hpR 1 2 7 3 W 9 1 sp cy,hpB 2 3 6 3 W,hpD 3 4 3 1 N 5 203 8 N,hpP 4 P,hpP 5 B,hpP 6 V,hpP 7 Q3,(9,.mix [.p (.vsl (.sym m3) true la3),.p (.bool ov3)])] 10 (Re.at [(0,0),(1,1),(2,2),(3,3),(4,4),(5,5),(6,6),(7,7),(9,9)] []) rfl ⟨C3,G3,ov3,Q3,la3,m3,rfl,rfl,rfl,h3,hb3⟩
theorem rCollect_step (R : List Rw) (vs C G : List Int) (N W ph sp cy : Int) (P B V Q la : List PV) (m : Int) (ov : Bool) (h : RM R vs C G N W P B V Q la m) (st as_ : Int) (hp : ph ≠ 0) (hsp : 0 ≤ sp ∧ sp ≤ 1000) (hcy : 0 ≤ cy ∧ cy ≤ 1000000000) (A : List Int) (j : Int) (ca : List PV) (hca : ca = ipv A) (hj : j = A.length) (hAl : A.length ≤ 100000) : CallF (fun _ => Tryz.prog) 13 [.ptr 0 (.lit 0),.p (.vsl (.sym j) true ca)] [(0,.mix [.ptr 1 (.lit 0),i6 N,i6 st,i6 as_]),hpR 1 2 7 3 W 8 ph sp cy,hpB 2 3 6 3 W,hpD 3 4 3 1 N 5 203 8 N,hpP 4 P,hpP 5 B,hpP 6 V,hpP 7 Q,(8,.mix [.p (.vsl (.sym m) true la),.p (.bool ov)])] 9 (fun r h n => ∃ (out : List Gn) (mg : Int) (cells : List PV) (ph2 sp2 cy2 : Int) (R2 : List Rw) (vs2 C2 G2 : List Int) (ov2 : Bool) (P2 B2 V2 Q2 la2 : List PV) (m2 : Int),r = .p (.vsl (.sym mg) true cells) ∧ h = [(0,.mix [.ptr 1 (.lit 0),i6 N,i6 st,i6 as_]),hpR 1 2 7 3 W 8 ph2 sp2 cy2,hpB 2 3 6 3 W,hpD 3 4 3 1 N 5 203 8 N,hpP 4 P2,hpP 5 B2,hpP 6 V2,hpP 7 Q2,(8,.mix [.p (.vsl (.sym m2) true la2),.p (.bool ov2)])] ∧ n = 9 ∧ RM R2 vs2 C2 G2 N W P2 B2 V2 Q2 la2 m2 ∧ cells = gpv out ∧ mg = out.length ∧ RStp W ⟨R,vs,C,G,ov,ph,sp,cy⟩ out ⟨R2,vs2,C2,G2,ov2,ph2,sp2,cy2⟩) := by
 refine callF_of_body tok Tryz.func13 (by kernel_rfl) rfl rfl rfl ?_; conv => cbv
 refine Br.no (show ¬ ph = 0 from hp) ?_
 conv => cbv
 refine cfr (rstep_lx R vs C G N W ph sp cy P B V Q la m ov h hsp hcy) [(0,1),(1,2),(2,3),(3,4),(4,5),(5,6),(6,7),(7,8)] (fun r h' n' hrr => ?_)
 obtain ⟨out,mg,ph2,sp2,cy2,R2,vs2,C2,G2,ov2,cells,P2,B2,V2,Q2,la2,m2,e1,e2,e3,h2,hcs,hmg,hst⟩ := hrr
 subst e1 e2 e3
 conv => cbv
 refine RetF.mk [.p (.vsl (.sym mg) true cells)] [(0,.mix [.ptr 1 (.lit 0),i6 N,i6 st,i6 as_]),hpR 1 2 7 3 W 8 ph2 sp2 cy2,hpB 2 3 6 3 W,hpD 3 4 3 1 N 5 203 8 N,hpP 4 P2,hpP 5 B2,hpP 6 V2,hpP 7 Q2,(8,.mix [.p (.vsl (.sym m2) true la2),.p (.bool ov2)])] 9 (Re.at [(0,0),(1,1),(2,2),(3,3),(4,4),(5,5),(6,6),(7,7),(8,8)] []) rfl ⟨out,mg,cells,ph2,sp2,cy2,R2,vs2,C2,G2,ov2,P2,B2,V2,Q2,la2,m2,rfl,rfl,rfl,h2,hcs,hmg,hst⟩
end Go.Proofs.YtcbombkaacjngaaGreatDoor
