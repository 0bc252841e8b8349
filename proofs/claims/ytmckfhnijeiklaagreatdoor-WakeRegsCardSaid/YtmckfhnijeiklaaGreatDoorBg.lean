/-
  The ground of the proof, part 7: the calculus and what is proved with it.
-/
import Derived.Test.YtmckfhnijeiklaaGreatDoorBf
import Derived.Test.YtmckfhnijeiklaaGreatDoorBd
namespace Go.Proofs.YtmckfhnijeiklaaGreatDoor
open Go Go.LX
set_option maxRecDepth 100000
set_option linter.unusedVariables false
set_option linter.unusedSimpArgs false
set_option maxHeartbeats 32000000
theorem WR.two {kd ln : Int} {R : List Rw} {ws : List Int} {a e : Int} {Y : List Int} (h : WR kd ln R ws a e Y) : (e = 0 ∧ Kept R ws a kd ln ∧ Wrds R ws a Y ∧ Y.length = ln) ∨ (e = 10 ∧ Y = [] ∧ ¬ Kept R ws a kd ln) := by
 cases h with
 | ok _ h hX hl => exact .inl ⟨rfl,h,hX,hl⟩
 | no h => exact .inr ⟨rfl,rfl,h⟩
theorem rPutW1_lx (R : List Rw) (vs C G : List Int) (N W ph sp cy : Int) (P B V Q la : List PV) (m : Int) (ov : Bool) (h : RM R vs C G N W P B V Q la m) (a : Int) (X : List Int) (O : List PV) (hO : O = ipv X) (hXl : (X.length : Int) = 9) (hXb : ∀ x ∈ X,-9223372036854775808 ≤ x ∧ x ≤ 9223372036854775807) : CallF (fun _ => Tryz.prog) 84 [.ptr 0 (.lit 0),i6 a,.p (.int .i64 (.lit 1)),.p (.vsl (.sym 9) true O)] [hpR 0 1 6 3 W 7 ph sp cy,hpB 1 2 5 3 W,hpD 2 3 3 1 N 4 197 8 N,hpP 3 P,hpP 4 B,hpP 5 V,hpP 6 Q,(7,.mix [.p (.vsl (.sym m) true la),.p (.bool ov)])] 8
  (fun r h n => ∃ (e : Int) (vs' C' G' : List Int) (ov' : Bool) (V' Q' la' : List PV) (m' : Int),r = .p (.int .i64 (.sym e)) ∧ h = [hpR 0 1 6 3 W 7 ph sp cy,hpB 1 2 5 3 W,hpD 2 3 3 1 N 4 197 8 N,hpP 3 P,hpP 4 B,hpP 5 V',hpP 6 Q',(7,.mix [.p (.vsl (.sym m') true la'),.p (.bool ov')])] ∧ n = 8 ∧ RM R vs' C' G' N W P B V' Q' la' m' ∧ PT 1 9 X R ph a (vs,C,G,ov) e (vs',C',G',ov')) := by
 refine callF_of_body tok Tryz.func84 (by kernel_rfl) rfl rfl rfl ?_; conv => cbv
 refine cfr (rWords1_lx R vs C G N W ph sp cy P B V Q la m ov h a) [(0,0),(1,1),(2,2),(3,3),(4,4),(5,5),(6,6),(7,7)] (fun r h' n' hrr => ?_)
 obtain ⟨⟨Y,y,e,OY,e1,hOY,hy,hW⟩,e2,e3⟩ := hrr
 subst e1 e2 e3
 conv => cbv
 rcases hW.two with ⟨he,hK,hY,hYl⟩ | ⟨he,hYn,hK⟩
 case inr =>
  have hy0 : y = 0 := by rw [hy,hYn]; rfl
  refine LoopF.rounds 1 ?_
  conv => cbv
  refine Br.no (show ¬ (0 < y) by omega) ?_
  conv => cbv
  refine RetF.mk [i6 e] [hpR 0 1 6 3 W 7 ph sp cy,hpB 1 2 5 3 W,hpD 2 3 3 1 N 4 197 8 N,hpP 3 P,hpP 4 B,hpP 5 V,hpP 6 Q,(7,.mix [.p (.vsl (.sym m) true la),.p (.bool ov)])] 8 (Re.at [(0,0),(1,1),(2,2),(3,3),(4,4),(5,5),(6,6),(7,7)] []) rfl ⟨e,vs,C,G,ov,V,Q,la,m,rfl,rfl,rfl,h,by rw [he]; exact .no hK⟩
 case inl =>
 have hyl : y = 9 := by omega
 have hb := hK.bounds h.a
 clear hW
 obtain ⟨E,hE⟩ : ∃ E,E = putS R ph a 0 X (vs,C,G,ov) := ⟨_,rfl⟩
 refine LoopF.mk (fun kk s => ∃ (i e : Int) (vs1 C1 G1 : List Int) (ov1 : Bool) (V1 Q1 la1 : List PV) (m1 : Int),s = ⟨.ptr 0 (.lit 0) :: .p (.int .i64 (.sym a)) :: .undef :: .p (.vsl (.sym 9) true O) :: (undefs 5 ++ .p (.vsl (.sym y) true OY) :: .p (.int .i64 (.sym e)) :: .p (.int .i64 (.sym i)) :: undefs 35),[hpR 0 1 6 3 W 7 ph sp cy,hpB 1 2 5 3 W,hpD 2 3 3 1 N 4 197 8 N,hpP 3 P,hpP 4 B,hpP 5 V1,hpP 6 Q1,(7,.mix [.p (.vsl (.sym m1) true la1),.p (.bool ov1)])],8⟩ ∧ 0 ≤ i ∧ i ≤ 9 ∧ kk = (9 - i).toNat ∧ e = 0 ∧ RM R vs1 C1 G1 N W P B V1 Q1 la1 m1 ∧ Kept R vs1 a 1 9 ∧ (∀ j,i ≤ j → j < 9 → vs1[(a + 1 + j).toNat]? = vs[(a + 1 + j).toNat]?) ∧ E = putS R ph a i.toNat (X.drop i.toNat) (vs1,C1,G1,ov1)) 9 _
  (Re.at [(0,0),(1,1),(2,2),(3,3),(4,4),(5,5),(6,6),(7,7)] []) ⟨0,e,vs,C,G,ov,V,Q,la,m,rfl,by omega,by omega,by omega,he,h,hK,fun _ _ _ => rfl,hE⟩ ?_
 clear he
 rintro kk s ⟨i,e,vs1,C1,G1,ov1,V1,Q1,la1,m1,rfl,hi0,hi1,hkk,he,h1,hK1,hsm,hE1⟩
 have hb1 := hK1.bounds h1.a
 have hlen1 := h1.a.len
 conv => cbv
 refine Br.mk (fun gi => ?_) (fun gi => ?_)
 ·have gi : i < 9 := by have : i < y := gi; omega
  obtain ⟨w,hw⟩ : ∃ w,X[i.toNat]? = some w := ⟨_,List.getElem?_eq_getElem (by omega)⟩
  have hOw : O[i.toNat]? = some (.int .i64 (.sym w)) := by rw [hO,ipv_getx,hw]; rfl
  have hwb := hXb w (List.mem_of_getElem? hw)
  obtain ⟨x,hx⟩ : ∃ x,Y[i.toNat]? = some x := ⟨_,List.getElem?_eq_getElem (by omega)⟩
  have hOx : OY[i.toNat]? = some (.int .i64 (.sym x)) := by rw [hOY,ipv_getx,hx]; rfl
  have hld := hY.2 _ _ hx
  rw [show ((i.toNat : Nat) : Int) = i by omega] at hld
  have hxw : vs1[(a + 1 + i).toNat]? = some x := by rw [hsm i (Int.le_refl _) gi]; exact (loaded_of hK ⟨hi0,gi⟩ hld).2
  have hdr : X.drop i.toNat = w :: X.drop (i.toNat + 1) := by rw [List.drop_eq_getElem_cons (by omega)]; rw [List.getElem?_eq_getElem (by omega)] at hw; rw [Option.some.inj hw]
  rw [hdr,putS] at hE1
  dsimp only at hE1
  rw [show a + 1 + ((i.toNat : Nat) : Int) = a + 1 + i by omega,hxw] at hE1
  conv => cbv
  refine Br.yes (show e = 0 from he) ?_
  conv => cbv
  refine drawn_sound tok (by kernel_rfl) [] [0,1,2,3,4,5,6,7,8] (by kernel_rfl) ?_; conv => cbv
  refine Need.mk (show 0 ≤ i ∧ i < y by omega) ?_
  conv => cbv
  refine Cell.at i _ hOx (by simp [I.val]) rfl ?_
  conv => cbv
  refine Need.mk (show 0 ≤ i ∧ i < 9 by omega) ?_
  conv => cbv
  refine Cell.at i _ hOw (by simp [I.val]) rfl ?_
  conv => cbv
  refine Br.mk (fun gx => ?_) (fun gx => ?_)
  ·have gx : ¬ x = w := gx
   rw [if_neg (fun q => gx (Option.some.inj q))] at hE1
   conv => cbv
   refine Need.mk (show 0 ≤ i ∧ i < 9 by omega) ?_
   conv => cbv
   refine Cell.at i _ hOw (by simp [I.val]) rfl ?_
   conv => cbv
   refine cfr (rstore9_lx R vs1 C1 G1 N W ph sp cy P B V1 Q1 la1 m1 ov1 h1 a i w hwb) [(0,0),(1,1),(2,2),(3,3),(4,4),(5,5),(6,6),(7,7)] (fun r h' n' hrr => ?_)
   obtain ⟨f,vs2,C2,G2,ov2,V2,Q2,la2,m2,e1,e2,e3,h2,hS,hC⟩ := hrr
   subst e1 e2 e3
   have hK2 := (stored_to h1.a hS).1 a 1 9 hK1
   obtain ⟨hf,hw2⟩ := stored_of hK1 ⟨hi0,gi⟩ hS
   have hC : (C2,G2,ov2) = shadeW R ph w (C1,G1,ov1) := by rw [hC,storeS,if_pos hf]
   rw [← hC,← hw2] at hE1
   clear hS hC h1 hK1
   conv => cbv
   refine Fit.mk (by show (-9223372036854775808 : Int) ≤ i + 1; omega) (by show i + 1 ≤ 9223372036854775807; omega) fun i2 hi2 => ?_
   have hi2 : i2 = i + 1 := hi2
   have htn : i2.toNat = i.toNat + 1 := by omega
   rw [← htn] at hE1
   conv => cbv
   refine Again.mk (9 - i2).toNat _ (by omega) (Re.at [(0,0),(1,1),(2,2),(3,3),(4,4),(5,5),(6,6),(7,7)] []) ⟨i2,f,vs2,C2,G2,ov2,V2,Q2,la2,m2,rfl,by omega,by omega,rfl,hf,h2,hK2,fun j hj0 hj1 => ?_,hE1⟩
   rw [hw2,List.getElem?_set_ne (by omega)]
   exact hsm j (by omega) hj1
  ·have gx : x = w := Classical.byContradiction fun q => gx q
   rw [if_pos (by rw [gx])] at hE1
   conv => cbv
   refine Fit.mk (by show (-9223372036854775808 : Int) ≤ i + 1; omega) (by show i + 1 ≤ 9223372036854775807; omega) fun i2 hi2 => ?_
   have hi2 : i2 = i + 1 := hi2
   have htn : i2.toNat = i.toNat + 1 := by omega
   rw [← htn] at hE1
   conv => cbv
   refine Again.mk (9 - i2).toNat _ (by omega) (Re.at [(0,0),(1,1),(2,2),(3,3),(4,4),(5,5),(6,6),(7,7)] []) ⟨i2,e,vs1,C1,G1,ov1,V1,Q1,la1,m1,rfl,by omega,by omega,rfl,he,h1,hK1,fun j hj0 hj1 => hsm j (by omega) hj1,hE1⟩
 ·have gi : ¬ i < 9 := by have : ¬ i < y := gi; omega
  have hdr : X.drop i.toNat = [] := List.drop_eq_nil_of_le (by omega)
  rw [hdr,putS] at hE1
  conv => cbv
  refine RetF.mk [i6 e] [hpR 0 1 6 3 W 7 ph sp cy,hpB 1 2 5 3 W,hpD 2 3 3 1 N 4 197 8 N,hpP 3 P,hpP 4 B,hpP 5 V1,hpP 6 Q1,(7,.mix [.p (.vsl (.sym m1) true la1),.p (.bool ov1)])] 8 (Re.at [(0,0),(1,1),(2,2),(3,3),(4,4),(5,5),(6,6),(7,7)] []) rfl ⟨e,vs1,C1,G1,ov1,V1,Q1,la1,m1,rfl,rfl,rfl,h1,by rw [he,← hE1,hE]; exact .ok hK⟩
theorem rPutW3_lx (R : List Rw) (vs C G : List Int) (N W ph sp cy : Int) (P B V Q la : List PV) (m : Int) (ov : Bool) (h : RM R vs C G N W P B V Q la m) (a : Int) (X : List Int) (O : List PV) (hO : O = ipv X) (hXl : (X.length : Int) = 7) (hXb : ∀ x ∈ X,-9223372036854775808 ≤ x ∧ x ≤ 9223372036854775807) : CallF (fun _ => Tryz.prog) 84 [.ptr 0 (.lit 0),i6 a,.p (.int .i64 (.lit 3)),.p (.vsl (.sym 7) true O)] [hpR 0 1 6 3 W 7 ph sp cy,hpB 1 2 5 3 W,hpD 2 3 3 1 N 4 197 8 N,hpP 3 P,hpP 4 B,hpP 5 V,hpP 6 Q,(7,.mix [.p (.vsl (.sym m) true la),.p (.bool ov)])] 8
  (fun r h n => ∃ (e : Int) (vs' C' G' : List Int) (ov' : Bool) (V' Q' la' : List PV) (m' : Int),r = .p (.int .i64 (.sym e)) ∧ h = [hpR 0 1 6 3 W 7 ph sp cy,hpB 1 2 5 3 W,hpD 2 3 3 1 N 4 197 8 N,hpP 3 P,hpP 4 B,hpP 5 V',hpP 6 Q',(7,.mix [.p (.vsl (.sym m') true la'),.p (.bool ov')])] ∧ n = 8 ∧ RM R vs' C' G' N W P B V' Q' la' m' ∧ PT 3 7 X R ph a (vs,C,G,ov) e (vs',C',G',ov')) := by
 refine callF_of_body tok Tryz.func84 (by kernel_rfl) rfl rfl rfl ?_; conv => cbv
 refine cfr (rWords3_lx R vs C G N W ph sp cy P B V Q la m ov h a) [(0,0),(1,1),(2,2),(3,3),(4,4),(5,5),(6,6),(7,7)] (fun r h' n' hrr => ?_)
 obtain ⟨⟨Y,y,e,OY,e1,hOY,hy,hW⟩,e2,e3⟩ := hrr
 subst e1 e2 e3
 conv => cbv
 rcases hW.two with ⟨he,hK,hY,hYl⟩ | ⟨he,hYn,hK⟩
 case inr =>
  have hy0 : y = 0 := by rw [hy,hYn]; rfl
  refine LoopF.rounds 1 ?_
  conv => cbv
  refine Br.no (show ¬ (0 < y) by omega) ?_
  conv => cbv
  refine RetF.mk [i6 e] [hpR 0 1 6 3 W 7 ph sp cy,hpB 1 2 5 3 W,hpD 2 3 3 1 N 4 197 8 N,hpP 3 P,hpP 4 B,hpP 5 V,hpP 6 Q,(7,.mix [.p (.vsl (.sym m) true la),.p (.bool ov)])] 8 (Re.at [(0,0),(1,1),(2,2),(3,3),(4,4),(5,5),(6,6),(7,7)] []) rfl ⟨e,vs,C,G,ov,V,Q,la,m,rfl,rfl,rfl,h,by rw [he]; exact .no hK⟩
 case inl =>
 have hyl : y = 7 := by omega
 have hb := hK.bounds h.a
 clear hW
 obtain ⟨E,hE⟩ : ∃ E,E = putS R ph a 0 X (vs,C,G,ov) := ⟨_,rfl⟩
 refine LoopF.mk (fun kk s => ∃ (i e : Int) (vs1 C1 G1 : List Int) (ov1 : Bool) (V1 Q1 la1 : List PV) (m1 : Int),s = ⟨.ptr 0 (.lit 0) :: .p (.int .i64 (.sym a)) :: .undef :: .p (.vsl (.sym 7) true O) :: (undefs 5 ++ .p (.vsl (.sym y) true OY) :: .p (.int .i64 (.sym e)) :: .p (.int .i64 (.sym i)) :: undefs 35),[hpR 0 1 6 3 W 7 ph sp cy,hpB 1 2 5 3 W,hpD 2 3 3 1 N 4 197 8 N,hpP 3 P,hpP 4 B,hpP 5 V1,hpP 6 Q1,(7,.mix [.p (.vsl (.sym m1) true la1),.p (.bool ov1)])],8⟩ ∧ 0 ≤ i ∧ i ≤ 7 ∧ kk = (7 - i).toNat ∧ e = 0 ∧ RM R vs1 C1 G1 N W P B V1 Q1 la1 m1 ∧ Kept R vs1 a 3 7 ∧ (∀ j,i ≤ j → j < 7 → vs1[(a + 1 + j).toNat]? = vs[(a + 1 + j).toNat]?) ∧ E = putS R ph a i.toNat (X.drop i.toNat) (vs1,C1,G1,ov1)) 7 _
  (Re.at [(0,0),(1,1),(2,2),(3,3),(4,4),(5,5),(6,6),(7,7)] []) ⟨0,e,vs,C,G,ov,V,Q,la,m,rfl,by omega,by omega,by omega,he,h,hK,fun _ _ _ => rfl,hE⟩ ?_
 clear he
 rintro kk s ⟨i,e,vs1,C1,G1,ov1,V1,Q1,la1,m1,rfl,hi0,hi1,hkk,he,h1,hK1,hsm,hE1⟩
 have hb1 := hK1.bounds h1.a
 have hlen1 := h1.a.len
 conv => cbv
 refine Br.mk (fun gi => ?_) (fun gi => ?_)
 ·have gi : i < 7 := by have : i < y := gi; omega
  obtain ⟨w,hw⟩ : ∃ w,X[i.toNat]? = some w := ⟨_,List.getElem?_eq_getElem (by omega)⟩
  have hOw : O[i.toNat]? = some (.int .i64 (.sym w)) := by rw [hO,ipv_getx,hw]; rfl
  have hwb := hXb w (List.mem_of_getElem? hw)
  obtain ⟨x,hx⟩ : ∃ x,Y[i.toNat]? = some x := ⟨_,List.getElem?_eq_getElem (by omega)⟩
  have hOx : OY[i.toNat]? = some (.int .i64 (.sym x)) := by rw [hOY,ipv_getx,hx]; rfl
  have hld := hY.2 _ _ hx
  rw [show ((i.toNat : Nat) : Int) = i by omega] at hld
  have hxw : vs1[(a + 1 + i).toNat]? = some x := by rw [hsm i (Int.le_refl _) gi]; exact (loaded_of hK ⟨hi0,gi⟩ hld).2
  have hdr : X.drop i.toNat = w :: X.drop (i.toNat + 1) := by rw [List.drop_eq_getElem_cons (by omega)]; rw [List.getElem?_eq_getElem (by omega)] at hw; rw [Option.some.inj hw]
  rw [hdr,putS] at hE1
  dsimp only at hE1
  rw [show a + 1 + ((i.toNat : Nat) : Int) = a + 1 + i by omega,hxw] at hE1
  conv => cbv
  refine Br.yes (show e = 0 from he) ?_
  conv => cbv
  refine drawn_sound tok (by kernel_rfl) [] [0,1,2,3,4,5,6,7,8] (by kernel_rfl) ?_; conv => cbv
  refine Need.mk (show 0 ≤ i ∧ i < y by omega) ?_
  conv => cbv
  refine Cell.at i _ hOx (by simp [I.val]) rfl ?_
  conv => cbv
  refine Need.mk (show 0 ≤ i ∧ i < 7 by omega) ?_
  conv => cbv
  refine Cell.at i _ hOw (by simp [I.val]) rfl ?_
  conv => cbv
  refine Br.mk (fun gx => ?_) (fun gx => ?_)
  ·have gx : ¬ x = w := gx
   rw [if_neg (fun q => gx (Option.some.inj q))] at hE1
   conv => cbv
   refine Need.mk (show 0 ≤ i ∧ i < 7 by omega) ?_
   conv => cbv
   refine Cell.at i _ hOw (by simp [I.val]) rfl ?_
   conv => cbv
   refine cfr (rstore9_lx R vs1 C1 G1 N W ph sp cy P B V1 Q1 la1 m1 ov1 h1 a i w hwb) [(0,0),(1,1),(2,2),(3,3),(4,4),(5,5),(6,6),(7,7)] (fun r h' n' hrr => ?_)
   obtain ⟨f,vs2,C2,G2,ov2,V2,Q2,la2,m2,e1,e2,e3,h2,hS,hC⟩ := hrr
   subst e1 e2 e3
   have hK2 := (stored_to h1.a hS).1 a 3 7 hK1
   obtain ⟨hf,hw2⟩ := stored_of hK1 ⟨hi0,gi⟩ hS
   have hC : (C2,G2,ov2) = shadeW R ph w (C1,G1,ov1) := by rw [hC,storeS,if_pos hf]
   rw [← hC,← hw2] at hE1
   clear hS hC h1 hK1
   conv => cbv
   refine Fit.mk (by show (-9223372036854775808 : Int) ≤ i + 1; omega) (by show i + 1 ≤ 9223372036854775807; omega) fun i2 hi2 => ?_
   have hi2 : i2 = i + 1 := hi2
   have htn : i2.toNat = i.toNat + 1 := by omega
   rw [← htn] at hE1
   conv => cbv
   refine Again.mk (7 - i2).toNat _ (by omega) (Re.at [(0,0),(1,1),(2,2),(3,3),(4,4),(5,5),(6,6),(7,7)] []) ⟨i2,f,vs2,C2,G2,ov2,V2,Q2,la2,m2,rfl,by omega,by omega,rfl,hf,h2,hK2,fun j hj0 hj1 => ?_,hE1⟩
   rw [hw2,List.getElem?_set_ne (by omega)]
   exact hsm j (by omega) hj1
  ·have gx : x = w := Classical.byContradiction fun q => gx q
   rw [if_pos (by rw [gx])] at hE1
   conv => cbv
   refine Fit.mk (by show (-9223372036854775808 : Int) ≤ i + 1; omega) (by show i + 1 ≤ 9223372036854775807; omega) fun i2 hi2 => ?_
   have hi2 : i2 = i + 1 := hi2
   have htn : i2.toNat = i.toNat + 1 := by omega
   rw [← htn] at hE1
   conv => cbv
   refine Again.mk (7 - i2).toNat _ (by omega) (Re.at [(0,0),(1,1),(2,2),(3,3),(4,4),(5,5),(6,6),(7,7)] []) ⟨i2,e,vs1,C1,G1,ov1,V1,Q1,la1,m1,rfl,by omega,by omega,rfl,he,h1,hK1,fun j hj0 hj1 => hsm j (by omega) hj1,hE1⟩
 ·have gi : ¬ i < 7 := by have : ¬ i < y := gi; omega
  have hdr : X.drop i.toNat = [] := List.drop_eq_nil_of_le (by omega)
  rw [hdr,putS] at hE1
  conv => cbv
  refine RetF.mk [i6 e] [hpR 0 1 6 3 W 7 ph sp cy,hpB 1 2 5 3 W,hpD 2 3 3 1 N 4 197 8 N,hpP 3 P,hpP 4 B,hpP 5 V1,hpP 6 Q1,(7,.mix [.p (.vsl (.sym m1) true la1),.p (.bool ov1)])] 8 (Re.at [(0,0),(1,1),(2,2),(3,3),(4,4),(5,5),(6,6),(7,7)] []) rfl ⟨e,vs1,C1,G1,ov1,V1,Q1,la1,m1,rfl,rfl,rfl,h1,by rw [he,← hE1,hE]; exact .ok hK⟩
theorem rPutW4_lx (R : List Rw) (vs C G : List Int) (N W ph sp cy : Int) (P B V Q la : List PV) (m : Int) (ov : Bool) (h : RM R vs C G N W P B V Q la m) (a : Int) (X : List Int) (O : List PV) (hO : O = ipv X) (hXl : (X.length : Int) = 10) (hXb : ∀ x ∈ X,-9223372036854775808 ≤ x ∧ x ≤ 9223372036854775807) : CallF (fun _ => Tryz.prog) 84 [.ptr 0 (.lit 0),i6 a,.p (.int .i64 (.lit 4)),.p (.vsl (.sym 10) true O)] [hpR 0 1 6 3 W 7 ph sp cy,hpB 1 2 5 3 W,hpD 2 3 3 1 N 4 197 8 N,hpP 3 P,hpP 4 B,hpP 5 V,hpP 6 Q,(7,.mix [.p (.vsl (.sym m) true la),.p (.bool ov)])] 8
  (fun r h n => ∃ (e : Int) (vs' C' G' : List Int) (ov' : Bool) (V' Q' la' : List PV) (m' : Int),r = .p (.int .i64 (.sym e)) ∧ h = [hpR 0 1 6 3 W 7 ph sp cy,hpB 1 2 5 3 W,hpD 2 3 3 1 N 4 197 8 N,hpP 3 P,hpP 4 B,hpP 5 V',hpP 6 Q',(7,.mix [.p (.vsl (.sym m') true la'),.p (.bool ov')])] ∧ n = 8 ∧ RM R vs' C' G' N W P B V' Q' la' m' ∧ PT 4 10 X R ph a (vs,C,G,ov) e (vs',C',G',ov')) := by
 refine callF_of_body tok Tryz.func84 (by kernel_rfl) rfl rfl rfl ?_; conv => cbv
 refine cfr (rWords4_lx R vs C G N W ph sp cy P B V Q la m ov h a) [(0,0),(1,1),(2,2),(3,3),(4,4),(5,5),(6,6),(7,7)] (fun r h' n' hrr => ?_)
 obtain ⟨⟨Y,y,e,OY,e1,hOY,hy,hW⟩,e2,e3⟩ := hrr
 subst e1 e2 e3
 conv => cbv
 rcases hW.two with ⟨he,hK,hY,hYl⟩ | ⟨he,hYn,hK⟩
 case inr =>
  have hy0 : y = 0 := by rw [hy,hYn]; rfl
  refine LoopF.rounds 1 ?_
  conv => cbv
  refine Br.no (show ¬ (0 < y) by omega) ?_
  conv => cbv
  refine RetF.mk [i6 e] [hpR 0 1 6 3 W 7 ph sp cy,hpB 1 2 5 3 W,hpD 2 3 3 1 N 4 197 8 N,hpP 3 P,hpP 4 B,hpP 5 V,hpP 6 Q,(7,.mix [.p (.vsl (.sym m) true la),.p (.bool ov)])] 8 (Re.at [(0,0),(1,1),(2,2),(3,3),(4,4),(5,5),(6,6),(7,7)] []) rfl ⟨e,vs,C,G,ov,V,Q,la,m,rfl,rfl,rfl,h,by rw [he]; exact .no hK⟩
 case inl =>
 have hyl : y = 10 := by omega
 have hb := hK.bounds h.a
 clear hW
 obtain ⟨E,hE⟩ : ∃ E,E = putS R ph a 0 X (vs,C,G,ov) := ⟨_,rfl⟩
 refine LoopF.mk (fun kk s => ∃ (i e : Int) (vs1 C1 G1 : List Int) (ov1 : Bool) (V1 Q1 la1 : List PV) (m1 : Int),s = ⟨.ptr 0 (.lit 0) :: .p (.int .i64 (.sym a)) :: .undef :: .p (.vsl (.sym 10) true O) :: (undefs 5 ++ .p (.vsl (.sym y) true OY) :: .p (.int .i64 (.sym e)) :: .p (.int .i64 (.sym i)) :: undefs 35),[hpR 0 1 6 3 W 7 ph sp cy,hpB 1 2 5 3 W,hpD 2 3 3 1 N 4 197 8 N,hpP 3 P,hpP 4 B,hpP 5 V1,hpP 6 Q1,(7,.mix [.p (.vsl (.sym m1) true la1),.p (.bool ov1)])],8⟩ ∧ 0 ≤ i ∧ i ≤ 10 ∧ kk = (10 - i).toNat ∧ e = 0 ∧ RM R vs1 C1 G1 N W P B V1 Q1 la1 m1 ∧ Kept R vs1 a 4 10 ∧ (∀ j,i ≤ j → j < 10 → vs1[(a + 1 + j).toNat]? = vs[(a + 1 + j).toNat]?) ∧ E = putS R ph a i.toNat (X.drop i.toNat) (vs1,C1,G1,ov1)) 10 _
  (Re.at [(0,0),(1,1),(2,2),(3,3),(4,4),(5,5),(6,6),(7,7)] []) ⟨0,e,vs,C,G,ov,V,Q,la,m,rfl,by omega,by omega,by omega,he,h,hK,fun _ _ _ => rfl,hE⟩ ?_
 clear he
 rintro kk s ⟨i,e,vs1,C1,G1,ov1,V1,Q1,la1,m1,rfl,hi0,hi1,hkk,he,h1,hK1,hsm,hE1⟩
 have hb1 := hK1.bounds h1.a
 have hlen1 := h1.a.len
 conv => cbv
 refine Br.mk (fun gi => ?_) (fun gi => ?_)
 ·have gi : i < 10 := by have : i < y := gi; omega
  obtain ⟨w,hw⟩ : ∃ w,X[i.toNat]? = some w := ⟨_,List.getElem?_eq_getElem (by omega)⟩
  have hOw : O[i.toNat]? = some (.int .i64 (.sym w)) := by rw [hO,ipv_getx,hw]; rfl
  have hwb := hXb w (List.mem_of_getElem? hw)
  obtain ⟨x,hx⟩ : ∃ x,Y[i.toNat]? = some x := ⟨_,List.getElem?_eq_getElem (by omega)⟩
  have hOx : OY[i.toNat]? = some (.int .i64 (.sym x)) := by rw [hOY,ipv_getx,hx]; rfl
  have hld := hY.2 _ _ hx
  rw [show ((i.toNat : Nat) : Int) = i by omega] at hld
  have hxw : vs1[(a + 1 + i).toNat]? = some x := by rw [hsm i (Int.le_refl _) gi]; exact (loaded_of hK ⟨hi0,gi⟩ hld).2
  have hdr : X.drop i.toNat = w :: X.drop (i.toNat + 1) := by rw [List.drop_eq_getElem_cons (by omega)]; rw [List.getElem?_eq_getElem (by omega)] at hw; rw [Option.some.inj hw]
  rw [hdr,putS] at hE1
  dsimp only at hE1
  rw [show a + 1 + ((i.toNat : Nat) : Int) = a + 1 + i by omega,hxw] at hE1
  conv => cbv
  refine Br.yes (show e = 0 from he) ?_
  conv => cbv
  refine drawn_sound tok (by kernel_rfl) [] [0,1,2,3,4,5,6,7,8] (by kernel_rfl) ?_; conv => cbv
  refine Need.mk (show 0 ≤ i ∧ i < y by omega) ?_
  conv => cbv
  refine Cell.at i _ hOx (by simp [I.val]) rfl ?_
  conv => cbv
  refine Need.mk (show 0 ≤ i ∧ i < 10 by omega) ?_
  conv => cbv
  refine Cell.at i _ hOw (by simp [I.val]) rfl ?_
  conv => cbv
  refine Br.mk (fun gx => ?_) (fun gx => ?_)
  ·have gx : ¬ x = w := gx
   rw [if_neg (fun q => gx (Option.some.inj q))] at hE1
   conv => cbv
   refine Need.mk (show 0 ≤ i ∧ i < 10 by omega) ?_
   conv => cbv
   refine Cell.at i _ hOw (by simp [I.val]) rfl ?_
   conv => cbv
   refine cfr (rstore9_lx R vs1 C1 G1 N W ph sp cy P B V1 Q1 la1 m1 ov1 h1 a i w hwb) [(0,0),(1,1),(2,2),(3,3),(4,4),(5,5),(6,6),(7,7)] (fun r h' n' hrr => ?_)
   obtain ⟨f,vs2,C2,G2,ov2,V2,Q2,la2,m2,e1,e2,e3,h2,hS,hC⟩ := hrr
   subst e1 e2 e3
   have hK2 := (stored_to h1.a hS).1 a 4 10 hK1
   obtain ⟨hf,hw2⟩ := stored_of hK1 ⟨hi0,gi⟩ hS
   have hC : (C2,G2,ov2) = shadeW R ph w (C1,G1,ov1) := by rw [hC,storeS,if_pos hf]
   rw [← hC,← hw2] at hE1
   clear hS hC h1 hK1
   conv => cbv
   refine Fit.mk (by show (-9223372036854775808 : Int) ≤ i + 1; omega) (by show i + 1 ≤ 9223372036854775807; omega) fun i2 hi2 => ?_
   have hi2 : i2 = i + 1 := hi2
   have htn : i2.toNat = i.toNat + 1 := by omega
   rw [← htn] at hE1
   conv => cbv
   refine Again.mk (10 - i2).toNat _ (by omega) (Re.at [(0,0),(1,1),(2,2),(3,3),(4,4),(5,5),(6,6),(7,7)] []) ⟨i2,f,vs2,C2,G2,ov2,V2,Q2,la2,m2,rfl,by omega,by omega,rfl,hf,h2,hK2,fun j hj0 hj1 => ?_,hE1⟩
   rw [hw2,List.getElem?_set_ne (by omega)]
   exact hsm j (by omega) hj1
  ·have gx : x = w := Classical.byContradiction fun q => gx q
   rw [if_pos (by rw [gx])] at hE1
   conv => cbv
   refine Fit.mk (by show (-9223372036854775808 : Int) ≤ i + 1; omega) (by show i + 1 ≤ 9223372036854775807; omega) fun i2 hi2 => ?_
   have hi2 : i2 = i + 1 := hi2
   have htn : i2.toNat = i.toNat + 1 := by omega
   rw [← htn] at hE1
   conv => cbv
   refine Again.mk (10 - i2).toNat _ (by omega) (Re.at [(0,0),(1,1),(2,2),(3,3),(4,4),(5,5),(6,6),(7,7)] []) ⟨i2,e,vs1,C1,G1,ov1,V1,Q1,la1,m1,rfl,by omega,by omega,rfl,he,h1,hK1,fun j hj0 hj1 => hsm j (by omega) hj1,hE1⟩
 ·have gi : ¬ i < 10 := by have : ¬ i < y := gi; omega
  have hdr : X.drop i.toNat = [] := List.drop_eq_nil_of_le (by omega)
  rw [hdr,putS] at hE1
  conv => cbv
  refine RetF.mk [i6 e] [hpR 0 1 6 3 W 7 ph sp cy,hpB 1 2 5 3 W,hpD 2 3 3 1 N 4 197 8 N,hpP 3 P,hpP 4 B,hpP 5 V1,hpP 6 Q1,(7,.mix [.p (.vsl (.sym m1) true la1),.p (.bool ov1)])] 8 (Re.at [(0,0),(1,1),(2,2),(3,3),(4,4),(5,5),(6,6),(7,7)] []) rfl ⟨e,vs1,C1,G1,ov1,V1,Q1,la1,m1,rfl,rfl,rfl,h1,by rw [he,← hE1,hE]; exact .ok hK⟩
end Go.Proofs.YtmckfhnijeiklaaGreatDoor
namespace Go.Proofs.YtmckfhnijeiklaaGreatDoor
open Go Go.LX
set_option maxRecDepth 100000
set_option linter.unusedVariables false
set_option linter.unusedSimpArgs false
set_option maxHeartbeats 32000000
theorem rchan_lx (R : List Rw) (vs C G : List Int) (N W ph sp cy : Int) (P B V Q la : List PV) (m : Int) (ov : Bool) (h : RM R vs C G N W P B V Q la m) (a : Int) : CallF (fun _ => Tryz.prog) 122 [.ptr 0 (.lit 0),i6 a] [hpR 0 1 6 3 W 7 ph sp cy,hpB 1 2 5 3 W,hpD 2 3 3 1 N 4 197 8 N,hpP 3 P,hpP 4 B,hpP 5 V,hpP 6 Q,(7,.mix [.p (.vsl (.sym m) true la),.p (.bool ov)])] 8 (fun r h n => (∃ (y0 y1 y2 y3 y4 y5 y6 y7 y8 e : Int),r = .tup [.agg [i6 y0,i6 y1,i6 y2,i6 y3,i6 y4,i6 y5,i6 y6,i6 y7,i6 y8],i6 e] ∧ TR 1 9 chanFs R vs a e [y0,y1,y2,y3,y4,y5,y6,y7,y8]) ∧ h = [hpR 0 1 6 3 W 7 ph sp cy,hpB 1 2 5 3 W,hpD 2 3 3 1 N 4 197 8 N,hpP 3 P,hpP 4 B,hpP 5 V,hpP 6 Q,(7,.mix [.p (.vsl (.sym m) true la),.p (.bool ov)])] ∧ n = 8) := by
 refine callF_of_body tok Tryz.func122 (by kernel_rfl) rfl rfl rfl ?_; conv => cbv
 refine CallF.le (args0 := [.ptr 0 (.lit 0),i6 a,.p (.int .i64 (.lit 1))]) (cfr (rWords1_lx R vs C G N W ph sp cy P B V Q la m ov h a) [(0,0),(1,1),(2,2),(3,3),(4,4),(5,5),(6,6),(7,7)] (fun r h' n' hrr => ?_)) (by simp [ales,ale,pvle,I.val])
 obtain ⟨⟨Y,q,e,OY,e1,hOY,hq,hW⟩,e2,e3⟩ := hrr
 subst e1 e2 e3
 conv => cbv
 rcases hW.two with ⟨he,hK,hY,hYl⟩ | ⟨he,hYn,hK⟩
 case inr =>
  refine Br.yes (show ¬ e = 0 by omega) ?_
  conv => cbv
  refine RetF.mk [.agg [i6 0,i6 0,i6 0,i6 0,i6 0,i6 0,i6 0,i6 0,i6 0],i6 e] [hpR 0 1 6 3 W 7 ph sp cy,hpB 1 2 5 3 W,hpD 2 3 3 1 N 4 197 8 N,hpP 3 P,hpP 4 B,hpP 5 V,hpP 6 Q,(7,.mix [.p (.vsl (.sym m) true la),.p (.bool ov)])] 8 (Re.at [(0,0),(1,1),(2,2),(3,3),(4,4),(5,5),(6,6),(7,7)] []) rfl ⟨⟨0,0,0,0,0,0,0,0,0,e,rfl,by rw [he]; exact .no hK⟩,rfl,rfl⟩
 case inl =>
 obtain ⟨x0,x1,x2,x3,x4,x5,x6,x7,x8,rfl⟩ := list9 (X := Y) (by omega)
 have hb := hY.bd h.a
 simp only [List.forall_mem_cons] at hb
 obtain ⟨b0,b1,b2,b3,b4,b5,b6,b7,b8,_⟩ := hb
 have hqn : q = 9 := hq
 refine Br.no (show ¬ ¬ e = 0 by omega) ?_
 conv => cbv
 refine drawn_sound tok (by kernel_rfl) [(3,[37,34,33,32,30,29,28,26,25,24,22,21,20,18,17,16,14,13,12,10,9,8,6,5,4]),(7,[37,34,33,32,30,29,28,26,25,24,22,21,20,18,17,16,14,13,12,10,9,8]),(11,[37,34,33,32,30,29,28,26,25,24,22,21,20,18,17,16,14,13,12]),(15,[37,34,33,32,30,29,28,26,25,24,22,21,20,18,17,16]),(19,[37,34,33,32,30,29,28,26,25,24,22,21,20]),(23,[37,34,33,32,30,29,28,26,25,24]),(27,[37,34,33,32,30,29,28]),(31,[37,34,33,32]),(35,[37]),(38,[37])] [0,1,2,4,5,6,8,9,10,12,13,14,16,17,18,20,21,22,24,25,26,28,29,30,32,33,34,37,3,7,11,15,19,23,27,31,35,36,38,39] (by kernel_rfl) ?_; conv => cbv
 refine Need.mk (show (0 : Int) ≤ 0 ∧ (0 : Int) < q by omega) ?_
 conv => cbv
 refine Cell.mk (.int .i64 (.sym x0)) (by rw [hOY]; rfl) ?_
 conv => cbv
 refine Need.mk (show (0 : Int) ≤ 1 ∧ (1 : Int) < q by omega) ?_
 conv => cbv
 refine Cell.mk (.int .i64 (.sym x1)) (by rw [hOY]; rfl) ?_
 conv => cbv
 refine Need.mk (show (0 : Int) ≤ 2 ∧ (2 : Int) < q by omega) ?_
 conv => cbv
 refine Cell.mk (.int .i64 (.sym x2)) (by rw [hOY]; rfl) ?_
 conv => cbv
 refine Need.mk (show (0 : Int) ≤ 3 ∧ (3 : Int) < q by omega) ?_
 conv => cbv
 refine Cell.mk (.int .i64 (.sym x3)) (by rw [hOY]; rfl) ?_
 conv => cbv
 refine Need.mk (show (0 : Int) ≤ 4 ∧ (4 : Int) < q by omega) ?_
 conv => cbv
 refine Cell.mk (.int .i64 (.sym x4)) (by rw [hOY]; rfl) ?_
 conv => cbv
 refine Need.mk (show (0 : Int) ≤ 5 ∧ (5 : Int) < q by omega) ?_
 conv => cbv
 refine Cell.mk (.int .i64 (.sym x5)) (by rw [hOY]; rfl) ?_
 conv => cbv
 refine Need.mk (show (0 : Int) ≤ 6 ∧ (6 : Int) < q by omega) ?_
 conv => cbv
 refine Cell.mk (.int .i64 (.sym x6)) (by rw [hOY]; rfl) ?_
 conv => cbv
 refine Need.mk (show (0 : Int) ≤ 7 ∧ (7 : Int) < q by omega) ?_
 conv => cbv
 refine Cell.mk (.int .i64 (.sym x7)) (by rw [hOY]; rfl) ?_
 conv => cbv
 refine Need.mk (show (0 : Int) ≤ 8 ∧ (8 : Int) < q by omega) ?_
 conv => cbv
 refine Cell.mk (.int .i64 (.sym x8)) (by rw [hOY]; rfl) ?_
 conv => cbv
 refine callF_frame (rNumber_lx x0 b0) [] rfl trivial rfl rfl (fun r h' n' hrr => ?_)
 obtain ⟨⟨y0,e1,hy0⟩,e2,e3⟩ := hrr
 subst e1 e2 e3
 conv => cbv
 refine callF_frame (rNumber_lx x1 b1) [] rfl trivial rfl rfl (fun r h' n' hrr => ?_)
 obtain ⟨⟨y1,e1,hy1⟩,e2,e3⟩ := hrr
 subst e1 e2 e3
 conv => cbv
 refine callF_frame (rNumber_lx x2 b2) [] rfl trivial rfl rfl (fun r h' n' hrr => ?_)
 obtain ⟨⟨y2,e1,hy2⟩,e2,e3⟩ := hrr
 subst e1 e2 e3
 conv => cbv
 refine callF_frame (rNumber_lx x3 b3) [] rfl trivial rfl rfl (fun r h' n' hrr => ?_)
 obtain ⟨⟨y3,e1,hy3⟩,e2,e3⟩ := hrr
 subst e1 e2 e3
 conv => cbv
 refine callF_frame (rPlace_lx x4 b4) [] rfl trivial rfl rfl (fun r h' n' hrr => ?_)
 obtain ⟨⟨y4,e1,hy4⟩,e2,e3⟩ := hrr
 subst e1 e2 e3
 conv => cbv
 refine callF_frame (rPlace_lx x5 b5) [] rfl trivial rfl rfl (fun r h' n' hrr => ?_)
 obtain ⟨⟨y5,e1,hy5⟩,e2,e3⟩ := hrr
 subst e1 e2 e3
 conv => cbv
 refine callF_frame (rPlace_lx x6 b6) [] rfl trivial rfl rfl (fun r h' n' hrr => ?_)
 obtain ⟨⟨y6,e1,hy6⟩,e2,e3⟩ := hrr
 subst e1 e2 e3
 conv => cbv
 refine callF_frame (rPlace_lx x7 b7) [] rfl trivial rfl rfl (fun r h' n' hrr => ?_)
 obtain ⟨⟨y7,e1,hy7⟩,e2,e3⟩ := hrr
 subst e1 e2 e3
 conv => cbv
 refine callF_frame (rPlace_lx x8 b8) [] rfl trivial rfl rfl (fun r h' n' hrr => ?_)
 obtain ⟨⟨y8,e1,hy8⟩,e2,e3⟩ := hrr
 subst e1 e2 e3
 conv => cbv
 refine RetF.mk [.agg [i6 y0,i6 y1,i6 y2,i6 y3,i6 y4,i6 y5,i6 y6,i6 y7,i6 y8],i6 e] [hpR 0 1 6 3 W 7 ph sp cy,hpB 1 2 5 3 W,hpD 2 3 3 1 N 4 197 8 N,hpP 3 P,hpP 4 B,hpP 5 V,hpP 6 Q,(7,.mix [.p (.vsl (.sym m) true la),.p (.bool ov)])] 8 (Re.at [(0,0),(1,1),(2,2),(3,3),(4,4),(5,5),(6,6),(7,7)] []) rfl ⟨⟨y0,y1,y2,y3,y4,y5,y6,y7,y8,e,rfl,?_⟩,rfl,rfl⟩
 have hfs : [y0,y1,y2,y3,y4,y5,y6,y7,y8] = chanFs [x0,x1,x2,x3,x4,x5,x6,x7,x8] := by simp only [chanFs,hy0,hy1,hy2,hy3,hy4,hy5,hy6,hy7,hy8]
 rw [he,hfs]; exact .ok _ hK hY
theorem rsudog_lx (R : List Rw) (vs C G : List Int) (N W ph sp cy : Int) (P B V Q la : List PV) (m : Int) (ov : Bool) (h : RM R vs C G N W P B V Q la m) (a : Int) : CallF (fun _ => Tryz.prog) 123 [.ptr 0 (.lit 0),i6 a] [hpR 0 1 6 3 W 7 ph sp cy,hpB 1 2 5 3 W,hpD 2 3 3 1 N 4 197 8 N,hpP 3 P,hpP 4 B,hpP 5 V,hpP 6 Q,(7,.mix [.p (.vsl (.sym m) true la),.p (.bool ov)])] 8 (fun r h n => (∃ (y0 y1 y2 y3 y4 y5 y6 e : Int),r = .tup [.agg [i6 y0,i6 y1,i6 y2,i6 y3,i6 y4,i6 y5,i6 y6],i6 e] ∧ TR 3 7 sudogFs R vs a e [y0,y1,y2,y3,y4,y5,y6]) ∧ h = [hpR 0 1 6 3 W 7 ph sp cy,hpB 1 2 5 3 W,hpD 2 3 3 1 N 4 197 8 N,hpP 3 P,hpP 4 B,hpP 5 V,hpP 6 Q,(7,.mix [.p (.vsl (.sym m) true la),.p (.bool ov)])] ∧ n = 8) := by
 refine callF_of_body tok Tryz.func123 (by kernel_rfl) rfl rfl rfl ?_; conv => cbv
 refine CallF.le (args0 := [.ptr 0 (.lit 0),i6 a,.p (.int .i64 (.lit 3))]) (cfr (rWords3_lx R vs C G N W ph sp cy P B V Q la m ov h a) [(0,0),(1,1),(2,2),(3,3),(4,4),(5,5),(6,6),(7,7)] (fun r h' n' hrr => ?_)) (by simp [ales,ale,pvle,I.val])
 obtain ⟨⟨Y,q,e,OY,e1,hOY,hq,hW⟩,e2,e3⟩ := hrr
 subst e1 e2 e3
 conv => cbv
 rcases hW.two with ⟨he,hK,hY,hYl⟩ | ⟨he,hYn,hK⟩
 case inr =>
  refine Br.yes (show ¬ e = 0 by omega) ?_
  conv => cbv
  refine RetF.mk [.agg [i6 0,i6 0,i6 0,i6 0,i6 0,i6 0,i6 0],i6 e] [hpR 0 1 6 3 W 7 ph sp cy,hpB 1 2 5 3 W,hpD 2 3 3 1 N 4 197 8 N,hpP 3 P,hpP 4 B,hpP 5 V,hpP 6 Q,(7,.mix [.p (.vsl (.sym m) true la),.p (.bool ov)])] 8 (Re.at [(0,0),(1,1),(2,2),(3,3),(4,4),(5,5),(6,6),(7,7)] []) rfl ⟨⟨0,0,0,0,0,0,0,e,rfl,by rw [he]; exact .no hK⟩,rfl,rfl⟩
 case inl =>
 obtain ⟨x0,x1,x2,x3,x4,x5,x6,rfl⟩ := list7 (X := Y) (by omega)
 have hb := hY.bd h.a
 simp only [List.forall_mem_cons] at hb
 obtain ⟨b0,b1,b2,b3,b4,b5,b6,_⟩ := hb
 have hqn : q = 7 := hq
 refine Br.no (show ¬ ¬ e = 0 by omega) ?_
 conv => cbv
 refine drawn_sound tok (by kernel_rfl) [(3,[28,25,24,23,21,20,19,17,16,15,13,12,11,10,9,8,6,5,4]),(7,[28,25,24,23,21,20,19,17,16,15,13,12,11,10,9,8]),(14,[28,25,24,23,21,20,19,17,16,15,10,9,8]),(18,[28,25,24,23,21,20,19,10,9,8]),(22,[28,25,24,23,10,9,8]),(26,[28,10,9,8]),(29,[28])] [0,1,2,4,5,6,8,9,10,11,12,13,15,16,17,19,20,21,23,24,25,28,3,7,14,18,22,26,27,29,30] (by kernel_rfl) ?_; conv => cbv
 refine Need.mk (show (0 : Int) ≤ 0 ∧ (0 : Int) < q by omega) ?_
 conv => cbv
 refine Cell.mk (.int .i64 (.sym x0)) (by rw [hOY]; rfl) ?_
 conv => cbv
 refine Need.mk (show (0 : Int) ≤ 1 ∧ (1 : Int) < q by omega) ?_
 conv => cbv
 refine Cell.mk (.int .i64 (.sym x1)) (by rw [hOY]; rfl) ?_
 conv => cbv
 refine Need.mk (show (0 : Int) ≤ 2 ∧ (2 : Int) < q by omega) ?_
 conv => cbv
 refine Cell.mk (.int .i64 (.sym x2)) (by rw [hOY]; rfl) ?_
 conv => cbv
 refine Need.mk (show (0 : Int) ≤ 3 ∧ (3 : Int) < q by omega) ?_
 conv => cbv
 refine Cell.mk (.int .i64 (.sym x3)) (by rw [hOY]; rfl) ?_
 conv => cbv
 refine Need.mk (show (0 : Int) ≤ 4 ∧ (4 : Int) < q by omega) ?_
 conv => cbv
 refine Cell.mk (.int .i64 (.sym x4)) (by rw [hOY]; rfl) ?_
 conv => cbv
 refine Need.mk (show (0 : Int) ≤ 5 ∧ (5 : Int) < q by omega) ?_
 conv => cbv
 refine Cell.mk (.int .i64 (.sym x5)) (by rw [hOY]; rfl) ?_
 conv => cbv
 refine Need.mk (show (0 : Int) ≤ 6 ∧ (6 : Int) < q by omega) ?_
 conv => cbv
 refine Cell.mk (.int .i64 (.sym x6)) (by rw [hOY]; rfl) ?_
 conv => cbv
 refine callF_frame (rPlace_lx x0 b0) [] rfl trivial rfl rfl (fun r h' n' hrr => ?_)
 obtain ⟨⟨y0,e1,hy0⟩,e2,e3⟩ := hrr
 subst e1 e2 e3
 conv => cbv
 refine callF_frame (rPlace_lx x1 b1) [] rfl trivial rfl rfl (fun r h' n' hrr => ?_)
 obtain ⟨⟨y1,e1,hy1⟩,e2,e3⟩ := hrr
 subst e1 e2 e3
 conv => cbv
 refine callF_frame (rPlace_lx x3 b3) [] rfl trivial rfl rfl (fun r h' n' hrr => ?_)
 obtain ⟨⟨y3,e1,hy3⟩,e2,e3⟩ := hrr
 subst e1 e2 e3
 conv => cbv
 refine callF_frame (rNumber_lx x4 b4) [] rfl trivial rfl rfl (fun r h' n' hrr => ?_)
 obtain ⟨⟨y4,e1,hy4⟩,e2,e3⟩ := hrr
 subst e1 e2 e3
 conv => cbv
 refine callF_frame (rNumber_lx x5 b5) [] rfl trivial rfl rfl (fun r h' n' hrr => ?_)
 obtain ⟨⟨y5,e1,hy5⟩,e2,e3⟩ := hrr
 subst e1 e2 e3
 conv => cbv
 refine callF_frame (rPlace_lx x6 b6) [] rfl trivial rfl rfl (fun r h' n' hrr => ?_)
 obtain ⟨⟨y6,e1,hy6⟩,e2,e3⟩ := hrr
 subst e1 e2 e3
 conv => cbv
 refine RetF.mk [.agg [i6 y0,i6 y1,i6 x2,i6 y3,i6 y4,i6 y5,i6 y6],i6 e] [hpR 0 1 6 3 W 7 ph sp cy,hpB 1 2 5 3 W,hpD 2 3 3 1 N 4 197 8 N,hpP 3 P,hpP 4 B,hpP 5 V,hpP 6 Q,(7,.mix [.p (.vsl (.sym m) true la),.p (.bool ov)])] 8 (Re.at [(0,0),(1,1),(2,2),(3,3),(4,4),(5,5),(6,6),(7,7)] []) rfl ⟨⟨y0,y1,x2,y3,y4,y5,y6,e,rfl,?_⟩,rfl,rfl⟩
 have hfs : [y0,y1,x2,y3,y4,y5,y6] = sudogFs [x0,x1,x2,x3,x4,x5,x6] := by simp only [sudogFs,hy0,hy1,hy3,hy4,hy5,hy6]
 rw [he,hfs]; exact .ok _ hK hY
theorem rgor_lx (R : List Rw) (vs C G : List Int) (N W ph sp cy : Int) (P B V Q la : List PV) (m : Int) (ov : Bool) (h : RM R vs C G N W P B V Q la m) (a : Int) : CallF (fun _ => Tryz.prog) 88 [.ptr 0 (.lit 0),i6 a] [hpR 0 1 6 3 W 7 ph sp cy,hpB 1 2 5 3 W,hpD 2 3 3 1 N 4 197 8 N,hpP 3 P,hpP 4 B,hpP 5 V,hpP 6 Q,(7,.mix [.p (.vsl (.sym m) true la),.p (.bool ov)])] 8 (fun r h n => (∃ (y0 y1 y2 y3 y4 y5 y6 y7 y8 y9 e : Int),r = .tup [.agg [i6 y0,i6 y1,i6 y2,i6 y3,i6 y4,i6 y5,i6 y6,i6 y7,i6 y8,i6 y9],i6 e] ∧ TR 4 10 gorFs R vs a e [y0,y1,y2,y3,y4,y5,y6,y7,y8,y9]) ∧ h = [hpR 0 1 6 3 W 7 ph sp cy,hpB 1 2 5 3 W,hpD 2 3 3 1 N 4 197 8 N,hpP 3 P,hpP 4 B,hpP 5 V,hpP 6 Q,(7,.mix [.p (.vsl (.sym m) true la),.p (.bool ov)])] ∧ n = 8) := by
 refine callF_of_body tok Tryz.func88 (by kernel_rfl) rfl rfl rfl ?_; conv => cbv
 refine CallF.le (args0 := [.ptr 0 (.lit 0),i6 a,.p (.int .i64 (.lit 4))]) (cfr (rWords4_lx R vs C G N W ph sp cy P B V Q la m ov h a) [(0,0),(1,1),(2,2),(3,3),(4,4),(5,5),(6,6),(7,7)] (fun r h' n' hrr => ?_)) (by simp [ales,ale,pvle,I.val])
 obtain ⟨⟨Y,q,e,OY,e1,hOY,hq,hW⟩,e2,e3⟩ := hrr
 subst e1 e2 e3
 conv => cbv
 rcases hW.two with ⟨he,hK,hY,hYl⟩ | ⟨he,hYn,hK⟩
 case inr =>
  refine Br.yes (show ¬ e = 0 by omega) ?_
  conv => cbv
  refine RetF.mk [.agg [i6 0,i6 0,i6 0,i6 0,i6 0,i6 0,i6 0,i6 0,i6 0,i6 0],i6 e] [hpR 0 1 6 3 W 7 ph sp cy,hpB 1 2 5 3 W,hpD 2 3 3 1 N 4 197 8 N,hpP 3 P,hpP 4 B,hpP 5 V,hpP 6 Q,(7,.mix [.p (.vsl (.sym m) true la),.p (.bool ov)])] 8 (Re.at [(0,0),(1,1),(2,2),(3,3),(4,4),(5,5),(6,6),(7,7)] []) rfl ⟨⟨0,0,0,0,0,0,0,0,0,0,e,rfl,by rw [he]; exact .no hK⟩,rfl,rfl⟩
 case inl =>
 obtain ⟨x0,x1,x2,x3,x4,x5,x6,x7,x8,x9,rfl⟩ := list10 (X := Y) (by omega)
 have hb := hY.bd h.a
 simp only [List.forall_mem_cons] at hb
 obtain ⟨b0,b1,b2,b3,b4,b5,b6,b7,b8,b9,_⟩ := hb
 have hqn : q = 10 := hq
 refine Br.no (show ¬ ¬ e = 0 by omega) ?_
 conv => cbv
 obtain ⟨y0,hy0⟩ : ∃ y,y = numW x0 := ⟨_,rfl⟩
 obtain ⟨y1,hy1⟩ : ∃ y,y = numW x1 := ⟨_,rfl⟩
 obtain ⟨y2,hy2⟩ : ∃ y,y = numW x2 := ⟨_,rfl⟩
 obtain ⟨y9,hy9⟩ : ∃ y,y = atW x9 := ⟨_,rfl⟩
 refine quiet_sound tok (by kernel_rfl) [3,7,11,15] [(17,[16,15,14,13,12,11,10,9,8,7,6,5,4,3,2,1,0]),(18,[])] [0,1,2,3,4,5,6,7,8,9,10,11,12,13,14,15,16,17,18] (by kernel_rfl) ?_; conv => cbv
 refine Need.mk (show (0 : Int) ≤ 0 ∧ (0 : Int) < q by omega) ?_
 conv => cbv
 refine Cell.mk (.int .i64 (.sym x0)) (by rw [hOY]; rfl) ?_
 conv => cbv
 refine QuietF.mk (.p (.int .i64 (.sym y0))) (quiet_int (rNumber_lx x0 b0) hy0 rfl) ?_
 conv => cbv
 refine Need.mk (show (0 : Int) ≤ 1 ∧ (1 : Int) < q by omega) ?_
 conv => cbv
 refine Cell.mk (.int .i64 (.sym x1)) (by rw [hOY]; rfl) ?_
 conv => cbv
 refine QuietF.mk (.p (.int .i64 (.sym y1))) (quiet_int (rNumber_lx x1 b1) hy1 rfl) ?_
 conv => cbv
 refine Need.mk (show (0 : Int) ≤ 2 ∧ (2 : Int) < q by omega) ?_
 conv => cbv
 refine Cell.mk (.int .i64 (.sym x2)) (by rw [hOY]; rfl) ?_
 conv => cbv
 refine QuietF.mk (.p (.int .i64 (.sym y2))) (quiet_int (rNumber_lx x2 b2) hy2 rfl) ?_
 conv => cbv
 refine Need.mk (show (0 : Int) ≤ 9 ∧ (9 : Int) < q by omega) ?_
 conv => cbv
 refine Cell.mk (.int .i64 (.sym x9)) (by rw [hOY]; rfl) ?_
 conv => cbv
 refine QuietF.mk (.p (.int .i64 (.sym y9))) (quiet_int (rPlace_lx x9 b9) hy9 rfl) ?_
 conv => cbv
 refine LoopF.rounds 7 ?_
 conv => cbv
 refine Need.mk (show (0 : Int) ≤ 3 ∧ (3 : Int) < q by omega) ?_
 conv => cbv
 refine Cell.mk (.int .i64 (.sym x3)) (by rw [hOY]; rfl) ?_
 conv => cbv
 refine Need.mk (by simp [I.val]) ?_
 conv => cbv
 refine Need.mk (show (0 : Int) ≤ 4 ∧ (4 : Int) < q by omega) ?_
 conv => cbv
 refine Cell.mk (.int .i64 (.sym x4)) (by rw [hOY]; rfl) ?_
 conv => cbv
 refine Need.mk (by simp [I.val]) ?_
 conv => cbv
 refine Need.mk (show (0 : Int) ≤ 5 ∧ (5 : Int) < q by omega) ?_
 conv => cbv
 refine Cell.mk (.int .i64 (.sym x5)) (by rw [hOY]; rfl) ?_
 conv => cbv
 refine Need.mk (by simp [I.val]) ?_
 conv => cbv
 refine Need.mk (show (0 : Int) ≤ 6 ∧ (6 : Int) < q by omega) ?_
 conv => cbv
 refine Cell.mk (.int .i64 (.sym x6)) (by rw [hOY]; rfl) ?_
 conv => cbv
 refine Need.mk (by simp [I.val]) ?_
 conv => cbv
 refine Need.mk (show (0 : Int) ≤ 7 ∧ (7 : Int) < q by omega) ?_
 conv => cbv
 refine Cell.mk (.int .i64 (.sym x7)) (by rw [hOY]; rfl) ?_
 conv => cbv
 refine Need.mk (by simp [I.val]) ?_
 conv => cbv
 refine Need.mk (show (0 : Int) ≤ 8 ∧ (8 : Int) < q by omega) ?_
 conv => cbv
 refine Cell.mk (.int .i64 (.sym x8)) (by rw [hOY]; rfl) ?_
 conv => cbv
 refine Need.mk (by simp [I.val]) ?_
 conv => cbv
 refine RetF.mk [.agg [i6 y0,i6 y1,i6 y2,i6 x3,i6 x4,i6 x5,i6 x6,i6 x7,i6 x8,i6 y9],i6 e] [hpR 0 1 6 3 W 7 ph sp cy,hpB 1 2 5 3 W,hpD 2 3 3 1 N 4 197 8 N,hpP 3 P,hpP 4 B,hpP 5 V,hpP 6 Q,(7,.mix [.p (.vsl (.sym m) true la),.p (.bool ov)])] 8 (Re.at [(0,0),(1,1),(2,2),(3,3),(4,4),(5,5),(6,6),(7,7)] []) rfl ⟨⟨y0,y1,y2,x3,x4,x5,x6,x7,x8,y9,e,rfl,?_⟩,rfl,rfl⟩
 have hfs : [y0,y1,y2,x3,x4,x5,x6,x7,x8,y9] = gorFs [x0,x1,x2,x3,x4,x5,x6,x7,x8,x9] := by simp only [gorFs,hy0,hy1,hy2,hy9]
 rw [he,hfs]; exact .ok _ hK hY
end Go.Proofs.YtmckfhnijeiklaaGreatDoor
namespace Go.Proofs.YtmckfhnijeiklaaGreatDoor
open Go Go.LX
set_option maxRecDepth 100000
set_option linter.unusedVariables false
set_option linter.unusedSimpArgs false
set_option maxHeartbeats 32000000
theorem rPutChan_lx (R : List Rw) (vs C G : List Int) (N W ph sp cy : Int) (P B V Q la : List PV) (m : Int) (ov : Bool) (h : RM R vs C G N W P B V Q la m) (a x0 x1 x2 x3 x4 x5 x6 x7 x8 : Int) (hb : ∀ x ∈ [x0,x1,x2,x3,x4,x5,x6,x7,x8],b62 x) : CallF (fun _ => Tryz.prog) 45 [.ptr 0 (.lit 0),i6 a,.agg [i6 x0,i6 x1,i6 x2,i6 x3,i6 x4,i6 x5,i6 x6,i6 x7,i6 x8]] [hpR 0 1 6 3 W 7 ph sp cy,hpB 1 2 5 3 W,hpD 2 3 3 1 N 4 197 8 N,hpP 3 P,hpP 4 B,hpP 5 V,hpP 6 Q,(7,.mix [.p (.vsl (.sym m) true la),.p (.bool ov)])] 8
  (fun r h n => ∃ (e : Int) (vs' C' G' : List Int) (ov' : Bool) (V' Q' la' : List PV) (m' : Int),r = .p (.int .i64 (.sym e)) ∧ h = [hpR 0 1 6 3 W 7 ph sp cy,hpB 1 2 5 3 W,hpD 2 3 3 1 N 4 197 8 N,hpP 3 P,hpP 4 B,hpP 5 V',hpP 6 Q',(7,.mix [.p (.vsl (.sym m') true la'),.p (.bool ov')])] ∧ n = 8 ∧ RM R vs' C' G' N W P B V' Q' la' m' ∧ PT 1 9 (chanWs [x0,x1,x2,x3,x4,x5,x6,x7,x8]) R ph a (vs,C,G,ov) e (vs',C',G',ov')) := by
 have hbd := chanWs_bd x0 x1 x2 x3 x4 x5 x6 x7 x8 hb
 simp only [List.forall_mem_cons] at hb
 obtain ⟨b0,b1,b2,b3,b4,b5,b6,b7,b8,_⟩ := hb
 refine callF_of_body tok Tryz.func45 (by kernel_rfl) rfl rfl rfl ?_; conv => cbv
 refine drawn_sound tok (by kernel_rfl) [(4,[27,26,24,23,21,20,18,17,15,14,12,11,9,8,6,5,1,0]),(7,[27,26,24,23,21,20,18,17,15,14,12,11,9,8,1,0]),(10,[27,26,24,23,21,20,18,17,15,14,12,11,1,0]),(13,[27,26,24,23,21,20,18,17,15,14,1,0]),(16,[27,26,24,23,21,20,18,17,1,0]),(19,[27,26,24,23,21,20,1,0]),(22,[27,26,24,23,1,0]),(25,[27,26,1,0]),(28,[1,0]),(29,[1,0]),(30,[])] [0,1,2,3,5,6,8,9,11,12,14,15,17,18,20,21,23,24,26,27,4,7,10,13,16,19,22,25,28,29,30,31] (by kernel_rfl) ?_; conv => cbv
 refine callF_frame (rInt62_lx x0 b0) [] rfl trivial rfl rfl (fun r h' n' hrr => ?_)
 obtain ⟨⟨v0,e1,hv0⟩,e2,e3⟩ := hrr
 subst e1 e2 e3
 conv => cbv
 refine callF_frame (rInt62_lx x1 b1) [] rfl trivial rfl rfl (fun r h' n' hrr => ?_)
 obtain ⟨⟨v1,e1,hv1⟩,e2,e3⟩ := hrr
 subst e1 e2 e3
 conv => cbv
 refine callF_frame (rInt62_lx x2 b2) [] rfl trivial rfl rfl (fun r h' n' hrr => ?_)
 obtain ⟨⟨v2,e1,hv2⟩,e2,e3⟩ := hrr
 subst e1 e2 e3
 conv => cbv
 refine callF_frame (rInt62_lx x3 b3) [] rfl trivial rfl rfl (fun r h' n' hrr => ?_)
 obtain ⟨⟨v3,e1,hv3⟩,e2,e3⟩ := hrr
 subst e1 e2 e3
 conv => cbv
 refine callF_frame (rptr_lx x4 b4) [] rfl trivial rfl rfl (fun r h' n' hrr => ?_)
 obtain ⟨⟨v4,e1,hv4⟩,e2,e3⟩ := hrr
 subst e1 e2 e3
 conv => cbv
 refine callF_frame (rptr_lx x5 b5) [] rfl trivial rfl rfl (fun r h' n' hrr => ?_)
 obtain ⟨⟨v5,e1,hv5⟩,e2,e3⟩ := hrr
 subst e1 e2 e3
 conv => cbv
 refine callF_frame (rptr_lx x6 b6) [] rfl trivial rfl rfl (fun r h' n' hrr => ?_)
 obtain ⟨⟨v6,e1,hv6⟩,e2,e3⟩ := hrr
 subst e1 e2 e3
 conv => cbv
 refine callF_frame (rptr_lx x7 b7) [] rfl trivial rfl rfl (fun r h' n' hrr => ?_)
 obtain ⟨⟨v7,e1,hv7⟩,e2,e3⟩ := hrr
 subst e1 e2 e3
 conv => cbv
 refine callF_frame (rptr_lx x8 b8) [] rfl trivial rfl rfl (fun r h' n' hrr => ?_)
 obtain ⟨⟨v8,e1,hv8⟩,e2,e3⟩ := hrr
 subst e1 e2 e3
 conv => cbv
 have hv : [v0,v1,v2,v3,v4,v5,v6,v7,v8] = chanWs [x0,x1,x2,x3,x4,x5,x6,x7,x8] := by simp only [chanWs,hv0,hv1,hv2,hv3,hv4,hv5,hv6,hv7,hv8]
 refine CallF.re (args0 := [.ptr 0 (.lit 0),i6 a,.p (.int .i64 (.lit 1)),.p (.vsl (.sym 9) true [.int .i64 (.sym v0),.int .i64 (.sym v1),.int .i64 (.sym v2),.int .i64 (.sym v3),.int .i64 (.sym v4),.int .i64 (.sym v5),.int .i64 (.sym v6),.int .i64 (.sym v7),.int .i64 (.sym v8)])]) (h' := [hpR 0 1 6 3 W 7 ph sp cy,hpB 1 2 5 3 W,hpD 2 3 3 1 N 4 197 8 N,hpP 3 P,hpP 4 B,hpP 5 V,hpP 6 Q,(7,.mix [.p (.vsl (.sym m) true la),.p (.bool ov)])]) (Re.at [(0,0),(1,1),(2,2),(3,3),(4,4),(5,5),(6,6),(7,7)] []) (cfr (rPutW1_lx R vs C G N W ph sp cy P B V Q la m ov h a [v0,v1,v2,v3,v4,v5,v6,v7,v8] [.int .i64 (.sym v0),.int .i64 (.sym v1),.int .i64 (.sym v2),.int .i64 (.sym v3),.int .i64 (.sym v4),.int .i64 (.sym v5),.int .i64 (.sym v6),.int .i64 (.sym v7),.int .i64 (.sym v8)] rfl rfl (by rw [hv]; exact hbd)) [(0,0),(1,1),(2,2),(3,3),(4,4),(5,5),(6,6),(7,7)] (fun r h' n' hrr => ?_))
 obtain ⟨e,vs',C',G',ov',V',Q',la',m',e1,e2,e3,h',hP⟩ := hrr
 subst e1 e2 e3
 rw [hv] at hP
 conv => cbv
 refine RetF.mk [i6 e] [hpR 0 1 6 3 W 7 ph sp cy,hpB 1 2 5 3 W,hpD 2 3 3 1 N 4 197 8 N,hpP 3 P,hpP 4 B,hpP 5 V',hpP 6 Q',(7,.mix [.p (.vsl (.sym m') true la'),.p (.bool ov')])] 8 (Re.at [(0,0),(1,1),(2,2),(3,3),(4,4),(5,5),(6,6),(7,7)] []) rfl ⟨e,vs',C',G',ov',V',Q',la',m',rfl,rfl,rfl,h',hP⟩
theorem rPutSudog_lx (R : List Rw) (vs C G : List Int) (N W ph sp cy : Int) (P B V Q la : List PV) (m : Int) (ov : Bool) (h : RM R vs C G N W P B V Q la m) (a x0 x1 x2 x3 x4 x5 x6 : Int) (hb : ∀ x ∈ [x0,x1,x3,x4,x5,x6],b62 x) (hw : ∀ x ∈ [x2],-9223372036854775808 ≤ x ∧ x ≤ 9223372036854775807) : CallF (fun _ => Tryz.prog) 89 [.ptr 0 (.lit 0),i6 a,.agg [i6 x0,i6 x1,i6 x2,i6 x3,i6 x4,i6 x5,i6 x6]] [hpR 0 1 6 3 W 7 ph sp cy,hpB 1 2 5 3 W,hpD 2 3 3 1 N 4 197 8 N,hpP 3 P,hpP 4 B,hpP 5 V,hpP 6 Q,(7,.mix [.p (.vsl (.sym m) true la),.p (.bool ov)])] 8
  (fun r h n => ∃ (e : Int) (vs' C' G' : List Int) (ov' : Bool) (V' Q' la' : List PV) (m' : Int),r = .p (.int .i64 (.sym e)) ∧ h = [hpR 0 1 6 3 W 7 ph sp cy,hpB 1 2 5 3 W,hpD 2 3 3 1 N 4 197 8 N,hpP 3 P,hpP 4 B,hpP 5 V',hpP 6 Q',(7,.mix [.p (.vsl (.sym m') true la'),.p (.bool ov')])] ∧ n = 8 ∧ RM R vs' C' G' N W P B V' Q' la' m' ∧ PT 3 7 (sudogWs [x0,x1,x2,x3,x4,x5,x6]) R ph a (vs,C,G,ov) e (vs',C',G',ov')) := by
 have hbd := sudogWs_bd x0 x1 x2 x3 x4 x5 x6 hb hw
 simp only [List.forall_mem_cons] at hb
 obtain ⟨b0,b1,b3,b4,b5,b6,_⟩ := hb
 refine callF_of_body tok Tryz.func89 (by kernel_rfl) rfl rfl rfl ?_; conv => cbv
 refine drawn_sound tok (by kernel_rfl) [(4,[20,19,17,16,14,13,11,10,9,8,6,5,1,0]),(7,[20,19,17,16,14,13,11,10,9,8,1,0]),(12,[20,19,17,16,14,13,9,8,1,0]),(15,[20,19,17,16,9,8,1,0]),(18,[20,19,9,8,1,0]),(21,[9,8,1,0]),(22,[1,0]),(23,[])] [0,1,2,3,5,6,8,9,10,11,13,14,16,17,19,20,4,7,12,15,18,21,22,23,24] (by kernel_rfl) ?_; conv => cbv
 refine callF_frame (rptr_lx x0 b0) [] rfl trivial rfl rfl (fun r h' n' hrr => ?_)
 obtain ⟨⟨v0,e1,hv0⟩,e2,e3⟩ := hrr
 subst e1 e2 e3
 conv => cbv
 refine callF_frame (rptr_lx x1 b1) [] rfl trivial rfl rfl (fun r h' n' hrr => ?_)
 obtain ⟨⟨v1,e1,hv1⟩,e2,e3⟩ := hrr
 subst e1 e2 e3
 conv => cbv
 refine callF_frame (rptr_lx x3 b3) [] rfl trivial rfl rfl (fun r h' n' hrr => ?_)
 obtain ⟨⟨v3,e1,hv3⟩,e2,e3⟩ := hrr
 subst e1 e2 e3
 conv => cbv
 refine callF_frame (rInt62_lx x4 b4) [] rfl trivial rfl rfl (fun r h' n' hrr => ?_)
 obtain ⟨⟨v4,e1,hv4⟩,e2,e3⟩ := hrr
 subst e1 e2 e3
 conv => cbv
 refine callF_frame (rInt62_lx x5 b5) [] rfl trivial rfl rfl (fun r h' n' hrr => ?_)
 obtain ⟨⟨v5,e1,hv5⟩,e2,e3⟩ := hrr
 subst e1 e2 e3
 conv => cbv
 refine callF_frame (rptr_lx x6 b6) [] rfl trivial rfl rfl (fun r h' n' hrr => ?_)
 obtain ⟨⟨v6,e1,hv6⟩,e2,e3⟩ := hrr
 subst e1 e2 e3
 conv => cbv
 have hv : [v0,v1,x2,v3,v4,v5,v6] = sudogWs [x0,x1,x2,x3,x4,x5,x6] := by simp only [sudogWs,hv0,hv1,hv3,hv4,hv5,hv6]
 refine CallF.re (args0 := [.ptr 0 (.lit 0),i6 a,.p (.int .i64 (.lit 3)),.p (.vsl (.sym 7) true [.int .i64 (.sym v0),.int .i64 (.sym v1),.int .i64 (.sym x2),.int .i64 (.sym v3),.int .i64 (.sym v4),.int .i64 (.sym v5),.int .i64 (.sym v6)])]) (h' := [hpR 0 1 6 3 W 7 ph sp cy,hpB 1 2 5 3 W,hpD 2 3 3 1 N 4 197 8 N,hpP 3 P,hpP 4 B,hpP 5 V,hpP 6 Q,(7,.mix [.p (.vsl (.sym m) true la),.p (.bool ov)])]) (Re.at [(0,0),(1,1),(2,2),(3,3),(4,4),(5,5),(6,6),(7,7)] []) (cfr (rPutW3_lx R vs C G N W ph sp cy P B V Q la m ov h a [v0,v1,x2,v3,v4,v5,v6] [.int .i64 (.sym v0),.int .i64 (.sym v1),.int .i64 (.sym x2),.int .i64 (.sym v3),.int .i64 (.sym v4),.int .i64 (.sym v5),.int .i64 (.sym v6)] rfl rfl (by rw [hv]; exact hbd)) [(0,0),(1,1),(2,2),(3,3),(4,4),(5,5),(6,6),(7,7)] (fun r h' n' hrr => ?_))
 obtain ⟨e,vs',C',G',ov',V',Q',la',m',e1,e2,e3,h',hP⟩ := hrr
 subst e1 e2 e3
 rw [hv] at hP
 conv => cbv
 refine RetF.mk [i6 e] [hpR 0 1 6 3 W 7 ph sp cy,hpB 1 2 5 3 W,hpD 2 3 3 1 N 4 197 8 N,hpP 3 P,hpP 4 B,hpP 5 V',hpP 6 Q',(7,.mix [.p (.vsl (.sym m') true la'),.p (.bool ov')])] 8 (Re.at [(0,0),(1,1),(2,2),(3,3),(4,4),(5,5),(6,6),(7,7)] []) rfl ⟨e,vs',C',G',ov',V',Q',la',m',rfl,rfl,rfl,h',hP⟩
theorem rPutGor_lx (R : List Rw) (vs C G : List Int) (N W ph sp cy : Int) (P B V Q la : List PV) (m : Int) (ov : Bool) (h : RM R vs C G N W P B V Q la m) (a x0 x1 x2 x3 x4 x5 x6 x7 x8 x9 : Int) (hb : ∀ x ∈ [x0,x1,x2,x9],b62 x) (hw : ∀ x ∈ [x3,x4,x5,x6,x7,x8],-9223372036854775808 ≤ x ∧ x ≤ 9223372036854775807) : CallF (fun _ => Tryz.prog) 47 [.ptr 0 (.lit 0),i6 a,.agg [i6 x0,i6 x1,i6 x2,i6 x3,i6 x4,i6 x5,i6 x6,i6 x7,i6 x8,i6 x9]] [hpR 0 1 6 3 W 7 ph sp cy,hpB 1 2 5 3 W,hpD 2 3 3 1 N 4 197 8 N,hpP 3 P,hpP 4 B,hpP 5 V,hpP 6 Q,(7,.mix [.p (.vsl (.sym m) true la),.p (.bool ov)])] 8
  (fun r h n => ∃ (e : Int) (vs' C' G' : List Int) (ov' : Bool) (V' Q' la' : List PV) (m' : Int),r = .p (.int .i64 (.sym e)) ∧ h = [hpR 0 1 6 3 W 7 ph sp cy,hpB 1 2 5 3 W,hpD 2 3 3 1 N 4 197 8 N,hpP 3 P,hpP 4 B,hpP 5 V',hpP 6 Q',(7,.mix [.p (.vsl (.sym m') true la'),.p (.bool ov')])] ∧ n = 8 ∧ RM R vs' C' G' N W P B V' Q' la' m' ∧ PT 4 10 (gorWs [x0,x1,x2,x3,x4,x5,x6,x7,x8,x9]) R ph a (vs,C,G,ov) e (vs',C',G',ov')) := by
 have hbd := gorWs_bd x0 x1 x2 x3 x4 x5 x6 x7 x8 x9 hb hw
 simp only [List.forall_mem_cons] at hb
 obtain ⟨b0,b1,b2,b9,_⟩ := hb
 refine callF_of_body tok Tryz.func47 (by kernel_rfl) rfl rfl rfl ?_; conv => cbv
 refine drawn_sound tok (by kernel_rfl) [(2,[7,6,4,3]),(5,[7,6]),(8,[]),(9,[])] [0,1,3,4,6,7,2,5,8,9,10] (by kernel_rfl) ?_; conv => cbv
 refine callF_frame (rInt62_lx x0 b0) [] rfl trivial rfl rfl (fun r h' n' hrr => ?_)
 obtain ⟨⟨v0,e1,hv0⟩,e2,e3⟩ := hrr
 subst e1 e2 e3
 conv => cbv
 refine callF_frame (rInt62_lx x1 b1) [] rfl trivial rfl rfl (fun r h' n' hrr => ?_)
 obtain ⟨⟨v1,e1,hv1⟩,e2,e3⟩ := hrr
 subst e1 e2 e3
 conv => cbv
 refine callF_frame (rInt62_lx x2 b2) [] rfl trivial rfl rfl (fun r h' n' hrr => ?_)
 obtain ⟨⟨v2,e1,hv2⟩,e2,e3⟩ := hrr
 subst e1 e2 e3
 conv => cbv
 refine LoopF.rounds 7 ?_
 conv => cbv
 refine Need.mk (by simp [I.val]) ?_
 conv => cbv
 refine Room.new rfl ?_
 conv => cbv
 refine Room.new ⟨rfl,by simp [I.val],by simp [I.val]⟩ ?_
 conv => cbv
 refine Need.mk (by simp [I.val]) ?_
 conv => cbv
 refine Room.new rfl ?_
 conv => cbv
 refine Room.new ⟨rfl,by simp [I.val],by simp [I.val]⟩ ?_
 conv => cbv
 refine Need.mk (by simp [I.val]) ?_
 conv => cbv
 refine Room.new rfl ?_
 conv => cbv
 refine Room.new ⟨rfl,by simp [I.val],by simp [I.val]⟩ ?_
 conv => cbv
 refine Need.mk (by simp [I.val]) ?_
 conv => cbv
 refine Room.new rfl ?_
 conv => cbv
 refine Room.new ⟨rfl,by simp [I.val],by simp [I.val]⟩ ?_
 conv => cbv
 refine Need.mk (by simp [I.val]) ?_
 conv => cbv
 refine Room.new rfl ?_
 conv => cbv
 refine Room.new ⟨rfl,by simp [I.val],by simp [I.val]⟩ ?_
 conv => cbv
 refine Need.mk (by simp [I.val]) ?_
 conv => cbv
 refine Room.new rfl ?_
 conv => cbv
 refine Room.new ⟨rfl,by simp [I.val],by simp [I.val]⟩ ?_
 conv => cbv
 refine callF_frame (rptr_lx x9 b9) [] rfl trivial rfl rfl (fun r h' n' hrr => ?_)
 obtain ⟨⟨v9,e1,hv9⟩,e2,e3⟩ := hrr
 subst e1 e2 e3
 conv => cbv
 refine Room.new rfl ?_
 conv => cbv
 refine Room.new ⟨rfl,by simp [I.val],by simp [I.val]⟩ ?_
 conv => cbv
 have hv : [v0,v1,v2,x3,x4,x5,x6,x7,x8,v9] = gorWs [x0,x1,x2,x3,x4,x5,x6,x7,x8,x9] := by simp only [gorWs,hv0,hv1,hv2,hv9]
 refine CallF.re (args0 := [.ptr 0 (.lit 0),i6 a,.p (.int .i64 (.lit 4)),.p (.vsl (.sym 10) true [.int .i64 (.sym v0),.int .i64 (.sym v1),.int .i64 (.sym v2),.int .i64 (.sym x3),.int .i64 (.sym x4),.int .i64 (.sym x5),.int .i64 (.sym x6),.int .i64 (.sym x7),.int .i64 (.sym x8),.int .i64 (.sym v9)])]) (h' := [hpR 0 1 6 3 W 7 ph sp cy,hpB 1 2 5 3 W,hpD 2 3 3 1 N 4 197 8 N,hpP 3 P,hpP 4 B,hpP 5 V,hpP 6 Q,(7,.mix [.p (.vsl (.sym m) true la),.p (.bool ov)])]) (Re.at [(0,0),(1,1),(2,2),(3,3),(4,4),(5,5),(6,6),(7,7)] []) (cfr (rPutW4_lx R vs C G N W ph sp cy P B V Q la m ov h a [v0,v1,v2,x3,x4,x5,x6,x7,x8,v9] [.int .i64 (.sym v0),.int .i64 (.sym v1),.int .i64 (.sym v2),.int .i64 (.sym x3),.int .i64 (.sym x4),.int .i64 (.sym x5),.int .i64 (.sym x6),.int .i64 (.sym x7),.int .i64 (.sym x8),.int .i64 (.sym v9)] rfl rfl (by rw [hv]; exact hbd)) [(0,0),(1,1),(2,2),(3,3),(4,4),(5,5),(6,6),(7,7)] (fun r h' n' hrr => ?_))
 obtain ⟨e,vs',C',G',ov',V',Q',la',m',e1,e2,e3,h',hP⟩ := hrr
 subst e1 e2 e3
 rw [hv] at hP
 conv => cbv
 refine RetF.mk [i6 e] [hpR 0 1 6 3 W 7 ph sp cy,hpB 1 2 5 3 W,hpD 2 3 3 1 N 4 197 8 N,hpP 3 P,hpP 4 B,hpP 5 V',hpP 6 Q',(7,.mix [.p (.vsl (.sym m') true la'),.p (.bool ov')])] 8 (Re.at [(0,0),(1,1),(2,2),(3,3),(4,4),(5,5),(6,6),(7,7)] []) rfl ⟨e,vs',C',G',ov',V',Q',la',m',rfl,rfl,rfl,h',hP⟩
end Go.Proofs.YtmckfhnijeiklaaGreatDoor
namespace Go.Proofs.YtmckfhnijeiklaaGreatDoor
open Go Go.LX
set_option maxRecDepth 100000
set_option linter.unusedVariables false
set_option linter.unusedSimpArgs false
set_option maxHeartbeats 32000000
theorem rnewH_lx (N W : Int) (h2 : 2 ≤ N) (h8 : N ≤ 128) (hW : W = 32 * N) : CallF (fun _ => Tryz.prog) 43 [i6 N] [] 0 (fun r h n => ∃ P B V Q : List PV,r = .tup [.ptr 0 (.lit 0),.p (.int .i64 (.lit 0))] ∧ h = [hpR 0 1 6 3 W 7 0 0 0,hpB 1 2 5 3 W,hpD 2 3 3 1 N 4 197 8 N,hpP 3 P,hpP 4 B,hpP 5 V,hpP 6 Q,(7,.mix [.p (.vsl (.sym 0) true []),.p (.bool false)])] ∧ n = 8 ∧ RM (List.replicate N.toNat (0,[])) (List.replicate W.toNat 0) (List.replicate W.toNat 0) [] N W P B V Q [] 0) := by
 refine callF_of_body tok Tryz.func43 (by kernel_rfl) rfl rfl rfl ?_; conv => cbv
 refine callF_frame (rnewA_lx N W h2 h8 hW) [] rfl trivial rfl rfl (fun r h' n' hrr => ?_)
 obtain ⟨P,B,V,e1,e2,e3,hP,hB,hV⟩ := hrr
 subst e1 e2 e3
 conv => cbv
 refine Need.mk ⟨by show 0 ≤ W; omega,Int.le_refl _,by show W * 8 ≤ 140737488355328; omega,by show W ≤ 9223372036854775807; omega⟩ ?_
 conv => cbv
 obtain ⟨Q,hQ⟩ : ∃ Q,Q = ipv (List.replicate W.toNat 0) := ⟨_,rfl⟩
 refine Upd.mk fun Q0 hQ0 => ?_
 have hle : pvles Q0 Q := by
  have hQ0 : Q0 = repsP [.int .i64 (.lit 0)] W.toNat := hQ0
  rw [hQ0,hQ]; exact zero_ipv _
 unfold pvles at hle
 clear hQ0
 conv => cbv
 refine RetF.mk [.ptr 0 (.lit 0),.p (.int .i64 (.lit 0))] [hpR 0 1 6 3 W 7 0 0 0,hpB 1 2 5 3 W,hpD 2 3 3 1 N 4 197 8 N,hpP 3 P,hpP 4 B,hpP 5 V,hpP 6 Q,(7,.mix [.p (.vsl (.sym 0) true []),.p (.bool false)])] 8 (Re.at [(7,0),(0,1),(1,2),(2,3),(3,4),(4,5),(5,6),(6,7)] []) rfl ⟨P,B,V,Q,rfl,rfl,rfl,⟨by rw [show W.toNat = 32 * N.toNat by omega]; exact AOk.new _,by rw [List.length_replicate]; omega,by rw [List.length_replicate]; omega,hW,hP,hB,hV,hQ,by rw [List.length_replicate]; omega,rfl,rfl,fun x hx => (by cases hx),Nat.zero_le _⟩⟩
end Go.Proofs.YtmckfhnijeiklaaGreatDoor
namespace Go.Proofs.YtmckfhnijeiklaaGreatDoor
open Go Go.LX
set_option maxRecDepth 100000
set_option linter.unusedVariables false
set_option linter.unusedSimpArgs false
set_option maxHeartbeats 32000000
theorem allocC_white {n : Nat} (a : Int) : allocC 0 a 0 (List.replicate n 0) = List.replicate n 0 := by
 unfold allocC
 rw [if_pos rfl,if_pos rfl,List.set_replicate_self]
end Go.Proofs.YtmckfhnijeiklaaGreatDoor
namespace Go.Proofs.YtmckfhnijeiklaaGreatDoor
open Go Go.LX
set_option maxRecDepth 100000
set_option linter.unusedVariables false
set_option linter.unusedSimpArgs false
set_option maxHeartbeats 32000000
structure PutF (R : List Rw) (a kd m : Int) (i : Nat) (l : List Int) (s s' : List Int) : Prop where
 ok : AOk R s'
 kept : Kept R s' a kd m
 up : ∀ b k n,Kept R s b k n → Kept R s' b k n
 down : ∀ b k n,Kept R s' b k n → Kept R s b k n
 oth : ∀ b j y,b ≠ a → Loaded R s b j y 0 → Loaded R s' b j y 0
 out : ∀ j : Int,0 ≤ j → (j < i ∨ (i : Int) + l.length ≤ j) → s'[(a + 1 + j).toNat]? = s[(a + 1 + j).toNat]?
 in_ : ∀ (q : Nat) (x : Int),l[q]? = some x → s'[(a + 1 + (i + q : Nat)).toNat]? = some x
theorem putS_fact {R : List Rw} {ph a kd m : Int} : ∀ (l : List Int) (i : Nat) (s : St4),AOk R s.1 → Kept R s.1 a kd m → (i : Int) + l.length ≤ m → (∀ x ∈ l,-9223372036854775808 ≤ x ∧ x ≤ 9223372036854775807) → PutF R a kd m i l s.1 (putS R ph a i l s).1
 | [],i,s,hA,hK,_,_ => ⟨hA,hK,fun _ _ _ h => h,fun _ _ _ h => h,fun _ _ _ _ h => h,fun _ _ _ => rfl,fun q x h => by simp at h⟩
 | w :: l,i,s,hA,hK,hm,hb => by
  have hbd := hK.bounds hA
  have hlen := hA.len
  rw [List.length_cons] at hm
  rw [putS]
  by_cases hc : s.1[(a + 1 + (i : Int)).toNat]? = some w
  ·rw [if_pos hc]
   have f := putS_fact (ph := ph) l (i + 1) s hA hK (by omega) fun x hx => hb x (List.mem_cons_of_mem _ hx)
   refine ⟨f.ok,f.kept,f.up,f.down,f.oth,fun j hj0 hj => ?_,fun q x hq => ?_⟩
   ·by_cases e : j = i
    ·subst e; exact f.out _ hj0 (.inl (by omega))
    ·rw [List.length_cons] at hj
     exact f.out j hj0 (by omega)
   ·cases q with
    | zero => simp at hq; rw [← hq,← hc]; rw [show (i + 0 : Nat) = i from rfl]; exact f.out i (by omega) (.inl (by omega))
    | succ q => have := f.in_ q x (by simpa using hq); rw [show i + (q + 1) = i + 1 + q by omega]; exact this
  ·rw [if_neg hc]
   have hS : Stored R s.1 a i w 0 (s.1.set (a + 1 + (i : Int)).toNat w) := .ok kd m hK ⟨by omega,by omega⟩
   obtain ⟨g1,g2⟩ := stored_to hA hS
   have f := putS_fact (ph := ph) l (i + 1) (s.1.set (a + 1 + (i : Int)).toNat w,shadeW R ph w s.2) (hA.set hK ⟨by omega,by omega⟩ (hb w (List.mem_cons_self ..))) (g1 _ _ _ hK) (by omega) fun x hx => hb x (List.mem_cons_of_mem _ hx)
   refine ⟨f.ok,f.kept,fun b k n h => f.up b k n (g1 b k n h),fun b k n h => stored_kept hA hS b k n (f.down b k n h),fun b j y hn h => f.oth b j y hn (g2 b j y hn h),fun j hj0 hj => ?_,fun q x hq => ?_⟩
   ·rw [List.length_cons] at hj
    rw [f.out j hj0 (by omega)]
    exact List.getElem?_set_ne (by omega)
   ·cases q with
    | zero =>
     simp at hq
     rw [← hq,show (i + 0 : Nat) = i from rfl,f.out i (by omega) (.inl (by omega))]
     exact List.getElem?_set_self (by omega)
    | succ q => have := f.in_ q x (by simpa using hq); rw [show i + (q + 1) = i + 1 + q by omega]; exact this
theorem atW_plW {a : Int} (h : -1 ≤ a) : atW (plW a) = a := by unfold atW plW; split <;> split <;> omega
theorem numW_two (v : Int) : numW (v * 2) = v := by unfold numW; rw [if_neg (by omega)]; omega
theorem PT.two {kd ln : Int} {W : List Int} {R : List Rw} {ph a e : Int} {s s' : St4} (h : PT kd ln W R ph a s e s') : (e = 0 ∧ Kept R s.1 a kd ln ∧ s' = putS R ph a 0 W s) ∨ (e = 10 ∧ ¬ Kept R s.1 a kd ln ∧ s' = s) := by
 cases h with
 | ok h => exact .inl ⟨rfl,h,rfl⟩
 | no h => exact .inr ⟨rfl,h,rfl⟩
theorem chan_back (x0 x1 x2 x3 x4 x5 x6 x7 x8 : Int) (hp : ∀ x ∈ [x4,x5,x6,x7,x8],-1 ≤ x) : chanFs (chanWs [x0,x1,x2,x3,x4,x5,x6,x7,x8]) = [x0,x1,x2,x3,x4,x5,x6,x7,x8] := by
 simp only [List.forall_mem_cons] at hp
 obtain ⟨p4,p5,p6,p7,p8,_⟩ := hp
 simp only [chanFs,chanWs,numW_two,atW_plW p4,atW_plW p5,atW_plW p6,atW_plW p7,atW_plW p8]
theorem sudog_back (x0 x1 x2 x3 x4 x5 x6 : Int) (hp : ∀ x ∈ [x0,x1,x3,x6],-1 ≤ x) : sudogFs (sudogWs [x0,x1,x2,x3,x4,x5,x6]) = [x0,x1,x2,x3,x4,x5,x6] := by
 simp only [List.forall_mem_cons] at hp
 obtain ⟨p0,p1,p3,p6,_⟩ := hp
 simp only [sudogFs,sudogWs,numW_two,atW_plW p0,atW_plW p1,atW_plW p3,atW_plW p6]
theorem gor_back (x0 x1 x2 x3 x4 x5 x6 x7 x8 x9 : Int) (hp : ∀ x ∈ [x9],-1 ≤ x) : gorFs (gorWs [x0,x1,x2,x3,x4,x5,x6,x7,x8,x9]) = [x0,x1,x2,x3,x4,x5,x6,x7,x8,x9] := by
 simp only [List.forall_mem_cons] at hp
 obtain ⟨p9,_⟩ := hp
 simp only [gorFs,gorWs,numW_two,atW_plW p9]
end Go.Proofs.YtmckfhnijeiklaaGreatDoor
namespace Go.Proofs.YtmckfhnijeiklaaGreatDoor
open Go Go.LX
set_option maxRecDepth 100000
set_option linter.unusedVariables false
set_option linter.unusedSimpArgs false
set_option maxHeartbeats 32000000
theorem Sim.back {R : List Rw} {ws vs : List Int} (hS : Sim R ws vs) {a k l : Int} (h : Kept R vs a k l) : Kept R ws a k l := by
 obtain ⟨k2,l2,hk⟩ := Kept.of hS.a h.obj6
 have := (hS.hdr _ _ _ hk).det9 h
 rw [this.1,this.2] at hk
 exact hk
end Go.Proofs.YtmckfhnijeiklaaGreatDoor
namespace Go.Proofs.YtmckfhnijeiklaaGreatDoor
open Go Go.LX
set_option maxRecDepth 100000
set_option linter.unusedVariables false
set_option linter.unusedSimpArgs false
set_option maxHeartbeats 32000000
def cnt (f : Rw → Nat) (R : List Rw) : Nat := (R.map f).sum
theorem nodup_le {l m : List Int} (h : l.Nodup) (hs : ∀ x ∈ l,x ∈ m) : l.length ≤ m.length := by
 induction l generalizing m with
 | nil => exact Nat.zero_le _
 | cons x l ih =>
  have hx := hs x (List.mem_cons_self ..)
  have hn := List.nodup_cons.1 h
  have := ih (m := m.erase x) hn.2 (fun y hy => (List.mem_erase_of_ne (show y ≠ x from fun e => hn.1 (e ▸ hy))).2 (hs y (List.mem_cons_of_mem _ hy)))
  have hl := List.length_erase_of_mem hx
  have hp : 0 < m.length := List.length_pos_of_mem hx
  simp only [List.length_cons]
  omega
end Go.Proofs.YtmckfhnijeiklaaGreatDoor
namespace Go.Proofs.YtmckfhnijeiklaaGreatDoor
open Go Go.LX
set_option maxRecDepth 100000
set_option linter.unusedVariables false
set_option linter.unusedSimpArgs false
set_option maxHeartbeats 32000000
def Hld (R : List Rw) (ws : List Int) (a kd ln : Int) (Wl : List Int) : Prop := Kept R ws a kd ln ∧ (Wl.length : Int) = ln ∧ ∀ (q : Nat) (x : Int),Wl[q]? = some x → ws[(a + 1 + (q : Int)).toNat]? = some x
theorem PT.hld {kd ln : Int} {Wl : List Int} {R : List Rw} {ph a e : Int} {s s' : St4} (hA : AOk R s.1) (hK : Kept R s.1 a kd ln) (hl : (Wl.length : Int) = ln) (hb : ∀ x ∈ Wl,-9223372036854775808 ≤ x ∧ x ≤ 9223372036854775807) (hP : PT kd ln Wl R ph a s e s') : e = 0 ∧ Hld R s'.1 a kd ln Wl ∧ (∀ b k n V,b ≠ a → Hld R s.1 b k n V → Hld R s'.1 b k n V) ∧ (∀ b k n,Kept R s.1 b k n → Kept R s'.1 b k n) := by
 rcases hP.two with ⟨e1,k1,q1⟩ | ⟨e1,k1,q1⟩
 ·have hF := putS_fact (ph := ph) Wl 0 s hA hK (by omega) hb
  rw [← q1] at hF
  refine ⟨e1,⟨hF.kept,hl,fun q x hq => ?_⟩,fun b k n V hn ⟨h1,h2,h3⟩ => ⟨hF.up _ _ _ h1,h2,fun q x hq => ?_⟩,hF.up⟩
  ·have := hF.in_ q x hq
   rwa [show (0 + q : Nat) = q by omega] at this
  ·have hql : q < V.length := by
    rcases Nat.lt_or_ge q V.length with h | h
    ·exact h
    ·rw [List.getElem?_eq_none h] at hq; cases hq
   exact (loaded_of (hF.up _ _ _ h1) ⟨by omega,by omega⟩ (hF.oth b q x hn (.ok k n x h1 ⟨by omega,by omega⟩ (h3 q x hq)))).2
 ·exact absurd hK k1
theorem TR.hld {kd ln : Int} {fs : List Int → List Int} {Wl : List Int} {R : List Rw} {ws : List Int} {a f : Int} {y : List Int} (hH : Hld R ws a kd ln Wl) (hT : TR kd ln fs R ws a f y) : f = 0 ∧ y = fs Wl := by
 obtain ⟨hK,hl,hw⟩ := hH
 cases hT with
 | no h => exact absurd hK h
 | ok X h hX =>
  refine ⟨rfl,?_⟩
  have hXl : (X.length : Int) = ln := lenR_of6 hK hX.1
  have : X = Wl := by
   apply List.ext_getElem?
   intro j
   by_cases hj : j < Wl.length
   ·obtain ⟨x,hx⟩ : ∃ x,X[j]? = some x := ⟨_,List.getElem?_eq_getElem (by omega)⟩
    have h1 := (loaded_of hK ⟨by omega,by omega⟩ (hX.2 j x hx)).2
    have h2 := hw j _ (List.getElem?_eq_getElem hj)
    rw [h1] at h2
    rw [hx,List.getElem?_eq_getElem hj,Option.some.inj h2]
   ·rw [List.getElem?_eq_none (by omega),List.getElem?_eq_none (by omega)]
  rw [this]
end Go.Proofs.YtmckfhnijeiklaaGreatDoor
namespace Go.Proofs.YtmckfhnijeiklaaGreatDoor
open Go Go.LX
set_option maxRecDepth 100000
set_option linter.unusedVariables false
set_option linter.unusedSimpArgs false
set_option maxHeartbeats 32000000
def wdsK (k : Int) (F : List Int) : List Int := if k = 1 then chanWs F else if k = 3 then sudogWs F else if k = 4 then gorWs F else F
def fdsK (k : Int) (F : List Int) : List Int := if k = 1 then chanFs F else if k = 3 then sudogFs F else if k = 4 then gorFs F else F
structure FOk (k : Int) (F : List Int) : Prop where
 back : fdsK k (wdsK k F) = F
 len : (wdsK k F).length = F.length
abbrev Hp := Int → Option (Int × List Int)
def upd (M : Hp) (a : Int) (v : Int × List Int) : Hp := fun b => if b = a then some v else M b
theorem upd_same (M : Hp) (a : Int) (v : Int × List Int) : upd M a v a = some v := if_pos rfl
theorem upd_ne {M : Hp} {a b : Int} {v : Int × List Int} (h : b ≠ a) : upd M a v b = M b := if_neg h
structure Cont (R : List Rw) (ws : List Int) (M : Hp) : Prop where
 up : ∀ a k F,M a = some (k,F) → FOk k F ∧ Hld R ws a k F.length (wdsK k F)
 dn : ∀ a k l,Kept R ws a k l → ∃ F,M a = some (k,F)
theorem Cont.kept {R : List Rw} {ws : List Int} {M : Hp} (h : Cont R ws M) {a k : Int} {F : List Int} (hM : M a = some (k,F)) : Kept R ws a k F.length := (h.up a k F hM).2.1
theorem Cont.not {R : List Rw} {ws : List Int} {M : Hp} (h : Cont R ws M) {a k l : Int} (hM : ∀ F,M a ≠ some (k,F)) : ¬ Kept R ws a k l := fun hK => by
 obtain ⟨F,hF⟩ := h.dn a k l hK
 exact hM F hF
theorem Cont.put {kd ln : Int} {Wl F F' : List Int} {R : List Rw} {ph a e : Int} {s s' : St4} {M : Hp} (h : Cont R s.1 M) (hA : AOk R s.1) (hM : M a = some (kd,F)) (hln : (F.length : Int) = ln) (hW : Wl = wdsK kd F') (hF : FOk kd F') (hl : (F'.length : Int) = ln) (hb : ∀ x ∈ Wl,-9223372036854775808 ≤ x ∧ x ≤ 9223372036854775807) (hP : PT kd ln Wl R ph a s e s') : e = 0 ∧ Cont R s'.1 (upd M a (kd,F')) := by
 subst hW
 have hK := h.kept hM
 rw [hln] at hK
 obtain ⟨e1,h1,h2,h3⟩ := hP.hld hA hK (by rw [hF.len]; exact hl) hb
 refine ⟨e1,fun b k G hG => ?_,fun b k l hB => ?_⟩
 ·by_cases q : b = a
  ·subst q
   rw [upd_same] at hG
   cases hG
   exact ⟨hF,by rw [hl]; exact h1⟩
  ·rw [upd_ne q] at hG
   obtain ⟨g1,g2⟩ := h.up b k G hG
   exact ⟨g1,h2 b _ _ _ q g2⟩
 ·by_cases q : b = a
  ·subst q
   obtain ⟨rfl,rfl⟩ := hB.det9 h1.1
   exact ⟨F',upd_same _ _ _⟩
  ·rw [upd_ne q]
   rcases hP.two with ⟨_,_,q1⟩ | ⟨_,q1,_⟩
   ·have hF2 := putS_fact (ph := ph) (wdsK kd F') 0 s hA hK (by rw [hF.len]; omega) hb
    rw [← q1] at hF2
    by_cases hob : IsObj R b
    ·obtain ⟨k2,l2,hK2⟩ := Kept.of hA hob
     obtain ⟨rfl,rfl⟩ := hB.det9 (hF2.up _ _ _ hK2)
     exact h.dn b k l hK2
    ·exact absurd hB.obj6 hob
   ·exact absurd hK q1
theorem Cont.tr {kd ln f a : Int} {fs : List Int → List Int} {R : List Rw} {ws y F : List Int} {M : Hp} (h : Cont R ws M) (hM : M a = some (kd,F)) (hfs : fs (wdsK kd F) = fdsK kd (wdsK kd F)) (hln : (F.length : Int) = ln) (hT : TR kd ln fs R ws a f y) : f = 0 ∧ y = F := by
 obtain ⟨h1,h2⟩ := h.up a kd F hM
 rw [hln] at h2
 obtain ⟨e1,e2⟩ := hT.hld h2
 exact ⟨e1,by rw [e2,hfs,h1.back]⟩
theorem Cont.tr_no {kd ln f a : Int} {fs : List Int → List Int} {R : List Rw} {ws y : List Int} {M : Hp} (h : Cont R ws M) (hM : ∀ F,M a ≠ some (kd,F)) (hT : TR kd ln fs R ws a f y) : f = 10 ∧ y = List.replicate ln.toNat 0 := by
 cases hT with
 | ok X hK _ => exact absurd hK (h.not hM)
 | no _ => exact ⟨rfl,rfl⟩
def zerK (k : Int) (n : Nat) : List Int := if k = 1 then [0,0,0,0,-1,-1,-1,-1,-1] else if k = 3 then [-1,-1,0,-1,0,0,-1] else if k = 4 then [0,0,0,0,0,0,0,0,0,-1] else List.replicate n 0
def lenK (k : Int) (n : Nat) : Prop := (k = 1 → n = 9) ∧ (k = 3 → n = 7) ∧ (k = 4 → n = 10)
theorem zerK_wds {k : Int} {n : Nat} (h : lenK k n) : wdsK k (zerK k n) = List.replicate n 0 ∧ fdsK k (List.replicate n 0) = zerK k n ∧ (zerK k n).length = n := by
 obtain ⟨h1,h3,h4⟩ := h
 unfold wdsK fdsK zerK
 by_cases q1 : k = 1
 ·subst q1; rw [h1 rfl]; decide
 ·by_cases q3 : k = 3
  ·subst q3; rw [h3 rfl]; decide
  ·by_cases q4 : k = 4
   ·subst q4; rw [h4 rfl]; decide
   ·simp [q1,q3,q4]
theorem zerK_ok {k : Int} {n : Nat} (h : lenK k n) : FOk k (zerK k n) := by
 obtain ⟨h1,h2,h3⟩ := zerK_wds h
 exact ⟨by rw [h1,h2],by rw [h1,h3,List.length_replicate]⟩
theorem Cont.alloc {R R' : List Rw} {ws ws' : List Int} {kind n a e : Int} {M : Hp} (h : Cont R ws M) (hA : AOk R ws) (hr : objCount R < R.length) (hk : 0 ≤ n ∧ n ≤ 31 ∧ 1 ≤ kind ∧ kind ≤ 6) (hlen : lenK kind n.toNat) (hs : Alloct R ws kind n a e R' ws') : e = 0 ∧ Cont R' ws' (upd M a (kind,zerK kind n.toNat)) ∧ objCount R' = objCount R + 1 ∧ M a = none ∧ 0 ≤ a ∧ a < 32 * R.length ∧ R'.length = R.length := by
 have he : e = 0 := by have := alloct_err hA hs hr; rw [if_pos hk] at this; exact this
 obtain ⟨h1,h2,h3,h4,h5,h6,h7⟩ := alloct_ok hA hs he
 obtain ⟨hA',hlR⟩ := hA.alloct hs
 have hb := h1.bounds hA'
 obtain ⟨z1,z2,z3⟩ := zerK_wds hlen
 have hn : M a = Option.none := by
  cases q : M a with
  | none => rfl
  | some v => exact absurd (h.kept (k := v.1) (F := v.2) q).obj6 h2
 refine ⟨he,⟨fun b k G hG => ?_,fun b k l hB => ?_⟩,h3,hn,hb.1,by omega,hlR⟩
 ·by_cases q : b = a
  ·subst q
   rw [upd_same] at hG
   cases hG
   refine ⟨zerK_ok hlen,?_⟩
   rw [z1,z3]
   refine ⟨by rw [Int.toNat_of_nonneg hk.1]; exact h1,by rw [List.length_replicate],fun q x hq => ?_⟩
   obtain ⟨hq1,hq2⟩ := List.getElem?_eq_some_iff.1 hq
   rw [List.length_replicate] at hq1
   rw [List.getElem_replicate] at hq2
   rw [← hq2]
   exact h4 q (by omega) (by omega)
  ·rw [upd_ne q] at hG
   obtain ⟨g1,g2,g3,g4⟩ := h.up b k G hG
   refine ⟨g1,h5 _ _ _ g2,g3,fun j x hj => ?_⟩
   have hj1 : j < (wdsK k G).length := (List.getElem?_eq_some_iff.1 hj).1
   rw [h7 b k _ j g2 (by omega) (by omega)]
   exact g4 j x hj
 ·by_cases q : b = a
  ·subst q
   obtain ⟨rfl,_⟩ := hB.det9 h1
   exact ⟨_,upd_same _ _ _⟩
  ·rw [upd_ne q]
   rcases h6 b hB.obj6 with q1 | q1
   ·exact absurd q1 q
   ·obtain ⟨k2,l2,hK2⟩ := Kept.of hA q1
    obtain ⟨rfl,rfl⟩ := hB.det9 (h5 b k2 l2 hK2)
    exact h.dn b k l hK2
theorem Cont.new (n m : Nat) : Cont (List.replicate n ((0,[]) : Rw)) (List.replicate m 0) (fun _ => Option.none) :=
 ⟨fun a k F hF => (by cases hF),fun a k l hK => absurd hK.obj6 (new_none n a)⟩
theorem Cont.sim {R : List Rw} {ws vs : List Int} {M : Hp} (hS : Sim R ws vs) (h : Cont R ws M) : Cont R vs M := by
 refine ⟨fun a k F hF => ?_,fun a k l hK => h.dn a k l (hS.back hK)⟩
 obtain ⟨g1,g2,g3,g4⟩ := h.up a k F hF
 refine ⟨g1,hS.hdr _ _ _ g2,g3,fun q x hq => ?_⟩
 have hq1 : q < (wdsK k F).length := (List.getElem?_eq_some_iff.1 hq).1
 rw [hS.in_ a k _ q g2 (by omega) (by omega)]
 exact g4 q x hq
theorem Cont.len {R : List Rw} {ws : List Int} {M : Hp} (hA : AOk R ws) (h : Cont R ws M) {a k : Int} {F : List Int} (hM : M a = some (k,F)) : F.length < 32 ∧ 0 ≤ a ∧ a + 1 + F.length ≤ 32 * R.length := by
 have := (h.kept hM).bounds hA
 omega
theorem Cont.bd {R : List Rw} {ws : List Int} {M : Hp} (hA : AOk R ws) (h : Cont R ws M) {a k : Int} {F : List Int} (hM : M a = some (k,F)) : ∀ x ∈ wdsK k F,-9223372036854775808 ≤ x ∧ x ≤ 9223372036854775807 := fun x hx => by
 obtain ⟨_,_,_,g4⟩ := h.up a k F hM
 obtain ⟨q,hq⟩ := List.getElem?_of_mem hx
 exact hA.bd x (List.mem_of_getElem? (g4 q x hq))
theorem Cont.toSim {R : List Rw} {ws vs : List Int} {M : Hp} (ha : AOk R ws) (hb : AOk R vs) (h : Cont R ws M) (h' : Cont R vs M) : Sim R ws vs := by
 refine ⟨ha,hb,fun x k l hK => ?_,fun x k l i hK hi0 hi1 => ?_⟩
 ·obtain ⟨F,hF⟩ := h.dn x k l hK
  obtain ⟨_,q⟩ := hK.det9 (h.kept hF)
  rw [q]; exact h'.kept hF
 ·obtain ⟨F,hF⟩ := h.dn x k l hK
  obtain ⟨_,q⟩ := hK.det9 (h.kept hF)
  obtain ⟨g0,_,g1,g2⟩ := h.up x k F hF
  obtain ⟨_,_,_,g3⟩ := h'.up x k F hF
  obtain ⟨y,hy⟩ : ∃ y,(wdsK k F)[i.toNat]? = some y := ⟨_,List.getElem?_eq_getElem (by rw [g0.len]; omega)⟩
  have e1 := g2 _ _ hy
  have e2 := g3 _ _ hy
  rw [show ((i.toNat : Nat) : Int) = i by omega] at e1 e2
  rw [e1,e2]
theorem FOk.chan {x0 x1 x2 x3 x4 x5 x6 x7 x8 : Int} (h : ∀ x ∈ [x4,x5,x6,x7,x8],-1 ≤ x) : FOk 1 [x0,x1,x2,x3,x4,x5,x6,x7,x8] := ⟨chan_back x0 x1 x2 x3 x4 x5 x6 x7 x8 h,rfl⟩
theorem FOk.sudog {x0 x1 x2 x3 x4 x5 x6 : Int} (h : ∀ x ∈ [x0,x1,x3,x6],-1 ≤ x) : FOk 3 [x0,x1,x2,x3,x4,x5,x6] := ⟨sudog_back x0 x1 x2 x3 x4 x5 x6 h,rfl⟩
theorem FOk.gor {x0 x1 x2 x3 x4 x5 x6 x7 x8 x9 : Int} (h : ∀ x ∈ [x9],-1 ≤ x) : FOk 4 [x0,x1,x2,x3,x4,x5,x6,x7,x8,x9] := ⟨gor_back x0 x1 x2 x3 x4 x5 x6 x7 x8 x9 h,rfl⟩
end Go.Proofs.YtmckfhnijeiklaaGreatDoor
namespace Go.Proofs.YtmckfhnijeiklaaGreatDoor
open Go Go.LX
set_option maxRecDepth 100000
set_option linter.unusedVariables false
set_option linter.unusedSimpArgs false
set_option maxHeartbeats 32000000
theorem shadeW_idle {R : List Rw} {ph w : Int} (h : ph = 0) (s : List Int × List Int × Bool) : shadeW R ph w s = s := by
 unfold shadeW shade
 split
 ·rw [if_neg (fun q => by have := q.1; omega)]
 ·rfl
theorem putS_idle {R : List Rw} {ph a : Int} (h : ph = 0) : ∀ (l : List Int) (i : Nat) (s : St4),(putS R ph a i l s).2 = s.2
 | [],_,_ => rfl
 | w :: l,i,s => by
  show (putS R ph a (i + 1) l _).2 = s.2
  rw [putS_idle h l]
  split
  ·rfl
  ·exact shadeW_idle h s.2
theorem PT.idle {kd ln : Int} {W : List Int} {R : List Rw} {ph a e : Int} {s s' : St4} (hp : ph = 0) (h : PT kd ln W R ph a s e s') : s'.2 = s.2 := by
 rcases h.two with ⟨_,_,q⟩ | ⟨_,_,q⟩
 ·rw [q,putS_idle hp]
 ·rw [q]
theorem HM.still {R R' : List Rw} {ws ws' C C' G G' : List Int} {N W : Int} {L L' D D' Q Q' : List PV} {z z' : ByteArray} {ov ov' : Bool} (h : HM R ws C G N W L D Q z) (h' : HM R' ws' C' G' N W L' D' Q' z') (e : (C',G',ov') = (C,G,ov)) : C' = C ∧ G' = G ∧ ov' = ov ∧ Q' = Q ∧ z' = z := by
 simp only [Prod.mk.injEq] at e
 obtain ⟨e1,e2,e3⟩ := e
 exact ⟨e1,e2,e3,by rw [h'.q,h.q,e1],by rw [h'.z,h.z,e2]⟩
theorem RM.still {R R' : List Rw} {vs vs' C C' G G' : List Int} {N W : Int} {P B V Q la P' B' V' Q' la' : List PV} {m m' : Int} {ov ov' : Bool} (h : RM R vs C G N W P B V Q la m) (h' : RM R' vs' C' G' N W P' B' V' Q' la' m') (e : (C',G',ov') = (C,G,ov)) : C' = C ∧ G' = G ∧ ov' = ov ∧ Q' = Q ∧ la' = la ∧ m' = m := by
 simp only [Prod.mk.injEq] at e
 obtain ⟨e1,e2,e3⟩ := e
 exact ⟨e1,e2,e3,by rw [h'.q,h.q,e1],by rw [h'.l,h.l,e2],by rw [h'.m,h.m,e2]⟩
theorem place_ge {a : Int} (h : atW (plW a) = a) : -1 ≤ a := by
 unfold atW plW at h
 split at h <;> split at h <;> omega
theorem place_b62 {a : Int} (h : -9223372036854775808 ≤ plW a ∧ plW a ≤ 9223372036854775807) (h1 : -1 ≤ a) : b62 a := by
 unfold plW at h
 unfold b62
 split at h <;> omega
theorem Cont.chan {R : List Rw} {ws : List Int} {M : Hp} (hA : AOk R ws) (h : Cont R ws M) {a y0 y1 y2 y3 y4 y5 y6 y7 y8 : Int} (hM : M a = some (1,[y0,y1,y2,y3,y4,y5,y6,y7,y8])) : (∀ x ∈ [y4,y5,y6,y7,y8],-1 ≤ x) ∧ (∀ x ∈ [y0,y1,y2,y3,y4,y5,y6,y7,y8],b62 x) := by
 obtain ⟨hF,_⟩ := h.up a _ _ hM
 have hb : ∀ x ∈ chanWs [y0,y1,y2,y3,y4,y5,y6,y7,y8],-9223372036854775808 ≤ x ∧ x ≤ 9223372036854775807 := h.bd hA hM
 have e : chanFs (chanWs [y0,y1,y2,y3,y4,y5,y6,y7,y8]) = [y0,y1,y2,y3,y4,y5,y6,y7,y8] := hF.back
 simp only [chanWs,chanFs,List.cons.injEq,and_true] at e hb
 simp only [List.forall_mem_cons] at hb
 obtain ⟨e0,e1,e2,e3,e4,e5,e6,e7,e8⟩ := e
 obtain ⟨b0,b1,b2,b3,b4,b5,b6,b7,b8,_⟩ := hb
 have p4 := place_ge e4
 have p5 := place_ge e5
 have p6 := place_ge e6
 have p7 := place_ge e7
 have p8 := place_ge e8
 have c0 : b62 y0 := by unfold b62; omega
 have c1 : b62 y1 := by unfold b62; omega
 have c2 : b62 y2 := by unfold b62; omega
 have c3 : b62 y3 := by unfold b62; omega
 have c4 : b62 y4 := place_b62 b4 p4
 have c5 : b62 y5 := place_b62 b5 p5
 have c6 : b62 y6 := place_b62 b6 p6
 have c7 : b62 y7 := place_b62 b7 p7
 have c8 : b62 y8 := place_b62 b8 p8
 simp only [List.forall_mem_cons]
 exact ⟨⟨p4,p5,p6,p7,p8,fun x hx => by cases hx⟩,⟨c0,c1,c2,c3,c4,c5,c6,c7,c8,fun x hx => by cases hx⟩⟩
theorem Cont.sudog {R : List Rw} {ws : List Int} {M : Hp} (hA : AOk R ws) (h : Cont R ws M) {a y0 y1 y2 y3 y4 y5 y6 : Int} (hM : M a = some (3,[y0,y1,y2,y3,y4,y5,y6])) : (∀ x ∈ [y0,y1,y3,y6],-1 ≤ x) ∧ (∀ x ∈ [y0,y1,y3,y4,y5,y6],b62 x) ∧ (∀ x ∈ [y2],-9223372036854775808 ≤ x ∧ x ≤ 9223372036854775807) := by
 obtain ⟨hF,_⟩ := h.up a _ _ hM
 have hb : ∀ x ∈ sudogWs [y0,y1,y2,y3,y4,y5,y6],-9223372036854775808 ≤ x ∧ x ≤ 9223372036854775807 := h.bd hA hM
 have e : sudogFs (sudogWs [y0,y1,y2,y3,y4,y5,y6]) = [y0,y1,y2,y3,y4,y5,y6] := hF.back
 simp only [sudogWs,sudogFs,List.cons.injEq,and_true] at e hb
 simp only [List.forall_mem_cons] at hb
 obtain ⟨e0,e1,e2,e3,e4,e5,e6⟩ := e
 obtain ⟨b0,b1,b2,b3,b4,b5,b6,_⟩ := hb
 have p0 := place_ge e0
 have p1 := place_ge e1
 have p3 := place_ge e3
 have p6 := place_ge e6
 have c0 : b62 y0 := place_b62 b0 p0
 have c1 : b62 y1 := place_b62 b1 p1
 have c3 : b62 y3 := place_b62 b3 p3
 have c4 : b62 y4 := by unfold b62; omega
 have c5 : b62 y5 := by unfold b62; omega
 have c6 : b62 y6 := place_b62 b6 p6
 simp only [List.forall_mem_cons]
 exact ⟨⟨p0,p1,p3,p6,fun x hx => by cases hx⟩,⟨c0,c1,c3,c4,c5,c6,fun x hx => by cases hx⟩,⟨b2,fun x hx => by cases hx⟩⟩
theorem Cont.gor {R : List Rw} {ws : List Int} {M : Hp} (hA : AOk R ws) (h : Cont R ws M) {a y0 y1 y2 y3 y4 y5 y6 y7 y8 y9 : Int} (hM : M a = some (4,[y0,y1,y2,y3,y4,y5,y6,y7,y8,y9])) : (∀ x ∈ [y9],-1 ≤ x) ∧ (∀ x ∈ [y0,y1,y2,y9],b62 x) ∧ (∀ x ∈ [y3,y4,y5,y6,y7,y8],-9223372036854775808 ≤ x ∧ x ≤ 9223372036854775807) := by
 obtain ⟨hF,_⟩ := h.up a _ _ hM
 have hb : ∀ x ∈ gorWs [y0,y1,y2,y3,y4,y5,y6,y7,y8,y9],-9223372036854775808 ≤ x ∧ x ≤ 9223372036854775807 := h.bd hA hM
 have e : gorFs (gorWs [y0,y1,y2,y3,y4,y5,y6,y7,y8,y9]) = [y0,y1,y2,y3,y4,y5,y6,y7,y8,y9] := hF.back
 simp only [gorWs,gorFs,List.cons.injEq,and_true] at e hb
 simp only [List.forall_mem_cons] at hb
 obtain ⟨e0,e1,e2,e3,e4,e5,e6,e7,e8,e9⟩ := e
 obtain ⟨b0,b1,b2,b3,b4,b5,b6,b7,b8,b9,_⟩ := hb
 have p9 := place_ge e9
 have c0 : b62 y0 := by unfold b62; omega
 have c1 : b62 y1 := by unfold b62; omega
 have c2 : b62 y2 := by unfold b62; omega
 have c9 : b62 y9 := place_b62 b9 p9
 simp only [List.forall_mem_cons]
 exact ⟨⟨p9,fun x hx => by cases hx⟩,⟨c0,c1,c2,c9,fun x hx => by cases hx⟩,⟨b3,b4,b5,b6,b7,b8,fun x hx => by cases hx⟩⟩
theorem chanM_lx (R : List Rw) (ws C G : List Int) (N W ph sp cy : Int) (L D Q : List PV) (z : ByteArray) (ov : Bool) (h : HM R ws C G N W L D Q z) (M : Hp) (hM : Cont R ws M) (a y0 y1 y2 y3 y4 y5 y6 y7 y8 : Int) (hMa : M a = some (1,[y0,y1,y2,y3,y4,y5,y6,y7,y8])) : CallF (fun _ => Tryz.prog) 54 [.ptr 0 (.lit 0),i6 a] [hpA 0 1 5 6 3 W ph sp cy,hpB 1 2 4 3 W,hpC 2 3 127 2 N,hpP 3 L,hpP 4 D,hpF 5 z ov,hpP 6 Q] 7 (fun r h n => (∃ e : Int,r = .tup [.agg [i6 y0,i6 y1,i6 y2,i6 y3,i6 y4,i6 y5,i6 y6,i6 y7,i6 y8],i6 e] ∧ e = 0) ∧ h = [hpA 0 1 5 6 3 W ph sp cy,hpB 1 2 4 3 W,hpC 2 3 127 2 N,hpP 3 L,hpP 4 D,hpF 5 z ov,hpP 6 Q] ∧ n = 7) :=
 (chan_lx R ws C G N W ph sp cy L D Q z ov h a).mono fun r h' n hrr => by
  obtain ⟨⟨x0,x1,x2,x3,x4,x5,x6,x7,x8,e,e1,hT⟩,e2,e3⟩ := hrr
  obtain ⟨he,hy⟩ := hM.tr hMa rfl rfl hT
  simp only [List.cons.injEq,and_true] at hy
  obtain ⟨rfl,rfl,rfl,rfl,rfl,rfl,rfl,rfl,rfl⟩ := hy
  exact ⟨⟨e,e1,he⟩,e2,e3⟩
theorem chanNoM_lx (R : List Rw) (ws C G : List Int) (N W ph sp cy : Int) (L D Q : List PV) (z : ByteArray) (ov : Bool) (h : HM R ws C G N W L D Q z) (M : Hp) (hM : Cont R ws M) (a : Int) (hMa : ∀ F,M a ≠ some (1,F)) : CallF (fun _ => Tryz.prog) 54 [.ptr 0 (.lit 0),i6 a] [hpA 0 1 5 6 3 W ph sp cy,hpB 1 2 4 3 W,hpC 2 3 127 2 N,hpP 3 L,hpP 4 D,hpF 5 z ov,hpP 6 Q] 7 (fun r h n => (∃ y0 y1 y2 y3 y4 y5 y6 y7 y8 e : Int,r = .tup [.agg [i6 y0,i6 y1,i6 y2,i6 y3,i6 y4,i6 y5,i6 y6,i6 y7,i6 y8],i6 e] ∧ e = 10 ∧ y0 = 0 ∧ y1 = 0 ∧ y2 = 0 ∧ y3 = 0 ∧ y4 = 0 ∧ y5 = 0 ∧ y6 = 0 ∧ y7 = 0 ∧ y8 = 0) ∧ h = [hpA 0 1 5 6 3 W ph sp cy,hpB 1 2 4 3 W,hpC 2 3 127 2 N,hpP 3 L,hpP 4 D,hpF 5 z ov,hpP 6 Q] ∧ n = 7) :=
 (chan_lx R ws C G N W ph sp cy L D Q z ov h a).mono fun r h' n hrr => by
  obtain ⟨⟨x0,x1,x2,x3,x4,x5,x6,x7,x8,e,e1,hT⟩,e2,e3⟩ := hrr
  obtain ⟨he,hy⟩ := hM.tr_no hMa hT
  have hy : [x0,x1,x2,x3,x4,x5,x6,x7,x8] = [0,0,0,0,0,0,0,0,0] := hy
  simp only [List.cons.injEq,and_true] at hy
  exact ⟨⟨x0,x1,x2,x3,x4,x5,x6,x7,x8,e,e1,he,hy⟩,e2,e3⟩
theorem putChanM_lx (R : List Rw) (ws C G : List Int) (N W ph sp cy : Int) (L D Q : List PV) (z : ByteArray) (ov : Bool) (h : HM R ws C G N W L D Q z) (M : Hp) (hM : Cont R ws M) (o : Unit → Obj) (ho : IsPow o) (hph : ph = 0) (a x0 x1 x2 x3 x4 x5 x6 x7 x8 : Int) (F : List Int) (hMa : M a = some (1,F)) (hF : F.length = 9) (hb : ∀ x ∈ [x0,x1,x2,x3,x4,x5,x6,x7,x8],b62 x) (hp : ∀ x ∈ [x4,x5,x6,x7,x8],-1 ≤ x) : CallF (fun _ => Tryz.prog) 44 [.ptr 0 (.lit 0),i6 a,.agg [i6 x0,i6 x1,i6 x2,i6 x3,i6 x4,i6 x5,i6 x6,i6 x7,i6 x8]] [hpA 0 1 5 6 3 W ph sp cy,hpB 1 2 4 3 W,hpC 2 3 127 2 N,hpP 3 L,hpP 4 D,hpF 5 z ov,hpP 6 Q,(7,.fix 0 o)] 8 (fun r h n => ∃ (e : Int) (ws' : List Int) (D' : List PV),r = .p (.int .i64 (.sym e)) ∧ e = 0 ∧ h = [hpA 0 1 5 6 3 W ph sp cy,hpB 1 2 4 3 W,hpC 2 3 127 2 N,hpP 3 L,hpP 4 D',hpF 5 z ov,hpP 6 Q,(7,.fix 0 o)] ∧ n = 8 ∧ HM R ws' C G N W L D' Q z ∧ Cont R ws' (upd M a (1,[x0,x1,x2,x3,x4,x5,x6,x7,x8]))) :=
 (putChan_lx R ws C G N W ph sp cy L D Q z ov h o ho a x0 x1 x2 x3 x4 x5 x6 x7 x8 hb).mono fun r h' n hrr => by
  obtain ⟨e,ws',C',G',ov',D',Q',z',e1,e2,e3,h1,hP⟩ := hrr
  obtain ⟨he,hM'⟩ := hM.put (F' := [x0,x1,x2,x3,x4,x5,x6,x7,x8]) h.a hMa (by rw [hF]; rfl) rfl (FOk.chan hp) rfl (chanWs_bd x0 x1 x2 x3 x4 x5 x6 x7 x8 hb) hP
  obtain ⟨q1,q2,q3,q4,q5⟩ := h.still h1 (hP.idle hph)
  rw [q3,q4,q5] at e2
  rw [q1,q2,q4,q5] at h1
  exact ⟨e,ws',D',e1,he,e2,e3,h1,hM'⟩
theorem rchanM_lx (R : List Rw) (vs C G : List Int) (N W ph sp cy : Int) (P B V Q la : List PV) (m : Int) (ov : Bool) (h : RM R vs C G N W P B V Q la m) (M : Hp) (hM : Cont R vs M) (a y0 y1 y2 y3 y4 y5 y6 y7 y8 : Int) (hMa : M a = some (1,[y0,y1,y2,y3,y4,y5,y6,y7,y8])) : CallF (fun _ => Tryz.prog) 122 [.ptr 0 (.lit 0),i6 a] [hpR 0 1 6 3 W 7 ph sp cy,hpB 1 2 5 3 W,hpD 2 3 3 1 N 4 197 8 N,hpP 3 P,hpP 4 B,hpP 5 V,hpP 6 Q,(7,.mix [.p (.vsl (.sym m) true la),.p (.bool ov)])] 8 (fun r h n => (∃ e : Int,r = .tup [.agg [i6 y0,i6 y1,i6 y2,i6 y3,i6 y4,i6 y5,i6 y6,i6 y7,i6 y8],i6 e] ∧ e = 0) ∧ h = [hpR 0 1 6 3 W 7 ph sp cy,hpB 1 2 5 3 W,hpD 2 3 3 1 N 4 197 8 N,hpP 3 P,hpP 4 B,hpP 5 V,hpP 6 Q,(7,.mix [.p (.vsl (.sym m) true la),.p (.bool ov)])] ∧ n = 8) :=
 (rchan_lx R vs C G N W ph sp cy P B V Q la m ov h a).mono fun r h' n hrr => by
  obtain ⟨⟨x0,x1,x2,x3,x4,x5,x6,x7,x8,e,e1,hT⟩,e2,e3⟩ := hrr
  obtain ⟨he,hy⟩ := hM.tr hMa rfl rfl hT
  simp only [List.cons.injEq,and_true] at hy
  obtain ⟨rfl,rfl,rfl,rfl,rfl,rfl,rfl,rfl,rfl⟩ := hy
  exact ⟨⟨e,e1,he⟩,e2,e3⟩
theorem rPutChanM_lx (R : List Rw) (vs C G : List Int) (N W ph sp cy : Int) (P B V Q la : List PV) (m : Int) (ov : Bool) (h : RM R vs C G N W P B V Q la m) (M : Hp) (hM : Cont R vs M) (hph : ph = 0) (a x0 x1 x2 x3 x4 x5 x6 x7 x8 : Int) (F : List Int) (hMa : M a = some (1,F)) (hF : F.length = 9) (hb : ∀ x ∈ [x0,x1,x2,x3,x4,x5,x6,x7,x8],b62 x) (hp : ∀ x ∈ [x4,x5,x6,x7,x8],-1 ≤ x) : CallF (fun _ => Tryz.prog) 45 [.ptr 0 (.lit 0),i6 a,.agg [i6 x0,i6 x1,i6 x2,i6 x3,i6 x4,i6 x5,i6 x6,i6 x7,i6 x8]] [hpR 0 1 6 3 W 7 ph sp cy,hpB 1 2 5 3 W,hpD 2 3 3 1 N 4 197 8 N,hpP 3 P,hpP 4 B,hpP 5 V,hpP 6 Q,(7,.mix [.p (.vsl (.sym m) true la),.p (.bool ov)])] 8 (fun r h n => ∃ (e : Int) (vs' : List Int) (V' : List PV),r = .p (.int .i64 (.sym e)) ∧ e = 0 ∧ h = [hpR 0 1 6 3 W 7 ph sp cy,hpB 1 2 5 3 W,hpD 2 3 3 1 N 4 197 8 N,hpP 3 P,hpP 4 B,hpP 5 V',hpP 6 Q,(7,.mix [.p (.vsl (.sym m) true la),.p (.bool ov)])] ∧ n = 8 ∧ RM R vs' C G N W P B V' Q la m ∧ Cont R vs' (upd M a (1,[x0,x1,x2,x3,x4,x5,x6,x7,x8]))) :=
 (rPutChan_lx R vs C G N W ph sp cy P B V Q la m ov h a x0 x1 x2 x3 x4 x5 x6 x7 x8 hb).mono fun r h' n hrr => by
  obtain ⟨e,vs',C',G',ov',V',Q',la',m',e1,e2,e3,h1,hP⟩ := hrr
  obtain ⟨he,hM'⟩ := hM.put (F' := [x0,x1,x2,x3,x4,x5,x6,x7,x8]) h.a hMa (by rw [hF]; rfl) rfl (FOk.chan hp) rfl (chanWs_bd x0 x1 x2 x3 x4 x5 x6 x7 x8 hb) hP
  obtain ⟨q1,q2,q3,q4,q5,q6⟩ := h.still h1 (hP.idle hph)
  rw [q3,q4,q5,q6] at e2
  rw [q1,q2,q4,q5,q6] at h1
  exact ⟨e,vs',V',e1,he,e2,e3,h1,hM'⟩
theorem sudogM_lx (R : List Rw) (ws C G : List Int) (N W ph sp cy : Int) (L D Q : List PV) (z : ByteArray) (ov : Bool) (h : HM R ws C G N W L D Q z) (M : Hp) (hM : Cont R ws M) (a y0 y1 y2 y3 y4 y5 y6 : Int) (hMa : M a = some (3,[y0,y1,y2,y3,y4,y5,y6])) : CallF (fun _ => Tryz.prog) 51 [.ptr 0 (.lit 0),i6 a] [hpA 0 1 5 6 3 W ph sp cy,hpB 1 2 4 3 W,hpC 2 3 127 2 N,hpP 3 L,hpP 4 D,hpF 5 z ov,hpP 6 Q] 7 (fun r h n => (∃ e : Int,r = .tup [.agg [i6 y0,i6 y1,i6 y2,i6 y3,i6 y4,i6 y5,i6 y6],i6 e] ∧ e = 0) ∧ h = [hpA 0 1 5 6 3 W ph sp cy,hpB 1 2 4 3 W,hpC 2 3 127 2 N,hpP 3 L,hpP 4 D,hpF 5 z ov,hpP 6 Q] ∧ n = 7) :=
 (sudog_lx R ws C G N W ph sp cy L D Q z ov h a).mono fun r h' n hrr => by
  obtain ⟨⟨x0,x1,x2,x3,x4,x5,x6,e,e1,hT⟩,e2,e3⟩ := hrr
  obtain ⟨he,hy⟩ := hM.tr hMa rfl rfl hT
  simp only [List.cons.injEq,and_true] at hy
  obtain ⟨rfl,rfl,rfl,rfl,rfl,rfl,rfl⟩ := hy
  exact ⟨⟨e,e1,he⟩,e2,e3⟩
theorem sudogNoM_lx (R : List Rw) (ws C G : List Int) (N W ph sp cy : Int) (L D Q : List PV) (z : ByteArray) (ov : Bool) (h : HM R ws C G N W L D Q z) (M : Hp) (hM : Cont R ws M) (a : Int) (hMa : ∀ F,M a ≠ some (3,F)) : CallF (fun _ => Tryz.prog) 51 [.ptr 0 (.lit 0),i6 a] [hpA 0 1 5 6 3 W ph sp cy,hpB 1 2 4 3 W,hpC 2 3 127 2 N,hpP 3 L,hpP 4 D,hpF 5 z ov,hpP 6 Q] 7 (fun r h n => (∃ y0 y1 y2 y3 y4 y5 y6 e : Int,r = .tup [.agg [i6 y0,i6 y1,i6 y2,i6 y3,i6 y4,i6 y5,i6 y6],i6 e] ∧ e = 10 ∧ y0 = 0 ∧ y1 = 0 ∧ y2 = 0 ∧ y3 = 0 ∧ y4 = 0 ∧ y5 = 0 ∧ y6 = 0) ∧ h = [hpA 0 1 5 6 3 W ph sp cy,hpB 1 2 4 3 W,hpC 2 3 127 2 N,hpP 3 L,hpP 4 D,hpF 5 z ov,hpP 6 Q] ∧ n = 7) :=
 (sudog_lx R ws C G N W ph sp cy L D Q z ov h a).mono fun r h' n hrr => by
  obtain ⟨⟨x0,x1,x2,x3,x4,x5,x6,e,e1,hT⟩,e2,e3⟩ := hrr
  obtain ⟨he,hy⟩ := hM.tr_no hMa hT
  have hy : [x0,x1,x2,x3,x4,x5,x6] = [0,0,0,0,0,0,0] := hy
  simp only [List.cons.injEq,and_true] at hy
  exact ⟨⟨x0,x1,x2,x3,x4,x5,x6,e,e1,he,hy⟩,e2,e3⟩
theorem putSudogM_lx (R : List Rw) (ws C G : List Int) (N W ph sp cy : Int) (L D Q : List PV) (z : ByteArray) (ov : Bool) (h : HM R ws C G N W L D Q z) (M : Hp) (hM : Cont R ws M) (o : Unit → Obj) (ho : IsPow o) (hph : ph = 0) (a x0 x1 x2 x3 x4 x5 x6 : Int) (F : List Int) (hMa : M a = some (3,F)) (hF : F.length = 7) (hb : ∀ x ∈ [x0,x1,x3,x4,x5,x6],b62 x) (hw : ∀ x ∈ [x2],-9223372036854775808 ≤ x ∧ x ≤ 9223372036854775807) (hp : ∀ x ∈ [x0,x1,x3,x6],-1 ≤ x) : CallF (fun _ => Tryz.prog) 20 [.ptr 0 (.lit 0),i6 a,.agg [i6 x0,i6 x1,i6 x2,i6 x3,i6 x4,i6 x5,i6 x6]] [hpA 0 1 5 6 3 W ph sp cy,hpB 1 2 4 3 W,hpC 2 3 127 2 N,hpP 3 L,hpP 4 D,hpF 5 z ov,hpP 6 Q,(7,.fix 0 o)] 8 (fun r h n => ∃ (e : Int) (ws' : List Int) (D' : List PV),r = .p (.int .i64 (.sym e)) ∧ e = 0 ∧ h = [hpA 0 1 5 6 3 W ph sp cy,hpB 1 2 4 3 W,hpC 2 3 127 2 N,hpP 3 L,hpP 4 D',hpF 5 z ov,hpP 6 Q,(7,.fix 0 o)] ∧ n = 8 ∧ HM R ws' C G N W L D' Q z ∧ Cont R ws' (upd M a (3,[x0,x1,x2,x3,x4,x5,x6]))) :=
 (putSudog_lx R ws C G N W ph sp cy L D Q z ov h o ho a x0 x1 x2 x3 x4 x5 x6 hb hw).mono fun r h' n hrr => by
  obtain ⟨e,ws',C',G',ov',D',Q',z',e1,e2,e3,h1,hP⟩ := hrr
  obtain ⟨he,hM'⟩ := hM.put (F' := [x0,x1,x2,x3,x4,x5,x6]) h.a hMa (by rw [hF]; rfl) rfl (FOk.sudog hp) rfl (sudogWs_bd x0 x1 x2 x3 x4 x5 x6 hb hw) hP
  obtain ⟨q1,q2,q3,q4,q5⟩ := h.still h1 (hP.idle hph)
  rw [q3,q4,q5] at e2
  rw [q1,q2,q4,q5] at h1
  exact ⟨e,ws',D',e1,he,e2,e3,h1,hM'⟩
theorem rsudogM_lx (R : List Rw) (vs C G : List Int) (N W ph sp cy : Int) (P B V Q la : List PV) (m : Int) (ov : Bool) (h : RM R vs C G N W P B V Q la m) (M : Hp) (hM : Cont R vs M) (a y0 y1 y2 y3 y4 y5 y6 : Int) (hMa : M a = some (3,[y0,y1,y2,y3,y4,y5,y6])) : CallF (fun _ => Tryz.prog) 123 [.ptr 0 (.lit 0),i6 a] [hpR 0 1 6 3 W 7 ph sp cy,hpB 1 2 5 3 W,hpD 2 3 3 1 N 4 197 8 N,hpP 3 P,hpP 4 B,hpP 5 V,hpP 6 Q,(7,.mix [.p (.vsl (.sym m) true la),.p (.bool ov)])] 8 (fun r h n => (∃ e : Int,r = .tup [.agg [i6 y0,i6 y1,i6 y2,i6 y3,i6 y4,i6 y5,i6 y6],i6 e] ∧ e = 0) ∧ h = [hpR 0 1 6 3 W 7 ph sp cy,hpB 1 2 5 3 W,hpD 2 3 3 1 N 4 197 8 N,hpP 3 P,hpP 4 B,hpP 5 V,hpP 6 Q,(7,.mix [.p (.vsl (.sym m) true la),.p (.bool ov)])] ∧ n = 8) :=
 (rsudog_lx R vs C G N W ph sp cy P B V Q la m ov h a).mono fun r h' n hrr => by
  obtain ⟨⟨x0,x1,x2,x3,x4,x5,x6,e,e1,hT⟩,e2,e3⟩ := hrr
  obtain ⟨he,hy⟩ := hM.tr hMa rfl rfl hT
  simp only [List.cons.injEq,and_true] at hy
  obtain ⟨rfl,rfl,rfl,rfl,rfl,rfl,rfl⟩ := hy
  exact ⟨⟨e,e1,he⟩,e2,e3⟩
theorem rsudogNoM_lx (R : List Rw) (vs C G : List Int) (N W ph sp cy : Int) (P B V Q la : List PV) (m : Int) (ov : Bool) (h : RM R vs C G N W P B V Q la m) (M : Hp) (hM : Cont R vs M) (a : Int) (hMa : ∀ F,M a ≠ some (3,F)) : CallF (fun _ => Tryz.prog) 123 [.ptr 0 (.lit 0),i6 a] [hpR 0 1 6 3 W 7 ph sp cy,hpB 1 2 5 3 W,hpD 2 3 3 1 N 4 197 8 N,hpP 3 P,hpP 4 B,hpP 5 V,hpP 6 Q,(7,.mix [.p (.vsl (.sym m) true la),.p (.bool ov)])] 8 (fun r h n => (∃ y0 y1 y2 y3 y4 y5 y6 e : Int,r = .tup [.agg [i6 y0,i6 y1,i6 y2,i6 y3,i6 y4,i6 y5,i6 y6],i6 e] ∧ e = 10 ∧ y0 = 0 ∧ y1 = 0 ∧ y2 = 0 ∧ y3 = 0 ∧ y4 = 0 ∧ y5 = 0 ∧ y6 = 0) ∧ h = [hpR 0 1 6 3 W 7 ph sp cy,hpB 1 2 5 3 W,hpD 2 3 3 1 N 4 197 8 N,hpP 3 P,hpP 4 B,hpP 5 V,hpP 6 Q,(7,.mix [.p (.vsl (.sym m) true la),.p (.bool ov)])] ∧ n = 8) :=
 (rsudog_lx R vs C G N W ph sp cy P B V Q la m ov h a).mono fun r h' n hrr => by
  obtain ⟨⟨x0,x1,x2,x3,x4,x5,x6,e,e1,hT⟩,e2,e3⟩ := hrr
  obtain ⟨he,hy⟩ := hM.tr_no hMa hT
  have hy : [x0,x1,x2,x3,x4,x5,x6] = [0,0,0,0,0,0,0] := hy
  simp only [List.cons.injEq,and_true] at hy
  exact ⟨⟨x0,x1,x2,x3,x4,x5,x6,e,e1,he,hy⟩,e2,e3⟩
theorem rPutSudogM_lx (R : List Rw) (vs C G : List Int) (N W ph sp cy : Int) (P B V Q la : List PV) (m : Int) (ov : Bool) (h : RM R vs C G N W P B V Q la m) (M : Hp) (hM : Cont R vs M) (hph : ph = 0) (a x0 x1 x2 x3 x4 x5 x6 : Int) (F : List Int) (hMa : M a = some (3,F)) (hF : F.length = 7) (hb : ∀ x ∈ [x0,x1,x3,x4,x5,x6],b62 x) (hw : ∀ x ∈ [x2],-9223372036854775808 ≤ x ∧ x ≤ 9223372036854775807) (hp : ∀ x ∈ [x0,x1,x3,x6],-1 ≤ x) : CallF (fun _ => Tryz.prog) 89 [.ptr 0 (.lit 0),i6 a,.agg [i6 x0,i6 x1,i6 x2,i6 x3,i6 x4,i6 x5,i6 x6]] [hpR 0 1 6 3 W 7 ph sp cy,hpB 1 2 5 3 W,hpD 2 3 3 1 N 4 197 8 N,hpP 3 P,hpP 4 B,hpP 5 V,hpP 6 Q,(7,.mix [.p (.vsl (.sym m) true la),.p (.bool ov)])] 8 (fun r h n => ∃ (e : Int) (vs' : List Int) (V' : List PV),r = .p (.int .i64 (.sym e)) ∧ e = 0 ∧ h = [hpR 0 1 6 3 W 7 ph sp cy,hpB 1 2 5 3 W,hpD 2 3 3 1 N 4 197 8 N,hpP 3 P,hpP 4 B,hpP 5 V',hpP 6 Q,(7,.mix [.p (.vsl (.sym m) true la),.p (.bool ov)])] ∧ n = 8 ∧ RM R vs' C G N W P B V' Q la m ∧ Cont R vs' (upd M a (3,[x0,x1,x2,x3,x4,x5,x6]))) :=
 (rPutSudog_lx R vs C G N W ph sp cy P B V Q la m ov h a x0 x1 x2 x3 x4 x5 x6 hb hw).mono fun r h' n hrr => by
  obtain ⟨e,vs',C',G',ov',V',Q',la',m',e1,e2,e3,h1,hP⟩ := hrr
  obtain ⟨he,hM'⟩ := hM.put (F' := [x0,x1,x2,x3,x4,x5,x6]) h.a hMa (by rw [hF]; rfl) rfl (FOk.sudog hp) rfl (sudogWs_bd x0 x1 x2 x3 x4 x5 x6 hb hw) hP
  obtain ⟨q1,q2,q3,q4,q5,q6⟩ := h.still h1 (hP.idle hph)
  rw [q3,q4,q5,q6] at e2
  rw [q1,q2,q4,q5,q6] at h1
  exact ⟨e,vs',V',e1,he,e2,e3,h1,hM'⟩
theorem gorM_lx (R : List Rw) (ws C G : List Int) (N W ph sp cy : Int) (L D Q : List PV) (z : ByteArray) (ov : Bool) (h : HM R ws C G N W L D Q z) (M : Hp) (hM : Cont R ws M) (a y0 y1 y2 y3 y4 y5 y6 y7 y8 y9 : Int) (hMa : M a = some (4,[y0,y1,y2,y3,y4,y5,y6,y7,y8,y9])) : CallF (fun _ => Tryz.prog) 26 [.ptr 0 (.lit 0),i6 a] [hpA 0 1 5 6 3 W ph sp cy,hpB 1 2 4 3 W,hpC 2 3 127 2 N,hpP 3 L,hpP 4 D,hpF 5 z ov,hpP 6 Q] 7 (fun r h n => (∃ e : Int,r = .tup [.agg [i6 y0,i6 y1,i6 y2,i6 y3,i6 y4,i6 y5,i6 y6,i6 y7,i6 y8,i6 y9],i6 e] ∧ e = 0) ∧ h = [hpA 0 1 5 6 3 W ph sp cy,hpB 1 2 4 3 W,hpC 2 3 127 2 N,hpP 3 L,hpP 4 D,hpF 5 z ov,hpP 6 Q] ∧ n = 7) :=
 (gor_lx R ws C G N W ph sp cy L D Q z ov h a).mono fun r h' n hrr => by
  obtain ⟨⟨x0,x1,x2,x3,x4,x5,x6,x7,x8,x9,e,e1,hT⟩,e2,e3⟩ := hrr
  obtain ⟨he,hy⟩ := hM.tr hMa rfl rfl hT
  simp only [List.cons.injEq,and_true] at hy
  obtain ⟨rfl,rfl,rfl,rfl,rfl,rfl,rfl,rfl,rfl,rfl⟩ := hy
  exact ⟨⟨e,e1,he⟩,e2,e3⟩
theorem putGorM_lx (R : List Rw) (ws C G : List Int) (N W ph sp cy : Int) (L D Q : List PV) (z : ByteArray) (ov : Bool) (h : HM R ws C G N W L D Q z) (M : Hp) (hM : Cont R ws M) (o : Unit → Obj) (ho : IsPow o) (hph : ph = 0) (a x0 x1 x2 x3 x4 x5 x6 x7 x8 x9 : Int) (F : List Int) (hMa : M a = some (4,F)) (hF : F.length = 10) (hb : ∀ x ∈ [x0,x1,x2,x9],b62 x) (hw : ∀ x ∈ [x3,x4,x5,x6,x7,x8],-9223372036854775808 ≤ x ∧ x ≤ 9223372036854775807) (hp : ∀ x ∈ [x9],-1 ≤ x) : CallF (fun _ => Tryz.prog) 46 [.ptr 0 (.lit 0),i6 a,.agg [i6 x0,i6 x1,i6 x2,i6 x3,i6 x4,i6 x5,i6 x6,i6 x7,i6 x8,i6 x9]] [hpA 0 1 5 6 3 W ph sp cy,hpB 1 2 4 3 W,hpC 2 3 127 2 N,hpP 3 L,hpP 4 D,hpF 5 z ov,hpP 6 Q,(7,.fix 0 o)] 8 (fun r h n => ∃ (e : Int) (ws' : List Int) (D' : List PV),r = .p (.int .i64 (.sym e)) ∧ e = 0 ∧ h = [hpA 0 1 5 6 3 W ph sp cy,hpB 1 2 4 3 W,hpC 2 3 127 2 N,hpP 3 L,hpP 4 D',hpF 5 z ov,hpP 6 Q,(7,.fix 0 o)] ∧ n = 8 ∧ HM R ws' C G N W L D' Q z ∧ Cont R ws' (upd M a (4,[x0,x1,x2,x3,x4,x5,x6,x7,x8,x9]))) :=
 (putGor_lx R ws C G N W ph sp cy L D Q z ov h o ho a x0 x1 x2 x3 x4 x5 x6 x7 x8 x9 hb hw).mono fun r h' n hrr => by
  obtain ⟨e,ws',C',G',ov',D',Q',z',e1,e2,e3,h1,hP⟩ := hrr
  obtain ⟨he,hM'⟩ := hM.put (F' := [x0,x1,x2,x3,x4,x5,x6,x7,x8,x9]) h.a hMa (by rw [hF]; rfl) rfl (FOk.gor hp) rfl (gorWs_bd x0 x1 x2 x3 x4 x5 x6 x7 x8 x9 hb hw) hP
  obtain ⟨q1,q2,q3,q4,q5⟩ := h.still h1 (hP.idle hph)
  rw [q3,q4,q5] at e2
  rw [q1,q2,q4,q5] at h1
  exact ⟨e,ws',D',e1,he,e2,e3,h1,hM'⟩
theorem rgorM_lx (R : List Rw) (vs C G : List Int) (N W ph sp cy : Int) (P B V Q la : List PV) (m : Int) (ov : Bool) (h : RM R vs C G N W P B V Q la m) (M : Hp) (hM : Cont R vs M) (a y0 y1 y2 y3 y4 y5 y6 y7 y8 y9 : Int) (hMa : M a = some (4,[y0,y1,y2,y3,y4,y5,y6,y7,y8,y9])) : CallF (fun _ => Tryz.prog) 88 [.ptr 0 (.lit 0),i6 a] [hpR 0 1 6 3 W 7 ph sp cy,hpB 1 2 5 3 W,hpD 2 3 3 1 N 4 197 8 N,hpP 3 P,hpP 4 B,hpP 5 V,hpP 6 Q,(7,.mix [.p (.vsl (.sym m) true la),.p (.bool ov)])] 8 (fun r h n => (∃ e : Int,r = .tup [.agg [i6 y0,i6 y1,i6 y2,i6 y3,i6 y4,i6 y5,i6 y6,i6 y7,i6 y8,i6 y9],i6 e] ∧ e = 0) ∧ h = [hpR 0 1 6 3 W 7 ph sp cy,hpB 1 2 5 3 W,hpD 2 3 3 1 N 4 197 8 N,hpP 3 P,hpP 4 B,hpP 5 V,hpP 6 Q,(7,.mix [.p (.vsl (.sym m) true la),.p (.bool ov)])] ∧ n = 8) :=
 (rgor_lx R vs C G N W ph sp cy P B V Q la m ov h a).mono fun r h' n hrr => by
  obtain ⟨⟨x0,x1,x2,x3,x4,x5,x6,x7,x8,x9,e,e1,hT⟩,e2,e3⟩ := hrr
  obtain ⟨he,hy⟩ := hM.tr hMa rfl rfl hT
  simp only [List.cons.injEq,and_true] at hy
  obtain ⟨rfl,rfl,rfl,rfl,rfl,rfl,rfl,rfl,rfl,rfl⟩ := hy
  exact ⟨⟨e,e1,he⟩,e2,e3⟩
theorem rPutGorM_lx (R : List Rw) (vs C G : List Int) (N W ph sp cy : Int) (P B V Q la : List PV) (m : Int) (ov : Bool) (h : RM R vs C G N W P B V Q la m) (M : Hp) (hM : Cont R vs M) (hph : ph = 0) (a x0 x1 x2 x3 x4 x5 x6 x7 x8 x9 : Int) (F : List Int) (hMa : M a = some (4,F)) (hF : F.length = 10) (hb : ∀ x ∈ [x0,x1,x2,x9],b62 x) (hw : ∀ x ∈ [x3,x4,x5,x6,x7,x8],-9223372036854775808 ≤ x ∧ x ≤ 9223372036854775807) (hp : ∀ x ∈ [x9],-1 ≤ x) : CallF (fun _ => Tryz.prog) 47 [.ptr 0 (.lit 0),i6 a,.agg [i6 x0,i6 x1,i6 x2,i6 x3,i6 x4,i6 x5,i6 x6,i6 x7,i6 x8,i6 x9]] [hpR 0 1 6 3 W 7 ph sp cy,hpB 1 2 5 3 W,hpD 2 3 3 1 N 4 197 8 N,hpP 3 P,hpP 4 B,hpP 5 V,hpP 6 Q,(7,.mix [.p (.vsl (.sym m) true la),.p (.bool ov)])] 8 (fun r h n => ∃ (e : Int) (vs' : List Int) (V' : List PV),r = .p (.int .i64 (.sym e)) ∧ e = 0 ∧ h = [hpR 0 1 6 3 W 7 ph sp cy,hpB 1 2 5 3 W,hpD 2 3 3 1 N 4 197 8 N,hpP 3 P,hpP 4 B,hpP 5 V',hpP 6 Q,(7,.mix [.p (.vsl (.sym m) true la),.p (.bool ov)])] ∧ n = 8 ∧ RM R vs' C G N W P B V' Q la m ∧ Cont R vs' (upd M a (4,[x0,x1,x2,x3,x4,x5,x6,x7,x8,x9]))) :=
 (rPutGor_lx R vs C G N W ph sp cy P B V Q la m ov h a x0 x1 x2 x3 x4 x5 x6 x7 x8 x9 hb hw).mono fun r h' n hrr => by
  obtain ⟨e,vs',C',G',ov',V',Q',la',m',e1,e2,e3,h1,hP⟩ := hrr
  obtain ⟨he,hM'⟩ := hM.put (F' := [x0,x1,x2,x3,x4,x5,x6,x7,x8,x9]) h.a hMa (by rw [hF]; rfl) rfl (FOk.gor hp) rfl (gorWs_bd x0 x1 x2 x3 x4 x5 x6 x7 x8 x9 hb hw) hP
  obtain ⟨q1,q2,q3,q4,q5,q6⟩ := h.still h1 (hP.idle hph)
  rw [q3,q4,q5,q6] at e2
  rw [q1,q2,q4,q5,q6] at h1
  exact ⟨e,vs',V',e1,he,e2,e3,h1,hM'⟩
end Go.Proofs.YtmckfhnijeiklaaGreatDoor
namespace Go.Proofs.YtmckfhnijeiklaaGreatDoor
open Go Go.LX
set_option maxRecDepth 100000
set_option linter.unusedVariables false
set_option linter.unusedSimpArgs false
set_option maxHeartbeats 32000000
def hdQ (l : List Int) : Int := l.head?.getD (-1)
def ltQ (l : List Int) : Int := l.getLast?.getD (-1)
def sucL : List Int → Int → Int
 | x :: y :: l,a => if a = x then y else sucL (y :: l) a
 | _,_ => -1
abbrev Qs := Int → Bool → List Int
def nxtQ (q : Qs) (c a : Int) : Int := if a ∈ q c false then sucL (q c false) a else sucL (q c true) a
def lnk (q : Qs) (a : Int) (v : Int × List Int) : Int × List Int :=
 if v.1 = 1 then (match v.2 with
  | [a0,a1,a2,a3,a4,_,_,_,_] => (1,[a0,a1,a2,a3,a4,hdQ (q a false),ltQ (q a false),hdQ (q a true),ltQ (q a true)])
  | F => (1,F))
 else if v.1 = 3 then (match v.2 with
  | [g,c,w,_,p,r,m] => (3,[g,c,w,nxtQ q c a,p,r,m])
  | F => (3,F))
 else v
theorem lnk_chan (q : Qs) (a a0 a1 a2 a3 a4 a5 a6 a7 a8 : Int) : lnk q a (1,[a0,a1,a2,a3,a4,a5,a6,a7,a8]) = (1,[a0,a1,a2,a3,a4,hdQ (q a false),ltQ (q a false),hdQ (q a true),ltQ (q a true)]) := rfl
theorem lnk_sudog (q : Qs) (a g c w n p r m : Int) : lnk q a (3,[g,c,w,n,p,r,m]) = (3,[g,c,w,nxtQ q c a,p,r,m]) := rfl
theorem lnk_other (q : Qs) (a : Int) (v : Int × List Int) (h : v.1 ≠ 1 ∧ v.1 ≠ 3) : lnk q a v = v := by unfold lnk; rw [if_neg h.1,if_neg h.2]
theorem lnk_len (q : Qs) (a k : Int) (F : List Int) : (lnk q a (k,F)).1 = k ∧ (lnk q a (k,F)).2.length = F.length := by
 unfold lnk
 by_cases h1 : k = 1
 ·subst h1
  rw [if_pos rfl]
  dsimp only
  split
  ·exact ⟨rfl,rfl⟩
  ·exact ⟨rfl,rfl⟩
 ·rw [if_neg h1]
  by_cases h3 : k = 3
  ·subst h3
   rw [if_pos rfl]
   dsimp only
   split
   ·exact ⟨rfl,rfl⟩
   ·exact ⟨rfl,rfl⟩
  ·rw [if_neg h3]
   exact ⟨rfl,rfl⟩
theorem lnk_lnk (q q' : Qs) (a : Int) (v : Int × List Int) : lnk q a (lnk q' a v) = lnk q a v := by
 obtain ⟨k,F⟩ := v
 by_cases h1 : k = 1
 ·subst h1
  match F with
  | [a0,a1,a2,a3,a4,a5,a6,a7,a8] => rfl
  | [] => rfl
  | [_] => rfl
  | [_,_] => rfl
  | [_,_,_] => rfl
  | [_,_,_,_] => rfl
  | [_,_,_,_,_] => rfl
  | [_,_,_,_,_,_] => rfl
  | [_,_,_,_,_,_,_] => rfl
  | [_,_,_,_,_,_,_,_] => rfl
  | _ :: _ :: _ :: _ :: _ :: _ :: _ :: _ :: _ :: _ :: _ => rfl
 ·by_cases h3 : k = 3
  ·subst h3
   match F with
   | [g,c,w,n,p,r,m] => rfl
   | [] => rfl
   | [_] => rfl
   | [_,_] => rfl
   | [_,_,_] => rfl
   | [_,_,_,_] => rfl
   | [_,_,_,_,_] => rfl
   | [_,_,_,_,_,_] => rfl
   | _ :: _ :: _ :: _ :: _ :: _ :: _ :: _ :: _ => rfl
  ·rw [lnk_other q' a (k,F) ⟨h1,h3⟩]
def relink (M : Hp) (q : Qs) : Hp := fun a => (M a).map (lnk q a)
def updQ (q : Qs) (c : Int) (d : Bool) (l : List Int) : Qs := fun c' d' => if c' = c ∧ d' = d then l else q c' d'
theorem updQ_same (q : Qs) (c : Int) (d : Bool) (l : List Int) : updQ q c d l c d = l := if_pos ⟨rfl,rfl⟩
theorem updQ_ne {q : Qs} {c c' : Int} {d d' : Bool} {l : List Int} (h : ¬ (c' = c ∧ d' = d)) : updQ q c d l c' d' = q c' d' := if_neg h
theorem relink_relink (M : Hp) (q q' : Qs) : relink (relink M q) q' = relink M q' := by
 funext a
 unfold relink
 cases M a with
 | none => rfl
 | some v => simp [lnk_lnk]
theorem relink_upd (M : Hp) (q : Qs) (a : Int) (v : Int × List Int) : relink (upd M a v) q = upd (relink M q) a (lnk q a v) := by
 funext b
 unfold relink upd
 by_cases h : b = a
 ·rw [if_pos h,if_pos h,h]; rfl
 ·rw [if_neg h,if_neg h]
structure Sys (M : Hp) (q : Qs) : Prop where
 ch : ∀ c d s,s ∈ q c d → ∃ F,M c = some (1,F)
 sg : ∀ c d s,s ∈ q c d → ∃ g w n p r m,M s = some (3,[g,c,w,n,p,r,m])
 nd : ∀ c d,(q c d).Nodup
 dj : ∀ c s,s ∈ q c false → s ∉ q c true
 ln : relink M q = M
 sc : ∀ a F,M a = some (1,F) → F.length = 9
 ss : ∀ a F,M a = some (3,F) → F.length = 7
theorem Sys.lnk {M : Hp} {q : Qs} (h : Sys M q) {a : Int} {v : Int × List Int} (hv : M a = some v) : lnk q a v = v := by
 have := congrFun h.ln a
 unfold relink at this
 rw [hv] at this
 exact Option.some.inj this
theorem Sys.new {M : Hp} (h1 : ∀ a F,M a = some (1,F) → ∃ a0 a1 a2 a3 a4,F = [a0,a1,a2,a3,a4,-1,-1,-1,-1]) (h3 : ∀ a F,M a = some (3,F) → ∃ g c w p r m,F = [g,c,w,-1,p,r,m]) : Sys M (fun _ _ => []) := by
 refine ⟨fun c d s hs => (by cases hs),fun c d s hs => (by cases hs),fun c d => List.nodup_nil,fun c s hs => (by cases hs),?_,fun a F e => (by obtain ⟨a0,a1,a2,a3,a4,q⟩ := h1 a F e; rw [q]; rfl),fun a F e => (by obtain ⟨g,c,w,p,r,m,q⟩ := h3 a F e; rw [q]; rfl)⟩
 funext a
 unfold relink
 cases hv : M a with
 | none => rfl
 | some v =>
  obtain ⟨k,F⟩ := v
  show some _ = some _
  congr 1
  by_cases e1 : k = 1
  ·subst e1
   obtain ⟨a0,a1,a2,a3,a4,rfl⟩ := h1 a F hv
   rfl
  ·by_cases e3 : k = 3
   ·subst e3
    obtain ⟨g,c,w,p,r,m,rfl⟩ := h3 a F hv
    rfl
   ·exact lnk_other _ _ _ ⟨e1,e3⟩
theorem sucL_get : ∀ {l : List Int} (i : Nat) (x : Int),l.Nodup → l[i]? = some x → sucL l x = (l[i + 1]?).getD (-1)
 | [],i,x,_,h => by simp at h
 | [a],0,x,_,h => rfl
 | [a],i + 1,x,_,h => by simp at h
 | a :: b :: l,0,x,_,h => by
  simp at h
  subst h
  simp [sucL]
 | a :: b :: l,i + 1,x,hn,h => by
  have hx : x ∈ b :: l := List.mem_of_getElem? (by simpa using h)
  have hne : x ≠ a := fun e => by
   subst e
   exact (List.nodup_cons.1 hn).1 hx
  show (if x = a then b else sucL (b :: l) x) = _
  rw [if_neg hne,sucL_get i x (List.nodup_cons.1 hn).2 (by simpa using h)]
  simp
theorem sucL_not : ∀ {l : List Int} {x : Int},x ∉ l → sucL l x = -1
 | [],_,_ => rfl
 | [a],_,_ => rfl
 | a :: b :: l,x,h => by
  show (if x = a then b else sucL (b :: l) x) = _
  rw [if_neg (fun e : x = a => h (by rw [e]; exact List.mem_cons_self)),sucL_not (fun q => h (List.mem_cons_of_mem _ q))]
theorem sucL_app : ∀ {l : List Int} {s x : Int},x ∈ l → x ≠ ltQ l → sucL (l ++ [s]) x = sucL l x
 | [],_,_,h,_ => by cases h
 | [a],s,x,h,hn => by
  simp at h
  subst h
  exact absurd rfl hn
 | a :: b :: l,s,x,h,hn => by
  show (if x = a then b else sucL (b :: l ++ [s]) x) = (if x = a then b else sucL (b :: l) x)
  split
  ·rfl
  ·rename_i e
   refine sucL_app ?_ ?_
   ·rcases List.mem_cons.1 h with q | q
    ·exact absurd q e
    ·exact q
   ·intro q
    apply hn
    rw [q]
    unfold ltQ
    simp [List.getLast?_cons_cons]
theorem sucL_app_last : ∀ {l : List Int} {s x : Int},l.Nodup → l.getLast? = some x → sucL (l ++ [s]) x = s
 | [],_,_,_,h => by simp at h
 | [a],s,x,_,h => by
  simp at h
  subst h
  show (if a = a then s else _) = s
  rw [if_pos rfl]
 | a :: b :: l,s,x,hn,h => by
  rw [List.getLast?_cons_cons] at h
  have hx : x ∈ b :: l := List.mem_of_getLast? h
  have hne : x ≠ a := fun e => by
   subst e
   exact (List.nodup_cons.1 hn).1 hx
  show (if x = a then b else sucL (b :: l ++ [s]) x) = s
  rw [if_neg hne]
  exact sucL_app_last (List.nodup_cons.1 hn).2 h
theorem sucL_last : ∀ {l : List Int} {x : Int},l.Nodup → l.getLast? = some x → sucL l x = -1
 | [],_,_,h => by simp at h
 | [a],_,_,_ => rfl
 | a :: b :: l,x,hn,h => by
  rw [List.getLast?_cons_cons] at h
  have hx : x ∈ b :: l := List.mem_of_getLast? h
  have hne : x ≠ a := fun e => by
   subst e
   exact (List.nodup_cons.1 hn).1 hx
  show (if x = a then b else sucL (b :: l) x) = -1
  rw [if_neg hne]
  exact sucL_last (List.nodup_cons.1 hn).2 h
theorem sucL_tail {a : Int} : ∀ {l : List Int} {x : Int},x ≠ a → sucL (a :: l) x = sucL l x
 | [],_,_ => rfl
 | b :: l,x,h => by
  show (if x = a then b else sucL (b :: l) x) = _
  rw [if_neg h]
theorem sucL_mid : ∀ {A B : List Int} {p s x : Int},(A ++ p :: s :: B).Nodup → x ≠ s → sucL (A ++ p :: B) x = if x = p then hdQ B else sucL (A ++ p :: s :: B) x
 | [],[],p,s,x,hn,hx => by
  show (-1 : Int) = if x = p then hdQ [] else (if x = p then s else sucL [s] x)
  split <;> rfl
 | [],b :: B,p,s,x,hn,hx => by
  show (if x = p then b else sucL (b :: B) x) = if x = p then hdQ (b :: B) else (if x = p then s else (if x = s then b else sucL (b :: B) x))
  split
  ·rfl
  ·first | rfl | rw [if_neg hx]
 | [a],B,p,s,x,hn,hx => by
  show (if x = a then p else sucL (p :: B) x) = if x = p then hdQ B else (if x = a then p else sucL (p :: s :: B) x)
  have hap : a ≠ p := fun e => by
   subst e; exact (List.nodup_cons.1 hn).1 (List.mem_cons_self)
  have := sucL_mid (A := []) (B := B) (p := p) (s := s) (x := x) (List.nodup_cons.1 hn).2 hx
  simp only [List.nil_append] at this
  split
  ·rename_i e
   subst e
   rw [if_neg hap]
  ·exact this
 | a :: a' :: A,B,p,s,x,hn,hx => by
  show (if x = a then a' else sucL (a' :: A ++ p :: B) x) = if x = p then hdQ B else (if x = a then a' else sucL (a' :: A ++ p :: s :: B) x)
  have hap : a ≠ p := fun e => by
   subst e; exact (List.nodup_cons.1 hn).1 (by simp)
  have := sucL_mid (A := a' :: A) (B := B) (p := p) (s := s) (x := x) (List.nodup_cons.1 hn).2 hx
  split
  ·rename_i e
   subst e
   rw [if_neg hap]
  ·exact this
theorem hdQ_app {l : List Int} {s : Int} : hdQ (l ++ [s]) = if l = [] then s else hdQ l := by
 cases l with
 | nil => rfl
 | cons a l => rfl
theorem ltQ_app {l : List Int} {s : Int} : ltQ (l ++ [s]) = s := by unfold ltQ; simp
theorem ltQ_tail {a : Int} {t : List Int} : ltQ t = if t = [] then -1 else ltQ (a :: t) := by
 cases t with
 | nil => rfl
 | cons b t => rw [if_neg (by simp)]; unfold ltQ; rw [List.getLast?_cons_cons]
theorem ltQ_mem {l : List Int} (h : l ≠ []) : ltQ l ∈ l := by
 unfold ltQ
 cases hq : l.getLast? with
 | none => rw [List.getLast?_eq_none_iff] at hq; exact absurd hq h
 | some x => exact List.mem_of_getLast? hq
theorem Sys.nxt {M : Hp} {q : Qs} (h : Sys M q) {c s : Int} {d : Bool} (hs : s ∈ q c d) : nxtQ q c s = sucL (q c d) s := by
 unfold nxtQ
 cases d with
 | false => rw [if_pos hs]
 | true => rw [if_neg (fun k => h.dj c s k hs)]
theorem nxtQ_not {q : Qs} {c s : Int} (h : ∀ d,s ∉ q c d) : nxtQ q c s = -1 := by
 unfold nxtQ
 rw [if_neg (h false),sucL_not (h true)]
theorem relink_get {M : Hp} {q : Qs} {a : Int} {v : Int × List Int} (h : M a = some v) : relink M q a = some (lnk q a v) := by unfold relink; rw [h]; rfl
theorem relink_fix {M : Hp} {q q' : Qs} (h : Sys M q) {a : Int} (hc : ∀ v,M a = some v → Go.Proofs.YtmckfhnijeiklaaGreatDoor.lnk q' a v = Go.Proofs.YtmckfhnijeiklaaGreatDoor.lnk q a v) : relink M q' a = M a := by
 unfold relink
 cases hv : M a with
 | none => rfl
 | some v => show some _ = some _; rw [hc v hv,h.lnk hv]
theorem Sys.relink {M : Hp} {q q' : Qs} (h : Sys M q) (hs : ∀ c d s,s ∈ q' c d → (∃ F,M c = some (1,F)) ∧ ∃ g w n p r m,M s = some (3,[g,c,w,n,p,r,m])) (hn : ∀ c d,(q' c d).Nodup) (hd : ∀ c s,s ∈ q' c false → s ∉ q' c true) : Sys (relink M q') q' := by
 have hlen : ∀ a k F,Go.Proofs.YtmckfhnijeiklaaGreatDoor.relink M q' a = some (k,F) → ∃ G,M a = some (k,G) ∧ F.length = G.length := fun a k F e => by
  unfold Go.Proofs.YtmckfhnijeiklaaGreatDoor.relink at e
  cases hv : M a with
  | none => rw [hv] at e; cases e
  | some v =>
   rw [hv] at e
   have e : Go.Proofs.YtmckfhnijeiklaaGreatDoor.lnk q' a v = (k,F) := Option.some.inj e
   obtain ⟨k0,G⟩ := v
   obtain ⟨l1,l2⟩ := lnk_len q' a k0 G
   rw [e] at l1 l2
   have l1 : k = k0 := l1
   exact ⟨G,by rw [l1],l2⟩
 refine ⟨fun c d s k => ?_,fun c d s k => ?_,hn,hd,relink_relink M q' q',fun a F e => ?_,fun a F e => ?_⟩
 ·obtain ⟨⟨F,hF⟩,_⟩ := hs c d s k
  refine ⟨(Go.Proofs.YtmckfhnijeiklaaGreatDoor.lnk q' c (1,F)).2,?_⟩
  rw [relink_get hF]
  congr 1
  unfold Go.Proofs.YtmckfhnijeiklaaGreatDoor.lnk
  rw [if_pos rfl]
  split <;> rfl
 ·obtain ⟨_,g,w,n,p,r,m,hF⟩ := hs c d s k
  exact ⟨g,w,_,p,r,m,by rw [relink_get hF,lnk_sudog]⟩
 ·obtain ⟨G,h1,h2⟩ := hlen a 1 F e; rw [h2]; exact h.sc a G h1
 ·obtain ⟨G,h1,h2⟩ := hlen a 3 F e; rw [h2]; exact h.ss a G h1
theorem Sys.updv {M : Hp} {q : Qs} {a : Int} {v : Int × List Int} (h : Sys M q) (hv : Go.Proofs.YtmckfhnijeiklaaGreatDoor.lnk q a v = v) (hk : ∀ F,M a = some (1,F) → v.1 = 1) (hs : ∀ c d,a ∈ q c d → ∃ g w n p r m,v = (3,[g,c,w,n,p,r,m])) (hl : (v.1 = 1 → v.2.length = 9) ∧ (v.1 = 3 → v.2.length = 7)) : Sys (upd M a v) q := by
 refine ⟨fun c d s k => ?_,fun c d s k => ?_,h.nd,h.dj,?_,fun b F e => ?_,fun b F e => ?_⟩
 ·obtain ⟨F,hF⟩ := h.ch c d s k
  by_cases e : c = a
  ·subst e
   exact ⟨v.2,by rw [upd_same,← hk F hF]⟩
  ·exact ⟨F,by rw [upd_ne e]; exact hF⟩
 ·by_cases e : s = a
  ·subst e
   obtain ⟨g,w,n,p,r,m,hv2⟩ := hs c d k
   exact ⟨g,w,n,p,r,m,by rw [upd_same,hv2]⟩
  ·rw [upd_ne e]; exact h.sg c d s k
 ·rw [relink_upd,h.ln,hv]
 ·by_cases q : b = a
  ·subst q; rw [upd_same] at e; cases e; exact hl.1 rfl
  ·rw [upd_ne q] at e; exact h.sc b F e
 ·by_cases q : b = a
  ·subst q; rw [upd_same] at e; cases e; exact hl.2 rfl
  ·rw [upd_ne q] at e; exact h.ss b F e
theorem Sys.fresh {M : Hp} {q : Qs} {a k : Int} {n : Nat} (h : Sys M q) (hM : M a = none) : Sys (upd M a (k,zerK k n)) q := by
 have hna : ∀ c d,a ∉ q c d := fun c d hs => by obtain ⟨g,w,n,p,r,m,e⟩ := h.sg c d a hs; rw [hM] at e; cases e
 have hqa : ∀ d,q a d = [] := fun d => by
  cases hq : q a d with
  | nil => rfl
  | cons x l => obtain ⟨F,e⟩ := h.ch a d x (by rw [hq]; exact List.mem_cons_self); rw [hM] at e; cases e
 refine h.updv ?_ (fun F e => by rw [hM] at e; cases e) (fun c d e => absurd e (hna c d)) ⟨fun e => by have e : k = 1 := e; subst e; rfl,fun e => by have e : k = 3 := e; subst e; rfl⟩
 by_cases e1 : k = 1
 ·subst e1
  show Go.Proofs.YtmckfhnijeiklaaGreatDoor.lnk q a (1,[0,0,0,0,-1,-1,-1,-1,-1]) = _
  rw [lnk_chan,hqa,hqa]; rfl
 ·by_cases e3 : k = 3
  ·subst e3
   show Go.Proofs.YtmckfhnijeiklaaGreatDoor.lnk q a (3,[-1,-1,0,-1,0,0,-1]) = _
   rw [lnk_sudog,nxtQ_not (fun d => hna _ d)]; rfl
  ·exact lnk_other _ _ _ ⟨e1,e3⟩
theorem Sys.none {M : Hp} {q : Qs} {a : Int} (h : Sys M q) (hM : ∀ F,M a ≠ some (1,F)) (d : Bool) : q a d = [] := by
 cases hq : q a d with
 | nil => rfl
 | cons x l => obtain ⟨F,e⟩ := h.ch a d x (by rw [hq]; exact List.mem_cons_self); exact absurd e (hM F)
end Go.Proofs.YtmckfhnijeiklaaGreatDoor
namespace Go.Proofs.YtmckfhnijeiklaaGreatDoor
open Go Go.LX
set_option maxRecDepth 100000
set_option linter.unusedVariables false
set_option linter.unusedSimpArgs false
set_option maxHeartbeats 32000000
theorem lnk_congr {q q' : Qs} {a : Int} {v : Int × List Int} (h1 : v.1 = 1 → ∀ d,q' a d = q a d) (h3 : ∀ g c w n p r m,v = (3,[g,c,w,n,p,r,m]) → nxtQ q' c a = nxtQ q c a) : lnk q' a v = lnk q a v := by
 obtain ⟨k,F⟩ := v
 by_cases e1 : k = 1
 ·subst e1
  have hf := h1 rfl false; have ht := h1 rfl true
  unfold lnk
  rw [if_pos rfl,if_pos rfl]
  simp only [hf,ht]
 ·by_cases e3 : k = 3
  ·subst e3
   match F with
   | [g,c,w,n,p,r,m] => rw [lnk_sudog,lnk_sudog,h3 g c w n p r m rfl]
   | [] => rfl
   | [_] => rfl
   | [_,_] => rfl
   | [_,_,_] => rfl
   | [_,_,_,_] => rfl
   | [_,_,_,_,_] => rfl
   | [_,_,_,_,_,_] => rfl
   | _ :: _ :: _ :: _ :: _ :: _ :: _ :: _ :: _ => rfl
  ·rw [lnk_other _ _ _ ⟨e1,e3⟩,lnk_other _ _ _ ⟨e1,e3⟩]
theorem nxtQ_upd {q : Qs} {c a : Int} {d : Bool} {l : List Int} (hm : a ∈ l ↔ a ∈ q c d) (hs : sucL l a = sucL (q c d) a) : nxtQ (updQ q c d l) c a = nxtQ q c a := by
 unfold nxtQ
 cases d with
 | false =>
  rw [updQ_same,updQ_ne (c' := c) (d' := true) (fun h => by cases h.2),hs]
  by_cases h : a ∈ l
  ·rw [if_pos h,if_pos (hm.1 h)]
  ·rw [if_neg h,if_neg (fun k => h (hm.2 k))]
 | true => rw [updQ_same,updQ_ne (c' := c) (d' := false) (fun h => by cases h.2),hs]
theorem nxtQ_updne {q : Qs} {c c' a : Int} {d : Bool} {l : List Int} (h : c' ≠ c) : nxtQ (updQ q c d l) c' a = nxtQ q c' a := by
 unfold nxtQ
 rw [updQ_ne (fun k => h k.1),updQ_ne (fun k => h k.1)]
def endF (d : Bool) (h t t0 t1 s0 s1 : Int) : List Int := if d then [t0,t1,h,t] else [h,t,s0,s1]
theorem lnk_ends {q : Qs} {c a0 a1 a2 a3 a4 t0 t1 s0 s1 : Int} {d : Bool} {l : List Int} (h : lnk q c (1,[a0,a1,a2,a3,a4,t0,t1,s0,s1]) = (1,[a0,a1,a2,a3,a4,t0,t1,s0,s1])) : lnk (updQ q c d l) c (1,[a0,a1,a2,a3,a4,t0,t1,s0,s1]) = (1,[a0,a1,a2,a3,a4] ++ endF d (hdQ l) (ltQ l) t0 t1 s0 s1) := by
 rw [lnk_chan] at h ⊢
 simp only [Prod.mk.injEq,List.cons.injEq,true_and,and_true] at h
 obtain ⟨h1,h2,h3,h4⟩ := h
 cases d with
 | false => rw [updQ_same,updQ_ne (c' := c) (d' := true) (fun k => by cases k.2),h3,h4]; rfl
 | true => rw [updQ_same,updQ_ne (c' := c) (d' := false) (fun k => by cases k.2),h1,h2]; rfl
theorem fix_else {M : Hp} {q : Qs} (h : Sys M q) {c a : Int} {d : Bool} {l : List Int} (hc : a ≠ c) (hm : a ∈ l ↔ a ∈ q c d) (hs : sucL l a = sucL (q c d) a) : relink M (updQ q c d l) a = M a :=
 relink_fix h fun v hv => lnk_congr (fun h1 d' => updQ_ne fun k => hc k.1) fun g c' w n p r m e => by
  by_cases hcc : c' = c
  ·subst hcc; exact nxtQ_upd hm hs
  ·exact nxtQ_updne hcc
theorem Sys.chan_ne {M : Hp} {c s a0 : Int} {F G : List Int} (hc : M c = some (1,F)) (hs : M s = some (3,G)) : s ≠ c := fun e => by
 rw [e,hc] at hs; cases hs
theorem Sys.push {M : Hp} {q : Qs} (h : Sys M q) {c s a0 a1 a2 a3 a4 t0 t1 s0 s1 g w n p r m : Int} {d : Bool} (hc : M c = some (1,[a0,a1,a2,a3,a4,t0,t1,s0,s1])) (hs : M s = some (3,[g,c,w,n,p,r,m])) (hn : ∀ d,s ∉ q c d) :
  Sys (Go.Proofs.YtmckfhnijeiklaaGreatDoor.relink M (updQ q c d (q c d ++ [s]))) (updQ q c d (q c d ++ [s])) ∧
  (q c d = [] → Go.Proofs.YtmckfhnijeiklaaGreatDoor.relink M (updQ q c d (q c d ++ [s])) = upd (upd M c (1,[a0,a1,a2,a3,a4] ++ endF d s s t0 t1 s0 s1)) s (3,[g,c,w,-1,p,r,m])) ∧
  (q c d ≠ [] → ∃ gx wx nx px rx mx,M (ltQ (q c d)) = some (3,[gx,c,wx,nx,px,rx,mx]) ∧ ltQ (q c d) ≠ s ∧ Go.Proofs.YtmckfhnijeiklaaGreatDoor.relink M (updQ q c d (q c d ++ [s])) = upd (upd (upd M (ltQ (q c d)) (3,[gx,c,wx,s,px,rx,mx])) c (1,[a0,a1,a2,a3,a4] ++ endF d (if d then s0 else t0) s t0 t1 s0 s1)) s (3,[g,c,w,-1,p,r,m])) := by
 have hsc : s ≠ c := Sys.chan_ne (a0 := 0) hc hs
 have hnd := h.nd c d
 have hnd' : (q c d ++ [s]).Nodup := by
  rw [List.nodup_append]
  exact ⟨hnd,by simp,fun a ha b hb => by simp at hb; subst hb; exact fun e => hn d (e ▸ ha)⟩
 have hlc := h.lnk hc
 refine ⟨?_,fun he => ?_,fun he => ?_⟩
 ·refine h.relink (fun c' d' s' hs' => ?_) (fun c' d' => ?_) (fun c' s' h1 h2 => ?_)
  ·by_cases e : c' = c ∧ d' = d
   ·obtain ⟨rfl,rfl⟩ := e
    rw [updQ_same] at hs'
    rcases List.mem_append.1 hs' with k | k
    ·exact ⟨h.ch _ _ _ k,h.sg _ _ _ k⟩
    ·rw [List.mem_singleton.1 k]
     exact ⟨⟨_,hc⟩,g,w,n,p,r,m,hs⟩
   ·rw [updQ_ne e] at hs'
    exact ⟨h.ch _ _ _ hs',h.sg _ _ _ hs'⟩
  ·by_cases e : c' = c ∧ d' = d
   ·obtain ⟨rfl,rfl⟩ := e; rw [updQ_same]; exact hnd'
   ·rw [updQ_ne e]; exact h.nd _ _
  ·by_cases ec : c' = c
   ·subst ec
    cases d with
    | false =>
     rw [updQ_same] at h1
     rw [updQ_ne (fun k => by cases k.2)] at h2
     rcases List.mem_append.1 h1 with k | k
     ·exact h.dj _ _ k h2
     ·rw [List.mem_singleton.1 k] at h2; exact hn true h2
    | true =>
     rw [updQ_same] at h2
     rw [updQ_ne (fun k => by cases k.2)] at h1
     rcases List.mem_append.1 h2 with k | k
     ·exact h.dj _ _ h1 k
     ·rw [List.mem_singleton.1 k] at h1; exact hn false h1
   ·rw [updQ_ne (fun k => ec k.1)] at h1 h2
    exact h.dj _ _ h1 h2
 ·funext a
  by_cases e1 : a = s
  ·subst e1
   rw [upd_same,relink_get hs,lnk_sudog]
   have : nxtQ (updQ q c d (q c d ++ [a])) c a = -1 := by
    unfold nxtQ
    rw [he]
    cases d with
    | false => rw [updQ_same,if_pos (by simp)]; rfl
    | true => rw [updQ_same,updQ_ne (fun k => by cases k.2),if_neg (hn false)]; rfl
   rw [this]
  ·rw [upd_ne e1]
   by_cases e2 : a = c
   ·subst e2
    rw [upd_same,relink_get hc,lnk_ends hlc,he]
    rfl
   ·rw [upd_ne e2]
    exact fix_else h e2 (by rw [he]; simp [e1]) (by rw [he]; rfl)
 ·obtain ⟨x,hx⟩ : ∃ x,x = ltQ (q c d) := ⟨_,rfl⟩
  have hxm : x ∈ q c d := hx ▸ ltQ_mem he
  have hxl : (q c d).getLast? = some x := by
   rw [hx]; unfold ltQ
   cases hq : (q c d).getLast? with
   | none => rw [List.getLast?_eq_none_iff] at hq; exact absurd hq he
   | some y => rfl
  obtain ⟨gx,wx,nx,px,rx,mx,hMx⟩ := h.sg c d x hxm
  have hxs : x ≠ s := fun e => hn d (e ▸ hxm)
  have hxc : x ≠ c := Sys.chan_ne (a0 := 0) hc hMx
  rw [← hx]
  refine ⟨gx,wx,nx,px,rx,mx,hMx,hxs,?_⟩
  funext a
  by_cases e1 : a = s
  ·subst e1
   rw [upd_same,relink_get hs,lnk_sudog]
   have : nxtQ (updQ q c d (q c d ++ [a])) c a = -1 := by
    unfold nxtQ
    have hl : (q c d ++ [a]).getLast? = some a := by simp
    cases d with
    | false => rw [updQ_same,if_pos (by simp)]; exact sucL_last hnd' hl
    | true => rw [updQ_same,updQ_ne (fun k => by cases k.2),if_neg (hn false)]; exact sucL_last hnd' hl
   rw [this]
  ·rw [upd_ne e1]
   by_cases e2 : a = c
   ·subst e2
    rw [upd_same,relink_get hc,lnk_ends hlc,hdQ_app,if_neg he,ltQ_app]
    rw [lnk_chan] at hlc
    simp only [Prod.mk.injEq,List.cons.injEq,true_and,and_true] at hlc
    obtain ⟨h1,h2,h3,h4⟩ := hlc
    cases d with
    | false => rw [h1]; rfl
    | true => rw [h3]; rfl
   ·rw [upd_ne e2]
    by_cases e3 : a = x
    ·subst e3
     rw [upd_same,relink_get hMx,lnk_sudog]
     have : nxtQ (updQ q c d (q c d ++ [s])) c a = s := by
      unfold nxtQ
      cases d with
      | false => rw [updQ_same,if_pos (List.mem_append_left _ hxm)]; exact sucL_app_last hnd hxl
      | true => rw [updQ_same,updQ_ne (fun k => by cases k.2),if_neg (fun k => h.dj _ _ k hxm)]; exact sucL_app_last hnd hxl
     rw [this]
    ·rw [upd_ne e3]
     refine fix_else h e2 (by simp [e1]) ?_
     by_cases em : a ∈ q c d
     ·exact sucL_app em (hx ▸ e3)
     ·rw [sucL_not em,sucL_not (by simp [em,e1])]
theorem Sys.take {M : Hp} {q : Qs} (h : Sys M q) {c s : Int} {d : Bool} {A B : List Int} (hq : q c d = A ++ s :: B) : Sys (Go.Proofs.YtmckfhnijeiklaaGreatDoor.relink M (updQ q c d (A ++ B))) (updQ q c d (A ++ B)) := by
 have hnd := h.nd c d
 rw [hq] at hnd
 have hsub : ∀ x,x ∈ A ++ B → x ∈ q c d := fun x hx => by rw [hq]; rcases List.mem_append.1 hx with k | k <;> simp [k]
 refine h.relink (fun c' d' s' hs' => ?_) (fun c' d' => ?_) (fun c' s' h1 h2 => ?_)
 ·by_cases e : c' = c ∧ d' = d
  ·obtain ⟨rfl,rfl⟩ := e
   rw [updQ_same] at hs'
   exact ⟨h.ch _ _ _ (hsub _ hs'),h.sg _ _ _ (hsub _ hs')⟩
  ·rw [updQ_ne e] at hs'
   exact ⟨h.ch _ _ _ hs',h.sg _ _ _ hs'⟩
 ·by_cases e : c' = c ∧ d' = d
  ·obtain ⟨rfl,rfl⟩ := e; rw [updQ_same]
   exact (List.Sublist.append_left (List.sublist_cons_self s B) A).nodup hnd
  ·rw [updQ_ne e]; exact h.nd _ _
 ·by_cases ec : c' = c
  ·subst ec
   cases d with
   | false =>
    rw [updQ_same] at h1
    rw [updQ_ne (fun k => by cases k.2)] at h2
    exact h.dj _ _ (hsub _ h1) h2
   | true =>
    rw [updQ_same] at h2
    rw [updQ_ne (fun k => by cases k.2)] at h1
    exact h.dj _ _ h1 (hsub _ h2)
  ·rw [updQ_ne (fun k => ec k.1)] at h1 h2
   exact h.dj _ _ h1 h2
theorem Sys.out {M : Hp} {q : Qs} (h : Sys M q) {c s : Int} {d : Bool} {A B : List Int} (hq : q c d = A ++ s :: B) {d' : Bool} : s ∉ updQ q c d (A ++ B) c d' := by
 have hnd := h.nd c d
 rw [hq] at hnd
 have hsm : s ∈ q c d := by rw [hq]; simp
 by_cases e : d' = d
 ·subst e
  rw [updQ_same]
  intro k
  have := (List.nodup_append.1 hnd)
  rcases List.mem_append.1 k with k | k
  ·exact this.2.2 s k s (by simp) rfl
  ·exact (List.nodup_cons.1 this.2.1).1 k
 ·rw [updQ_ne (fun k => e k.2)]
  intro k
  cases d with
  | false => cases d' with
   | false => exact e rfl
   | true => exact h.dj _ _ hsm k
  | true => cases d' with
   | true => exact e rfl
   | false => exact h.dj _ _ k hsm
theorem Sys.pop {M : Hp} {q : Qs} (h : Sys M q) {c s a0 a1 a2 a3 a4 t0 t1 s0 s1 g w n p r m : Int} {d : Bool} {B : List Int} (hq : q c d = s :: B) (hc : M c = some (1,[a0,a1,a2,a3,a4,t0,t1,s0,s1])) (hs : M s = some (3,[g,c,w,n,p,r,m])) :
  n = hdQ B ∧ Go.Proofs.YtmckfhnijeiklaaGreatDoor.relink M (updQ q c d B) = upd (upd M c (1,[a0,a1,a2,a3,a4] ++ endF d (hdQ B) (ltQ B) t0 t1 s0 s1)) s (3,[g,c,w,-1,p,r,m]) := by
 have hsc : s ≠ c := Sys.chan_ne (a0 := 0) hc hs
 have hnd := h.nd c d
 have hsm : s ∈ q c d := by rw [hq]; simp
 have ho := fun d' => h.out (A := []) (B := B) (s := s) (d := d) (by simpa using hq) (d' := d')
 simp only [List.nil_append] at ho
 have hn : n = hdQ B := by
  have := h.lnk hs
  rw [lnk_sudog,h.nxt hsm,hq] at this
  simp only [Prod.mk.injEq,List.cons.injEq,true_and,and_true] at this
  rw [← this]
  cases B with
  | nil => rfl
  | cons b B => show (if s = s then b else _) = _; rw [if_pos rfl]; rfl
 refine ⟨hn,?_⟩
 funext a
 by_cases e1 : a = s
 ·subst e1
  rw [upd_same,relink_get hs,lnk_sudog,nxtQ_not ho]
 ·rw [upd_ne e1]
  by_cases e2 : a = c
  ·subst e2
   rw [upd_same,relink_get hc,lnk_ends (h.lnk hc)]
  ·rw [upd_ne e2]
   refine fix_else h e2 ?_ ?_
   ·rw [hq]; simp [e1]
   ·rw [hq,sucL_tail e1]
theorem Sys.rem {M : Hp} {q : Qs} (h : Sys M q) {c s x a0 a1 a2 a3 a4 t0 t1 s0 s1 g w n p r m gx wx nx px rx mx : Int} {d : Bool} {A B : List Int} (hq : q c d = A ++ x :: s :: B) (hc : M c = some (1,[a0,a1,a2,a3,a4,t0,t1,s0,s1])) (hs : M s = some (3,[g,c,w,n,p,r,m])) (hx : M x = some (3,[gx,c,wx,nx,px,rx,mx])) :
  n = hdQ B ∧ x ≠ s ∧ Go.Proofs.YtmckfhnijeiklaaGreatDoor.relink M (updQ q c d (A ++ x :: B)) = upd (upd (upd M x (3,[gx,c,wx,hdQ B,px,rx,mx])) c (1,[a0,a1,a2,a3,a4] ++ endF d (if d then s0 else t0) (if B = [] then x else (if d then s1 else t1)) t0 t1 s0 s1)) s (3,[g,c,w,-1,p,r,m]) := by
 have hsc : s ≠ c := Sys.chan_ne (a0 := 0) hc hs
 have hxc : x ≠ c := Sys.chan_ne (a0 := 0) hc hx
 have hnd := h.nd c d
 have hnd' := hnd
 rw [hq] at hnd'
 have hsm : s ∈ q c d := by rw [hq]; simp
 have hxm : x ∈ q c d := by rw [hq]; simp
 have hq' : q c d = (A ++ [x]) ++ s :: B := by rw [hq]; simp
 have ho := fun d' => h.out (A := A ++ [x]) (B := B) (s := s) (d := d) hq' (d' := d')
 simp only [List.append_assoc,List.singleton_append] at ho
 have hi : (q c d)[A.length + 1]? = some s := by rw [hq]; simp
 have hxi : (q c d)[A.length]? = some x := by rw [hq]; simp
 have hn : n = hdQ B := by
  have := h.lnk hs
  rw [lnk_sudog,h.nxt hsm,sucL_get _ _ hnd hi,hq] at this
  simp only [Prod.mk.injEq,List.cons.injEq,true_and,and_true] at this
  rw [← this,List.getElem?_append_right (by omega)]
  cases B with
  | nil => simp [hdQ,show A.length + 1 + 1 - A.length = 2 by omega]
  | cons b B => simp [hdQ,show A.length + 1 + 1 - A.length = 2 by omega]
 have hxs : x ≠ s := fun e => by
  subst e
  have := (List.nodup_append.1 hnd').2.1
  exact (List.nodup_cons.1 this).1 (by simp)
 refine ⟨hn,hxs,?_⟩
 funext a
 by_cases e1 : a = s
 ·subst e1
  rw [upd_same,relink_get hs,lnk_sudog,nxtQ_not ho]
 ·rw [upd_ne e1]
  by_cases e2 : a = c
  ·subst e2
   have hlc := h.lnk hc
   rw [upd_same,relink_get hc,lnk_ends hlc]
   rw [lnk_chan] at hlc
   simp only [Prod.mk.injEq,List.cons.injEq,true_and,and_true] at hlc
   obtain ⟨h1,h2,h3,h4⟩ := hlc
   have hh : hdQ (A ++ x :: B) = hdQ (q a d) := by rw [hq]; cases A <;> rfl
   have ht : ltQ (A ++ x :: B) = if B = [] then x else ltQ (q a d) := by
    rw [hq]
    cases B with
    | nil => rw [if_pos rfl]; unfold ltQ; simp
    | cons b B => rw [if_neg (by simp)]; unfold ltQ; simp
   rw [hh,ht]
   cases d with
   | false => rw [h1,h2]; rfl
   | true => rw [h3,h4]; rfl
  ·rw [upd_ne e2]
   have hmid := fun (y : Int) (hy : y ≠ s) => sucL_mid (A := A) (B := B) (p := x) (s := s) (x := y) hnd' hy
   by_cases e3 : a = x
   ·subst e3
    rw [upd_same,relink_get hx,lnk_sudog]
    have hne : nxtQ (updQ q c d (A ++ a :: B)) c a = hdQ B := by
     unfold nxtQ
     cases d with
     | false => rw [updQ_same,if_pos (by simp),hmid a e1,if_pos rfl]
     | true => rw [updQ_same,updQ_ne (fun k => by cases k.2),if_neg (fun k => h.dj _ _ k hxm),hmid a e1,if_pos rfl]
    rw [hne]
   ·rw [upd_ne e3]
    refine fix_else h e2 ?_ ?_
    ·rw [hq]; simp [e1]
    ·rw [hq,hmid a e1,if_neg e3]
end Go.Proofs.YtmckfhnijeiklaaGreatDoor
namespace Go.LX
open Go
set_option linter.unusedVariables false
set_option maxHeartbeats 32000000
inductive ReadF (P : Unit → Program) (f : Nat) (args : List LV) (bs : List Nat) (h : LH) (n : Nat) (K : LV → Prop) : Prop
 | mk (u : LV) (hq : ∀ h' n',(∀ b ∈ bs,hget h' b = hget h b) → n ≤ n' → CallF P f args h' n' fun r h2 n2 => r = u ∧ h2 = h' ∧ n2 = n') (hk : K u)
section
variable {P : Unit → Program} {T : Unit → TT} {o : Oper} {s : LS}
def rowL (T : Unit → TT) (o : Oper) (s : LS) : Option LV :=
 match o.op with
 | .buildSlice t len parts => match lget (T ()) t with
  | some ti => match ti.kind with
   | .slice e => match lget (T ()) e with
    | some te => match Nat.ble (len * te.size) 10000,Nat.beq (llen (pvs te.zero)) te.size,Nat.ble 1 te.size with
     | true,true,true => match fillL (T ()) ti.kind (reps te.zero len) (evs s parts.toList) with
      | some cs => match allP cs with
       | some ps => some (.p (.vsl (.lit len) false ps))
       | none => none
      | none => none
     | _,_,_ => none
    | none => none
   | _ => none
  | none => none
 | _ => none
def readL (P : Unit → Program) (T : Unit → TT) (all : List Oper) (bs : List Nat) (o : Oper) (s : LS) (L : LS → Prop) : Prop :=
 match yes s all o.guard with
 | some c => match c with
  | true => match o.op with
   | .call c => match c.callee with
    | .value (.func f) => ReadF P f (eva s c.args.toList) bs s.h s.n fun u => L (s.put o.dst u)
    | _ => False
   | .buildSlice _ _ _ => match rowL T o s with
    | some u => L (s.put o.dst u)
    | none => False
   | _ => False
  | false => L (s.put o.dst .nul)
 | none => False
theorem rowL_agree {T : Unit → TT} {o : Oper} {s s' : LS} {ops : Array Oper} (h : ∀ t ∈ o.looksAt ops,tget s'.t t = tget s.t t) : rowL T o s' = rowL T o s := by
 unfold rowL
 split
 ·rename_i t len parts ho
  have hev : evs s' parts.toList = evs s parts.toList := evs_agree _ fun x hx => by
   have hx2 : x.2 ∈ o.op.operands := by
    rw [ho]
    simp only [Op.operands]
    simpa using ⟨x.1,(by simpa using hx)⟩
   cases hx3 : x.2 with
   | tmp t =>
    rw [hx3] at hx2
    refine h t ?_
    simp only [Oper.looksAt,List.mem_append,List.mem_filterMap]
    exact .inl ⟨.tmp t,by simpa using hx2,rfl⟩
   | const v => rfl
   | global g => rfl
   | func f => rfl
  rw [hev]
 ·rfl
theorem Ext.mute {c : Ctx} {w : World} {h : LH} (hr : HR c w h) (o : Obj) : Ext c w c (w.alloc o) := by
 refine ⟨rfl,rfl,rfl,by simp,rfl,Nat.le_refl _,fun b hb => .inl rfl,fun b r hb h => ?_,fun r hr _ => heap_alloc_old w o hr,fun b r hb h => ?_⟩
 ·rw [hr.fresh b hb] at h; cases h
 ·simp only [World.shape?,heap_alloc_old w o (hr.lt b r h)]
theorem row_sound {P : Program} {T : TT} {o : Oper} {s : LS} {u : LV} {c : Ctx} {a : Act} {w : World} {Q : Exit → Act → World → Prop} (hT : TOK P T) (hs : St c s a w) (h : rowL (fun _ => T) o s = some u) : o.wp P a w (Post (fun s1 => s1 = s.put o.dst u) c w) Q := by
 unfold rowL at h
 split at h
 ·rename_i t len parts ho
  split at h
  ·rename_i ti ht
   split at h
   ·rename_i e hk
    split at h
    ·rename_i te hte
     split at h
     ·rename_i hlen hzl h1
      split at h
      ·rename_i cs hf
       split at h
       ·rename_i ps hps
        cases h
        have hlen := Nat.le_of_ble_eq_true hlen
        have h1 := Nat.le_of_ble_eq_true h1
        obtain ⟨z,hz,hzc,hzr⟩ := zero_cells (hT e te hte)
        obtain ⟨hl,hq⟩ := evs_rel hs parts.toList
        obtain ⟨⟨i,z',d,hi,hsz,_,hz',_,hu,hkd,_⟩,_⟩ := hT t ti ht
        rw [hk] at hkd hf
        cases d <;> try exact hkd.elim
        rename_i e'
        have hkd : e = e' := hkd
        subst hkd
        have hse := tok_size (w := w) (hT e te hte)
        have hzs : z.cells.size = te.size := by
         have h2 := Nat.eq_of_beq_eq_true hzl
         rw [llen_eq,pvs_length] at h2
         have : z.cells.toList.length = te.zero.length := by rw [hzc,List.length_map]
         rw [Array.length_toList] at this; omega
        have hpl2 : ∀ i off sz,place T (.slice e) i = some (off,sz) → (fun i => some (i * te.size,te.size)) i = some (off,sz) := by
         intro i off sz hp
         simp only [place,hte] at hp
         exact hp
        have hrel0 := reps_rel c w (hzr c w) (by omega) len
        rw [hzs] at hrel0
        obtain ⟨arr',h3,h4,h5⟩ := fill_sound (c := c) (w := w) hpl2 _ _ _ _ hl hq hrel0 hf
        have hlens : arr'.size = len * te.size := by rw [h5]; simp
        have hmap : (parts.map fun (i,x) => (i,a.eval x)).toList = parts.toList.map fun (i,x) => (i,a.eval x) := by simp
        have hrun : (execOp a.eval o).run P w = .ok (.value (.slice (some ⟨w.heap.size,0,none⟩) len len)) (w.alloc (.cells arr' e)) := by
         unfold execOp; rw [ho]
         refine runv ?_
         have hbig : ¬ len * te.size > 2 ^ 24 := by omega
         by_cases h0 : len * te.size = 0
         ·have e0 : (Array.range (len * te.size)).map (fun j => z.cells[j % te.size]!) = (#[] : Array Value) := by rw [h0]; simp
          rw [e0] at h3
          have e1 : (Array.map (fun _ => (default : Value)) (Array.range 0)) = (#[] : Array Value) := by simp
          have hmap2 : (List.map (fun x : Nat × Operand => (x.fst,a.eval x.snd)) parts.toList) = parts.toList.map fun (i,x) => (i,a.eval x) := rfl
          simp [Instr.buildSlice,run_underlying hu,hse,h0,newRow]
          rw [e1,hmap2,h3]
          simp
         ·simp only at h3
          simp [Instr.buildSlice,run_underlying hu,hse,hbig,h0,hz,hzs,h3,newRow]
        have he := Ext.mute hs.hr (.cells arr' e)
        have hr' : HR c (w.alloc (.cells arr' e)) s.h := hs.hr.step he (.inl rfl) hs.hr.fresh (fun b => .inl rfl) (fun b B hb => .inl ⟨hb,rfl,fun r hm => heap_alloc_old w _ (hs.hr.lt b r hm)⟩)
        have hs1 : St c s a (w.alloc (.cells arr' e)) := ⟨hs.tl,fun i u hu => (hs.tr i u hu).ext hs.hr.fresh he,hs.df,hr',hs.nn⟩
        have hps := allP_eq _ hps
        subst hps
        have hcell : ∀ (j : Nat) (u : PV),ps[j]? = some u → ∃ x,arr'.toList[j]? = some x ∧ PR c.mut w u x := by
         intro j u hj
         obtain ⟨x,hx,hxr⟩ := h4.2 j (.p u) (by rw [pvs_get,hj]; rfl)
         cases hxr with
         | p _ _ hxr => exact ⟨x,hx,hxr⟩
        have hnew : LR c (w.alloc (.cells arr' e)) (.p (.vsl (.lit len) false ps)) (.slice (some ⟨w.heap.size,0,none⟩) len len) := by
         refine .p _ _ (.vsl _ _ _ _ len len (fun j => arr'.toList.getD j Go.undef) rfl rfl ?_ ?_ (Nat.le_refl _) ?_ ?_ ?_)
         ·rintro (hx | ⟨b,hb⟩)
          ·exact Nat.lt_irrefl _ (hs.hr.ltX _ hx)
          ·exact Nat.lt_irrefl _ (hs.hr.lt _ _ hb)
         ·simp
         ·unfold maxLen
          have : len ≤ len * te.size := Nat.le_mul_of_pos_right _ h1
          omega
         ·intro j u hj
          obtain ⟨x,hx,_⟩ := hcell j u hj
          have hx2 : arr'[j]? = some x := by simpa using hx
          have hg2 : (w.alloc (.cells arr' e)).heap[w.heap.size]? = some (.cells arr' e (0,0)) := by rw [heap_alloc_new]
          rw [add_lit]
          simp only [World.cell?,hg2]
          rw [List.getD_eq_getElem?_getD,hx]
          simpa using hx2
         ·intro j u hj
          obtain ⟨x,hx,hxr⟩ := hcell j u hj
          rw [List.getD_eq_getElem?_getD,hx]
          exact hxr.ext hs.hr.fresh he
        unfold Oper.wp
        rw [hrun,Oper.upon_value]
        exact ⟨c,_,rfl,hs1.put hnew _,he⟩
       ·cases h
      ·cases h
     ·cases h
    ·cases h
   ·cases h
  ·cases h
 ·cases h
def rdsR (ops : Array Oper) (bs : List Nat) (p : Nat) (s : LS) : List Nat := match isA (opAt ops p) with
 | true => rds (opAt ops p) s
 | false => bs
def AgreeR (ops : Array Oper) (bs : List Nat) (p : Nat) (s s' : LS) : Prop := (∀ b ∈ rdsR ops bs p s,hget s'.h b = hget s.h b) ∧ (∀ t ∈ (opAt ops p).looksAt ops,tget s'.t t = tget s.t t) ∧ s.n ≤ s'.n
theorem rdsR_put {ops : Array Oper} {bs : List Nat} {p : Nat} {d : Option Nat} {u : LV} (hd : ∀ t,d = some t → t ∉ (opAt ops p).looksAt ops) : rdsR ops bs p (s.put d u) = rdsR ops bs p s := by
 unfold rdsR
 cases isA (opAt ops p) with
 | true => exact rds_put hd
 | false => rfl
def keptR (ops : Array Oper) (bs : List Nat) : List Nat → LS → LS → Prop
 | [],s,s1 => Nat.ble s.n s1.n = true
 | p :: fl,s,s1 => keptL (rdsR ops bs p s) s s1 ∧ keptR ops bs fl s s1
theorem keptR_get {ops : Array Oper} {bs : List Nat} : ∀ {fl : List Nat} {s s1 : LS},keptR ops bs fl s s1 → s.n ≤ s1.n ∧ ∀ p ∈ fl,keptL (rdsR ops bs p s) s s1
 | [],_,_,h => ⟨Nat.le_of_ble_eq_true h,fun p hp => by cases hp⟩
 | x :: l,s,s1,h => ⟨(keptR_get h.2).1,fun p hp => by
  rcases List.mem_cons.1 hp with rfl | hp
  ·exact h.1
  ·exact (keptR_get h.2).2 p hp⟩
theorem yes_agree {ops : Array Oper} {s s' : LS} (h : ∀ t ∈ o.looksAt ops,tget s'.t t = tget s.t t) : yes s' ops.toList o.guard = yes s ops.toList o.guard := by
 cases hg : o.guard with
 | none => rfl
 | some p =>
  obtain ⟨j,want⟩ := p
  simp only [yes,onth_eq]
  have hj : ops.toList[j]? = ops[j]? := by simp
  rw [hj]
  cases e : ops[j]? with
  | none => rfl
  | some q =>
   dsimp only
   cases e2 : q.dst with
   | none => rfl
   | some d =>
    dsimp only
    rw [h d (by simp [Oper.looksAt,hg,e,e2])]
def headR (P : Unit → Program) (T : Unit → TT) (ops : Array Oper) (bs : List Nat) (i : Nat) (s : LS) (L : LS → Prop) : Prop :=
 match isA (opAt ops i) with
 | true => stepL P T ops.toList (opAt ops i) s L
 | false => readL P T ops.toList bs (opAt ops i) s L
theorem AgreeR.toS {ops : Array Oper} {bs : List Nat} {i : Nat} {s s' : LS} (hA : isA (opAt ops i) = true) (h : AgreeR ops bs i s s') : AgreeS ops (opAt ops i) s s' := by
 refine ⟨?_,h.2.1⟩
 have := h.1
 unfold rdsR at this
 rw [hA] at this
 exact this
theorem headR_x {ops : Array Oper} {bs : List Nat} {i : Nat} {L : LS → Prop} (h : headR P T ops bs i s L) : ∃ u,L (s.put (opAt ops i).dst u) ∧ (∀ s',AgreeR ops bs i s s' → ∀ L' : LS → Prop,L' (s'.put (opAt ops i).dst u) → headR P T ops bs i s' L') ∧ (∀ s',AgreeR ops bs i s s' → (∀ L' : LS → Prop,L' (s'.put (opAt ops i).dst u) → stepL P T ops.toList (opAt ops i) s' L') ∨ (yes s' ops.toList (opAt ops i).guard = some true ∧ rowL T (opAt ops i) s' = some u)) := by
 unfold headR at h
 split at h
 ·rename_i hA
  obtain ⟨u,h1,h2⟩ := step_x hA h
  refine ⟨u,h1,fun s' ha L' hL => ?_,fun s' ha => .inl (h2 s' (ha.toS hA))⟩
  unfold headR
  rw [hA]
  exact h2 s' (ha.toS hA) L' hL
 ·rename_i hA
  have hbs : ∀ s',AgreeR ops bs i s s' → ∀ b ∈ bs,hget s'.h b = hget s.h b := fun s' ha => by
   have := ha.1
   unfold rdsR at this
   rw [hA] at this
   exact this
  have hlk : ∀ s',AgreeR ops bs i s s' → ∀ t ∈ (opAt ops i).looksAt ops,tget s'.t t = tget s.t t := fun s' ha => ha.2.1
  have hn : ∀ s',AgreeR ops bs i s s' → s.n ≤ s'.n := fun s' ha => ha.2.2
  generalize hoo : opAt ops i = o at *
  unfold readL at h
  split at h
  ·rename_i cb hy
   have hy' : ∀ s',AgreeR ops bs i s s' → yes s' ops.toList o.guard = some cb := fun s' ha => (yes_agree (hlk s' ha)).trans hy
   split at h
   ·split at h
    ·rename_i c ho
     split at h
     ·rename_i f hc
      cases h with
      | mk u hq hk =>
       have hev : ∀ s',AgreeR ops bs i s s' → eva s' c.args.toList = eva s c.args.toList := fun s' ha => eva_agree _ fun x hx => by
        have hx : x ∈ c.args := by simpa using hx
        have hx2 : x ∈ o.op.operands := by rw [ho]; simp [Op.operands,Call.operands,hc,hx]
        cases x with
        | tmp t =>
         refine hlk s' ha t ?_
         simp only [Oper.looksAt,List.mem_append,List.mem_filterMap]
         exact .inl ⟨.tmp t,by simpa using hx2,rfl⟩
        | const v => rfl
        | global g => rfl
        | func f => rfl
       refine ⟨u,hk,fun s' ha L' hL => ?_,fun s' ha => .inl fun L' hL => ?_⟩
       ·unfold headR
        rw [hoo,hA]
        dsimp only
        unfold readL
        rw [hy' s' ha]
        dsimp only
        rw [ho]
        dsimp only
        rw [hc]
        dsimp only
        rw [hev s' ha]
        exact .mk u (fun h' n' hb hn' => hq h' n' (fun b hbm => (hb b hbm).trans (hbs s' ha b hbm)) (Nat.le_trans (hn s' ha) hn')) hL
       ·unfold stepL
        rw [hy' s' ha]
        dsimp only
        unfold lop
        rw [ho]
        dsimp only
        rw [hc]
        dsimp only [ev]
        rw [hev s' ha]
        refine (hq s'.h s'.n (hbs s' ha) (hn s' ha)).mono fun r h' n' ⟨e1,e2,e3⟩ => ?_
        subst e1 e2 e3
        exact hL
     ·exact h.elim
    ·rename_i t0 len0 parts0 ho
     split at h
     ·rename_i u hu
      refine ⟨u,h,fun s' ha L' hL => ?_,fun s' ha => .inr ⟨hy' s' ha,(rowL_agree (hlk s' ha)).trans hu⟩⟩
      unfold headR
      rw [hoo,hA]
      dsimp only
      unfold readL
      rw [hy' s' ha]
      dsimp only
      rw [ho]
      dsimp only
      rw [rowL_agree (hlk s' ha),hu]
      exact hL
     ·exact h.elim
    ·exact h.elim
   ·refine ⟨.nul,h,fun s' ha L' hL => ?_,fun s' ha => .inl fun L' hL => ?_⟩
    ·unfold headR
     rw [hoo,hA]
     dsimp only
     unfold readL
     rw [hy' s' ha]
     exact hL
    ·unfold stepL
     rw [hy' s' ha]
     exact hL
  ·exact h.elim
def lopsR (P : Unit → Program) (T : Unit → TT) (ops : Array Oper) (bs : List Nat) (qs : List Nat) (F : List (Nat × List Nat)) : List Nat → LS → (LS → Prop) → Prop
 | [],s,K => K s
 | i :: l,s,K => match cA ops qs i with
  | true => headR P T ops bs i s fun s1 => lopsR P T ops bs qs F l s1 K
  | false => stepL P T ops.toList (opAt ops i) s fun s1 => keptR ops bs (look F i) s s1 ∧ lopsR P T ops bs qs F l s1 K
def pairR (ops : Array Oper) (qs : List Nat) (F : List (Nat × List Nat)) (p q : Nat) : Bool :=
 p != q && (reach ops ops.size p q || (cA ops qs p && (opAt ops p).apart ops (opAt ops q) && (cA ops qs q || (look F q).contains p))) && (!(F.any fun e => e.2.contains p && e.2.contains q) || match (opAt ops q).dst with
  | some d => !cA ops qs p || !cA ops qs q || !((opAt ops p).looksAt ops).contains d
  | none => true)
def PairR (ops : Array Oper) (qs : List Nat) (F : List (Nat × List Nat)) (p q : Nat) : Prop := p ≠ q ∧ (reach ops ops.size p q = true ∨ (cA ops qs p = true ∧ (opAt ops p).apart ops (opAt ops q) = true ∧ (cA ops qs q = true ∨ p ∈ look F q))) ∧ (∀ i,p ∈ look F i → q ∈ look F i → cA ops qs p = true → cA ops qs q = true → ∀ d,(opAt ops q).dst = some d → d ∉ (opAt ops p).looksAt ops)
theorem pairR_spec {ops : Array Oper} {qs : List Nat} {F : List (Nat × List Nat)} {p q : Nat} (h : pairR ops qs F p q = true) : PairR ops qs F p q := by
 simp only [pairR,Bool.and_eq_true,Bool.or_eq_true,bne_iff_ne,ne_eq] at h
 obtain ⟨⟨h1,h2⟩,h3⟩ := h
 refine ⟨h1,h2.imp id (fun h => ⟨h.1.1,h.1.2,h.2.imp id (fun h => by simpa using h)⟩),fun i hpi hqi hp hq d hd => ?_⟩
 rw [look_any hpi hqi,hd,hp,hq] at h3
 simpa using h3
theorem frontR {ops : Array Oper} {bs : List Nat} {qs : List Nat} {F : List (Nat × List Nat)} {i : Nat} {l2 : List Nat} {K : LS → Prop} (hki : known ops i) :
  ∀ (l1 gh : List Nat) {s : LS},(∀ p ∈ l1,known ops p ∧ (∀ d,(opAt ops p).dst = some d → d ∉ (opAt ops p).looksAt ops)) → (∀ p ∈ l1,PairR ops qs F p i ∧ reach ops ops.size p i = false) → l1.Pairwise (PairR ops qs F) → (∀ p ∈ gh,p ∈ look F i ∧ cA ops qs p = true ∧ ∀ q ∈ l1,PairR ops qs F p q) →
   lopsR P T ops bs qs F (l1 ++ i :: l2) s K → (cA ops qs i = true → headR P T ops bs i s fun s1 => lopsR P T ops bs qs F (l1 ++ l2) s1 K) ∧ (cA ops qs i = false → stepL P T ops.toList (opAt ops i) s fun s1 => (s.n ≤ s1.n ∧ ∀ p ∈ gh,keptL (rdsR ops bs p s) s s1) ∧ lopsR P T ops bs qs F (l1 ++ l2) s1 K)
 | [],gh,s,_,_,_,hgh,h => by
  rw [List.nil_append,lopsR] at h
  split at h
  ·rename_i hA
   exact ⟨fun _ => h,fun e => (by rw [hA] at e; cases e)⟩
  ·rename_i hA
   exact ⟨fun e => (by rw [hA] at e; cases e),fun _ => stepL_m hki h fun s1 h1 => ⟨⟨(keptR_get h1.1).1,fun p hp => (keptR_get h1.1).2 p (hgh p hp).1⟩,h1.2⟩⟩
 | p :: l1,gh,s,hk,hi,hpw,hdn,h => by
  obtain ⟨hkp,hself⟩ := hk p List.mem_cons_self
  obtain ⟨⟨hpi1,hpi2,hpi3⟩,hnr⟩ := hi p List.mem_cons_self
  rw [List.pairwise_cons] at hpw
  obtain ⟨hA,hap,hfl⟩ : cA ops qs p = true ∧ (opAt ops p).apart ops (opAt ops i) = true ∧ (cA ops qs i = true ∨ p ∈ look F i) := by
   rcases hpi2 with e | e
   ·rw [hnr] at e; cases e
   ·exact e
  obtain ⟨a1,a2,a3⟩ := Oper.apart_spec hap
  rw [List.cons_append,lopsR] at h
  rw [hA] at h
  dsimp only at h
  obtain ⟨u,h1,hg,_⟩ := headR_x h
  have next : ∀ {s1 : LS},AgreeR ops bs p s s1 → lopsR P T ops bs qs F (l1 ++ l2) (s1.put (opAt ops p).dst u) K → lopsR P T ops bs qs F (p :: l1 ++ l2) s1 K := by
   intro s1 hag h2
   rw [List.cons_append,lopsR,hA]
   exact hg s1 hag _ h2
  have hkl : ∀ q ∈ l1,known ops q ∧ (∀ d,(opAt ops q).dst = some d → d ∉ (opAt ops q).looksAt ops) := fun q hq => hk q (List.mem_cons_of_mem _ hq)
  have hil : ∀ q ∈ l1,PairR ops qs F q i ∧ reach ops ops.size q i = false := fun q hq => hi q (List.mem_cons_of_mem _ hq)
  refine ⟨fun hAi => ?_,fun hnA => ?_⟩
  ·have ih := (frontR hki l1 [] hkl hil hpw.2 (fun q hq => (by cases hq)) h1).1 hAi
   obtain ⟨v,h4,h5,_⟩ := headR_x ih
   refine h5 s ⟨fun _ _ => by rw [put_h],fun t ht => (tget_put _ _ _ (fun e => a1 t e ht)).symm,by rw [put_n]; exact Nat.le_refl _⟩ _ ?_
   refine next ⟨fun _ _ => by rw [put_h],fun t ht => tget_put _ _ _ (fun e => a3 t e ht),by rw [put_n]; exact Nat.le_refl _⟩ ?_
   rw [← put_comm _ _ _ _ a2]
   exact h4
  ·have hX : isX (opAt ops i) = true := hki.resolve_right (fun e => by unfold cA at hnA; rw [e] at hnA; cases hnA)
   have hpf : p ∈ look F i := hfl.resolve_left (fun e => by rw [hnA] at e; cases e)
   have ih := (frontR hki l1 (p :: gh) hkl hil hpw.2 (fun q hq => by
    rcases List.mem_cons.1 hq with rfl | hq
    ·exact ⟨hpf,hA,hpw.1⟩
    ·exact ⟨(hdn q hq).1,(hdn q hq).2.1,fun r hr => (hdn q hq).2.2 r (List.mem_cons_of_mem _ hr)⟩) h1).2 hnA
   have h3 := step_slot hX a1 a2 ih
   refine stepL_m (.inl hX) h3 fun s1 ⟨h4,⟨hn5,h5⟩,h6⟩ => ?_
   simp only [put_n] at hn5
   have hkp2 := h5 p List.mem_cons_self
   rw [rdsR_put hself] at hkp2
   refine ⟨⟨hn5,fun q hq => ?_⟩,next ⟨fun b hb => ?_,(fun t ht => h4 t fun e => a3 t e ht),hn5⟩ h6⟩
   ·have e := h5 q (List.mem_cons_of_mem _ hq)
    rw [rdsR_put (((hdn q hq).2.2 p List.mem_cons_self).2.2 i (hdn q hq).1 hpf (hdn q hq).2.1 hA)] at e
    refine keptL_mk fun b hb => ?_
    have := keptL_get e b hb
    rwa [put_h,put_h] at this
   ·have := keptL_get hkp2 b hb
    rwa [put_h,put_h] at this
end
def orderR (ops : Array Oper) (qs : List Nat) (F : List (Nat × List Nat)) : List Nat → List Nat → Bool
 | _,[] => true
 | pre,q :: l => edgesOK ops pre q && selfOK ops q && l.all (fun r => pairR ops qs F q r) && orderR ops qs F (q :: pre) l
def drawnR (ops : Array Oper) (qs : List Nat) (F : List (Nat × List Nat)) (order : List Nat) : Bool := orderR ops qs F [] order && (List.range ops.size).all (fun j => order.contains j)
section
variable {P : Program} {T : TT} {K : LS → Prop}
theorem orderR_spec {ops : Array Oper} {qs : List Nat} {F : List (Nat × List Nat)} : ∀ {l pre : List Nat},orderR ops qs F pre l = true → l.Pairwise (PairR ops qs F) ∧ (∀ q ∈ l,known ops q ∧ (∀ d,(opAt ops q).dst = some d → d ∉ (opAt ops q).looksAt ops)) ∧
  ∀ l1 q l2,l = l1 ++ q :: l2 → ∃ o,ops[q]? = some o ∧ ∀ e ∈ o.after,Region.binds .any e = true → e.on ∈ pre ∨ e.on ∈ l1
 | [],pre,_ => ⟨.nil,fun q hq => (by cases hq),fun l1 q l2 h => (by cases l1 <;> cases h)⟩
 | r :: l,pre,h => by
  simp only [orderR,Bool.and_eq_true] at h
  obtain ⟨⟨⟨h1,h2⟩,h3⟩,h4⟩ := h
  obtain ⟨k1,k2,k3⟩ := orderR_spec h4
  refine ⟨List.pairwise_cons.2 ⟨fun q hq => pairR_spec (List.all_eq_true.1 h3 q hq),k1⟩,fun q hq => ?_,fun l1 q l2 e => ?_⟩
  ·rcases List.mem_cons.1 hq with rfl | hq
   ·exact selfOK_spec h2
   ·exact k2 q hq
  ·cases l1 with
   | nil =>
    cases e
    unfold edgesOK at h1
    split at h1
    ·rename_i o ho
     refine ⟨o,ho,fun e he hb => .inl ?_⟩
     have := Array.all_eq_true_iff_forall_mem.1 h1 e he
     simpa [hb] using this
    ·cases h1
   | cons x l1 =>
    cases e
    obtain ⟨o,ho,h5⟩ := k3 l1 q l2 rfl
    refine ⟨o,ho,fun e he hb => ?_⟩
    rcases h5 e he hb with h | h
    ·rcases List.mem_cons.1 h with h | h
     ·exact .inr (by rw [h]; exact List.mem_cons_self)
     ·exact .inl h
    ·exact .inr (List.mem_cons_of_mem _ h)
theorem anyR_sound (hT : TOK P T) {ops : Array Oper} {bs : List Nat} {qs : List Nat} {F : List (Nat × List Nat)} {order : List Nat} (hd : drawnR ops qs F order = true) {c0 : Ctx} {w0 : World} {Q : Exit → Act → World → Prop} (hQ : ∀ a' w',Post K c0 w0 a' w' → Q .normal a' w') :
  ∀ (fuel : Nat) (listed : Array Bool) {s : LS} {c : Ctx} {a : Act} {w : World},listed.size = ops.size → Closed ops listed → (unlO order listed).length = fuel → Ext c0 w0 c w → St c s a w →
  lopsR (fun _ => P) (fun _ => T) ops bs qs F (unlO order listed) s K → wpAny P .any ops Q fuel listed a w := by
 simp only [drawnR,Bool.and_eq_true,List.all_eq_true,List.mem_range] at hd
 obtain ⟨hpw,hkn,hed⟩ := orderR_spec hd.1
 have hall : ∀ j,j < ops.size → j ∈ order := fun j hj => by simpa using hd.2 j hj
 have mem_unl : ∀ {listed : Array Bool} {j : Nat},j ∈ unlO order listed ↔ j ∈ order ∧ listed.getD j true = false := by
  intro listed j
  simp [unlO,List.mem_filter]
 have at_ : ∀ {j o},ops[j]? = some o → opAt ops j = o := by
  intro j o ho
  simp [opAt,ho]
 have hlt_ : ∀ {listed : Array Bool} {j : Nat},listed.size = ops.size → listed.getD j true = false → j < ops.size := by
  intro listed j hsz h
  rcases Nat.lt_or_ge j ops.size with h1 | h1
  ·exact h1
  ·rw [Array.getD_eq_getD_getElem?,Array.getElem?_eq_none (by omega)] at h; cases h
 intro fuel
 induction fuel with
 | zero =>
  intro listed s c a w hsz hcl hlen he hs h
  have h0 : unlO order listed = [] := List.eq_nil_of_length_eq_zero hlen
  refine ⟨List.eq_nil_iff_forall_not_mem.2 fun j hj => ?_,?_⟩
  ·obtain ⟨h1,o,h2,_⟩ := mem_ready.1 hj
   have : j ∈ unlO order listed := mem_unl.2 ⟨hall j (Array.getElem?_eq_some_iff.1 h2).1,h1⟩
   rw [h0] at this; cases this
  ·rw [h0] at h
   exact hQ _ _ ⟨c,s,h,hs,he⟩
 | succ fuel ih =>
  intro listed s c a w hsz hcl hlen he hs h
  refine ⟨fun hr => ?_,fun i hi => ?_⟩
  ·exfalso
   cases hu : unlO order listed with
   | nil => rw [hu] at hlen; cases hlen
   | cons i0 rest =>
    obtain ⟨l1,l2,e1,e2,e3,e4⟩ := List.filter_eq_cons_iff.1 hu
    have hun : listed.getD i0 true = false := by simpa using e3
    obtain ⟨o,ho,h5⟩ := hed l1 i0 l2 e1
    have : i0 ∈ Region.ready .any ops listed := by
     refine mem_ready.2 ⟨hun,o,ho,fun e hee hb => ?_⟩
     rcases h5 e hee hb with h6 | h6
     ·cases h6
     ·have h7 := e2 _ h6
      have h8 : listed.getD e.on true = true := by simpa using h7
      rcases Nat.lt_or_ge e.on listed.size with h9 | h9
      ·rw [getD_tf h9 false true]; exact h8
      ·exfalso
       obtain ⟨m1,m2,hm⟩ := List.append_of_mem h6
       obtain ⟨o2,ho2,_⟩ := hed m1 e.on (m2 ++ i0 :: l2) (by rw [e1,hm]; simp)
       have := (Array.getElem?_eq_some_iff.1 ho2).1
       omega
    rw [hr] at this; cases this
  ·obtain ⟨hun,o,ho,haft⟩ := mem_ready.1 hi
   have hlt : i < ops.size := (Array.getElem?_eq_some_iff.1 ho).1
   have hiu : i ∈ unlO order listed := mem_unl.2 ⟨hall i hlt,hun⟩
   obtain ⟨l1,l2,hl⟩ := List.append_of_mem hiu
   have hpu : (unlO order listed).Pairwise (PairR ops qs F) := hpw.filter _
   have hku : ∀ q ∈ unlO order listed,known ops q ∧ (∀ d,(opAt ops q).dst = some d → d ∉ (opAt ops q).looksAt ops) := fun q hq => hkn q (mem_unl.1 hq).1
   rw [hl] at hpu hku h
   rw [List.pairwise_append] at hpu
   obtain ⟨hp1,hp2,hp3⟩ := hpu
   rw [List.pairwise_cons] at hp2
   have hrest : unlO order (listed.setIfInBounds i true) = l1 ++ l2 := by
    have e1 : unlO order (listed.setIfInBounds i true) = (unlO order listed).filter (· != i) := by
     unfold unlO
     rw [List.filter_filter]
     refine List.filter_congr fun j hj => ?_
     by_cases e : i = j
     ·subst e
      rw [Array.getD_eq_getD_getElem?,Array.getElem?_setIfInBounds_self_of_lt (by omega)]
      simp
     ·rw [getD_set_ne _ e]
      have : (j != i) = true := by simp; omega
      rw [this]; simp
    rw [e1,hl,List.filter_append,List.filter_cons_of_neg (by simp)]
    congr 1
    ·rw [List.filter_eq_self]
     intro p hp
     have := (hp3 p hp i List.mem_cons_self).1
     simpa using this
    ·rw [List.filter_eq_self]
     intro p hp
     have := (hp2.1 p hp).1
     have : p ≠ i := fun e => this e.symm
     simpa using this
   have hf := frontR (ops := ops) (bs := bs) (F := F) (i := i) (l2 := l2) (hku i (by simp)).1 l1 [] (fun p hp => hku p (by simp [hp])) (fun p hp => ⟨hp3 p hp i List.mem_cons_self,by
    cases e : reach ops ops.size p i with
    | false => rfl
    | true =>
     exfalso
     have h1 := reach_listed hcl _ i o ho e haft
     have hpm : p ∈ unlO order listed := by rw [hl]; simp [hp]
     have h2 := (mem_unl.1 hpm).2
     rw [getD_tf (by rw [hsz]; exact hlt_ hsz h2) true false,h1] at h2; cases h2⟩) hp1 (fun p hp => (by cases hp)) h
   rw [← hrest] at hf
   have hsz' : (listed.setIfInBounds i true).size = ops.size := by simp [hsz]
   have hcl' : Closed ops (listed.setIfInBounds i true) := by
    intro q oq hoq hq e hee hb
    by_cases hqi : i = q
    ·subst hqi
     rw [ho] at hoq; cases hoq
     exact getD_set_true (haft e hee hb)
    ·rw [getD_set_ne _ hqi] at hq
     exact getD_set_true (hcl q oq hoq hq e hee hb)
   have hlen' : (unlO order (listed.setIfInBounds i true)).length = fuel := by
    rw [hrest]
    rw [hl] at hlen
    simp at hlen ⊢; omega
   have hgo : ∀ (R : LS → Prop),stepL (fun _ => P) (fun _ => T) ops.toList o s R → (∀ s1,R s1 → lopsR (fun _ => P) (fun _ => T) ops bs qs F (unlO order (listed.setIfInBounds i true)) s1 K) → wpOp P ops Q i (fun a' w' => wpAny P .any ops Q fuel (listed.setIfInBounds i true) a' w') a w := by
    intro R hf hR
    unfold wpOp
    rw [ho]
    dsimp only
    unfold stepL at hf
    split at hf
    ·rename_i cb hy
     have hw := yes_sound hs hy
     cases cb with
     | true =>
      rw [if_pos hw]
      left
      refine Oper.wp_mono (fun a' w' hp => ?_) (lop_sound (Q := Q) hT hs hf)
      obtain ⟨c',s',hK,hs',he'⟩ := hp
      exact ih _ hsz' hcl' hlen' (he.trans he') hs' (hR _ hK)
     | false =>
      rw [if_neg (by rw [hw]; simp)]
      exact ih _ hsz' hcl' hlen' he (hs.put .nul _) (hR _ hf)
    ·exact hf.elim
   cases hcA : cA ops qs i with
   | true =>
    obtain ⟨u,h1,_,h3⟩ := headR_x (hf.1 hcA)
    rw [at_ ho] at h1 h3
    rcases h3 s ⟨fun _ _ => rfl,fun _ _ => rfl,Nat.le_refl _⟩ with h3 | h3
    ·refine hgo _ (h3 (fun s1 => s1 = s.put o.dst u) rfl) fun s1 e => ?_
     rw [e]; exact h1
    ·unfold wpOp
     rw [ho]
     dsimp only
     rw [if_pos (yes_sound hs h3.1)]
     left
     refine Oper.wp_mono (fun a' w' hp => ?_) (row_sound (Q := Q) hT hs h3.2)
     obtain ⟨c',s',hK,hs',he'⟩ := hp
     subst hK
     exact ih _ hsz' hcl' hlen' (he.trans he') hs' h1
   | false =>
    have h3 := hf.2 hcA
    rw [at_ ho] at h3
    exact hgo _ h3 fun s1 h => h.2
theorem read_sound (hT : TOK P T) (hm : P.follows .mixedOrders = true) (bs : List Nat) (qs : List Nat) (F : List (Nat × List Nat)) (order : List Nat) {ops : Unit → Array Oper} {s : LS} (hd : drawnR (ops ()) qs F order = true) (h : lopsR (fun _ => P) (fun _ => T) (ops ()) bs qs F order s K) : DrawF (fun _ => P) ops s K := by
 refine .mk fun c a w t Q hs hQ => ?_
 generalize ops () = ops at *
 simp only [Region.schedule,hm,Bool.true_or,if_true]
 have hget : ∀ i,(Array.replicate ops.size false).getD i false = false := by
  intro i
  rw [Array.getD_eq_getD_getElem?,Array.getElem?_replicate]
  split <;> rfl
 have hd' := hd
 simp only [drawnR,Bool.and_eq_true] at hd'
 obtain ⟨hpw,_,hed⟩ := orderR_spec hd'.1
 have hlt : ∀ j ∈ order,j < ops.size := fun j hj => by
  obtain ⟨l1,l2,e⟩ := List.append_of_mem hj
  obtain ⟨o,ho,_⟩ := hed l1 j l2 e
  exact (Array.getElem?_eq_some_iff.1 ho).1
 have hun : unlO order (Array.replicate ops.size false) = order := by
  unfold unlO
  rw [List.filter_eq_self]
  intro j hj
  have := hlt j hj
  rw [Array.getD_eq_getD_getElem?,Array.getElem?_replicate,if_pos this]; rfl
 have hnd : order.Nodup := hpw.imp fun h => h.1
 have hlen : order.length = ops.size := by
  have h1 : order.Perm (List.range ops.size) := by
   rw [List.perm_ext_iff_of_nodup hnd List.nodup_range]
   intro j
   rw [List.mem_range]
   exact ⟨hlt j,fun hj => by have := List.all_eq_true.1 hd'.2 j (List.mem_range.2 hj); simpa using this⟩
  simpa using h1.length_eq
 refine wpAny_sound ops.size t _ a w (anyR_sound (K := K) (bs := bs) hT hd (c0 := c) (w0 := w) (fun a' w' hp => hQ a' w' ?_) ops.size _ (by simp) ?_ (by rw [hun]; exact hlen) (Ext.refl hs.hr) hs ?_)
 ·obtain ⟨c',s',hK,hs',he⟩ := hp
  exact ⟨c',s',hK,hs',he⟩
 ·intro q o _ hq
  rw [hget] at hq; cases hq
 ·rw [hun]; exact h
end
def pairRF (ops : Array Oper) (qs : List Nat) (F : List (Nat × List Nat)) (M : List Nat) (p q : Nat) : Bool :=
 p != q && ((cA ops qs p && (opAt ops p).apart ops (opAt ops q) && (cA ops qs q || (look F q).contains p)) || (M.getD q 0).testBit p) && (!(F.any fun e => e.2.contains p && e.2.contains q) || match (opAt ops q).dst with
  | some d => !cA ops qs p || !cA ops qs q || !((opAt ops p).looksAt ops).contains d
  | none => true)
def orderRF (ops : Array Oper) (qs : List Nat) (F : List (Nat × List Nat)) (M : List Nat) : List Nat → List Nat → Bool
 | _,[] => true
 | pre,q :: l => edgesOK ops pre q && selfOK ops q && l.all (fun r => pairRF ops qs F M q r) && orderRF ops qs F M (q :: pre) l
def drawnRF (ops : Array Oper) (qs : List Nat) (F : List (Nat × List Nat)) (order : List Nat) : Bool := orderRF ops qs F (masksL ops.toList []) [] order && (List.range ops.size).all (fun j => order.contains j)
theorem pairRF_ok {ops : Array Oper} {qs : List Nat} {F : List (Nat × List Nat)} {M : List Nat} (hM : MasksOk ops M) (hl : M.length = ops.size) {p q : Nat} (h : pairRF ops qs F M p q = true) : pairR ops qs F p q = true := by
 unfold pairRF at h
 unfold pairR
 rw [Bool.and_eq_true,Bool.and_eq_true] at h ⊢
 refine ⟨⟨h.1.1,?_⟩,h.2⟩
 have h2 := h.1.2
 rw [Bool.or_eq_true] at h2 ⊢
 rcases h2 with h2 | h2
 ·exact .inr h2
 ·obtain ⟨g1,g2⟩ := hM _ _ h2
  exact .inl (reach_mono g2 (by omega))
theorem orderRF_ok {ops : Array Oper} {qs : List Nat} {F : List (Nat × List Nat)} {M : List Nat} (hM : MasksOk ops M) (hl : M.length = ops.size) : ∀ {l pre : List Nat},orderRF ops qs F M pre l = true → orderR ops qs F pre l = true
 | [],pre,_ => rfl
 | q :: l,pre,h => by
  rw [orderRF,Bool.and_eq_true,Bool.and_eq_true] at h
  rw [orderR,Bool.and_eq_true,Bool.and_eq_true]
  refine ⟨⟨h.1.1,?_⟩,orderRF_ok hM hl h.2⟩
  rw [List.all_eq_true] at *
  exact fun r hr => pairRF_ok hM hl (h.1.2 r hr)
theorem drawnRF_ok {ops : Array Oper} {qs : List Nat} {F : List (Nat × List Nat)} {order : List Nat} (h : drawnRF ops qs F order = true) : drawnR ops qs F order = true := by
 unfold drawnRF at h
 unfold drawnR
 rw [Bool.and_eq_true] at h ⊢
 obtain ⟨g1,g2⟩ := masksL_ok (ops := ops) ops.toList [] [] rfl rfl (fun q p h => by simp at h)
 exact ⟨orderRF_ok g1 g2 h.1,h.2⟩
theorem readF_sound {P : Program} {T : TT} {K : LS → Prop} (hT : TOK P T) (hm : P.follows .mixedOrders = true) (bs : List Nat) (qs : List Nat) (F : List (Nat × List Nat)) (order : List Nat) {ops : Unit → Array Oper} {s : LS} (hd : drawnRF (ops ()) qs F order = true) (h : lopsR (fun _ => P) (fun _ => T) (ops ()) bs qs F order s K) : DrawF (fun _ => P) ops s K :=
 read_sound hT hm bs qs F order (drawnRF_ok hd) h
theorem re_same {n : Nat} {t : List LV} {h1 h : LH} (he : ∀ b B,hget h b = some B → hget h1 b = some B) : Re n ⟨t,h1,n⟩ ⟨t,h,n⟩ := by
 refine .mk fun c w c2 a w' hN hx hs => ⟨c2,hx,⟨hs.tl,hs.tr,hs.df,⟨fun b B hb => hs.hr.live b B (he b B hb),hs.hr.fresh,hs.hr.inj,hs.hr.noX,hs.hr.ltX,hs.hr.lt⟩,hs.nn⟩⟩
theorem renH_some {ρ : List (Nat × Nat)} {n0 n : Nat} : ∀ {h0 : LH} {a b : Nat} {A : LB},hget h0 a = some A → rn ρ n0 n a = some b → ∃ B,hget (renH ρ n0 n h0) b = some B
 | [],_,_,_,h,_ => by cases h
 | (d,D) :: h0,a,b,A,h,hr => by
  rw [hget_cons] at h
  rw [renH]
  by_cases e : d = a
  ·subst e
   rw [hr]
   exact ⟨_,by rw [hget_cons,if_pos rfl]⟩
  ·rw [if_neg e] at h
   obtain ⟨B,hB⟩ := renH_some h hr
   cases hd : rn ρ n0 n d with
   | none => exact ⟨B,hB⟩
   | some d' =>
    dsimp only
    rw [hget_cons]
    by_cases e2 : d' = b
    ·rw [if_pos e2]; exact ⟨_,rfl⟩
    ·rw [if_neg e2]; exact ⟨B,hB⟩
theorem hdels_not : ∀ (ρ : List (Nat × Nat)) (h : LH) (b : Nat),nback ρ b = none → hget (hdels ρ h) b = hget h b
 | [],_,_,_ => rfl
 | (x,y) :: ρ,h,b,hn => by
  rw [nback_cons] at hn
  split at hn
  ·cases hn
  ·rename_i e
   rw [hdels,hget_del,if_neg (fun q => e q.symm)]
   exact hdels_not ρ h b hn
theorem nback_mem : ∀ {ρ : List (Nat × Nat)} {a b : Nat},nback ρ b = some a → (a,b) ∈ ρ
 | [],_,_,h => by cases h
 | (x,y) :: ρ,a,b,h => by
  rw [nback_cons] at h
  split at h
  ·rename_i e
   cases h
   subst e
   exact List.mem_cons_self
  ·exact List.mem_cons_of_mem _ (nback_mem h)
theorem frameH_same {ρ : List (Nat × Nat)} {n0 n : Nat} {h h0 : LH} (hF : fok n0 n ρ = true) (hm : hmapOk ρ n0 n h h0) (hall : ρ.all (fun p => (hget h0 p.1).isSome) = true) : ∀ b B,hget h b = some B → hget (frameH ρ n0 n h h0) b = some B := by
 intro b B hb
 have hF' := fok_ok hF
 unfold frameH
 rw [hget_happ]
 cases e : hget (renH ρ n0 n h0) b with
 | some B' =>
  dsimp only
  obtain ⟨a,A,k1,k2,k3⟩ := hget_renH hF' h0 b B' e
  obtain ⟨b',g1,g2,_⟩ := hmapOk_get hm a A k2
  have : rn ρ n0 n a = some b' := by unfold rn; rw [g1]
  obtain rfl : b' = b := Option.some.inj (this.symm.trans k1)
  rw [k3]
  exact g2.symm.trans hb
 | none =>
  dsimp only
  cases en : nback ρ b with
  | none => rw [hdels_not ρ h b en]; exact hb
  | some a =>
   have hab := nback_mem en
   have := List.all_eq_true.1 hall _ hab
   obtain ⟨A,hA⟩ := Option.isSome_iff_exists.1 this
   obtain ⟨b',g1,_,_⟩ := hmapOk_get hm a A hA
   have hr : rn ρ n0 n a = some b := by
    unfold rn
    rw [(hF'.iff a b).2 en]
   obtain ⟨B',hB'⟩ := renH_some hA hr
   rw [e] at hB'; cases hB'
theorem callF_read {P : Unit → Program} {f : Nat} {args0 args : List LV} {h0 h : LH} {n0 n : Nat} {u0 u : LV} (hc : CallF P f args0 h0 n0 fun r h1 n1 => r = u0 ∧ h1 = h0 ∧ n1 = n0) (ρ : List (Nat × Nat)) (hF : fok n0 n ρ = true) (hm : hmapOk ρ n0 n h h0) (ha : args = renVs ρ n0 n args0) (hok : okVs ρ args0 = true) (hu : u = renV ρ n0 n u0) (hall : ρ.all (fun p => (hget h0 p.1).isSome) = true) : CallF P f args h n fun r h2 n2 => r = u ∧ h2 = h ∧ n2 = n := by
 refine CallF.ret (callF_frame (K := fun r h1 n1 => r = u ∧ h1 = frameH ρ n0 n h h0 ∧ n1 = n) hc ρ hF hm ha hok (fun r h' n' ⟨e1,e2,e3⟩ => ?_)) (fun r h' n' ⟨e1,e2,e3⟩ => ?_)
 ·subst e1 e2 e3
  exact ⟨hu.symm,rfl,by omega⟩
 ·subst e1 e2 e3
  exact .mk [r] h n' (re_same (frameH_same hF hm hall)) rfl ⟨rfl,rfl,rfl⟩
end Go.LX
