/-
  The ground of the proof, part 10: the calculus and what is proved with it.
-/
import Derived.Test.YtmckfhnijeiklaaGreatDoorBi
namespace Go.Proofs.YtmckfhnijeiklaaGreatDoor
open Go Go.LX
set_option maxRecDepth 100000
set_option linter.unusedVariables false
set_option linter.unusedSimpArgs false
set_option maxHeartbeats 32000000
theorem putChanMP_lx (R : List Rw) (ws C G : List Int) (N W ph sp cy : Int) (L D Q : List PV) (z : ByteArray) (ov : Bool) (h : HM R ws C G N W L D Q z) (M : Hp) (hM : Cont R ws M) (o : Unit → Obj) (ho : IsPow o) (a x0 x1 x2 x3 x4 x5 x6 x7 x8 : Int) (F : List Int) (hMa : M a = some (1,F)) (hF : F.length = 9) (hb : ∀ x ∈ [x0,x1,x2,x3,x4,x5,x6,x7,x8],b62 x) (hp : ∀ x ∈ [x4,x5,x6,x7,x8],-1 ≤ x) : CallF (fun _ => Tryz.prog) 44 [.ptr 0 (.lit 0),i6 a,.agg [i6 x0,i6 x1,i6 x2,i6 x3,i6 x4,i6 x5,i6 x6,i6 x7,i6 x8]] [hpA 0 1 5 6 3 W ph sp cy,hpB 1 2 4 3 W,hpC 2 3 127 2 N,hpP 3 L,hpP 4 D,hpF 5 z ov,hpP 6 Q,(7,.fix 0 o)] 8 (fun r h n => ∃ (e : Int) (ws' cc' gg' : List Int) (D' qq' : List PV) (zz' : ByteArray) (vv' : Bool),r = .p (.int .i64 (.sym e)) ∧ e = 0 ∧ h = [hpA 0 1 5 6 3 W ph sp cy,hpB 1 2 4 3 W,hpC 2 3 127 2 N,hpP 3 L,hpP 4 D',hpF 5 zz' vv',hpP 6 qq',(7,.fix 0 o)] ∧ n = 8 ∧ HM R ws' cc' gg' N W L D' qq' zz' ∧ Cont R ws' (upd M a (1,[x0,x1,x2,x3,x4,x5,x6,x7,x8]))) :=
 (putChan_lx R ws C G N W ph sp cy L D Q z ov h o ho a x0 x1 x2 x3 x4 x5 x6 x7 x8 hb).mono fun r h' n hrr => by
  obtain ⟨e,ws',C',G',ov',D',Q',z',e1,e2,e3,h1,hP⟩ := hrr
  obtain ⟨he,hM'⟩ := hM.put (F' := [x0,x1,x2,x3,x4,x5,x6,x7,x8]) h.a hMa (by rw [hF]; rfl) rfl (FOk.chan hp) rfl (chanWs_bd x0 x1 x2 x3 x4 x5 x6 x7 x8 hb) hP
  exact ⟨e,ws',C',G',D',Q',z',ov',e1,he,e2,e3,h1,hM'⟩
theorem putSudogMP_lx (R : List Rw) (ws C G : List Int) (N W ph sp cy : Int) (L D Q : List PV) (z : ByteArray) (ov : Bool) (h : HM R ws C G N W L D Q z) (M : Hp) (hM : Cont R ws M) (o : Unit → Obj) (ho : IsPow o) (a x0 x1 x2 x3 x4 x5 x6 : Int) (F : List Int) (hMa : M a = some (3,F)) (hF : F.length = 7) (hb : ∀ x ∈ [x0,x1,x3,x4,x5,x6],b62 x) (hw : ∀ x ∈ [x2],-9223372036854775808 ≤ x ∧ x ≤ 9223372036854775807) (hp : ∀ x ∈ [x0,x1,x3,x6],-1 ≤ x) : CallF (fun _ => Tryz.prog) 20 [.ptr 0 (.lit 0),i6 a,.agg [i6 x0,i6 x1,i6 x2,i6 x3,i6 x4,i6 x5,i6 x6]] [hpA 0 1 5 6 3 W ph sp cy,hpB 1 2 4 3 W,hpC 2 3 127 2 N,hpP 3 L,hpP 4 D,hpF 5 z ov,hpP 6 Q,(7,.fix 0 o)] 8 (fun r h n => ∃ (e : Int) (ws' cc' gg' : List Int) (D' qq' : List PV) (zz' : ByteArray) (vv' : Bool),r = .p (.int .i64 (.sym e)) ∧ e = 0 ∧ h = [hpA 0 1 5 6 3 W ph sp cy,hpB 1 2 4 3 W,hpC 2 3 127 2 N,hpP 3 L,hpP 4 D',hpF 5 zz' vv',hpP 6 qq',(7,.fix 0 o)] ∧ n = 8 ∧ HM R ws' cc' gg' N W L D' qq' zz' ∧ Cont R ws' (upd M a (3,[x0,x1,x2,x3,x4,x5,x6]))) :=
 (putSudog_lx R ws C G N W ph sp cy L D Q z ov h o ho a x0 x1 x2 x3 x4 x5 x6 hb hw).mono fun r h' n hrr => by
  obtain ⟨e,ws',C',G',ov',D',Q',z',e1,e2,e3,h1,hP⟩ := hrr
  obtain ⟨he,hM'⟩ := hM.put (F' := [x0,x1,x2,x3,x4,x5,x6]) h.a hMa (by rw [hF]; rfl) rfl (FOk.sudog hp) rfl (sudogWs_bd x0 x1 x2 x3 x4 x5 x6 hb hw) hP
  exact ⟨e,ws',C',G',D',Q',z',ov',e1,he,e2,e3,h1,hM'⟩
theorem putGorMP_lx (R : List Rw) (ws C G : List Int) (N W ph sp cy : Int) (L D Q : List PV) (z : ByteArray) (ov : Bool) (h : HM R ws C G N W L D Q z) (M : Hp) (hM : Cont R ws M) (o : Unit → Obj) (ho : IsPow o) (a x0 x1 x2 x3 x4 x5 x6 x7 x8 x9 : Int) (F : List Int) (hMa : M a = some (4,F)) (hF : F.length = 10) (hb : ∀ x ∈ [x0,x1,x2,x9],b62 x) (hw : ∀ x ∈ [x3,x4,x5,x6,x7,x8],-9223372036854775808 ≤ x ∧ x ≤ 9223372036854775807) (hp : ∀ x ∈ [x9],-1 ≤ x) : CallF (fun _ => Tryz.prog) 46 [.ptr 0 (.lit 0),i6 a,.agg [i6 x0,i6 x1,i6 x2,i6 x3,i6 x4,i6 x5,i6 x6,i6 x7,i6 x8,i6 x9]] [hpA 0 1 5 6 3 W ph sp cy,hpB 1 2 4 3 W,hpC 2 3 127 2 N,hpP 3 L,hpP 4 D,hpF 5 z ov,hpP 6 Q,(7,.fix 0 o)] 8 (fun r h n => ∃ (e : Int) (ws' cc' gg' : List Int) (D' qq' : List PV) (zz' : ByteArray) (vv' : Bool),r = .p (.int .i64 (.sym e)) ∧ e = 0 ∧ h = [hpA 0 1 5 6 3 W ph sp cy,hpB 1 2 4 3 W,hpC 2 3 127 2 N,hpP 3 L,hpP 4 D',hpF 5 zz' vv',hpP 6 qq',(7,.fix 0 o)] ∧ n = 8 ∧ HM R ws' cc' gg' N W L D' qq' zz' ∧ Cont R ws' (upd M a (4,[x0,x1,x2,x3,x4,x5,x6,x7,x8,x9]))) :=
 (putGor_lx R ws C G N W ph sp cy L D Q z ov h o ho a x0 x1 x2 x3 x4 x5 x6 x7 x8 x9 hb hw).mono fun r h' n hrr => by
  obtain ⟨e,ws',C',G',ov',D',Q',z',e1,e2,e3,h1,hP⟩ := hrr
  obtain ⟨he,hM'⟩ := hM.put (F' := [x0,x1,x2,x3,x4,x5,x6,x7,x8,x9]) h.a hMa (by rw [hF]; rfl) rfl (FOk.gor hp) rfl (gorWs_bd x0 x1 x2 x3 x4 x5 x6 x7 x8 x9 hb hw) hP
  exact ⟨e,ws',C',G',D',Q',z',ov',e1,he,e2,e3,h1,hM'⟩
theorem setNextMP_lx (R : List Rw) (ws C G : List Int) (N W ph sp cy : Int) (L D Q : List PV) (z : ByteArray) (ov : Bool) (h : HM R ws C G N W L D Q z) (M : Hp) (hM : Cont R ws M) (o : Unit → Obj) (ho : IsPow o) (a x z0 z1 z2 z3 z4 z5 z6 : Int) (hMa : M a = some (3,[z0,z1,z2,z3,z4,z5,z6])) (hx : -1 ≤ x) (hx2 : b62 x) : CallF (fun _ => Tryz.prog) 56 [.ptr 0 (.lit 0),i6 a,i6 x] [hpA 0 1 5 6 3 W ph sp cy,hpB 1 2 4 3 W,hpC 2 3 127 2 N,hpP 3 L,hpP 4 D,hpF 5 z ov,hpP 6 Q,(7,.fix 0 o)] 8 (fun r h n => ∃ (ws' cc' gg' : List Int) (D' qq' : List PV) (zz' : ByteArray) (vv' : Bool),r = .tup [] ∧ h = [hpA 0 1 5 6 3 W ph sp cy,hpB 1 2 4 3 W,hpC 2 3 127 2 N,hpP 3 L,hpP 4 D',hpF 5 zz' vv',hpP 6 qq',(7,.fix 0 o)] ∧ n = 8 ∧ HM R ws' cc' gg' N W L D' qq' zz' ∧ Cont R ws' (upd M a (3,[z0,z1,z2,x,z4,z5,z6]))) := by
 obtain ⟨hp,hb,hw⟩ := hM.sudog h.a hMa
 have hp' : ∀ q ∈ [z0,z1,x,z6],-1 ≤ q := by
  simp only [List.forall_mem_cons] at hp ⊢
  obtain ⟨p0,p1,p3,p6,_⟩ := hp
  exact ⟨p0,p1,hx,p6,fun q hq => by cases hq⟩
 have hb' : ∀ q ∈ [z0,z1,x,z4,z5,z6],b62 q := by
  simp only [List.forall_mem_cons] at hb ⊢
  obtain ⟨b0,b1,b3,b4,b5,b6,_⟩ := hb
  exact ⟨b0,b1,hx2,b4,b5,b6,fun q hq => by cases hq⟩
 refine callF_of_body tok Tryz.func56 (by kernel_rfl) rfl rfl rfl ?_; conv => cbv
 refine cfr (sudogM_lx R ws C G N W ph sp cy L D Q z ov h M hM a z0 z1 z2 z3 z4 z5 z6 hMa) [(0,0),(1,1),(2,2),(3,3),(4,4),(5,5),(6,6)] (fun r h' n' hrr => ?_)
 obtain ⟨⟨e0,e1,he0⟩,e2,e3⟩ := hrr
 subst e1 e2 e3
 conv => cbv
 refine cfr (putSudogMP_lx R ws C G N W ph sp cy L D Q z ov h M hM o ho a z0 z1 z2 x z4 z5 z6 [z0,z1,z2,z3,z4,z5,z6] hMa rfl hb' hw hp') [(0,0),(1,1),(2,2),(3,3),(4,4),(5,5),(6,6),(7,7)] (fun r h' n' hrr => ?_)
 obtain ⟨e,ws',cc',gg',D',qq',zz',vv',e1,he,e2,e3,h1,hM'⟩ := hrr
 subst e1 e2 e3
 conv => cbv
 refine RetF.mk [] [hpA 0 1 5 6 3 W ph sp cy,hpB 1 2 4 3 W,hpC 2 3 127 2 N,hpP 3 L,hpP 4 D',hpF 5 zz' vv',hpP 6 qq',(7,.fix 0 o)] 8 (Re.at [(0,0),(1,1),(2,2),(3,3),(4,4),(5,5),(6,6),(7,7)] []) rfl ⟨ws',cc',gg',D',qq',zz',vv',rfl,rfl,rfl,h1,hM'⟩
theorem setEnds0P_lx (R : List Rw) (ws C G : List Int) (N W ph sp cy : Int) (L D Q : List PV) (z : ByteArray) (ov : Bool) (h : HM R ws C G N W L D Q z) (M : Hp) (hM : Cont R ws M) (o : Unit → Obj) (ho : IsPow o) (a hd tl y0 y1 y2 y3 y4 y5 y6 y7 y8 : Int) (hMa : M a = some (1,[y0,y1,y2,y3,y4,y5,y6,y7,y8])) (hx : -1 ≤ hd ∧ b62 hd) (hx2 : -1 ≤ tl ∧ b62 tl) : CallF (fun _ => Tryz.prog) 57 [.ptr 0 (.lit 0),i6 a,.p (.bool false),i6 hd,i6 tl] [hpA 0 1 5 6 3 W ph sp cy,hpB 1 2 4 3 W,hpC 2 3 127 2 N,hpP 3 L,hpP 4 D,hpF 5 z ov,hpP 6 Q,(7,.fix 0 o)] 8 (fun r h n => ∃ (ws' cc' gg' : List Int) (D' qq' : List PV) (zz' : ByteArray) (vv' : Bool),r = .tup [] ∧ h = [hpA 0 1 5 6 3 W ph sp cy,hpB 1 2 4 3 W,hpC 2 3 127 2 N,hpP 3 L,hpP 4 D',hpF 5 zz' vv',hpP 6 qq',(7,.fix 0 o)] ∧ n = 8 ∧ HM R ws' cc' gg' N W L D' qq' zz' ∧ Cont R ws' (upd M a (1,[y0,y1,y2,y3,y4,hd,tl,y7,y8]))) := by
 obtain ⟨hp,hb⟩ := hM.chan h.a hMa
 have hp' : ∀ q ∈ [y4,hd,tl,y7,y8],-1 ≤ q := by
  simp only [List.forall_mem_cons] at hp ⊢
  obtain ⟨p4,p5,p6,p7,p8,_⟩ := hp
  exact ⟨p4,hx.1,hx2.1,p7,p8,fun q hq => by cases hq⟩
 have hb' : ∀ q ∈ [y0,y1,y2,y3,y4,hd,tl,y7,y8],b62 q := by
  simp only [List.forall_mem_cons] at hb ⊢
  obtain ⟨b0,b1,b2,b3,b4,b5,b6,b7,b8,_⟩ := hb
  exact ⟨b0,b1,b2,b3,b4,hx.2,hx2.2,b7,b8,fun q hq => by cases hq⟩
 refine callF_of_body tok Tryz.func57 (by kernel_rfl) rfl rfl rfl ?_; conv => cbv
 refine cfr (chanM_lx R ws C G N W ph sp cy L D Q z ov h M hM a y0 y1 y2 y3 y4 y5 y6 y7 y8 hMa) [(0,0),(1,1),(2,2),(3,3),(4,4),(5,5),(6,6)] (fun r h' n' hrr => ?_)
 obtain ⟨⟨e0,e1,he0⟩,e2,e3⟩ := hrr
 subst e1 e2 e3
 conv => cbv
 refine cfr (putChanMP_lx R ws C G N W ph sp cy L D Q z ov h M hM o ho a y0 y1 y2 y3 y4 hd tl y7 y8 [y0,y1,y2,y3,y4,y5,y6,y7,y8] hMa rfl hb' hp') [(0,0),(1,1),(2,2),(3,3),(4,4),(5,5),(6,6),(7,7)] (fun r h' n' hrr => ?_)
 obtain ⟨e,ws',cc',gg',D',qq',zz',vv',e1,he,e2,e3,h1,hM'⟩ := hrr
 subst e1 e2 e3
 conv => cbv
 refine RetF.mk [] [hpA 0 1 5 6 3 W ph sp cy,hpB 1 2 4 3 W,hpC 2 3 127 2 N,hpP 3 L,hpP 4 D',hpF 5 zz' vv',hpP 6 qq',(7,.fix 0 o)] 8 (Re.at [(0,0),(1,1),(2,2),(3,3),(4,4),(5,5),(6,6),(7,7)] []) rfl ⟨ws',cc',gg',D',qq',zz',vv',rfl,rfl,rfl,h1,hM'⟩
theorem setEnds1P_lx (R : List Rw) (ws C G : List Int) (N W ph sp cy : Int) (L D Q : List PV) (z : ByteArray) (ov : Bool) (h : HM R ws C G N W L D Q z) (M : Hp) (hM : Cont R ws M) (o : Unit → Obj) (ho : IsPow o) (a hd tl y0 y1 y2 y3 y4 y5 y6 y7 y8 : Int) (hMa : M a = some (1,[y0,y1,y2,y3,y4,y5,y6,y7,y8])) (hx : -1 ≤ hd ∧ b62 hd) (hx2 : -1 ≤ tl ∧ b62 tl) : CallF (fun _ => Tryz.prog) 57 [.ptr 0 (.lit 0),i6 a,.p (.bool true),i6 hd,i6 tl] [hpA 0 1 5 6 3 W ph sp cy,hpB 1 2 4 3 W,hpC 2 3 127 2 N,hpP 3 L,hpP 4 D,hpF 5 z ov,hpP 6 Q,(7,.fix 0 o)] 8 (fun r h n => ∃ (ws' cc' gg' : List Int) (D' qq' : List PV) (zz' : ByteArray) (vv' : Bool),r = .tup [] ∧ h = [hpA 0 1 5 6 3 W ph sp cy,hpB 1 2 4 3 W,hpC 2 3 127 2 N,hpP 3 L,hpP 4 D',hpF 5 zz' vv',hpP 6 qq',(7,.fix 0 o)] ∧ n = 8 ∧ HM R ws' cc' gg' N W L D' qq' zz' ∧ Cont R ws' (upd M a (1,[y0,y1,y2,y3,y4,y5,y6,hd,tl]))) := by
 obtain ⟨hp,hb⟩ := hM.chan h.a hMa
 have hp' : ∀ q ∈ [y4,y5,y6,hd,tl],-1 ≤ q := by
  simp only [List.forall_mem_cons] at hp ⊢
  obtain ⟨p4,p5,p6,p7,p8,_⟩ := hp
  exact ⟨p4,p5,p6,hx.1,hx2.1,fun q hq => by cases hq⟩
 have hb' : ∀ q ∈ [y0,y1,y2,y3,y4,y5,y6,hd,tl],b62 q := by
  simp only [List.forall_mem_cons] at hb ⊢
  obtain ⟨b0,b1,b2,b3,b4,b5,b6,b7,b8,_⟩ := hb
  exact ⟨b0,b1,b2,b3,b4,b5,b6,hx.2,hx2.2,fun q hq => by cases hq⟩
 refine callF_of_body tok Tryz.func57 (by kernel_rfl) rfl rfl rfl ?_; conv => cbv
 refine cfr (chanM_lx R ws C G N W ph sp cy L D Q z ov h M hM a y0 y1 y2 y3 y4 y5 y6 y7 y8 hMa) [(0,0),(1,1),(2,2),(3,3),(4,4),(5,5),(6,6)] (fun r h' n' hrr => ?_)
 obtain ⟨⟨e0,e1,he0⟩,e2,e3⟩ := hrr
 subst e1 e2 e3
 conv => cbv
 refine cfr (putChanMP_lx R ws C G N W ph sp cy L D Q z ov h M hM o ho a y0 y1 y2 y3 y4 y5 y6 hd tl [y0,y1,y2,y3,y4,y5,y6,y7,y8] hMa rfl hb' hp') [(0,0),(1,1),(2,2),(3,3),(4,4),(5,5),(6,6),(7,7)] (fun r h' n' hrr => ?_)
 obtain ⟨e,ws',cc',gg',D',qq',zz',vv',e1,he,e2,e3,h1,hM'⟩ := hrr
 subst e1 e2 e3
 conv => cbv
 refine RetF.mk [] [hpA 0 1 5 6 3 W ph sp cy,hpB 1 2 4 3 W,hpC 2 3 127 2 N,hpP 3 L,hpP 4 D',hpF 5 zz' vv',hpP 6 qq',(7,.fix 0 o)] 8 (Re.at [(0,0),(1,1),(2,2),(3,3),(4,4),(5,5),(6,6),(7,7)] []) rfl ⟨ws',cc',gg',D',qq',zz',vv',rfl,rfl,rfl,h1,hM'⟩
theorem listRemove0P_lx (R : List Rw) (ws C G : List Int) (N W ph sp cy : Int) (L D Q : List PV) (z : ByteArray) (ov : Bool) (h : HM R ws C G N W L D Q z) (M : Hp) (hM : Cont R ws M) (q : Qs) (hY : Sys M q) (o : Unit → Obj) (ho : IsPow o) (hch : ∀ a F,M a = some (1,F) → ∃ y0 y1 y2 y3 y4 y5 y6 y7 y8,F = [y0,y1,y2,y3,y4,y5,y6,y7,y8]) (hsu : ∀ a F,M a = some (3,F) → ∃ z0 z1 z2 z3 z4 z5 z6,F = [z0,z1,z2,z3,z4,z5,z6]) (c s y0 y1 y2 y3 y4 y5 y6 y7 y8 : Int) (hMc : M c = some (1,[y0,y1,y2,y3,y4,y5,y6,y7,y8])) (hsq : s ∈ q c false) : CallF (fun _ => Tryz.prog) 96 [.ptr 0 (.lit 0),i6 c,.p (.bool false),i6 s] [hpA 0 1 5 6 3 W ph sp cy,hpB 1 2 4 3 W,hpC 2 3 127 2 N,hpP 3 L,hpP 4 D,hpF 5 z ov,hpP 6 Q,(7,.fix 0 o)] 8 (fun r h n => ∃ (ws' cc' gg' : List Int) (D' qq' : List PV) (zz' : ByteArray) (vv' : Bool),r = .p (.bool true) ∧ h = [hpA 0 1 5 6 3 W ph sp cy,hpB 1 2 4 3 W,hpC 2 3 127 2 N,hpP 3 L,hpP 4 D',hpF 5 zz' vv',hpP 6 qq',(7,.fix 0 o)] ∧ n = 8 ∧ HM R ws' cc' gg' N W L D' qq' zz' ∧ Cont R ws' (relink M (updQ q c false ((q c false).filter (fun x => decide (x ≠ s)))))) := by
 have hcl := hY.len h.a hM c false
 have hRr := h.r
 have hnd := hY.nd c false
 obtain ⟨A,B,hq⟩ := List.append_of_mem hsq
 have hfil : (q c false).filter (fun x => decide (x ≠ s)) = A ++ B := by rw [hq]; rw [hq] at hnd; exact filter_ne hnd
 rw [hfil]
 obtain ⟨g,w,n,p,r_,m_,hMs⟩ : ∃ g w n p r m,M s = some (3,[g,c,w,n,p,r,m]) := by
  obtain ⟨g,w,n,p,r,m,e⟩ := hY.sg c false s hsq
  exact ⟨g,w,n,p,r,m,e⟩
 obtain ⟨hp,hb⟩ := hM.chan h.a hMc
 obtain ⟨hp3,hb3,_⟩ := hM.sudog h.a hMs
 have hlk := hY.lnk hMc
 rw [lnk_chan] at hlk
 simp only [Prod.mk.injEq,List.cons.injEq,true_and,and_true] at hlk
 obtain ⟨hl5,hl6,hl7,hl8⟩ := hlk
 have hsl := hM.len h.a hMs
 have hsc : s ≠ c := fun e => by rw [e,hMc] at hMs; cases hMs
 have hn1 : -1 ≤ n := hp3 _ (by simp)
 have hn2 : b62 n := hb3 _ (by simp)
 have hh1 : -1 ≤ y5 := hp _ (by simp)
 have hh2 : b62 y5 := hb _ (by simp)
 have ht1 : -1 ≤ y6 := hp _ (by simp)
 have ht2 : b62 y6 := hb _ (by simp)
 have hm2 : b62 (-1) := by unfold b62; omega
 have hty : y6 = ltQ (A ++ s :: B) := by rw [← hq]; exact hl6.symm
 have hBs : ltQ (A ++ s :: B) = s ↔ B = [] := by
  constructor
  ·intro e
   cases hB : B with
   | nil => rfl
   | cons x l =>
    have h1 : ltQ (A ++ s :: x :: l) = ltQ (x :: l) := by
     unfold ltQ
     simp [List.getLast?_cons_cons]
     cases hgl : (x :: l).getLast? with
     | none => simp at hgl
     | some v => rfl
    rw [hB,h1] at e
    have h2 : s ∈ x :: l := e ▸ ltQ_mem (by simp)
    rw [hq,hB] at hnd
    exact absurd h2 (List.nodup_cons.1 (List.nodup_append.1 hnd).2.1).1
  ·intro e; rw [e]; unfold ltQ; simp
 refine callF_of_body tok Tryz.func96 (by kernel_rfl) rfl rfl rfl ?_; conv => cbv
 refine cfr (listAll_lx R ws C G N W ph sp cy L D Q z ov h M hM q hY c false (hch c) hsu) [(0,0),(1,1),(2,2),(3,3),(4,4),(5,5),(6,6)] (fun r h' n' hrr => ?_)
 obtain ⟨ml,cells,e1,e2,e3,hml,hcel⟩ := hrr
 subst e1 e2 e3
 conv => cbv
 refine callF_lend (index_lx (q c false) s ml cells hcel hml (by omega)) (by simp [lends,lendV,hget,I.val,pvle]) (fun r h' n' ⟨⟨k,e1,hk⟩,e2,e3⟩ => by subst e1 e2; exact ⟨trivial,trivial⟩) (fun r h' n' ⟨⟨k,e1,hk⟩,e2,e3⟩ => ?_)
 subst e1 e2 e3
 have hk1 : k = (A.length : Int) := by
  rcases hk with ⟨i,h1,_,h2⟩ | ⟨h1,_⟩
  ·have h3 : (q c false)[A.length]? = some s := by rw [hq]; simp
   have := (List.getElem?_inj (by have := (List.getElem?_eq_some_iff.1 h1).1; omega) hnd).1 (h1.trans h3.symm)
   omega
  ·exact absurd hsq h1
 have hkl : k < ml := by rw [hml,hq,hk1]; simp; omega
 conv => cbv
 refine Br.no (show ¬ (k < 0) by omega) ?_
 conv => cbv
 refine cfr (chanM_lx R ws C G N W ph sp cy L D Q z ov h M hM c y0 y1 y2 y3 y4 y5 y6 y7 y8 hMc) [(0,0),(1,1),(2,2),(3,3),(4,4),(5,5),(6,6)] (fun r h' n' hrr => ?_)
 obtain ⟨⟨e0,e1,he0⟩,e2,e3⟩ := hrr
 subst e1 e2 e3
 conv => cbv
 refine callF_frame (lends_lx y0 y1 y2 y3 y4 y5 y6 y7 y8 false) [] rfl trivial rfl rfl (fun r h' n' hrr => ?_)
 obtain ⟨⟨hd,tl,e1,hhd,htl2⟩,e2,e3⟩ := hrr
 subst e1 e2 e3
 obtain rfl : y5 = hd := hhd.symm
 obtain rfl : y6 = tl := htl2.symm
 conv => cbv
 refine cfr (sudogM_lx R ws C G N W ph sp cy L D Q z ov h M hM s g c w n p r_ m_ hMs) [(0,0),(1,1),(2,2),(3,3),(4,4),(5,5),(6,6)] (fun r h' n' hrr => ?_)
 obtain ⟨⟨e5,e1,he5⟩,e2,e3⟩ := hrr
 subst e1 e2 e3
 conv => cbv
 refine Br.mk (fun gk => ?_) (fun gk => ?_)
 ·have gk : k = 0 := gk
  have hA : A = [] := List.eq_nil_of_length_eq_zero (by omega)
  subst hA
  simp only [List.nil_append] at hq hty hBs
  obtain ⟨hnB,heq⟩ := hY.pop hq hMc hMs
  conv => cbv
  refine Br.mk (fun gt => ?_) (fun gt => ?_)
  ·have gt : y6 = s := gt
   have hBe : B = [] := hBs.1 (hty.symm.trans gt)
   rw [← hnB,show ltQ B = -1 by rw [hBe]; rfl] at heq
   simp only [List.nil_append]
   conv => cbv
   refine CallF.le (args0 := [.ptr 0 (.lit 0),i6 c,.p (.bool false),i6 n,i6 (-1)]) (cfr (setEnds0P_lx R ws C G N W ph sp cy L D Q z ov h M hM o ho c n (-1) y0 y1 y2 y3 y4 y5 y6 y7 y8 hMc ⟨hn1,hn2⟩ ⟨by decide,hm2⟩) [(0,0),(1,1),(2,2),(3,3),(4,4),(5,5),(6,6),(7,7)] (fun r h' n' hrr => ?_)) (by simp [ales,ale,pvle,I.val])
   obtain ⟨ws1,cc1,gg1,D1,qq1,zz1,vv1,e1,e2,e3,h1,c1⟩ := hrr
   subst e1 e2 e3
   conv => cbv
   refine CallF.le (args0 := [.ptr 0 (.lit 0),i6 s,i6 (-1)]) (cfr (setNextMP_lx R ws1 cc1 gg1 N W ph sp cy L D1 qq1 zz1 vv1 h1 _ c1 o ho s (-1) g c w n p r_ m_ ((upd_ne hsc).trans hMs) (by decide) hm2) [(0,0),(1,1),(2,2),(3,3),(4,4),(5,5),(6,6),(7,7)] (fun r h' n' hrr => ?_)) (by simp [ales,ale,pvle,I.val])
   obtain ⟨ws2,cc2,gg2,D2,qq2,zz2,vv2,e1,e2,e3,h2,c2⟩ := hrr
   subst e1 e2 e3
   conv => cbv
   refine RetF.mk [.p (.bool true)] [hpA 0 1 5 6 3 W ph sp cy,hpB 1 2 4 3 W,hpC 2 3 127 2 N,hpP 3 L,hpP 4 D2,hpF 5 zz2 vv2,hpP 6 qq2,(7,.fix 0 o)] 8 (Re.at [(0,0),(1,1),(2,2),(3,3),(4,4),(5,5),(6,6),(7,7)] []) rfl ⟨ws2,cc2,gg2,D2,qq2,zz2,vv2,rfl,rfl,rfl,h2,by rw [heq]; exact c2⟩
  ·have gt : ¬ y6 = s := gt
   have hBe : B ≠ [] := fun e => gt (hty.trans (hBs.2 e))
   have hlB : ltQ B = y6 := by rw [ltQ_tail (a := s),if_neg hBe,← hty]
   rw [← hnB,hlB] at heq
   simp only [List.nil_append]
   conv => cbv
   refine CallF.le (args0 := [.ptr 0 (.lit 0),i6 c,.p (.bool false),i6 n,i6 y6]) (cfr (setEnds0P_lx R ws C G N W ph sp cy L D Q z ov h M hM o ho c n y6 y0 y1 y2 y3 y4 y5 y6 y7 y8 hMc ⟨hn1,hn2⟩ ⟨ht1,ht2⟩) [(0,0),(1,1),(2,2),(3,3),(4,4),(5,5),(6,6),(7,7)] (fun r h' n' hrr => ?_)) (by simp [ales,ale,pvle,I.val])
   obtain ⟨ws1,cc1,gg1,D1,qq1,zz1,vv1,e1,e2,e3,h1,c1⟩ := hrr
   subst e1 e2 e3
   conv => cbv
   refine CallF.le (args0 := [.ptr 0 (.lit 0),i6 s,i6 (-1)]) (cfr (setNextMP_lx R ws1 cc1 gg1 N W ph sp cy L D1 qq1 zz1 vv1 h1 _ c1 o ho s (-1) g c w n p r_ m_ ((upd_ne hsc).trans hMs) (by decide) hm2) [(0,0),(1,1),(2,2),(3,3),(4,4),(5,5),(6,6),(7,7)] (fun r h' n' hrr => ?_)) (by simp [ales,ale,pvle,I.val])
   obtain ⟨ws2,cc2,gg2,D2,qq2,zz2,vv2,e1,e2,e3,h2,c2⟩ := hrr
   subst e1 e2 e3
   conv => cbv
   refine RetF.mk [.p (.bool true)] [hpA 0 1 5 6 3 W ph sp cy,hpB 1 2 4 3 W,hpC 2 3 127 2 N,hpP 3 L,hpP 4 D2,hpF 5 zz2 vv2,hpP 6 qq2,(7,.fix 0 o)] 8 (Re.at [(0,0),(1,1),(2,2),(3,3),(4,4),(5,5),(6,6),(7,7)] []) rfl ⟨ws2,cc2,gg2,D2,qq2,zz2,vv2,rfl,rfl,rfl,h2,by rw [heq]; exact c2⟩
 ·have gk : ¬ k = 0 := gk
  obtain ⟨A',x,rfl⟩ : ∃ A' x,A = A' ++ [x] := by
   rcases List.eq_nil_or_concat A with e | ⟨l,x,e⟩
   ·rw [e] at hk1; exact absurd hk1 gk
   ·exact ⟨l,x,by rw [e]; simp⟩
  simp only [List.append_assoc,List.singleton_append] at hq hty hBs ⊢
  obtain ⟨gx,wx,nx,px,rx,mx,hMx⟩ : ∃ gx wx nx px rx mx,M x = some (3,[gx,c,wx,nx,px,rx,mx]) := hY.sg c false x (by rw [hq]; simp)
  obtain ⟨hnB,hxs,heq⟩ := hY.rem hq hMc hMs hMx
  have hxl := hM.len h.a hMx
  have hx1 : -1 ≤ x := by omega
  have hx2 : b62 x := by unfold b62; omega
  have hxc : x ≠ c := fun e => by rw [e,hMc] at hMx; cases hMx
  obtain ⟨k1,hk1'⟩ : ∃ k1,k1 = k - 1 := ⟨_,rfl⟩
  have hcell : cells[k1.toNat]? = some (.int .i64 (.sym x)) := by
   rw [hcel,hq]
   refine ipv_get ?_
   simp at hk1
   rw [List.getElem?_append_right (by omega),show k1.toNat - A'.length = 0 by omega]
   rfl
  conv => cbv
  refine Fit.mk (by show (-9223372036854775808 : Int) ≤ k - 1; omega) (by show k - 1 ≤ 9223372036854775807; omega) fun k2 hk2 => ?_
  obtain rfl : k1 = k2 := hk1'.trans (show k2 = k - 1 from hk2).symm
  conv => cbv
  refine Need.mk (show 0 ≤ k1 ∧ k1 < ml by omega) ?_
  conv => cbv
  refine Cell.at k1 _ hcell (by simp [I.val]) rfl ?_
  conv => cbv
  refine CallF.le (args0 := [.ptr 0 (.lit 0),i6 x,i6 n]) (cfr (setNextMP_lx R ws C G N W ph sp cy L D Q z ov h M hM o ho x n gx c wx nx px rx mx hMx hn1 hn2) [(0,0),(1,1),(2,2),(3,3),(4,4),(5,5),(6,6),(7,7)] (fun r h' n' hrr => ?_)) (by simp [ales,ale,pvle,I.val])
  obtain ⟨ws1,cc1,gg1,D1,qq1,zz1,vv1,e1,e2,e3,h1,c1⟩ := hrr
  subst e1 e2 e3
  conv => cbv
  refine Br.mk (fun gt => ?_) (fun gt => ?_)
  ·have gt : y6 = s := gt
   have hBe : B = [] := hBs.1 (hty.symm.trans gt)
   rw [← hnB,if_pos hBe] at heq
   conv => cbv
   refine CallF.le (args0 := [.ptr 0 (.lit 0),i6 c,.p (.bool false),i6 y5,i6 x]) (cfr (setEnds0P_lx R ws1 cc1 gg1 N W ph sp cy L D1 qq1 zz1 vv1 h1 _ c1 o ho c y5 x y0 y1 y2 y3 y4 y5 y6 y7 y8 ((upd_ne hxc.symm).trans hMc) ⟨hh1,hh2⟩ ⟨hx1,hx2⟩) [(0,0),(1,1),(2,2),(3,3),(4,4),(5,5),(6,6),(7,7)] (fun r h' n' hrr => ?_)) (by simp [ales,ale,pvle,I.val])
   obtain ⟨ws2,cc2,gg2,D2,qq2,zz2,vv2,e1,e2,e3,h2,c2⟩ := hrr
   subst e1 e2 e3
   conv => cbv
   refine CallF.le (args0 := [.ptr 0 (.lit 0),i6 s,i6 (-1)]) (cfr (setNextMP_lx R ws2 cc2 gg2 N W ph sp cy L D2 qq2 zz2 vv2 h2 _ c2 o ho s (-1) g c w n p r_ m_ ((upd_ne hsc).trans ((upd_ne hxs.symm).trans hMs)) (by decide) hm2) [(0,0),(1,1),(2,2),(3,3),(4,4),(5,5),(6,6),(7,7)] (fun r h' n' hrr => ?_)) (by simp [ales,ale,pvle,I.val])
   obtain ⟨ws3,cc3,gg3,D3,qq3,zz3,vv3,e1,e2,e3,h3,c3⟩ := hrr
   subst e1 e2 e3
   conv => cbv
   refine RetF.mk [.p (.bool true)] [hpA 0 1 5 6 3 W ph sp cy,hpB 1 2 4 3 W,hpC 2 3 127 2 N,hpP 3 L,hpP 4 D3,hpF 5 zz3 vv3,hpP 6 qq3,(7,.fix 0 o)] 8 (Re.at [(0,0),(1,1),(2,2),(3,3),(4,4),(5,5),(6,6),(7,7)] []) rfl ⟨ws3,cc3,gg3,D3,qq3,zz3,vv3,rfl,rfl,rfl,h3,by rw [heq]; exact c3⟩
  ·have gt : ¬ y6 = s := gt
   have hBe : B ≠ [] := fun e => gt (hty.trans (hBs.2 e))
   rw [← hnB,if_neg hBe] at heq
   conv => cbv
   refine CallF.le (args0 := [.ptr 0 (.lit 0),i6 c,.p (.bool false),i6 y5,i6 y6]) (cfr (setEnds0P_lx R ws1 cc1 gg1 N W ph sp cy L D1 qq1 zz1 vv1 h1 _ c1 o ho c y5 y6 y0 y1 y2 y3 y4 y5 y6 y7 y8 ((upd_ne hxc.symm).trans hMc) ⟨hh1,hh2⟩ ⟨ht1,ht2⟩) [(0,0),(1,1),(2,2),(3,3),(4,4),(5,5),(6,6),(7,7)] (fun r h' n' hrr => ?_)) (by simp [ales,ale,pvle,I.val])
   obtain ⟨ws2,cc2,gg2,D2,qq2,zz2,vv2,e1,e2,e3,h2,c2⟩ := hrr
   subst e1 e2 e3
   conv => cbv
   refine CallF.le (args0 := [.ptr 0 (.lit 0),i6 s,i6 (-1)]) (cfr (setNextMP_lx R ws2 cc2 gg2 N W ph sp cy L D2 qq2 zz2 vv2 h2 _ c2 o ho s (-1) g c w n p r_ m_ ((upd_ne hsc).trans ((upd_ne hxs.symm).trans hMs)) (by decide) hm2) [(0,0),(1,1),(2,2),(3,3),(4,4),(5,5),(6,6),(7,7)] (fun r h' n' hrr => ?_)) (by simp [ales,ale,pvle,I.val])
   obtain ⟨ws3,cc3,gg3,D3,qq3,zz3,vv3,e1,e2,e3,h3,c3⟩ := hrr
   subst e1 e2 e3
   conv => cbv
   refine RetF.mk [.p (.bool true)] [hpA 0 1 5 6 3 W ph sp cy,hpB 1 2 4 3 W,hpC 2 3 127 2 N,hpP 3 L,hpP 4 D3,hpF 5 zz3 vv3,hpP 6 qq3,(7,.fix 0 o)] 8 (Re.at [(0,0),(1,1),(2,2),(3,3),(4,4),(5,5),(6,6),(7,7)] []) rfl ⟨ws3,cc3,gg3,D3,qq3,zz3,vv3,rfl,rfl,rfl,h3,by rw [heq]; exact c3⟩
theorem listRemove1P_lx (R : List Rw) (ws C G : List Int) (N W ph sp cy : Int) (L D Q : List PV) (z : ByteArray) (ov : Bool) (h : HM R ws C G N W L D Q z) (M : Hp) (hM : Cont R ws M) (q : Qs) (hY : Sys M q) (o : Unit → Obj) (ho : IsPow o) (hch : ∀ a F,M a = some (1,F) → ∃ y0 y1 y2 y3 y4 y5 y6 y7 y8,F = [y0,y1,y2,y3,y4,y5,y6,y7,y8]) (hsu : ∀ a F,M a = some (3,F) → ∃ z0 z1 z2 z3 z4 z5 z6,F = [z0,z1,z2,z3,z4,z5,z6]) (c s y0 y1 y2 y3 y4 y5 y6 y7 y8 : Int) (hMc : M c = some (1,[y0,y1,y2,y3,y4,y5,y6,y7,y8])) (hsq : s ∈ q c true) : CallF (fun _ => Tryz.prog) 96 [.ptr 0 (.lit 0),i6 c,.p (.bool true),i6 s] [hpA 0 1 5 6 3 W ph sp cy,hpB 1 2 4 3 W,hpC 2 3 127 2 N,hpP 3 L,hpP 4 D,hpF 5 z ov,hpP 6 Q,(7,.fix 0 o)] 8 (fun r h n => ∃ (ws' cc' gg' : List Int) (D' qq' : List PV) (zz' : ByteArray) (vv' : Bool),r = .p (.bool true) ∧ h = [hpA 0 1 5 6 3 W ph sp cy,hpB 1 2 4 3 W,hpC 2 3 127 2 N,hpP 3 L,hpP 4 D',hpF 5 zz' vv',hpP 6 qq',(7,.fix 0 o)] ∧ n = 8 ∧ HM R ws' cc' gg' N W L D' qq' zz' ∧ Cont R ws' (relink M (updQ q c true ((q c true).filter (fun x => decide (x ≠ s)))))) := by
 have hcl := hY.len h.a hM c true
 have hRr := h.r
 have hnd := hY.nd c true
 obtain ⟨A,B,hq⟩ := List.append_of_mem hsq
 have hfil : (q c true).filter (fun x => decide (x ≠ s)) = A ++ B := by rw [hq]; rw [hq] at hnd; exact filter_ne hnd
 rw [hfil]
 obtain ⟨g,w,n,p,r_,m_,hMs⟩ : ∃ g w n p r m,M s = some (3,[g,c,w,n,p,r,m]) := by
  obtain ⟨g,w,n,p,r,m,e⟩ := hY.sg c true s hsq
  exact ⟨g,w,n,p,r,m,e⟩
 obtain ⟨hp,hb⟩ := hM.chan h.a hMc
 obtain ⟨hp3,hb3,_⟩ := hM.sudog h.a hMs
 have hlk := hY.lnk hMc
 rw [lnk_chan] at hlk
 simp only [Prod.mk.injEq,List.cons.injEq,true_and,and_true] at hlk
 obtain ⟨hl5,hl6,hl7,hl8⟩ := hlk
 have hsl := hM.len h.a hMs
 have hsc : s ≠ c := fun e => by rw [e,hMc] at hMs; cases hMs
 have hn1 : -1 ≤ n := hp3 _ (by simp)
 have hn2 : b62 n := hb3 _ (by simp)
 have hh1 : -1 ≤ y7 := hp _ (by simp)
 have hh2 : b62 y7 := hb _ (by simp)
 have ht1 : -1 ≤ y8 := hp _ (by simp)
 have ht2 : b62 y8 := hb _ (by simp)
 have hm2 : b62 (-1) := by unfold b62; omega
 have hty : y8 = ltQ (A ++ s :: B) := by rw [← hq]; exact hl8.symm
 have hBs : ltQ (A ++ s :: B) = s ↔ B = [] := by
  constructor
  ·intro e
   cases hB : B with
   | nil => rfl
   | cons x l =>
    have h1 : ltQ (A ++ s :: x :: l) = ltQ (x :: l) := by
     unfold ltQ
     simp [List.getLast?_cons_cons]
     cases hgl : (x :: l).getLast? with
     | none => simp at hgl
     | some v => rfl
    rw [hB,h1] at e
    have h2 : s ∈ x :: l := e ▸ ltQ_mem (by simp)
    rw [hq,hB] at hnd
    exact absurd h2 (List.nodup_cons.1 (List.nodup_append.1 hnd).2.1).1
  ·intro e; rw [e]; unfold ltQ; simp
 refine callF_of_body tok Tryz.func96 (by kernel_rfl) rfl rfl rfl ?_; conv => cbv
 refine cfr (listAll_lx R ws C G N W ph sp cy L D Q z ov h M hM q hY c true (hch c) hsu) [(0,0),(1,1),(2,2),(3,3),(4,4),(5,5),(6,6)] (fun r h' n' hrr => ?_)
 obtain ⟨ml,cells,e1,e2,e3,hml,hcel⟩ := hrr
 subst e1 e2 e3
 conv => cbv
 refine callF_lend (index_lx (q c true) s ml cells hcel hml (by omega)) (by simp [lends,lendV,hget,I.val,pvle]) (fun r h' n' ⟨⟨k,e1,hk⟩,e2,e3⟩ => by subst e1 e2; exact ⟨trivial,trivial⟩) (fun r h' n' ⟨⟨k,e1,hk⟩,e2,e3⟩ => ?_)
 subst e1 e2 e3
 have hk1 : k = (A.length : Int) := by
  rcases hk with ⟨i,h1,_,h2⟩ | ⟨h1,_⟩
  ·have h3 : (q c true)[A.length]? = some s := by rw [hq]; simp
   have := (List.getElem?_inj (by have := (List.getElem?_eq_some_iff.1 h1).1; omega) hnd).1 (h1.trans h3.symm)
   omega
  ·exact absurd hsq h1
 have hkl : k < ml := by rw [hml,hq,hk1]; simp; omega
 conv => cbv
 refine Br.no (show ¬ (k < 0) by omega) ?_
 conv => cbv
 refine cfr (chanM_lx R ws C G N W ph sp cy L D Q z ov h M hM c y0 y1 y2 y3 y4 y5 y6 y7 y8 hMc) [(0,0),(1,1),(2,2),(3,3),(4,4),(5,5),(6,6)] (fun r h' n' hrr => ?_)
 obtain ⟨⟨e0,e1,he0⟩,e2,e3⟩ := hrr
 subst e1 e2 e3
 conv => cbv
 refine callF_frame (lends_lx y0 y1 y2 y3 y4 y5 y6 y7 y8 true) [] rfl trivial rfl rfl (fun r h' n' hrr => ?_)
 obtain ⟨⟨hd,tl,e1,hhd,htl2⟩,e2,e3⟩ := hrr
 subst e1 e2 e3
 obtain rfl : y7 = hd := hhd.symm
 obtain rfl : y8 = tl := htl2.symm
 conv => cbv
 refine cfr (sudogM_lx R ws C G N W ph sp cy L D Q z ov h M hM s g c w n p r_ m_ hMs) [(0,0),(1,1),(2,2),(3,3),(4,4),(5,5),(6,6)] (fun r h' n' hrr => ?_)
 obtain ⟨⟨e5,e1,he5⟩,e2,e3⟩ := hrr
 subst e1 e2 e3
 conv => cbv
 refine Br.mk (fun gk => ?_) (fun gk => ?_)
 ·have gk : k = 0 := gk
  have hA : A = [] := List.eq_nil_of_length_eq_zero (by omega)
  subst hA
  simp only [List.nil_append] at hq hty hBs
  obtain ⟨hnB,heq⟩ := hY.pop hq hMc hMs
  conv => cbv
  refine Br.mk (fun gt => ?_) (fun gt => ?_)
  ·have gt : y8 = s := gt
   have hBe : B = [] := hBs.1 (hty.symm.trans gt)
   rw [← hnB,show ltQ B = -1 by rw [hBe]; rfl] at heq
   simp only [List.nil_append]
   conv => cbv
   refine CallF.le (args0 := [.ptr 0 (.lit 0),i6 c,.p (.bool true),i6 n,i6 (-1)]) (cfr (setEnds1P_lx R ws C G N W ph sp cy L D Q z ov h M hM o ho c n (-1) y0 y1 y2 y3 y4 y5 y6 y7 y8 hMc ⟨hn1,hn2⟩ ⟨by decide,hm2⟩) [(0,0),(1,1),(2,2),(3,3),(4,4),(5,5),(6,6),(7,7)] (fun r h' n' hrr => ?_)) (by simp [ales,ale,pvle,I.val])
   obtain ⟨ws1,cc1,gg1,D1,qq1,zz1,vv1,e1,e2,e3,h1,c1⟩ := hrr
   subst e1 e2 e3
   conv => cbv
   refine CallF.le (args0 := [.ptr 0 (.lit 0),i6 s,i6 (-1)]) (cfr (setNextMP_lx R ws1 cc1 gg1 N W ph sp cy L D1 qq1 zz1 vv1 h1 _ c1 o ho s (-1) g c w n p r_ m_ ((upd_ne hsc).trans hMs) (by decide) hm2) [(0,0),(1,1),(2,2),(3,3),(4,4),(5,5),(6,6),(7,7)] (fun r h' n' hrr => ?_)) (by simp [ales,ale,pvle,I.val])
   obtain ⟨ws2,cc2,gg2,D2,qq2,zz2,vv2,e1,e2,e3,h2,c2⟩ := hrr
   subst e1 e2 e3
   conv => cbv
   refine RetF.mk [.p (.bool true)] [hpA 0 1 5 6 3 W ph sp cy,hpB 1 2 4 3 W,hpC 2 3 127 2 N,hpP 3 L,hpP 4 D2,hpF 5 zz2 vv2,hpP 6 qq2,(7,.fix 0 o)] 8 (Re.at [(0,0),(1,1),(2,2),(3,3),(4,4),(5,5),(6,6),(7,7)] []) rfl ⟨ws2,cc2,gg2,D2,qq2,zz2,vv2,rfl,rfl,rfl,h2,by rw [heq]; exact c2⟩
  ·have gt : ¬ y8 = s := gt
   have hBe : B ≠ [] := fun e => gt (hty.trans (hBs.2 e))
   have hlB : ltQ B = y8 := by rw [ltQ_tail (a := s),if_neg hBe,← hty]
   rw [← hnB,hlB] at heq
   simp only [List.nil_append]
   conv => cbv
   refine CallF.le (args0 := [.ptr 0 (.lit 0),i6 c,.p (.bool true),i6 n,i6 y8]) (cfr (setEnds1P_lx R ws C G N W ph sp cy L D Q z ov h M hM o ho c n y8 y0 y1 y2 y3 y4 y5 y6 y7 y8 hMc ⟨hn1,hn2⟩ ⟨ht1,ht2⟩) [(0,0),(1,1),(2,2),(3,3),(4,4),(5,5),(6,6),(7,7)] (fun r h' n' hrr => ?_)) (by simp [ales,ale,pvle,I.val])
   obtain ⟨ws1,cc1,gg1,D1,qq1,zz1,vv1,e1,e2,e3,h1,c1⟩ := hrr
   subst e1 e2 e3
   conv => cbv
   refine CallF.le (args0 := [.ptr 0 (.lit 0),i6 s,i6 (-1)]) (cfr (setNextMP_lx R ws1 cc1 gg1 N W ph sp cy L D1 qq1 zz1 vv1 h1 _ c1 o ho s (-1) g c w n p r_ m_ ((upd_ne hsc).trans hMs) (by decide) hm2) [(0,0),(1,1),(2,2),(3,3),(4,4),(5,5),(6,6),(7,7)] (fun r h' n' hrr => ?_)) (by simp [ales,ale,pvle,I.val])
   obtain ⟨ws2,cc2,gg2,D2,qq2,zz2,vv2,e1,e2,e3,h2,c2⟩ := hrr
   subst e1 e2 e3
   conv => cbv
   refine RetF.mk [.p (.bool true)] [hpA 0 1 5 6 3 W ph sp cy,hpB 1 2 4 3 W,hpC 2 3 127 2 N,hpP 3 L,hpP 4 D2,hpF 5 zz2 vv2,hpP 6 qq2,(7,.fix 0 o)] 8 (Re.at [(0,0),(1,1),(2,2),(3,3),(4,4),(5,5),(6,6),(7,7)] []) rfl ⟨ws2,cc2,gg2,D2,qq2,zz2,vv2,rfl,rfl,rfl,h2,by rw [heq]; exact c2⟩
 ·have gk : ¬ k = 0 := gk
  obtain ⟨A',x,rfl⟩ : ∃ A' x,A = A' ++ [x] := by
   rcases List.eq_nil_or_concat A with e | ⟨l,x,e⟩
   ·rw [e] at hk1; exact absurd hk1 gk
   ·exact ⟨l,x,by rw [e]; simp⟩
  simp only [List.append_assoc,List.singleton_append] at hq hty hBs ⊢
  obtain ⟨gx,wx,nx,px,rx,mx,hMx⟩ : ∃ gx wx nx px rx mx,M x = some (3,[gx,c,wx,nx,px,rx,mx]) := hY.sg c true x (by rw [hq]; simp)
  obtain ⟨hnB,hxs,heq⟩ := hY.rem hq hMc hMs hMx
  have hxl := hM.len h.a hMx
  have hx1 : -1 ≤ x := by omega
  have hx2 : b62 x := by unfold b62; omega
  have hxc : x ≠ c := fun e => by rw [e,hMc] at hMx; cases hMx
  obtain ⟨k1,hk1'⟩ : ∃ k1,k1 = k - 1 := ⟨_,rfl⟩
  have hcell : cells[k1.toNat]? = some (.int .i64 (.sym x)) := by
   rw [hcel,hq]
   refine ipv_get ?_
   simp at hk1
   rw [List.getElem?_append_right (by omega),show k1.toNat - A'.length = 0 by omega]
   rfl
  conv => cbv
  refine Fit.mk (by show (-9223372036854775808 : Int) ≤ k - 1; omega) (by show k - 1 ≤ 9223372036854775807; omega) fun k2 hk2 => ?_
  obtain rfl : k1 = k2 := hk1'.trans (show k2 = k - 1 from hk2).symm
  conv => cbv
  refine Need.mk (show 0 ≤ k1 ∧ k1 < ml by omega) ?_
  conv => cbv
  refine Cell.at k1 _ hcell (by simp [I.val]) rfl ?_
  conv => cbv
  refine CallF.le (args0 := [.ptr 0 (.lit 0),i6 x,i6 n]) (cfr (setNextMP_lx R ws C G N W ph sp cy L D Q z ov h M hM o ho x n gx c wx nx px rx mx hMx hn1 hn2) [(0,0),(1,1),(2,2),(3,3),(4,4),(5,5),(6,6),(7,7)] (fun r h' n' hrr => ?_)) (by simp [ales,ale,pvle,I.val])
  obtain ⟨ws1,cc1,gg1,D1,qq1,zz1,vv1,e1,e2,e3,h1,c1⟩ := hrr
  subst e1 e2 e3
  conv => cbv
  refine Br.mk (fun gt => ?_) (fun gt => ?_)
  ·have gt : y8 = s := gt
   have hBe : B = [] := hBs.1 (hty.symm.trans gt)
   rw [← hnB,if_pos hBe] at heq
   conv => cbv
   refine CallF.le (args0 := [.ptr 0 (.lit 0),i6 c,.p (.bool true),i6 y7,i6 x]) (cfr (setEnds1P_lx R ws1 cc1 gg1 N W ph sp cy L D1 qq1 zz1 vv1 h1 _ c1 o ho c y7 x y0 y1 y2 y3 y4 y5 y6 y7 y8 ((upd_ne hxc.symm).trans hMc) ⟨hh1,hh2⟩ ⟨hx1,hx2⟩) [(0,0),(1,1),(2,2),(3,3),(4,4),(5,5),(6,6),(7,7)] (fun r h' n' hrr => ?_)) (by simp [ales,ale,pvle,I.val])
   obtain ⟨ws2,cc2,gg2,D2,qq2,zz2,vv2,e1,e2,e3,h2,c2⟩ := hrr
   subst e1 e2 e3
   conv => cbv
   refine CallF.le (args0 := [.ptr 0 (.lit 0),i6 s,i6 (-1)]) (cfr (setNextMP_lx R ws2 cc2 gg2 N W ph sp cy L D2 qq2 zz2 vv2 h2 _ c2 o ho s (-1) g c w n p r_ m_ ((upd_ne hsc).trans ((upd_ne hxs.symm).trans hMs)) (by decide) hm2) [(0,0),(1,1),(2,2),(3,3),(4,4),(5,5),(6,6),(7,7)] (fun r h' n' hrr => ?_)) (by simp [ales,ale,pvle,I.val])
   obtain ⟨ws3,cc3,gg3,D3,qq3,zz3,vv3,e1,e2,e3,h3,c3⟩ := hrr
   subst e1 e2 e3
   conv => cbv
   refine RetF.mk [.p (.bool true)] [hpA 0 1 5 6 3 W ph sp cy,hpB 1 2 4 3 W,hpC 2 3 127 2 N,hpP 3 L,hpP 4 D3,hpF 5 zz3 vv3,hpP 6 qq3,(7,.fix 0 o)] 8 (Re.at [(0,0),(1,1),(2,2),(3,3),(4,4),(5,5),(6,6),(7,7)] []) rfl ⟨ws3,cc3,gg3,D3,qq3,zz3,vv3,rfl,rfl,rfl,h3,by rw [heq]; exact c3⟩
  ·have gt : ¬ y8 = s := gt
   have hBe : B ≠ [] := fun e => gt (hty.trans (hBs.2 e))
   rw [← hnB,if_neg hBe] at heq
   conv => cbv
   refine CallF.le (args0 := [.ptr 0 (.lit 0),i6 c,.p (.bool true),i6 y7,i6 y8]) (cfr (setEnds1P_lx R ws1 cc1 gg1 N W ph sp cy L D1 qq1 zz1 vv1 h1 _ c1 o ho c y7 y8 y0 y1 y2 y3 y4 y5 y6 y7 y8 ((upd_ne hxc.symm).trans hMc) ⟨hh1,hh2⟩ ⟨ht1,ht2⟩) [(0,0),(1,1),(2,2),(3,3),(4,4),(5,5),(6,6),(7,7)] (fun r h' n' hrr => ?_)) (by simp [ales,ale,pvle,I.val])
   obtain ⟨ws2,cc2,gg2,D2,qq2,zz2,vv2,e1,e2,e3,h2,c2⟩ := hrr
   subst e1 e2 e3
   conv => cbv
   refine CallF.le (args0 := [.ptr 0 (.lit 0),i6 s,i6 (-1)]) (cfr (setNextMP_lx R ws2 cc2 gg2 N W ph sp cy L D2 qq2 zz2 vv2 h2 _ c2 o ho s (-1) g c w n p r_ m_ ((upd_ne hsc).trans ((upd_ne hxs.symm).trans hMs)) (by decide) hm2) [(0,0),(1,1),(2,2),(3,3),(4,4),(5,5),(6,6),(7,7)] (fun r h' n' hrr => ?_)) (by simp [ales,ale,pvle,I.val])
   obtain ⟨ws3,cc3,gg3,D3,qq3,zz3,vv3,e1,e2,e3,h3,c3⟩ := hrr
   subst e1 e2 e3
   conv => cbv
   refine RetF.mk [.p (.bool true)] [hpA 0 1 5 6 3 W ph sp cy,hpB 1 2 4 3 W,hpC 2 3 127 2 N,hpP 3 L,hpP 4 D3,hpF 5 zz3 vv3,hpP 6 qq3,(7,.fix 0 o)] 8 (Re.at [(0,0),(1,1),(2,2),(3,3),(4,4),(5,5),(6,6),(7,7)] []) rfl ⟨ws3,cc3,gg3,D3,qq3,zz3,vv3,rfl,rfl,rfl,h3,by rw [heq]; exact c3⟩
theorem listRemP_lx (R : List Rw) (ws C G : List Int) (N W ph sp cy : Int) (L D Q : List PV) (z : ByteArray) (ov : Bool) (h : HM R ws C G N W L D Q z) (M : Hp) (hM : Cont R ws M) (q : Qs) (hY : Sys M q) (o : Unit → Obj) (ho : IsPow o) (c s : Int) (d : Bool) (hc : ∃ F,M c = some (1,F)) : CallF (fun _ => Tryz.prog) 96 [.ptr 0 (.lit 0),i6 c,.p (.bool d),i6 s] [hpA 0 1 5 6 3 W ph sp cy,hpB 1 2 4 3 W,hpC 2 3 127 2 N,hpP 3 L,hpP 4 D,hpF 5 z ov,hpP 6 Q,(7,.fix 0 o)] 8 (fun r h n => ∃ (b : Bool) (ws' cc' gg' : List Int) (D' qq' : List PV) (zz' : ByteArray) (vv' : Bool),r = .p (.bool b) ∧ h = [hpA 0 1 5 6 3 W ph sp cy,hpB 1 2 4 3 W,hpC 2 3 127 2 N,hpP 3 L,hpP 4 D',hpF 5 zz' vv',hpP 6 qq',(7,.fix 0 o)] ∧ n = 8 ∧ HM R ws' cc' gg' N W L D' qq' zz' ∧ Cont R ws' (relink M (cutQ q c d s))) := by
 by_cases hs : s ∈ q c d
 ·obtain ⟨F,hF⟩ := hc
  obtain ⟨y0,y1,y2,y3,y4,y5,y6,y7,y8,rfl⟩ := hch9 hY c F hF
  cases d with
  | false => exact (listRemove0P_lx R ws C G N W ph sp cy L D Q z ov h M hM q hY o ho (hch9 hY) (hsu7 hY) c s y0 y1 y2 y3 y4 y5 y6 y7 y8 hF hs).mono fun r h n ⟨ws',cc',gg',D',qq',zz',vv',e1,e2,e3,h1,c1⟩ => ⟨true,ws',cc',gg',D',qq',zz',vv',e1,e2,e3,h1,c1⟩
  | true => exact (listRemove1P_lx R ws C G N W ph sp cy L D Q z ov h M hM q hY o ho (hch9 hY) (hsu7 hY) c s y0 y1 y2 y3 y4 y5 y6 y7 y8 hF hs).mono fun r h n ⟨ws',cc',gg',D',qq',zz',vv',e1,e2,e3,h1,c1⟩ => ⟨true,ws',cc',gg',D',qq',zz',vv',e1,e2,e3,h1,c1⟩
 ·rw [cutQ_no hs,hY.ln]
  exact (listRemoveNo_lx R ws C G N W ph sp cy L D Q z ov h M hM q hY o (hch9 hY) (hsu7 hY) c s d hs).mono fun r h' n ⟨e1,e2,e3⟩ => ⟨false,ws,C,G,D,Q,z,ov,e1,e2,e3,h,hM⟩
theorem leaveAllP_lx (R : List Rw) (ws C G : List Int) (N W ph sp cy : Int) (L D Q : List PV) (z : ByteArray) (ov : Bool) (h : HM R ws C G N W L D Q z) (M : Hp) (hM : Cont R ws M) (q : Qs) (hY : Sys M q) (o : Unit → Obj) (ho : IsPow o) (a : Int) (l : List Int) (hl : Mor M a l) (hnd : l.Nodup) : CallF (fun _ => Tryz.prog) 61 [.ptr 0 (.lit 0),i6 a] [hpA 0 1 5 6 3 W ph sp cy,hpB 1 2 4 3 W,hpC 2 3 127 2 N,hpP 3 L,hpP 4 D,hpF 5 z ov,hpP 6 Q,(7,.fix 0 o)] 8 (fun r h n => ∃ (ws' cc' gg' : List Int) (D' qq' : List PV) (zz' : ByteArray) (vv' : Bool),r = .tup [] ∧ h = [hpA 0 1 5 6 3 W ph sp cy,hpB 1 2 4 3 W,hpC 2 3 127 2 N,hpP 3 L,hpP 4 D',hpF 5 zz' vv',hpP 6 qq',(7,.fix 0 o)] ∧ n = 8 ∧ HM R ws' cc' gg' N W L D' qq' zz' ∧ Cont R ws' (relink M (rmQ q l))) := by
 refine callF_of_body tok Tryz.func61 (by kernel_rfl) rfl rfl rfl ?_; conv => cbv
 refine LoopF.mk (fun kk s => ∃ (at_ : Int) (dn rest : List Int) (ws1 cc1 gg1 : List Int) (D1 qq1 : List PV) (zz1 : ByteArray) (vv1 : Bool),s = ⟨.ptr 0 (.lit 0) :: (undefs 3 ++ .mp 8 :: .p (.int .i64 (.sym at_)) :: undefs 38),[hpA 0 1 5 6 3 W ph sp cy,hpB 1 2 4 3 W,hpC 2 3 127 2 N,hpP 3 L,hpP 4 D1,hpF 5 zz1 vv1,hpP 6 qq1,(7,.fix 0 o),(8,.set dn)],9⟩ ∧ kk = rest.length ∧ l = dn ++ rest ∧ HM R ws1 cc1 gg1 N W L D1 qq1 zz1 ∧ Cont R ws1 (relink M (rmQ q dn)) ∧ Mor M at_ rest) l.length _
  (Re.at [(0,0),(1,1),(2,2),(3,3),(4,4),(5,5),(6,6),(7,7),(8,8)] []) ⟨a,[],l,ws,C,G,D,Q,z,ov,rfl,rfl,rfl,h,by rw [rmQ_nil,hY.ln]; exact hM,hl⟩ ?_
 rintro kk s ⟨at_,dn,rest,ws1,cc1,gg1,D1,qq1,zz1,vv1,rfl,hkk,hld,h1,c1,hmor⟩
 have hY1 := sysFilt hY dn
 have hmor1 := morRel (q := rmQ q dn) hmor
 conv => cbv
 rcases rest with _ | ⟨x,rest⟩
 ·refine cfr (sudogNoM_lx R ws1 cc1 gg1 N W ph sp cy L D1 qq1 zz1 vv1 h1 _ c1 at_ hmor1) [(0,0),(1,1),(2,2),(3,3),(4,4),(5,5),(6,6)] (fun r h' n' hrr => ?_)
  obtain ⟨⟨u0,u1,u2,u3,u4,u5,u6,e,e1,he,hz⟩,e2,e3⟩ := hrr
  subst e1 e2 e3
  have hdl : dn = l := by rw [hld,List.append_nil]
  conv => cbv
  refine Br.mk (fun gq => ?_) (fun gq => ?_)
  ·conv => cbv
   refine Br.yes (show ¬ (e = 0) by omega) ?_
   conv => cbv
   refine RetF.mk [] [hpA 0 1 5 6 3 W ph sp cy,hpB 1 2 4 3 W,hpC 2 3 127 2 N,hpP 3 L,hpP 4 D1,hpF 5 zz1 vv1,hpP 6 qq1,(7,.fix 0 o)] 8 (Re.at [(0,0),(1,1),(2,2),(3,3),(4,4),(5,5),(6,6),(7,7)] []) rfl ⟨ws1,cc1,gg1,D1,qq1,zz1,vv1,rfl,rfl,rfl,h1,by rw [← hdl]; exact c1⟩
  ·conv => cbv
   refine Br.yes (show ¬ (e = 0) by omega) ?_
   conv => cbv
   refine RetF.mk [] [hpA 0 1 5 6 3 W ph sp cy,hpB 1 2 4 3 W,hpC 2 3 127 2 N,hpP 3 L,hpP 4 D1,hpF 5 zz1 vv1,hpP 6 qq1,(7,.fix 0 o)] 8 (Re.at [(0,0),(1,1),(2,2),(3,3),(4,4),(5,5),(6,6),(7,7)] []) rfl ⟨ws1,cc1,gg1,D1,qq1,zz1,vv1,rfl,rfl,rfl,h1,by rw [← hdl]; exact c1⟩
 ·obtain ⟨rfl,g,c,w,n,p,r_,m_,F,hMs,hMc,_⟩ := hmor1
  have hmor2 : Mor M m_ rest := by
   obtain ⟨_,g',c',w',n',p',r',m',F',k1,_,k3⟩ := hmor
   rw [relink_get k1,lnk_sudog] at hMs
   simp only [Option.some.injEq,Prod.mk.injEq,List.cons.injEq,true_and,and_true] at hMs
   rw [← hMs.2.2.2.2.2.2]
   exact k3
  have hni : at_ ∉ dn := by
   rw [hld] at hnd
   intro k
   exact (List.nodup_append.1 hnd).2.2 at_ k at_ List.mem_cons_self rfl
  refine cfr (sudogM_lx R ws1 cc1 gg1 N W ph sp cy L D1 qq1 zz1 vv1 h1 _ c1 at_ g c w n p r_ m_ hMs) [(0,0),(1,1),(2,2),(3,3),(4,4),(5,5),(6,6)] (fun r h' n' hrr => ?_)
  obtain ⟨⟨e,e1,he⟩,e2,e3⟩ := hrr
  subst e1 e2 e3
  conv => cbv
  refine Br.no (show ¬ (at_ ∈ dn) from hni) ?_
  conv => cbv
  refine Br.no (show ¬ ¬ (e = 0) from fun q => q he) ?_
  conv => cbv
  refine Need.mk (show ¬ (at_ ∈ dn) from hni) ?_
  conv => cbv
  refine UpdI.mk fun dn2 hdn2 => ?_
  have hdn2 : dn2 = dn ++ [at_] := hdn2
  conv => cbv
  refine cfr (listRemP_lx R ws1 cc1 gg1 N W ph sp cy L D1 qq1 zz1 vv1 h1 _ c1 _ hY1 o ho c at_ true ⟨F,hMc⟩) [(0,0),(1,1),(2,2),(3,3),(4,4),(5,5),(6,6),(7,7)] (fun r h' n' hrr => ?_)
  obtain ⟨b1,ws2,cc2,gg2,D2,qq2,zz2,vv2,e1,e2,e3,h2,c2⟩ := hrr
  subst e1 e2 e3
  conv => cbv
  have hMc2 : ∃ F,relink (relink M (rmQ q dn)) (cutQ (rmQ q dn) c true at_) c = some (1,F) := by
   obtain ⟨G2,k4,_⟩ := lnk_kind (q := cutQ (rmQ q dn) c true at_) (a := c) (k := 1) (F := F)
   exact ⟨G2,by rw [relink_get hMc,k4]⟩
  refine cfr (listRemP_lx R ws2 cc2 gg2 N W ph sp cy L D2 qq2 zz2 vv2 h2 _ c2 _ (sysCut hY1 c true at_) o ho c at_ false hMc2) [(0,0),(1,1),(2,2),(3,3),(4,4),(5,5),(6,6),(7,7)] (fun r h' n' hrr => ?_)
  obtain ⟨b2,ws3,cc3,gg3,D3,qq3,zz3,vv3,e1,e2,e3,h3,c3⟩ := hrr
  subst e1 e2 e3
  rw [cutQ_both hY1 hMs,relink_relink,relink_relink,rmQ_rmQ,← hdn2] at c3
  conv => cbv
  refine Again.mk rest.length _ (by rw [hkk]; exact Nat.lt_succ_self _) (Re.at [(0,0),(1,1),(2,2),(3,3),(4,4),(5,5),(6,6),(7,7),(8,8)] []) ⟨m_,dn2,rest,ws3,cc3,gg3,D3,qq3,zz3,vv3,rfl,rfl,by rw [hld,hdn2]; simp,h3,c3,hmor2⟩
theorem shadeIdleP_lx (R : List Rw) (ws C G : List Int) (N W ph sp cy : Int) (L D Q : List PV) (z : ByteArray) (ov : Bool) (h : HM R ws C G N W L D Q z) (o : Unit → Obj) (ho : IsPow o) (a : Int) : CallF (fun _ => Tryz.prog) 35 [.ptr 0 (.lit 0),i6 a] [hpA 0 1 5 6 3 W ph sp cy,hpB 1 2 4 3 W,hpC 2 3 127 2 N,hpP 3 L,hpP 4 D,hpF 5 z ov,hpP 6 Q,(7,.fix 0 o)] 8 (fun r h n => ∃ (ccx ggx : List Int) (vvx : Bool) (qqx : List PV) (zzx : ByteArray),r = .tup [] ∧ h = [hpA 0 1 5 6 3 W ph sp cy,hpB 1 2 4 3 W,hpC 2 3 127 2 N,hpP 3 L,hpP 4 D,hpF 5 zzx vvx,hpP 6 qqx,(7,.fix 0 o)] ∧ n = 8 ∧ HM R ws ccx ggx N W L D qqx zzx ∧ (ccx,ggx,vvx) = shade R ph a (C,G,ov)) :=
 (shade_lx R ws C G N W ph sp cy L D Q z ov h o ho a).mono fun r h' n hrr => by
  obtain ⟨C',G',ov',Q',z',e1,e2,e3,h1,hs⟩ := hrr
  exact ⟨C',G',ov',Q',z',e1,e2,e3,h1,hs⟩
theorem wakeP_lx (R : List Rw) (ws C G : List Int) (N W ph sp cy : Int) (L D Q : List PV) (z : ByteArray) (ov : Bool) (h : HM R ws C G N W L D Q z) (M : Hp) (hM : Cont R ws M) (q : Qs) (hY : Sys M q) (o : Unit → Obj) (ho : IsPow o) (s w : Int) (hw : -9223372036854775808 ≤ w ∧ w ≤ 9223372036854775807) (g c v n p r_ m_ x0 x1 x2 x3 x4 x5 x6 x7 x8 x9 : Int) (l : List Int) (hMs : M s = some (3,[g,c,v,n,p,r_,m_])) (hMg : M g = some (4,[x0,x1,x2,x3,x4,x5,x6,x7,x8,x9])) (hl : Mor M x9 l) (hnd : l.Nodup) : CallF (fun _ => Tryz.prog) 25 [.ptr 0 (.lit 0),i6 s,i6 w] [hpA 0 1 5 6 3 W ph sp cy,hpB 1 2 4 3 W,hpC 2 3 127 2 N,hpP 3 L,hpP 4 D,hpF 5 z ov,hpP 6 Q,(7,.fix 0 o)] 8 (fun r h n => ∃ (e : Int),e = 0 ∧ ∃ (ws' cc' gg' : List Int) (D' qq' : List PV) (zz' : ByteArray) (vv' : Bool),r = .tup [i6 g,i6 e] ∧ h = [hpA 0 1 5 6 3 W ph sp cy,hpB 1 2 4 3 W,hpC 2 3 127 2 N,hpP 3 L,hpP 4 D',hpF 5 zz' vv',hpP 6 qq',(7,.fix 0 o)] ∧ n = 8 ∧ HM R ws' cc' gg' N W L D' qq' zz' ∧ Cont R ws' (upd (relink M (rmQ q l)) g (4,[x0,0,p] ++ setR r_ w [x3,x4,x5,x6,x7,x8] ++ [-1])) ∧ ∃ (ca ga : List Int) (va : Bool),(cc',gg',vv') = shade R ph g (ca,ga,va)) := by
 have hMg1 := relink_other (q := rmQ q l) hMg ⟨by decide,by decide⟩
 obtain ⟨hp3,hb3,hw3⟩ := hM.sudog h.a hMs
 obtain ⟨hpg,hbg,hwg⟩ := hM.gor h.a hMg
 refine callF_of_body tok Tryz.func25 (by kernel_rfl) rfl rfl rfl ?_; conv => cbv
 refine cfr (sudogM_lx R ws C G N W ph sp cy L D Q z ov h M hM s g c v n p r_ m_ hMs) [(0,0),(1,1),(2,2),(3,3),(4,4),(5,5),(6,6)] (fun r h' n' hrr => ?_)
 obtain ⟨⟨e0,e1,he0⟩,e2,e3⟩ := hrr
 subst e1 e2 e3
 conv => cbv
 refine Br.no (show ¬ ¬ (e0 = 0) from fun q => q he0) ?_
 conv => cbv
 refine cfr (look_is_lx R ws C G N W ph sp cy L D Q z ov h M hM g x0 x1 x2 x3 x4 x5 x6 x7 x8 x9 hMg) [(0,0),(1,1),(2,2),(3,3),(4,4),(5,5),(6,6)] (fun r h' n' hrr => ?_)
 obtain ⟨e1,e2,e3⟩ := hrr
 subst e1 e2 e3
 conv => cbv
 refine cfr (leaveAllP_lx R ws C G N W ph sp cy L D Q z ov h M hM q hY o ho x9 l hl hnd) [(0,0),(1,1),(2,2),(3,3),(4,4),(5,5),(6,6),(7,7)] (fun r h' n' hrr => ?_)
 obtain ⟨ws1,cc1,gg1,D1,qq1,zz1,vv1,e1,e2,e3,h1,c1⟩ := hrr
 subst e1 e2 e3
 conv => cbv
 refine drawn_sound tok (by kernel_rfl) [(3,[1,0]),(5,[1,0]),(7,[])] [0,1,2,3,4,5,6,7] (by kernel_rfl) ?_; conv => cbv
 refine Br.mk (fun g0 => ?_) (fun g0 => ?_)
 ·have g0 : 0 ≤ r_ := g0
  conv => cbv
  refine Br.mk (fun g6 => ?_) (fun g6 => ?_)
  ·have g6 : r_ < 6 := g6
   conv => cbv
   refine Need.mk (show 0 ≤ r_ ∧ r_ < 6 from ⟨g0,g6⟩) ?_
   conv => cbv
   refine Sum.mk fun k3 hk3 => ?_
   have hk3 : k3 = 3 + r_ := hk3
   conv => cbv
   refine Need.mk (show k3 + 1 ≤ 10 by omega) ?_
   conv => cbv
   refine Upd.mk fun l2 hl2 => ?_
   conv => cbv
   have hl2 : l2 = updL [.int .i64 (.sym x0),.int .i64 (.lit 0),.int .i64 (.sym p),.int .i64 (.sym x3),.int .i64 (.sym x4),.int .i64 (.sym x5),.int .i64 (.sym x6),.int .i64 (.sym x7),.int .i64 (.sym x8),.int .i64 (.lit (-1))] k3.toNat [.int .i64 (.sym w)] := hl2
   have hr6 : r_ = 0 ∨ r_ = 1 ∨ r_ = 2 ∨ r_ = 3 ∨ r_ = 4 ∨ r_ = 5 := by omega
   obtain ⟨a3,a4,a5,a6,a7,a8,hK,hL⟩ : ∃ a3 a4 a5 a6 a7 a8,setR r_ w [x3,x4,x5,x6,x7,x8] = [a3,a4,a5,a6,a7,a8] ∧ l2 = [.int .i64 (.sym x0),.int .i64 (.lit 0),.int .i64 (.sym p),.int .i64 (.sym a3),.int .i64 (.sym a4),.int .i64 (.sym a5),.int .i64 (.sym a6),.int .i64 (.sym a7),.int .i64 (.sym a8),.int .i64 (.lit (-1))] := by
    rw [hl2,hk3]
    clear hl2 hk3 hMs
    rcases hr6 with rfl | rfl | rfl | rfl | rfl | rfl <;> exact ⟨_,_,_,_,_,_,rfl,rfl⟩
   have hwa : ∀ q ∈ [a3,a4,a5,a6,a7,a8],-9223372036854775808 ≤ q ∧ q ≤ 9223372036854775807 := fun q hq => by
    rw [← hK] at hq
    rcases setR_mem hq with e | e
    ·rw [e]; exact hw
    ·exact hwg q e
   refine Cell.at 0 _ (by rw [hL]; rfl) (by simp [I.val]) rfl ?_
   conv => cbv
   refine Cell.at 1 _ (by rw [hL]; rfl) (by simp [I.val]) rfl ?_
   conv => cbv
   refine Cell.at 2 _ (by rw [hL]; rfl) (by simp [I.val]) rfl ?_
   conv => cbv
   refine Cell.at 3 _ (by rw [hL]; rfl) (by simp [I.val]) rfl ?_
   conv => cbv
   refine Cell.at 4 _ (by rw [hL]; rfl) (by simp [I.val]) rfl ?_
   conv => cbv
   refine Cell.at 5 _ (by rw [hL]; rfl) (by simp [I.val]) rfl ?_
   conv => cbv
   refine Cell.at 6 _ (by rw [hL]; rfl) (by simp [I.val]) rfl ?_
   conv => cbv
   refine Cell.at 7 _ (by rw [hL]; rfl) (by simp [I.val]) rfl ?_
   conv => cbv
   refine Cell.at 8 _ (by rw [hL]; rfl) (by simp [I.val]) rfl ?_
   conv => cbv
   refine Cell.at 9 _ (by rw [hL]; rfl) (by simp [I.val]) rfl ?_
   conv => cbv
   have hbg2 : ∀ q ∈ [x0,0,p,-1],b62 q := by
    simp only [List.forall_mem_cons] at hbg hb3 ⊢
    obtain ⟨b0,b1,b2,b9,_⟩ := hbg
    obtain ⟨c0,c1,c3,c4,c5,c6,_⟩ := hb3
    exact ⟨b0,by unfold b62; omega,c4,by unfold b62; omega,fun q hq => by cases hq⟩
   have hwg2 := hwa
   refine CallF.le (args0 := [.ptr 0 (.lit 0),i6 g,.agg [i6 x0,i6 0,i6 p,i6 a3,i6 a4,i6 a5,i6 a6,i6 a7,i6 a8,i6 (-1)]]) (cfr (putGorMP_lx R ws1 cc1 gg1 N W ph sp cy L D1 qq1 zz1 vv1 h1 _ c1 o ho g x0 0 p a3 a4 a5 a6 a7 a8 (-1) [x0,x1,x2,x3,x4,x5,x6,x7,x8,x9] hMg1 rfl hbg2 hwg2 (by simp)) [(0,0),(1,1),(2,2),(3,3),(4,4),(5,5),(6,6),(7,7)] (fun r h' n' hrr => ?_)) (by simp [ales,ale,pvle,I.val])
   obtain ⟨e,ws2,cc2,gg2,D2,qq2,zz2,vv2,e1,he,e2,e3,h2,c2⟩ := hrr
   subst e1 e2 e3
   conv => cbv
   refine cfr (shadeIdleP_lx R ws2 cc2 gg2 N W ph sp cy L D2 qq2 zz2 vv2 h2 o ho g) [(0,0),(1,1),(2,2),(3,3),(4,4),(5,5),(6,6),(7,7)] (fun r h' n' hrr => ?_)
   obtain ⟨cc3,gg3,vv3,qq3,zz3,e1,e2,e3,h3,hsh⟩ := hrr
   subst e1 e2 e3
   conv => cbv
   refine RetF.mk [i6 g,i6 0] [hpA 0 1 5 6 3 W ph sp cy,hpB 1 2 4 3 W,hpC 2 3 127 2 N,hpP 3 L,hpP 4 D2,hpF 5 zz3 vv3,hpP 6 qq3,(7,.fix 0 o)] 8 (Re.at [(0,0),(1,1),(2,2),(3,3),(4,4),(5,5),(6,6),(7,7)] []) rfl ⟨0,rfl,ws2,cc3,gg3,D2,qq3,zz3,vv3,rfl,rfl,rfl,h3,by rw [hK]; exact c2,cc2,gg2,vv2,hsh⟩
  ·have g6 : ¬ r_ < 6 := g6
   have hse : setR r_ w [x3,x4,x5,x6,x7,x8] = [x3,x4,x5,x6,x7,x8] := by unfold setR; rw [if_neg (by omega)]
   conv => cbv
   have hbg2 : ∀ q ∈ [x0,0,p,-1],b62 q := by
    simp only [List.forall_mem_cons] at hbg hb3 ⊢
    obtain ⟨b0,b1,b2,b9,_⟩ := hbg
    obtain ⟨c0,c1,c3,c4,c5,c6,_⟩ := hb3
    exact ⟨b0,by unfold b62; omega,c4,by unfold b62; omega,fun q hq => by cases hq⟩
   have hwg2 := hwg
   refine CallF.le (args0 := [.ptr 0 (.lit 0),i6 g,.agg [i6 x0,i6 0,i6 p,i6 x3,i6 x4,i6 x5,i6 x6,i6 x7,i6 x8,i6 (-1)]]) (cfr (putGorMP_lx R ws1 cc1 gg1 N W ph sp cy L D1 qq1 zz1 vv1 h1 _ c1 o ho g x0 0 p x3 x4 x5 x6 x7 x8 (-1) [x0,x1,x2,x3,x4,x5,x6,x7,x8,x9] hMg1 rfl hbg2 hwg2 (by simp)) [(0,0),(1,1),(2,2),(3,3),(4,4),(5,5),(6,6),(7,7)] (fun r h' n' hrr => ?_)) (by simp [ales,ale,pvle,I.val])
   obtain ⟨e,ws2,cc2,gg2,D2,qq2,zz2,vv2,e1,he,e2,e3,h2,c2⟩ := hrr
   subst e1 e2 e3
   conv => cbv
   refine cfr (shadeIdleP_lx R ws2 cc2 gg2 N W ph sp cy L D2 qq2 zz2 vv2 h2 o ho g) [(0,0),(1,1),(2,2),(3,3),(4,4),(5,5),(6,6),(7,7)] (fun r h' n' hrr => ?_)
   obtain ⟨cc3,gg3,vv3,qq3,zz3,e1,e2,e3,h3,hsh⟩ := hrr
   subst e1 e2 e3
   conv => cbv
   refine RetF.mk [i6 g,i6 0] [hpA 0 1 5 6 3 W ph sp cy,hpB 1 2 4 3 W,hpC 2 3 127 2 N,hpP 3 L,hpP 4 D2,hpF 5 zz3 vv3,hpP 6 qq3,(7,.fix 0 o)] 8 (Re.at [(0,0),(1,1),(2,2),(3,3),(4,4),(5,5),(6,6),(7,7)] []) rfl ⟨0,rfl,ws2,cc3,gg3,D2,qq3,zz3,vv3,rfl,rfl,rfl,h3,by rw [hse]; exact c2,cc2,gg2,vv2,hsh⟩
 ·have g0 : ¬ 0 ≤ r_ := g0
  have hse : setR r_ w [x3,x4,x5,x6,x7,x8] = [x3,x4,x5,x6,x7,x8] := by unfold setR; rw [if_neg (by omega)]
  conv => cbv
  have hbg2 : ∀ q ∈ [x0,0,p,-1],b62 q := by
   simp only [List.forall_mem_cons] at hbg hb3 ⊢
   obtain ⟨b0,b1,b2,b9,_⟩ := hbg
   obtain ⟨c0,c1,c3,c4,c5,c6,_⟩ := hb3
   exact ⟨b0,by unfold b62; omega,c4,by unfold b62; omega,fun q hq => by cases hq⟩
  have hwg2 := hwg
  refine CallF.le (args0 := [.ptr 0 (.lit 0),i6 g,.agg [i6 x0,i6 0,i6 p,i6 x3,i6 x4,i6 x5,i6 x6,i6 x7,i6 x8,i6 (-1)]]) (cfr (putGorMP_lx R ws1 cc1 gg1 N W ph sp cy L D1 qq1 zz1 vv1 h1 _ c1 o ho g x0 0 p x3 x4 x5 x6 x7 x8 (-1) [x0,x1,x2,x3,x4,x5,x6,x7,x8,x9] hMg1 rfl hbg2 hwg2 (by simp)) [(0,0),(1,1),(2,2),(3,3),(4,4),(5,5),(6,6),(7,7)] (fun r h' n' hrr => ?_)) (by simp [ales,ale,pvle,I.val])
  obtain ⟨e,ws2,cc2,gg2,D2,qq2,zz2,vv2,e1,he,e2,e3,h2,c2⟩ := hrr
  subst e1 e2 e3
  conv => cbv
  refine cfr (shadeIdleP_lx R ws2 cc2 gg2 N W ph sp cy L D2 qq2 zz2 vv2 h2 o ho g) [(0,0),(1,1),(2,2),(3,3),(4,4),(5,5),(6,6),(7,7)] (fun r h' n' hrr => ?_)
  obtain ⟨cc3,gg3,vv3,qq3,zz3,e1,e2,e3,h3,hsh⟩ := hrr
  subst e1 e2 e3
  conv => cbv
  refine RetF.mk [i6 g,i6 0] [hpA 0 1 5 6 3 W ph sp cy,hpB 1 2 4 3 W,hpC 2 3 127 2 N,hpP 3 L,hpP 4 D2,hpF 5 zz3 vv3,hpP 6 qq3,(7,.fix 0 o)] 8 (Re.at [(0,0),(1,1),(2,2),(3,3),(4,4),(5,5),(6,6),(7,7)] []) rfl ⟨0,rfl,ws2,cc3,gg3,D2,qq3,zz3,vv3,rfl,rfl,rfl,h3,by rw [hse]; exact c2,cc2,gg2,vv2,hsh⟩
end Go.Proofs.YtmckfhnijeiklaaGreatDoor
