/-
  The ground of the proof, part 9: the calculus and what is proved with it.
-/
import Derived.Test.YtmckfhnijeiklaaGreatDoorBh
import Derived.Test.YtmckfhnijeiklaaGreatDoorBc
import Derived.Test.YtmckfhnijeiklaaGreatDoorBg
namespace Go.Proofs.YtmckfhnijeiklaaGreatDoor
open Go Go.LX
set_option maxRecDepth 100000
set_option linter.unusedVariables false
set_option linter.unusedSimpArgs false
set_option maxHeartbeats 32000000
theorem look_is_lx (R : List Rw) (ws C G : List Int) (N W ph sp cy : Int) (L D Q : List PV) (z : ByteArray) (ov : Bool) (h : HM R ws C G N W L D Q z) (M : Hp) (hM : Cont R ws M) (a x0 x1 x2 x3 x4 x5 x6 x7 x8 x9 : Int) (hMa : M a = some (4,[x0,x1,x2,x3,x4,x5,x6,x7,x8,x9])) : CallF (fun _ => Tryz.prog) 58 [.ptr 0 (.lit 0),i6 a] [hpA 0 1 5 6 3 W ph sp cy,hpB 1 2 4 3 W,hpC 2 3 127 2 N,hpP 3 L,hpP 4 D,hpF 5 z ov,hpP 6 Q] 7 (fun r h n => r = .iface 56 (.agg [i6 x0,i6 x1,i6 x2,i6 x3,i6 x4,i6 x5,i6 x6,i6 x7,i6 x8,i6 x9]) ∧ h = [hpA 0 1 5 6 3 W ph sp cy,hpB 1 2 4 3 W,hpC 2 3 127 2 N,hpP 3 L,hpP 4 D,hpF 5 z ov,hpP 6 Q] ∧ n = 7) := by
 refine callF_of_body tok Tryz.func58 (by kernel_rfl) rfl rfl rfl ?_; conv => cbv
 refine cfr (gorM_lx R ws C G N W ph sp cy L D Q z ov h M hM a x0 x1 x2 x3 x4 x5 x6 x7 x8 x9 hMa) [(0,0),(1,1),(2,2),(3,3),(4,4),(5,5),(6,6)] (fun r h' n' hrr => ?_)
 obtain ⟨⟨e,e1,he⟩,e2,e3⟩ := hrr
 subst e1 e2 e3
 conv => cbv
 refine Br.no (show ¬ ¬ (e = 0) from fun q => q he) ?_
 conv => cbv
 refine RetF.mk [.iface 56 (.agg [i6 x0,i6 x1,i6 x2,i6 x3,i6 x4,i6 x5,i6 x6,i6 x7,i6 x8,i6 x9])] [hpA 0 1 5 6 3 W ph sp cy,hpB 1 2 4 3 W,hpC 2 3 127 2 N,hpP 3 L,hpP 4 D,hpF 5 z ov,hpP 6 Q] 7 (Re.at [(0,0),(1,1),(2,2),(3,3),(4,4),(5,5),(6,6)] []) rfl ⟨rfl,rfl,rfl⟩
theorem setMoreM_lx (R : List Rw) (ws C G : List Int) (N W ph sp cy : Int) (L D Q : List PV) (z : ByteArray) (ov : Bool) (h : HM R ws C G N W L D Q z) (M : Hp) (hM : Cont R ws M) (o : Unit → Obj) (ho : IsPow o) (hph : ph = 0) (a x z0 z1 z2 z3 z4 z5 z6 : Int) (hMa : M a = some (3,[z0,z1,z2,z3,z4,z5,z6])) (hx : -1 ≤ x) (hx2 : b62 x) : CallF (fun _ => Tryz.prog) 60 [.ptr 0 (.lit 0),i6 a,i6 x] [hpA 0 1 5 6 3 W ph sp cy,hpB 1 2 4 3 W,hpC 2 3 127 2 N,hpP 3 L,hpP 4 D,hpF 5 z ov,hpP 6 Q,(7,.fix 0 o)] 8 (fun r h n => ∃ (ws' : List Int) (D' : List PV),r = .tup [] ∧ h = [hpA 0 1 5 6 3 W ph sp cy,hpB 1 2 4 3 W,hpC 2 3 127 2 N,hpP 3 L,hpP 4 D',hpF 5 z ov,hpP 6 Q,(7,.fix 0 o)] ∧ n = 8 ∧ HM R ws' C G N W L D' Q z ∧ Cont R ws' (setM M a x)) := by
 obtain ⟨hp,hb,hw⟩ := hM.sudog h.a hMa
 have hp' : ∀ q ∈ [z0,z1,z3,x],-1 ≤ q := by
  simp only [List.forall_mem_cons] at hp ⊢
  obtain ⟨p0,p1,p3,p6,_⟩ := hp
  exact ⟨p0,p1,p3,hx,fun q hq => by cases hq⟩
 have hb' : ∀ q ∈ [z0,z1,z3,z4,z5,x],b62 q := by
  simp only [List.forall_mem_cons] at hb ⊢
  obtain ⟨b0,b1,b3,b4,b5,b6,_⟩ := hb
  exact ⟨b0,b1,b3,b4,b5,hx2,fun q hq => by cases hq⟩
 rw [setM_eq hMa]
 refine callF_of_body tok Tryz.func60 (by kernel_rfl) rfl rfl rfl ?_; conv => cbv
 refine cfr (sudogM_lx R ws C G N W ph sp cy L D Q z ov h M hM a z0 z1 z2 z3 z4 z5 z6 hMa) [(0,0),(1,1),(2,2),(3,3),(4,4),(5,5),(6,6)] (fun r h' n' hrr => ?_)
 obtain ⟨⟨e0,e1,he0⟩,e2,e3⟩ := hrr
 subst e1 e2 e3
 conv => cbv
 refine cfr (putSudogM_lx R ws C G N W ph sp cy L D Q z ov h M hM o ho hph a z0 z1 z2 z3 z4 z5 x [z0,z1,z2,z3,z4,z5,z6] hMa rfl hb' hw hp') [(0,0),(1,1),(2,2),(3,3),(4,4),(5,5),(6,6),(7,7)] (fun r h' n' hrr => ?_)
 obtain ⟨e,ws',D',e1,he,e2,e3,h1,hM'⟩ := hrr
 subst e1 e2 e3
 conv => cbv
 refine RetF.mk [] [hpA 0 1 5 6 3 W ph sp cy,hpB 1 2 4 3 W,hpC 2 3 127 2 N,hpP 3 L,hpP 4 D',hpF 5 z ov,hpP 6 Q,(7,.fix 0 o)] 8 (Re.at [(0,0),(1,1),(2,2),(3,3),(4,4),(5,5),(6,6),(7,7)] []) rfl ⟨ws',D',rfl,rfl,rfl,h1,hM'⟩
theorem shadeIdle_lx (R : List Rw) (ws C G : List Int) (N W ph sp cy : Int) (L D Q : List PV) (z : ByteArray) (ov : Bool) (h : HM R ws C G N W L D Q z) (o : Unit → Obj) (ho : IsPow o) (hph : ph = 0) (a : Int) : CallF (fun _ => Tryz.prog) 35 [.ptr 0 (.lit 0),i6 a] [hpA 0 1 5 6 3 W ph sp cy,hpB 1 2 4 3 W,hpC 2 3 127 2 N,hpP 3 L,hpP 4 D,hpF 5 z ov,hpP 6 Q,(7,.fix 0 o)] 8 (fun r h n => r = .tup [] ∧ h = [hpA 0 1 5 6 3 W ph sp cy,hpB 1 2 4 3 W,hpC 2 3 127 2 N,hpP 3 L,hpP 4 D,hpF 5 z ov,hpP 6 Q,(7,.fix 0 o)] ∧ n = 8) :=
 (shade_lx R ws C G N W ph sp cy L D Q z ov h o ho a).mono fun r h' n hrr => by
  obtain ⟨C',G',ov',Q',z',e1,e2,e3,h1,hs⟩ := hrr
  have : shade R ph a (C,G,ov) = (C,G,ov) := by unfold shade; rw [if_neg (fun k => by have := k.1; omega)]
  rw [this] at hs
  obtain ⟨q1,q2,q3,q4,q5⟩ := h.still h1 hs
  rw [q3,q4,q5] at e2
  exact ⟨e1,e2,e3⟩
def setR (r w : Int) (k : List Int) : List Int := if 0 ≤ r ∧ r < 6 then k.set r.toNat w else k
theorem setR_mem {r w q : Int} {k : List Int} (h : q ∈ setR r w k) : q = w ∨ q ∈ k := by
 unfold setR at h
 split at h
 ·rcases List.mem_or_eq_of_mem_set h with e | e
  ·exact .inr e
  ·exact .inl e
 ·exact .inr h
theorem setR_len (r w : Int) (k : List Int) : (setR r w k).length = k.length := by unfold setR; split <;> simp
theorem wake_lx (R : List Rw) (ws C G : List Int) (N W ph sp cy : Int) (L D Q : List PV) (z : ByteArray) (ov : Bool) (h : HM R ws C G N W L D Q z) (M : Hp) (hM : Cont R ws M) (q : Qs) (hY : Sys M q) (o : Unit → Obj) (ho : IsPow o) (hph : ph = 0) (s w : Int) (hw : -9223372036854775808 ≤ w ∧ w ≤ 9223372036854775807) (g c v n p r_ m_ x0 x1 x2 x3 x4 x5 x6 x7 x8 x9 : Int) (l : List Int) (hMs : M s = some (3,[g,c,v,n,p,r_,m_])) (hMg : M g = some (4,[x0,x1,x2,x3,x4,x5,x6,x7,x8,x9])) (hl : Mor M x9 l) (hnd : l.Nodup) : CallF (fun _ => Tryz.prog) 25 [.ptr 0 (.lit 0),i6 s,i6 w] [hpA 0 1 5 6 3 W ph sp cy,hpB 1 2 4 3 W,hpC 2 3 127 2 N,hpP 3 L,hpP 4 D,hpF 5 z ov,hpP 6 Q,(7,.fix 0 o)] 8 (fun r h n => ∃ (e : Int),e = 0 ∧ ∃ (ws' : List Int) (D' : List PV),r = .tup [i6 g,i6 e] ∧ h = [hpA 0 1 5 6 3 W ph sp cy,hpB 1 2 4 3 W,hpC 2 3 127 2 N,hpP 3 L,hpP 4 D',hpF 5 z ov,hpP 6 Q,(7,.fix 0 o)] ∧ n = 8 ∧ HM R ws' C G N W L D' Q z ∧ Cont R ws' (upd (relink M (rmQ q l)) g (4,[x0,0,p] ++ setR r_ w [x3,x4,x5,x6,x7,x8] ++ [-1]))) := by
 have hMg1 := relink_other (q := rmQ q l) hMg ⟨by decide,by decide⟩
 obtain ⟨hp3,hb3,hw3⟩ := hM.sudog h.a hMs
 obtain ⟨hpg,hbg,hwg⟩ := hM.gor h.a hMg
 refine callF_of_body tok Tryz.func25 (by kernel_rfl) rfl rfl rfl ?_; conv => cbv
 refine cfr (sudogM_lx R ws C G N W ph sp cy L D Q z ov h M hM s g c v n p r_ m_ hMs) [(0,0),(1,1),(2,2),(3,3),(4,4),(5,5),(6,6)] (fun r h' n' hrr => ?_)
 obtain ⟨⟨e0,e1,he0⟩,e2,e3⟩ := hrr
 subst e1 e2 e3
 conv => cbv
 refine Br.no (show ¬ ¬ (e0 = 0) from fun q => q he0) ?_
 conv => cbv
 refine cfr (look_is_lx R ws C G N W ph sp cy L D Q z ov h M hM g x0 x1 x2 x3 x4 x5 x6 x7 x8 x9 hMg) [(0,0),(1,1),(2,2),(3,3),(4,4),(5,5),(6,6)] (fun r h' n' hrr => ?_)
 obtain ⟨e1,e2,e3⟩ := hrr
 subst e1 e2 e3
 conv => cbv
 refine cfr (leaveAll_lx R ws C G N W ph sp cy L D Q z ov h M hM q hY o ho hph x9 l hl hnd) [(0,0),(1,1),(2,2),(3,3),(4,4),(5,5),(6,6),(7,7)] (fun r h' n' hrr => ?_)
 obtain ⟨ws1,D1,e1,e2,e3,h1,c1⟩ := hrr
 subst e1 e2 e3
 conv => cbv
 refine drawn_sound tok (by kernel_rfl) [(3,[1,0]),(5,[1,0]),(7,[])] [0,1,2,3,4,5,6,7] (by kernel_rfl) ?_; conv => cbv
 refine Br.mk (fun g0 => ?_) (fun g0 => ?_)
 ·have g0 : 0 ≤ r_ := g0
  conv => cbv
  refine Br.mk (fun g6 => ?_) (fun g6 => ?_)
  ·have g6 : r_ < 6 := g6
   conv => cbv
   refine Need.mk (show 0 ≤ r_ ∧ r_ < 6 from ⟨g0,g6⟩) ?_
   conv => cbv
   refine Sum.mk fun k3 hk3 => ?_
   have hk3 : k3 = 3 + r_ := hk3
   conv => cbv
   refine Need.mk (show k3 + 1 ≤ 10 by omega) ?_
   conv => cbv
   refine Upd.mk fun l2 hl2 => ?_
   conv => cbv
   have hl2 : l2 = updL [.int .i64 (.sym x0),.int .i64 (.lit 0),.int .i64 (.sym p),.int .i64 (.sym x3),.int .i64 (.sym x4),.int .i64 (.sym x5),.int .i64 (.sym x6),.int .i64 (.sym x7),.int .i64 (.sym x8),.int .i64 (.lit (-1))] k3.toNat [.int .i64 (.sym w)] := hl2
   have hr6 : r_ = 0 ∨ r_ = 1 ∨ r_ = 2 ∨ r_ = 3 ∨ r_ = 4 ∨ r_ = 5 := by omega
   obtain ⟨a3,a4,a5,a6,a7,a8,hK,hL⟩ : ∃ a3 a4 a5 a6 a7 a8,setR r_ w [x3,x4,x5,x6,x7,x8] = [a3,a4,a5,a6,a7,a8] ∧ l2 = [.int .i64 (.sym x0),.int .i64 (.lit 0),.int .i64 (.sym p),.int .i64 (.sym a3),.int .i64 (.sym a4),.int .i64 (.sym a5),.int .i64 (.sym a6),.int .i64 (.sym a7),.int .i64 (.sym a8),.int .i64 (.lit (-1))] := by
    rw [hl2,hk3]
    clear hl2 hk3 hMs
    rcases hr6 with rfl | rfl | rfl | rfl | rfl | rfl <;> exact ⟨_,_,_,_,_,_,rfl,rfl⟩
   have hwa : ∀ q ∈ [a3,a4,a5,a6,a7,a8],-9223372036854775808 ≤ q ∧ q ≤ 9223372036854775807 := fun q hq => by
    rw [← hK] at hq
    rcases setR_mem hq with e | e
    ·rw [e]; exact hw
    ·exact hwg q e
   refine Cell.at 0 _ (by rw [hL]; rfl) (by simp [I.val]) rfl ?_
   conv => cbv
   refine Cell.at 1 _ (by rw [hL]; rfl) (by simp [I.val]) rfl ?_
   conv => cbv
   refine Cell.at 2 _ (by rw [hL]; rfl) (by simp [I.val]) rfl ?_
   conv => cbv
   refine Cell.at 3 _ (by rw [hL]; rfl) (by simp [I.val]) rfl ?_
   conv => cbv
   refine Cell.at 4 _ (by rw [hL]; rfl) (by simp [I.val]) rfl ?_
   conv => cbv
   refine Cell.at 5 _ (by rw [hL]; rfl) (by simp [I.val]) rfl ?_
   conv => cbv
   refine Cell.at 6 _ (by rw [hL]; rfl) (by simp [I.val]) rfl ?_
   conv => cbv
   refine Cell.at 7 _ (by rw [hL]; rfl) (by simp [I.val]) rfl ?_
   conv => cbv
   refine Cell.at 8 _ (by rw [hL]; rfl) (by simp [I.val]) rfl ?_
   conv => cbv
   refine Cell.at 9 _ (by rw [hL]; rfl) (by simp [I.val]) rfl ?_
   conv => cbv
   have hbg2 : ∀ q ∈ [x0,0,p,-1],b62 q := by
    simp only [List.forall_mem_cons] at hbg hb3 ⊢
    obtain ⟨b0,b1,b2,b9,_⟩ := hbg
    obtain ⟨c0,c1,c3,c4,c5,c6,_⟩ := hb3
    exact ⟨b0,by unfold b62; omega,c4,by unfold b62; omega,fun q hq => by cases hq⟩
   have hwg2 := hwa
   refine CallF.le (args0 := [.ptr 0 (.lit 0),i6 g,.agg [i6 x0,i6 0,i6 p,i6 a3,i6 a4,i6 a5,i6 a6,i6 a7,i6 a8,i6 (-1)]]) (cfr (putGorM_lx R ws1 C G N W ph sp cy L D1 Q z ov h1 _ c1 o ho hph g x0 0 p a3 a4 a5 a6 a7 a8 (-1) [x0,x1,x2,x3,x4,x5,x6,x7,x8,x9] hMg1 rfl hbg2 hwg2 (by simp)) [(0,0),(1,1),(2,2),(3,3),(4,4),(5,5),(6,6),(7,7)] (fun r h' n' hrr => ?_)) (by simp [ales,ale,pvle,I.val])
   obtain ⟨e,ws2,D2,e1,he,e2,e3,h2,c2⟩ := hrr
   subst e1 e2 e3
   conv => cbv
   refine cfr (shadeIdle_lx R ws2 C G N W ph sp cy L D2 Q z ov h2 o ho hph g) [(0,0),(1,1),(2,2),(3,3),(4,4),(5,5),(6,6),(7,7)] (fun r h' n' ⟨e1,e2,e3⟩ => ?_)
   subst e1 e2 e3
   conv => cbv
   refine RetF.mk [i6 g,i6 0] [hpA 0 1 5 6 3 W ph sp cy,hpB 1 2 4 3 W,hpC 2 3 127 2 N,hpP 3 L,hpP 4 D2,hpF 5 z ov,hpP 6 Q,(7,.fix 0 o)] 8 (Re.at [(0,0),(1,1),(2,2),(3,3),(4,4),(5,5),(6,6),(7,7)] []) rfl ⟨0,rfl,ws2,D2,rfl,rfl,rfl,h2,by rw [hK]; exact c2⟩
  ·have g6 : ¬ r_ < 6 := g6
   have hse : setR r_ w [x3,x4,x5,x6,x7,x8] = [x3,x4,x5,x6,x7,x8] := by unfold setR; rw [if_neg (by omega)]
   conv => cbv
   have hbg2 : ∀ q ∈ [x0,0,p,-1],b62 q := by
    simp only [List.forall_mem_cons] at hbg hb3 ⊢
    obtain ⟨b0,b1,b2,b9,_⟩ := hbg
    obtain ⟨c0,c1,c3,c4,c5,c6,_⟩ := hb3
    exact ⟨b0,by unfold b62; omega,c4,by unfold b62; omega,fun q hq => by cases hq⟩
   have hwg2 := hwg
   refine CallF.le (args0 := [.ptr 0 (.lit 0),i6 g,.agg [i6 x0,i6 0,i6 p,i6 x3,i6 x4,i6 x5,i6 x6,i6 x7,i6 x8,i6 (-1)]]) (cfr (putGorM_lx R ws1 C G N W ph sp cy L D1 Q z ov h1 _ c1 o ho hph g x0 0 p x3 x4 x5 x6 x7 x8 (-1) [x0,x1,x2,x3,x4,x5,x6,x7,x8,x9] hMg1 rfl hbg2 hwg2 (by simp)) [(0,0),(1,1),(2,2),(3,3),(4,4),(5,5),(6,6),(7,7)] (fun r h' n' hrr => ?_)) (by simp [ales,ale,pvle,I.val])
   obtain ⟨e,ws2,D2,e1,he,e2,e3,h2,c2⟩ := hrr
   subst e1 e2 e3
   conv => cbv
   refine cfr (shadeIdle_lx R ws2 C G N W ph sp cy L D2 Q z ov h2 o ho hph g) [(0,0),(1,1),(2,2),(3,3),(4,4),(5,5),(6,6),(7,7)] (fun r h' n' ⟨e1,e2,e3⟩ => ?_)
   subst e1 e2 e3
   conv => cbv
   refine RetF.mk [i6 g,i6 0] [hpA 0 1 5 6 3 W ph sp cy,hpB 1 2 4 3 W,hpC 2 3 127 2 N,hpP 3 L,hpP 4 D2,hpF 5 z ov,hpP 6 Q,(7,.fix 0 o)] 8 (Re.at [(0,0),(1,1),(2,2),(3,3),(4,4),(5,5),(6,6),(7,7)] []) rfl ⟨0,rfl,ws2,D2,rfl,rfl,rfl,h2,by rw [hse]; exact c2⟩
 ·have g0 : ¬ 0 ≤ r_ := g0
  have hse : setR r_ w [x3,x4,x5,x6,x7,x8] = [x3,x4,x5,x6,x7,x8] := by unfold setR; rw [if_neg (by omega)]
  conv => cbv
  have hbg2 : ∀ q ∈ [x0,0,p,-1],b62 q := by
   simp only [List.forall_mem_cons] at hbg hb3 ⊢
   obtain ⟨b0,b1,b2,b9,_⟩ := hbg
   obtain ⟨c0,c1,c3,c4,c5,c6,_⟩ := hb3
   exact ⟨b0,by unfold b62; omega,c4,by unfold b62; omega,fun q hq => by cases hq⟩
  have hwg2 := hwg
  refine CallF.le (args0 := [.ptr 0 (.lit 0),i6 g,.agg [i6 x0,i6 0,i6 p,i6 x3,i6 x4,i6 x5,i6 x6,i6 x7,i6 x8,i6 (-1)]]) (cfr (putGorM_lx R ws1 C G N W ph sp cy L D1 Q z ov h1 _ c1 o ho hph g x0 0 p x3 x4 x5 x6 x7 x8 (-1) [x0,x1,x2,x3,x4,x5,x6,x7,x8,x9] hMg1 rfl hbg2 hwg2 (by simp)) [(0,0),(1,1),(2,2),(3,3),(4,4),(5,5),(6,6),(7,7)] (fun r h' n' hrr => ?_)) (by simp [ales,ale,pvle,I.val])
  obtain ⟨e,ws2,D2,e1,he,e2,e3,h2,c2⟩ := hrr
  subst e1 e2 e3
  conv => cbv
  refine cfr (shadeIdle_lx R ws2 C G N W ph sp cy L D2 Q z ov h2 o ho hph g) [(0,0),(1,1),(2,2),(3,3),(4,4),(5,5),(6,6),(7,7)] (fun r h' n' ⟨e1,e2,e3⟩ => ?_)
  subst e1 e2 e3
  conv => cbv
  refine RetF.mk [i6 g,i6 0] [hpA 0 1 5 6 3 W ph sp cy,hpB 1 2 4 3 W,hpC 2 3 127 2 N,hpP 3 L,hpP 4 D2,hpF 5 z ov,hpP 6 Q,(7,.fix 0 o)] 8 (Re.at [(0,0),(1,1),(2,2),(3,3),(4,4),(5,5),(6,6),(7,7)] []) rfl ⟨0,rfl,ws2,D2,rfl,rfl,rfl,h2,by rw [hse]; exact c2⟩
theorem park_lx (R : List Rw) (ws C G : List Int) (N W ph sp cy : Int) (L D Q : List PV) (z : ByteArray) (ov : Bool) (h : HM R ws C G N W L D Q z) (M : Hp) (hM : Cont R ws M) (q : Qs) (hY : Sys M q) (o : Unit → Obj) (ho : IsPow o) (hph : ph = 0) (g x0 x1 x2 x3 x4 x5 x6 x7 x8 x9 : Int) (l : List Int) (ln : Int) (cells : List PV) (hcs : cells = ipv l) (hln : ln = l.length) (hlb : ln ≤ 1000) (hMg : M g = some (4,[x0,x1,x2,x3,x4,x5,x6,x7,x8,x9])) (hl : ∀ x ∈ l,IsSu M x) : CallF (fun _ => Tryz.prog) 24 [.ptr 0 (.lit 0),i6 g,.p (.vsl (.sym ln) true cells)] [hpA 0 1 5 6 3 W ph sp cy,hpB 1 2 4 3 W,hpC 2 3 127 2 N,hpP 3 L,hpP 4 D,hpF 5 z ov,hpP 6 Q,(7,.fix 0 o)] 8 (fun r h n => ∃ (e : Int),e = 0 ∧ ∃ (ws' : List Int) (D' : List PV),r = .p (.int .i64 (.sym e)) ∧ h = [hpA 0 1 5 6 3 W ph sp cy,hpB 1 2 4 3 W,hpC 2 3 127 2 N,hpP 3 L,hpP 4 D',hpF 5 z ov,hpP 6 Q,(7,.fix 0 o)] ∧ n = 8 ∧ HM R ws' C G N W L D' Q z ∧ Cont R ws' (upd (parkM M l) g (4,[x0,1,x2,x3,x4,x5,x6,x7,x8,hdQ l]))) := by
 refine callF_of_body tok Tryz.func24 (by kernel_rfl) rfl rfl rfl ?_; conv => cbv
 refine cfr (look_is_lx R ws C G N W ph sp cy L D Q z ov h M hM g x0 x1 x2 x3 x4 x5 x6 x7 x8 x9 hMg) [(0,0),(1,1),(2,2),(3,3),(4,4),(5,5),(6,6)] (fun r h' n' hrr => ?_)
 obtain ⟨e1,e2,e3⟩ := hrr
 subst e1 e2 e3
 conv => cbv
 have hln0 : (0 : Int) ≤ ln := by omega
 refine LoopF.mk (fun kk s => ∃ i : Int,s = ⟨.ptr 0 (.lit 0) :: .p (.int .i64 (.sym g)) :: .p (.vsl (.sym ln) true cells) :: (undefs 5 ++ .ptr 8 (.lit 0) :: (undefs 20 ++ .p (.vsl (.sym ln) true cells) :: .p (.int .i64 (.sym ln)) :: .p (.int .i64 (.sym i)) :: undefs 48)),[hpA 0 1 5 6 3 W ph sp cy,hpB 1 2 4 3 W,hpC 2 3 127 2 N,hpP 3 L,hpP 4 D,hpF 5 z ov,hpP 6 Q,(7,.fix 0 o),(8,.pure false [.int .i64 (.sym x0),.int .i64 (.sym x1),.int .i64 (.sym x2),.int .i64 (.sym x3),.int .i64 (.sym x4),.int .i64 (.sym x5),.int .i64 (.sym x6),.int .i64 (.sym x7),.int .i64 (.sym x8),.int .i64 (.sym x9)])],9⟩ ∧ 0 ≤ i ∧ i ≤ ln ∧ kk = (ln - i).toNat) ln.toNat _
  (Re.at [(0,0),(1,1),(2,2),(3,3),(4,4),(5,5),(6,6),(7,7),(8,8)] []) ⟨0,rfl,by omega,by omega,by omega⟩ ?_
 rintro kk s ⟨i,rfl,hi0,hi1,hkk⟩
 conv => cbv
 refine Br.mk (fun gi => ?_) (fun gi => ?_)
 ·have gi : i < ln := gi
  obtain ⟨x,hx⟩ : ∃ x,l[i.toNat]? = some x := ⟨_,List.getElem?_eq_getElem (by omega)⟩
  have hcell : cells[i.toNat]? = some (.int .i64 (.sym x)) := by rw [hcs]; exact ipv_get hx
  obtain ⟨z0,z1,z2,z3,z4,z5,z6,hMx⟩ := hl x (List.mem_of_getElem? hx)
  conv => cbv
  refine Need.mk (show 0 ≤ i ∧ i < ln from ⟨hi0,gi⟩) ?_
  conv => cbv
  refine Cell.at i _ hcell (by simp [I.val]) rfl ?_
  conv => cbv
  refine cfr (sudogM_lx R ws C G N W ph sp cy L D Q z ov h M hM x z0 z1 z2 z3 z4 z5 z6 hMx) [(0,0),(1,1),(2,2),(3,3),(4,4),(5,5),(6,6)] (fun r h' n' hrr => ?_)
  obtain ⟨⟨e0,e1,he0⟩,e2,e3⟩ := hrr
  subst e1 e2 e3
  conv => cbv
  refine Br.no (show ¬ ¬ (e0 = 0) from fun q => q he0) ?_
  conv => cbv
  refine Fit.mk (by show (-9223372036854775808 : Int) ≤ i + 1; omega) (by show i + 1 ≤ 9223372036854775807; omega) fun i2 hi2 => ?_
  have hi2 : i2 = i + 1 := hi2
  conv => cbv
  refine Again.mk (ln - i2).toNat _ (by omega) (Re.at [(0,0),(1,1),(2,2),(3,3),(4,4),(5,5),(6,6),(7,7),(8,8)] []) ⟨i2,rfl,by omega,by omega,rfl⟩
 ·have gi : ¬ i < ln := gi
  clear hkk hi0 hi1 gi
  conv => cbv
  refine LoopF.mk (fun kk s => ∃ (j : Int) (dn rest ws1 : List Int) (D1 : List PV) (Mj : Hp),s = ⟨.ptr 0 (.lit 0) :: .p (.int .i64 (.sym g)) :: .p (.vsl (.sym ln) true cells) :: (undefs 5 ++ .ptr 8 (.lit 0) :: (undefs 38 ++ .p (.vsl (.sym ln) true cells) :: .p (.int .i64 (.sym ln)) :: .p (.int .i64 (.sym j)) :: undefs 30)),[hpA 0 1 5 6 3 W ph sp cy,hpB 1 2 4 3 W,hpC 2 3 127 2 N,hpP 3 L,hpP 4 D1,hpF 5 z ov,hpP 6 Q,(7,.fix 0 o),(8,.pure false [.int .i64 (.sym x0),.int .i64 (.lit 1),.int .i64 (.sym x2),.int .i64 (.sym x3),.int .i64 (.sym x4),.int .i64 (.sym x5),.int .i64 (.sym x6),.int .i64 (.sym x7),.int .i64 (.sym x8),.int .i64 (.lit (-1))])],9⟩ ∧ l = dn ++ rest ∧ j = dn.length ∧ kk = rest.length ∧ HM R ws1 C G N W L D1 Q z ∧ Cont R ws1 Mj ∧ parkM Mj rest = parkM M l ∧ (∀ x ∈ rest,IsSu Mj x) ∧ Mj g = M g) l.length _
   (Re.at [(0,0),(1,1),(2,2),(3,3),(4,4),(5,5),(6,6),(7,7),(8,8)] []) ⟨0,[],l,ws,D,M,rfl,rfl,rfl,rfl,h,hM,rfl,hl,rfl⟩ ?_
  rintro kk s ⟨j,dn,rest,ws1,D1,Mj,rfl,hld,hj,hkk,h1,c1,hpk,hsu,hMjg⟩
  have hj0 : (0 : Int) ≤ j := by omega
  have hj : j = (dn.length : Int) := hj
  have hll : (l.length : Int) = dn.length + rest.length := by rw [hld]; simp
  have hln : ln = (l.length : Int) := hln
  conv => cbv
  rcases rest with _ | ⟨x,rest⟩
  ·have hll : (l.length : Int) = dn.length := by simpa using hll
   refine Br.no (show ¬ (j < ln) by omega) ?_
   conv => cbv
   have hMjl : parkM M l = Mj := hpk.symm
   rw [hMjl]
   have hMjg2 : Mj g = some (4,[x0,x1,x2,x3,x4,x5,x6,x7,x8,x9]) := hMjg.trans hMg
   obtain ⟨hpg,hbg,hwg⟩ := c1.gor h1.a hMjg2
   have hll2 : ln = l.length := hln
   have hRr := h.r
   refine Br.mk (fun g0 => ?_) (fun g0 => ?_)
   ·have g0 : 0 < ln := g0
    obtain ⟨x,l',rfl⟩ : ∃ x l',l = x :: l' := by
     cases l with
     | nil => simp at hln; omega
     | cons x l' => exact ⟨x,l',rfl⟩
    have hcell : cells[(0 : Int).toNat]? = some (.int .i64 (.sym x)) := by rw [hcs]; rfl
    obtain ⟨z0,z1,z2,z3,z4,z5,z6,hMx⟩ := hl x List.mem_cons_self
    have hxl := hM.len h.a hMx
    show _
    conv => cbv
    refine Need.mk (show (0 : Int) ≤ 0 ∧ 0 < ln by omega) ?_
    conv => cbv
    refine Cell.at 0 _ hcell (by simp [I.val]) rfl ?_
    conv => cbv
    have hbg2 : ∀ q ∈ [x0,1,x2,x],b62 q := by
     simp only [List.forall_mem_cons] at hbg ⊢
     obtain ⟨b0,b1,b2,b9,_⟩ := hbg
     exact ⟨b0,by unfold b62; omega,b2,by unfold b62; omega,fun q hq => by cases hq⟩
    refine CallF.le (args0 := [.ptr 0 (.lit 0),i6 g,.agg [i6 x0,i6 1,i6 x2,i6 x3,i6 x4,i6 x5,i6 x6,i6 x7,i6 x8,i6 x]]) (cfr (putGorM_lx R ws1 C G N W ph sp cy L D1 Q z ov h1 _ c1 o ho hph g x0 1 x2 x3 x4 x5 x6 x7 x8 x [x0,x1,x2,x3,x4,x5,x6,x7,x8,x9] hMjg2 rfl hbg2 hwg (by intro q hq; rw [List.mem_singleton.1 hq]; omega)) [(0,0),(1,1),(2,2),(3,3),(4,4),(5,5),(6,6),(7,7)] (fun r h' n' hrr => ?_)) (by simp [ales,ale,pvle,I.val])
    obtain ⟨e,ws2,D2,e1,he,e2,e3,h2,c2⟩ := hrr
    subst e1 e2 e3
    conv => cbv
    refine RetF.mk [i6 e] [hpA 0 1 5 6 3 W ph sp cy,hpB 1 2 4 3 W,hpC 2 3 127 2 N,hpP 3 L,hpP 4 D2,hpF 5 z ov,hpP 6 Q,(7,.fix 0 o)] 8 (Re.at [(0,0),(1,1),(2,2),(3,3),(4,4),(5,5),(6,6),(7,7)] []) rfl ⟨e,he,ws2,D2,rfl,rfl,rfl,h2,c2⟩
   ·have g0 : ¬ 0 < ln := g0
    have hl0 : l = [] := List.eq_nil_of_length_eq_zero (by omega)
    subst hl0
    conv => cbv
    have hbg2 : ∀ q ∈ [x0,1,x2,(-1)],b62 q := by
     simp only [List.forall_mem_cons] at hbg ⊢
     obtain ⟨b0,b1,b2,b9,_⟩ := hbg
     exact ⟨b0,by unfold b62; omega,b2,by unfold b62; omega,fun q hq => by cases hq⟩
    refine CallF.le (args0 := [.ptr 0 (.lit 0),i6 g,.agg [i6 x0,i6 1,i6 x2,i6 x3,i6 x4,i6 x5,i6 x6,i6 x7,i6 x8,i6 (-1)]]) (cfr (putGorM_lx R ws1 C G N W ph sp cy L D1 Q z ov h1 _ c1 o ho hph g x0 1 x2 x3 x4 x5 x6 x7 x8 (-1) [x0,x1,x2,x3,x4,x5,x6,x7,x8,x9] hMjg2 rfl hbg2 hwg (by intro q hq; rw [List.mem_singleton.1 hq]; omega)) [(0,0),(1,1),(2,2),(3,3),(4,4),(5,5),(6,6),(7,7)] (fun r h' n' hrr => ?_)) (by simp [ales,ale,pvle,I.val])
    obtain ⟨e,ws2,D2,e1,he,e2,e3,h2,c2⟩ := hrr
    subst e1 e2 e3
    conv => cbv
    refine RetF.mk [i6 e] [hpA 0 1 5 6 3 W ph sp cy,hpB 1 2 4 3 W,hpC 2 3 127 2 N,hpP 3 L,hpP 4 D2,hpF 5 z ov,hpP 6 Q,(7,.fix 0 o)] 8 (Re.at [(0,0),(1,1),(2,2),(3,3),(4,4),(5,5),(6,6),(7,7)] []) rfl ⟨e,he,ws2,D2,rfl,rfl,rfl,h2,c2⟩
  ·have hll : (l.length : Int) = dn.length + (rest.length + 1) := by simpa using hll
   have hxl : l[j.toNat]? = some x := by rw [hld,hj]; simp
   have hcell : cells[j.toNat]? = some (.int .i64 (.sym x)) := by rw [hcs]; exact ipv_get hxl
   obtain ⟨z0,z1,z2,z3,z4,z5,z6,hMx⟩ := hsu x List.mem_cons_self
   have hxg : g ≠ x := fun e => by rw [← e,hMjg,hMg] at hMx; cases hMx
   refine Br.yes (show j < ln by omega) ?_
   conv => cbv
   refine Need.mk (show 0 ≤ j ∧ j < ln by omega) ?_
   conv => cbv
   refine Cell.at j _ hcell (by simp [I.val]) rfl ?_
   conv => cbv
   refine Fit.mk (by show (-9223372036854775808 : Int) ≤ j + 1; omega) (by show j + 1 ≤ 9223372036854775807; omega) fun j2 hj2 => ?_
   have hj2 : j2 = j + 1 := hj2
   conv => cbv
   refine Br.mk (fun gj => ?_) (fun gj => ?_)
   ·have gj : j2 < ln := gj
    obtain ⟨y,rest,rfl⟩ : ∃ y r,rest = y :: r := by
     cases rest with
     | nil => simp at hll; omega
     | cons y r => exact ⟨y,r,rfl⟩
    have hyl : l[j2.toNat]? = some y := by rw [hld,show j2.toNat = dn.length + 1 by omega]; simp
    have hcell2 : cells[j2.toNat]? = some (.int .i64 (.sym y)) := by rw [hcs]; exact ipv_get hyl
    obtain ⟨u0,u1,u2,u3,u4,u5,u6,hMy⟩ := hsu y (List.mem_cons_of_mem _ List.mem_cons_self)
    have hyl2 := c1.len h1.a hMy
    have hRr := h1.r
    conv => cbv
    refine Fit.mk (by show (-9223372036854775808 : Int) ≤ j + 1; omega) (by show j + 1 ≤ 9223372036854775807; omega) fun j3 hj3 => ?_
    obtain rfl : j2 = j3 := hj2.trans (show j3 = j + 1 from hj3).symm
    conv => cbv
    refine Need.mk (show 0 ≤ j2 ∧ j2 < ln by omega) ?_
    conv => cbv
    refine Cell.at j2 _ hcell2 (by simp [I.val]) rfl ?_
    conv => cbv
    refine CallF.le (args0 := [.ptr 0 (.lit 0),i6 x,i6 y]) (cfr (setMoreM_lx R ws1 C G N W ph sp cy L D1 Q z ov h1 Mj c1 o ho hph x y z0 z1 z2 z3 z4 z5 z6 hMx (by omega) (by unfold b62; omega)) [(0,0),(1,1),(2,2),(3,3),(4,4),(5,5),(6,6),(7,7)] (fun r h' n' hrr => ?_)) (by simp [ales,ale,pvle,I.val])
    obtain ⟨ws2,D2,e1,e2,e3,h2,c2⟩ := hrr
    subst e1 e2 e3
    conv => cbv
    refine Fit.mk (by show (-9223372036854775808 : Int) ≤ j + 1; omega) (by show j + 1 ≤ 9223372036854775807; omega) fun j4 hj4 => ?_
    have hj4 : j4 = j + 1 := hj4
    conv => cbv
    refine Again.mk ((y :: rest)).length _ (by rw [hkk]; exact Nat.lt_succ_self _) (Re.at [(0,0),(1,1),(2,2),(3,3),(4,4),(5,5),(6,6),(7,7),(8,8)] []) ⟨j4,dn ++ [x],(y :: rest),ws2,D2,setM Mj x y,rfl,by rw [hld]; simp,by rw [hj4,hj]; simp,rfl,h2,c2,hpk,fun q hq => setM_su (hsu q (List.mem_cons_of_mem _ hq)),by rw [setM_ne hxg]; exact hMjg⟩
   ·have gj : ¬ j2 < ln := gj
    have hr0 : rest = [] := List.eq_nil_of_length_eq_zero (by omega)
    subst hr0
    conv => cbv
    refine CallF.le (args0 := [.ptr 0 (.lit 0),i6 x,i6 (-1)]) (cfr (setMoreM_lx R ws1 C G N W ph sp cy L D1 Q z ov h1 Mj c1 o ho hph x (-1) z0 z1 z2 z3 z4 z5 z6 hMx (by decide) (by unfold b62; omega)) [(0,0),(1,1),(2,2),(3,3),(4,4),(5,5),(6,6),(7,7)] (fun r h' n' hrr => ?_)) (by simp [ales,ale,pvle,I.val])
    obtain ⟨ws2,D2,e1,e2,e3,h2,c2⟩ := hrr
    subst e1 e2 e3
    conv => cbv
    refine Fit.mk (by show (-9223372036854775808 : Int) ≤ j + 1; omega) (by show j + 1 ≤ 9223372036854775807; omega) fun j4 hj4 => ?_
    have hj4 : j4 = j + 1 := hj4
    conv => cbv
    refine Again.mk ([]).length _ (by rw [hkk]; exact Nat.lt_succ_self _) (Re.at [(0,0),(1,1),(2,2),(3,3),(4,4),(5,5),(6,6),(7,7),(8,8)] []) ⟨j4,dn ++ [x],[],ws2,D2,setM Mj x (-1),rfl,by rw [hld]; simp,by rw [hj4,hj]; simp,rfl,h2,c2,hpk,fun q hq => setM_su (hsu q (List.mem_cons_of_mem _ hq)),by rw [setM_ne hxg]; exact hMjg⟩
theorem parkS_lx (R : List Rw) (ws C G : List Int) (N W ph sp cy : Int) (L D Q : List PV) (z : ByteArray) (ov : Bool) (h : HM R ws C G N W L D Q z) (M : Hp) (hM : Cont R ws M) (q : Qs) (hY : Sys M q) (o : Unit → Obj) (ho : IsPow o) (hph : ph = 0) (g x0 x1 x2 x3 x4 x5 x6 x7 x8 x9 : Int) (l : List Int) (ln : Int) (cells : List PV) (hcs : cells = ipv l) (hln : ln = l.length) (hlb : ln ≤ 1000) (hMg : M g = some (4,[x0,x1,x2,x3,x4,x5,x6,x7,x8,x9])) (hl : ∀ x ∈ l,IsSu M x) : CallF (fun _ => Tryz.prog) 24 [.ptr 0 (.lit 0),i6 g,.sl 8 3 1 (.lit 0) (.sym ln)] [hpA 0 1 5 6 3 W ph sp cy,hpB 1 2 4 3 W,hpC 2 3 127 2 N,hpP 3 L,hpP 4 D,hpF 5 z ov,hpP 6 Q,(7,.fix 0 o),hpP 8 cells] 9 (fun r h n => ∃ (e : Int),e = 0 ∧ ∃ (ws' : List Int) (D' : List PV),r = .p (.int .i64 (.sym e)) ∧ h = [hpA 0 1 5 6 3 W ph sp cy,hpB 1 2 4 3 W,hpC 2 3 127 2 N,hpP 3 L,hpP 4 D',hpF 5 z ov,hpP 6 Q,(7,.fix 0 o),hpP 8 cells] ∧ n = 9 ∧ HM R ws' C G N W L D' Q z ∧ Cont R ws' (upd (parkM M l) g (4,[x0,1,x2,x3,x4,x5,x6,x7,x8,hdQ l]))) := by
 refine callF_of_body tok Tryz.func24 (by kernel_rfl) rfl rfl rfl ?_; conv => cbv
 refine cfr (look_is_lx R ws C G N W ph sp cy L D Q z ov h M hM g x0 x1 x2 x3 x4 x5 x6 x7 x8 x9 hMg) [(0,0),(1,1),(2,2),(3,3),(4,4),(5,5),(6,6)] (fun r h' n' hrr => ?_)
 obtain ⟨e1,e2,e3⟩ := hrr
 subst e1 e2 e3
 conv => cbv
 have hln0 : (0 : Int) ≤ ln := by omega
 refine LoopF.mk (fun kk s => ∃ i : Int,s = ⟨.ptr 0 (.lit 0) :: .p (.int .i64 (.sym g)) :: .sl 8 3 1 (.lit 0) (.sym ln) :: (undefs 5 ++ .ptr 9 (.lit 0) :: (undefs 20 ++ .sl 8 3 1 (.lit 0) (.sym ln) :: .p (.int .i64 (.sym ln)) :: .p (.int .i64 (.sym i)) :: undefs 48)),[hpA 0 1 5 6 3 W ph sp cy,hpB 1 2 4 3 W,hpC 2 3 127 2 N,hpP 3 L,hpP 4 D,hpF 5 z ov,hpP 6 Q,(7,.fix 0 o),hpP 8 cells,(9,.pure false [.int .i64 (.sym x0),.int .i64 (.sym x1),.int .i64 (.sym x2),.int .i64 (.sym x3),.int .i64 (.sym x4),.int .i64 (.sym x5),.int .i64 (.sym x6),.int .i64 (.sym x7),.int .i64 (.sym x8),.int .i64 (.sym x9)])],10⟩ ∧ 0 ≤ i ∧ i ≤ ln ∧ kk = (ln - i).toNat) ln.toNat _
  (Re.at [(0,0),(1,1),(2,2),(3,3),(4,4),(5,5),(6,6),(7,7),(8,8),(9,9)] []) ⟨0,rfl,by omega,by omega,by omega⟩ ?_
 rintro kk s ⟨i,rfl,hi0,hi1,hkk⟩
 conv => cbv
 refine Br.mk (fun gi => ?_) (fun gi => ?_)
 ·have gi : i < ln := gi
  obtain ⟨x,hx⟩ : ∃ x,l[i.toNat]? = some x := ⟨_,List.getElem?_eq_getElem (by omega)⟩
  have hcell : cells[i.toNat]? = some (.int .i64 (.sym x)) := by rw [hcs]; exact ipv_get hx
  obtain ⟨z0,z1,z2,z3,z4,z5,z6,hMx⟩ := hl x (List.mem_of_getElem? hx)
  conv => cbv
  refine Need.mk (show 0 ≤ i ∧ i < ln from ⟨hi0,gi⟩) ?_
  conv => cbv
  refine Cell.at i _ hcell (by simp [I.val]) rfl ?_
  conv => cbv
  refine cfr (sudogM_lx R ws C G N W ph sp cy L D Q z ov h M hM x z0 z1 z2 z3 z4 z5 z6 hMx) [(0,0),(1,1),(2,2),(3,3),(4,4),(5,5),(6,6)] (fun r h' n' hrr => ?_)
  obtain ⟨⟨e0,e1,he0⟩,e2,e3⟩ := hrr
  subst e1 e2 e3
  conv => cbv
  refine Br.no (show ¬ ¬ (e0 = 0) from fun q => q he0) ?_
  conv => cbv
  refine Fit.mk (by show (-9223372036854775808 : Int) ≤ i + 1; omega) (by show i + 1 ≤ 9223372036854775807; omega) fun i2 hi2 => ?_
  have hi2 : i2 = i + 1 := hi2
  conv => cbv
  refine Again.mk (ln - i2).toNat _ (by omega) (Re.at [(0,0),(1,1),(2,2),(3,3),(4,4),(5,5),(6,6),(7,7),(8,8),(9,9)] []) ⟨i2,rfl,by omega,by omega,rfl⟩
 ·have gi : ¬ i < ln := gi
  clear hkk hi0 hi1 gi
  conv => cbv
  refine LoopF.mk (fun kk s => ∃ (j : Int) (dn rest ws1 : List Int) (D1 : List PV) (Mj : Hp),s = ⟨.ptr 0 (.lit 0) :: .p (.int .i64 (.sym g)) :: .sl 8 3 1 (.lit 0) (.sym ln) :: (undefs 5 ++ .ptr 9 (.lit 0) :: (undefs 38 ++ .sl 8 3 1 (.lit 0) (.sym ln) :: .p (.int .i64 (.sym ln)) :: .p (.int .i64 (.sym j)) :: undefs 30)),[hpA 0 1 5 6 3 W ph sp cy,hpB 1 2 4 3 W,hpC 2 3 127 2 N,hpP 3 L,hpP 4 D1,hpF 5 z ov,hpP 6 Q,(7,.fix 0 o),hpP 8 cells,(9,.pure false [.int .i64 (.sym x0),.int .i64 (.lit 1),.int .i64 (.sym x2),.int .i64 (.sym x3),.int .i64 (.sym x4),.int .i64 (.sym x5),.int .i64 (.sym x6),.int .i64 (.sym x7),.int .i64 (.sym x8),.int .i64 (.lit (-1))])],10⟩ ∧ l = dn ++ rest ∧ j = dn.length ∧ kk = rest.length ∧ HM R ws1 C G N W L D1 Q z ∧ Cont R ws1 Mj ∧ parkM Mj rest = parkM M l ∧ (∀ x ∈ rest,IsSu Mj x) ∧ Mj g = M g) l.length _
   (Re.at [(0,0),(1,1),(2,2),(3,3),(4,4),(5,5),(6,6),(7,7),(8,8),(9,9)] []) ⟨0,[],l,ws,D,M,rfl,rfl,rfl,rfl,h,hM,rfl,hl,rfl⟩ ?_
  rintro kk s ⟨j,dn,rest,ws1,D1,Mj,rfl,hld,hj,hkk,h1,c1,hpk,hsu,hMjg⟩
  have hj0 : (0 : Int) ≤ j := by omega
  have hj : j = (dn.length : Int) := hj
  have hll : (l.length : Int) = dn.length + rest.length := by rw [hld]; simp
  have hln : ln = (l.length : Int) := hln
  conv => cbv
  rcases rest with _ | ⟨x,rest⟩
  ·have hll : (l.length : Int) = dn.length := by simpa using hll
   refine Br.no (show ¬ (j < ln) by omega) ?_
   conv => cbv
   have hMjl : parkM M l = Mj := hpk.symm
   rw [hMjl]
   have hMjg2 : Mj g = some (4,[x0,x1,x2,x3,x4,x5,x6,x7,x8,x9]) := hMjg.trans hMg
   obtain ⟨hpg,hbg,hwg⟩ := c1.gor h1.a hMjg2
   have hll2 : ln = l.length := hln
   have hRr := h.r
   refine Br.mk (fun g0 => ?_) (fun g0 => ?_)
   ·have g0 : 0 < ln := g0
    obtain ⟨x,l',rfl⟩ : ∃ x l',l = x :: l' := by
     cases l with
     | nil => simp at hln; omega
     | cons x l' => exact ⟨x,l',rfl⟩
    have hcell : cells[(0 : Int).toNat]? = some (.int .i64 (.sym x)) := by rw [hcs]; rfl
    obtain ⟨z0,z1,z2,z3,z4,z5,z6,hMx⟩ := hl x List.mem_cons_self
    have hxl := hM.len h.a hMx
    show _
    conv => cbv
    refine Need.mk (show (0 : Int) ≤ 0 ∧ 0 < ln by omega) ?_
    conv => cbv
    refine Cell.at 0 _ hcell (by simp [I.val]) rfl ?_
    conv => cbv
    have hbg2 : ∀ q ∈ [x0,1,x2,x],b62 q := by
     simp only [List.forall_mem_cons] at hbg ⊢
     obtain ⟨b0,b1,b2,b9,_⟩ := hbg
     exact ⟨b0,by unfold b62; omega,b2,by unfold b62; omega,fun q hq => by cases hq⟩
    refine CallF.le (args0 := [.ptr 0 (.lit 0),i6 g,.agg [i6 x0,i6 1,i6 x2,i6 x3,i6 x4,i6 x5,i6 x6,i6 x7,i6 x8,i6 x]]) (cfr (putGorM_lx R ws1 C G N W ph sp cy L D1 Q z ov h1 _ c1 o ho hph g x0 1 x2 x3 x4 x5 x6 x7 x8 x [x0,x1,x2,x3,x4,x5,x6,x7,x8,x9] hMjg2 rfl hbg2 hwg (by intro q hq; rw [List.mem_singleton.1 hq]; omega)) [(0,0),(1,1),(2,2),(3,3),(4,4),(5,5),(6,6),(7,7)] (fun r h' n' hrr => ?_)) (by simp [ales,ale,pvle,I.val])
    obtain ⟨e,ws2,D2,e1,he,e2,e3,h2,c2⟩ := hrr
    subst e1 e2 e3
    conv => cbv
    refine RetF.mk [i6 e] [hpA 0 1 5 6 3 W ph sp cy,hpB 1 2 4 3 W,hpC 2 3 127 2 N,hpP 3 L,hpP 4 D2,hpF 5 z ov,hpP 6 Q,(7,.fix 0 o),hpP 8 cells] 9 (Re.at [(0,0),(1,1),(2,2),(3,3),(4,4),(5,5),(6,6),(7,7),(8,8)] []) rfl ⟨e,he,ws2,D2,rfl,rfl,rfl,h2,c2⟩
   ·have g0 : ¬ 0 < ln := g0
    have hl0 : l = [] := List.eq_nil_of_length_eq_zero (by omega)
    subst hl0
    conv => cbv
    have hbg2 : ∀ q ∈ [x0,1,x2,(-1)],b62 q := by
     simp only [List.forall_mem_cons] at hbg ⊢
     obtain ⟨b0,b1,b2,b9,_⟩ := hbg
     exact ⟨b0,by unfold b62; omega,b2,by unfold b62; omega,fun q hq => by cases hq⟩
    refine CallF.le (args0 := [.ptr 0 (.lit 0),i6 g,.agg [i6 x0,i6 1,i6 x2,i6 x3,i6 x4,i6 x5,i6 x6,i6 x7,i6 x8,i6 (-1)]]) (cfr (putGorM_lx R ws1 C G N W ph sp cy L D1 Q z ov h1 _ c1 o ho hph g x0 1 x2 x3 x4 x5 x6 x7 x8 (-1) [x0,x1,x2,x3,x4,x5,x6,x7,x8,x9] hMjg2 rfl hbg2 hwg (by intro q hq; rw [List.mem_singleton.1 hq]; omega)) [(0,0),(1,1),(2,2),(3,3),(4,4),(5,5),(6,6),(7,7)] (fun r h' n' hrr => ?_)) (by simp [ales,ale,pvle,I.val])
    obtain ⟨e,ws2,D2,e1,he,e2,e3,h2,c2⟩ := hrr
    subst e1 e2 e3
    conv => cbv
    refine RetF.mk [i6 e] [hpA 0 1 5 6 3 W ph sp cy,hpB 1 2 4 3 W,hpC 2 3 127 2 N,hpP 3 L,hpP 4 D2,hpF 5 z ov,hpP 6 Q,(7,.fix 0 o),hpP 8 cells] 9 (Re.at [(0,0),(1,1),(2,2),(3,3),(4,4),(5,5),(6,6),(7,7),(8,8)] []) rfl ⟨e,he,ws2,D2,rfl,rfl,rfl,h2,c2⟩
  ·have hll : (l.length : Int) = dn.length + (rest.length + 1) := by simpa using hll
   have hxl : l[j.toNat]? = some x := by rw [hld,hj]; simp
   have hcell : cells[j.toNat]? = some (.int .i64 (.sym x)) := by rw [hcs]; exact ipv_get hxl
   obtain ⟨z0,z1,z2,z3,z4,z5,z6,hMx⟩ := hsu x List.mem_cons_self
   have hxg : g ≠ x := fun e => by rw [← e,hMjg,hMg] at hMx; cases hMx
   refine Br.yes (show j < ln by omega) ?_
   conv => cbv
   refine Need.mk (show 0 ≤ j ∧ j < ln by omega) ?_
   conv => cbv
   refine Cell.at j _ hcell (by simp [I.val]) rfl ?_
   conv => cbv
   refine Fit.mk (by show (-9223372036854775808 : Int) ≤ j + 1; omega) (by show j + 1 ≤ 9223372036854775807; omega) fun j2 hj2 => ?_
   have hj2 : j2 = j + 1 := hj2
   conv => cbv
   refine Br.mk (fun gj => ?_) (fun gj => ?_)
   ·have gj : j2 < ln := gj
    obtain ⟨y,rest,rfl⟩ : ∃ y r,rest = y :: r := by
     cases rest with
     | nil => simp at hll; omega
     | cons y r => exact ⟨y,r,rfl⟩
    have hyl : l[j2.toNat]? = some y := by rw [hld,show j2.toNat = dn.length + 1 by omega]; simp
    have hcell2 : cells[j2.toNat]? = some (.int .i64 (.sym y)) := by rw [hcs]; exact ipv_get hyl
    obtain ⟨u0,u1,u2,u3,u4,u5,u6,hMy⟩ := hsu y (List.mem_cons_of_mem _ List.mem_cons_self)
    have hyl2 := c1.len h1.a hMy
    have hRr := h1.r
    conv => cbv
    refine Fit.mk (by show (-9223372036854775808 : Int) ≤ j + 1; omega) (by show j + 1 ≤ 9223372036854775807; omega) fun j3 hj3 => ?_
    obtain rfl : j2 = j3 := hj2.trans (show j3 = j + 1 from hj3).symm
    conv => cbv
    refine Need.mk (show 0 ≤ j2 ∧ j2 < ln by omega) ?_
    conv => cbv
    refine Cell.at j2 _ hcell2 (by simp [I.val]) rfl ?_
    conv => cbv
    refine CallF.le (args0 := [.ptr 0 (.lit 0),i6 x,i6 y]) (cfr (setMoreM_lx R ws1 C G N W ph sp cy L D1 Q z ov h1 Mj c1 o ho hph x y z0 z1 z2 z3 z4 z5 z6 hMx (by omega) (by unfold b62; omega)) [(0,0),(1,1),(2,2),(3,3),(4,4),(5,5),(6,6),(7,7)] (fun r h' n' hrr => ?_)) (by simp [ales,ale,pvle,I.val])
    obtain ⟨ws2,D2,e1,e2,e3,h2,c2⟩ := hrr
    subst e1 e2 e3
    conv => cbv
    refine Fit.mk (by show (-9223372036854775808 : Int) ≤ j + 1; omega) (by show j + 1 ≤ 9223372036854775807; omega) fun j4 hj4 => ?_
    have hj4 : j4 = j + 1 := hj4
    conv => cbv
    refine Again.mk ((y :: rest)).length _ (by rw [hkk]; exact Nat.lt_succ_self _) (Re.at [(0,0),(1,1),(2,2),(3,3),(4,4),(5,5),(6,6),(7,7),(8,8),(9,9)] []) ⟨j4,dn ++ [x],(y :: rest),ws2,D2,setM Mj x y,rfl,by rw [hld]; simp,by rw [hj4,hj]; simp,rfl,h2,c2,hpk,fun q hq => setM_su (hsu q (List.mem_cons_of_mem _ hq)),by rw [setM_ne hxg]; exact hMjg⟩
   ·have gj : ¬ j2 < ln := gj
    have hr0 : rest = [] := List.eq_nil_of_length_eq_zero (by omega)
    subst hr0
    conv => cbv
    refine CallF.le (args0 := [.ptr 0 (.lit 0),i6 x,i6 (-1)]) (cfr (setMoreM_lx R ws1 C G N W ph sp cy L D1 Q z ov h1 Mj c1 o ho hph x (-1) z0 z1 z2 z3 z4 z5 z6 hMx (by decide) (by unfold b62; omega)) [(0,0),(1,1),(2,2),(3,3),(4,4),(5,5),(6,6),(7,7)] (fun r h' n' hrr => ?_)) (by simp [ales,ale,pvle,I.val])
    obtain ⟨ws2,D2,e1,e2,e3,h2,c2⟩ := hrr
    subst e1 e2 e3
    conv => cbv
    refine Fit.mk (by show (-9223372036854775808 : Int) ≤ j + 1; omega) (by show j + 1 ≤ 9223372036854775807; omega) fun j4 hj4 => ?_
    have hj4 : j4 = j + 1 := hj4
    conv => cbv
    refine Again.mk ([]).length _ (by rw [hkk]; exact Nat.lt_succ_self _) (Re.at [(0,0),(1,1),(2,2),(3,3),(4,4),(5,5),(6,6),(7,7),(8,8),(9,9)] []) ⟨j4,dn ++ [x],[],ws2,D2,setM Mj x (-1),rfl,by rw [hld]; simp,by rw [hj4,hj]; simp,rfl,h2,c2,hpk,fun q hq => setM_su (hsu q (List.mem_cons_of_mem _ hq)),by rw [setM_ne hxg]; exact hMjg⟩
theorem rpark_lx (R : List Rw) (vs C G : List Int) (N W ph sp cy : Int) (P B V Q la : List PV) (m : Int) (ov : Bool) (h : RM R vs C G N W P B V Q la m) (M : Hp) (hM : Cont R vs M) (q : Qs) (hY : Sys M q) (hph : ph = 0) (g x0 x1 x2 x3 x4 x5 x6 x7 x8 x9 : Int) (l : List Int) (ln : Int) (cells : List PV) (hcs : cells = ipv l) (hln : ln = l.length) (hlb : ln ≤ 1000) (hMg : M g = some (4,[x0,x1,x2,x3,x4,x5,x6,x7,x8,x9])) (hl : ∀ x ∈ l,IsSu M x) : CallF (fun _ => Tryz.prog) 91 [.ptr 0 (.lit 0),i6 g,.p (.vsl (.sym ln) true cells)] [hpR 0 1 6 3 W 7 ph sp cy,hpB 1 2 5 3 W,hpD 2 3 3 1 N 4 197 8 N,hpP 3 P,hpP 4 B,hpP 5 V,hpP 6 Q,(7,.mix [.p (.vsl (.sym m) true la),.p (.bool ov)])] 8 (fun r h n => ∃ (e : Int),e = 0 ∧ ∃ (vs' : List Int) (V' : List PV),r = .p (.int .i64 (.sym e)) ∧ h = [hpR 0 1 6 3 W 7 ph sp cy,hpB 1 2 5 3 W,hpD 2 3 3 1 N 4 197 8 N,hpP 3 P,hpP 4 B,hpP 5 V',hpP 6 Q,(7,.mix [.p (.vsl (.sym m) true la),.p (.bool ov)])] ∧ n = 8 ∧ RM R vs' C G N W P B V' Q la m ∧ Cont R vs' (upd (parkM M l) g (4,[x0,1,x2,x3,x4,x5,x6,x7,x8,hdQ l]))) := by
 refine callF_of_body tok Tryz.func91 (by kernel_rfl) rfl rfl rfl ?_; conv => cbv
 refine cfr (rgorM_lx R vs C G N W ph sp cy P B V Q la m ov h M hM g x0 x1 x2 x3 x4 x5 x6 x7 x8 x9 hMg) [(0,0),(1,1),(2,2),(3,3),(4,4),(5,5),(6,6),(7,7)] (fun r h' n' hrr => ?_)
 obtain ⟨⟨e0,e1,he0⟩,e2,e3⟩ := hrr
 subst e1 e2 e3
 conv => cbv
 have hln0 : (0 : Int) ≤ ln := by omega
 refine LoopF.mk (fun kk s => ∃ i e : Int,s = ⟨.ptr 0 (.lit 0) :: .p (.int .i64 (.sym g)) :: .p (.vsl (.sym ln) true cells) :: (undefs 4 ++ .ptr 8 (.lit 0) :: .p (.int .i64 (.sym e)) :: .p (.int .i64 (.sym i)) :: undefs 78),[hpR 0 1 6 3 W 7 ph sp cy,hpB 1 2 5 3 W,hpD 2 3 3 1 N 4 197 8 N,hpP 3 P,hpP 4 B,hpP 5 V,hpP 6 Q,(7,.mix [.p (.vsl (.sym m) true la),.p (.bool ov)]),(8,.pure false [.int .i64 (.sym x0),.int .i64 (.sym x1),.int .i64 (.sym x2),.int .i64 (.sym x3),.int .i64 (.sym x4),.int .i64 (.sym x5),.int .i64 (.sym x6),.int .i64 (.sym x7),.int .i64 (.sym x8),.int .i64 (.sym x9)])],9⟩ ∧ 0 ≤ i ∧ i ≤ ln ∧ kk = (ln - i).toNat ∧ e = 0) ln.toNat _
  (Re.at [(0,0),(1,1),(2,2),(3,3),(4,4),(5,5),(6,6),(7,7),(8,8)] []) ⟨0,e0,rfl,by omega,by omega,by omega,he0⟩ ?_
 rintro kk s ⟨i,e,rfl,hi0,hi1,hkk,he⟩
 conv => cbv
 refine Br.mk (fun gi => ?_) (fun gi => ?_)
 ·have gi : i < ln := gi
  obtain ⟨x,hx⟩ : ∃ x,l[i.toNat]? = some x := ⟨_,List.getElem?_eq_getElem (by omega)⟩
  have hcell : cells[i.toNat]? = some (.int .i64 (.sym x)) := by rw [hcs]; exact ipv_get hx
  obtain ⟨z0,z1,z2,z3,z4,z5,z6,hMx⟩ := hl x (List.mem_of_getElem? hx)
  conv => cbv
  refine Br.yes (show e = 0 from he) ?_
  conv => cbv
  refine Need.mk (show 0 ≤ i ∧ i < ln from ⟨hi0,gi⟩) ?_
  conv => cbv
  refine Cell.at i _ hcell (by simp [I.val]) rfl ?_
  conv => cbv
  refine cfr (rsudogM_lx R vs C G N W ph sp cy P B V Q la m ov h M hM x z0 z1 z2 z3 z4 z5 z6 hMx) [(0,0),(1,1),(2,2),(3,3),(4,4),(5,5),(6,6),(7,7)] (fun r h' n' hrr => ?_)
  obtain ⟨⟨e5,e1,he5⟩,e2,e3⟩ := hrr
  subst e1 e2 e3
  conv => cbv
  refine Fit.mk (by show (-9223372036854775808 : Int) ≤ i + 1; omega) (by show i + 1 ≤ 9223372036854775807; omega) fun i2 hi2 => ?_
  have hi2 : i2 = i + 1 := hi2
  conv => cbv
  refine Again.mk (ln - i2).toNat _ (by omega) (Re.at [(0,0),(1,1),(2,2),(3,3),(4,4),(5,5),(6,6),(7,7),(8,8)] []) ⟨i2,e5,rfl,by omega,by omega,rfl,he5⟩
 ·have gi : ¬ i < ln := gi
  clear hkk hi0 hi1 gi
  conv => cbv
  refine Br.no (show ¬ ¬ (e = 0) from fun q => q he) ?_
  conv => cbv
  refine LoopF.mk (fun kk s => ∃ (j : Int) (dn rest vs1 : List Int) (V1 : List PV) (Mj : Hp),s = ⟨.ptr 0 (.lit 0) :: .p (.int .i64 (.sym g)) :: .p (.vsl (.sym ln) true cells) :: (undefs 4 ++ .ptr 8 (.lit 0) :: (undefs 2 ++ .p (.int .i64 (.sym j)) :: undefs 77)),[hpR 0 1 6 3 W 7 ph sp cy,hpB 1 2 5 3 W,hpD 2 3 3 1 N 4 197 8 N,hpP 3 P,hpP 4 B,hpP 5 V1,hpP 6 Q,(7,.mix [.p (.vsl (.sym m) true la),.p (.bool ov)]),(8,.pure false [.int .i64 (.sym x0),.int .i64 (.lit 1),.int .i64 (.sym x2),.int .i64 (.sym x3),.int .i64 (.sym x4),.int .i64 (.sym x5),.int .i64 (.sym x6),.int .i64 (.sym x7),.int .i64 (.sym x8),.int .i64 (.lit (-1))])],9⟩ ∧ l = dn ++ rest ∧ j = dn.length ∧ kk = rest.length ∧ RM R vs1 C G N W P B V1 Q la m ∧ Cont R vs1 Mj ∧ parkM Mj rest = parkM M l ∧ (∀ x ∈ rest,IsSu Mj x) ∧ Mj g = M g) l.length _
   (Re.at [(0,0),(1,1),(2,2),(3,3),(4,4),(5,5),(6,6),(7,7),(8,8)] []) ⟨0,[],l,vs,V,M,rfl,rfl,rfl,rfl,h,hM,rfl,hl,rfl⟩ ?_
  rintro kk s ⟨j,dn,rest,vs1,V1,Mj,rfl,hld,hj,hkk,h1,c1,hpk,hsu,hMjg⟩
  have hj0 : (0 : Int) ≤ j := by omega
  have hj : j = (dn.length : Int) := hj
  have hll : (l.length : Int) = dn.length + rest.length := by rw [hld]; simp
  have hln : ln = (l.length : Int) := hln
  conv => cbv
  rcases rest with _ | ⟨x,rest⟩
  ·have hll : (l.length : Int) = dn.length := by simpa using hll
   refine Br.no (show ¬ (j < ln) by omega) ?_
   conv => cbv
   have hMjl : parkM M l = Mj := hpk.symm
   rw [hMjl]
   have hMjg2 : Mj g = some (4,[x0,x1,x2,x3,x4,x5,x6,x7,x8,x9]) := hMjg.trans hMg
   obtain ⟨hpg,hbg,hwg⟩ := c1.gor h1.a hMjg2
   have hll2 : ln = l.length := hln
   have hRr := h.r
   refine Br.mk (fun g0 => ?_) (fun g0 => ?_)
   ·have g0 : 0 < ln := g0
    obtain ⟨x,l',rfl⟩ : ∃ x l',l = x :: l' := by
     cases l with
     | nil => simp at hln; omega
     | cons x l' => exact ⟨x,l',rfl⟩
    have hcell : cells[(0 : Int).toNat]? = some (.int .i64 (.sym x)) := by rw [hcs]; rfl
    obtain ⟨z0,z1,z2,z3,z4,z5,z6,hMx⟩ := hl x List.mem_cons_self
    have hxl := hM.len h.a hMx
    show _
    conv => cbv
    refine Need.mk (show (0 : Int) ≤ 0 ∧ 0 < ln by omega) ?_
    conv => cbv
    refine Cell.at 0 _ hcell (by simp [I.val]) rfl ?_
    conv => cbv
    have hbg2 : ∀ q ∈ [x0,1,x2,x],b62 q := by
     simp only [List.forall_mem_cons] at hbg ⊢
     obtain ⟨b0,b1,b2,b9,_⟩ := hbg
     exact ⟨b0,by unfold b62; omega,b2,by unfold b62; omega,fun q hq => by cases hq⟩
    refine CallF.le (args0 := [.ptr 0 (.lit 0),i6 g,.agg [i6 x0,i6 1,i6 x2,i6 x3,i6 x4,i6 x5,i6 x6,i6 x7,i6 x8,i6 x]]) (cfr (rPutGorM_lx R vs1 C G N W ph sp cy P B V1 Q la m ov h1 _ c1 hph g x0 1 x2 x3 x4 x5 x6 x7 x8 x [x0,x1,x2,x3,x4,x5,x6,x7,x8,x9] hMjg2 rfl hbg2 hwg (by intro q hq; rw [List.mem_singleton.1 hq]; omega)) [(0,0),(1,1),(2,2),(3,3),(4,4),(5,5),(6,6),(7,7)] (fun r h' n' hrr => ?_)) (by simp [ales,ale,pvle,I.val])
    obtain ⟨e,vs2,V2,e1,he,e2,e3,h2,c2⟩ := hrr
    subst e1 e2 e3
    conv => cbv
    refine RetF.mk [i6 e] [hpR 0 1 6 3 W 7 ph sp cy,hpB 1 2 5 3 W,hpD 2 3 3 1 N 4 197 8 N,hpP 3 P,hpP 4 B,hpP 5 V2,hpP 6 Q,(7,.mix [.p (.vsl (.sym m) true la),.p (.bool ov)])] 8 (Re.at [(0,0),(1,1),(2,2),(3,3),(4,4),(5,5),(6,6),(7,7)] []) rfl ⟨e,he,vs2,V2,rfl,rfl,rfl,h2,c2⟩
   ·have g0 : ¬ 0 < ln := g0
    have hl0 : l = [] := List.eq_nil_of_length_eq_zero (by omega)
    subst hl0
    conv => cbv
    have hbg2 : ∀ q ∈ [x0,1,x2,(-1)],b62 q := by
     simp only [List.forall_mem_cons] at hbg ⊢
     obtain ⟨b0,b1,b2,b9,_⟩ := hbg
     exact ⟨b0,by unfold b62; omega,b2,by unfold b62; omega,fun q hq => by cases hq⟩
    refine CallF.le (args0 := [.ptr 0 (.lit 0),i6 g,.agg [i6 x0,i6 1,i6 x2,i6 x3,i6 x4,i6 x5,i6 x6,i6 x7,i6 x8,i6 (-1)]]) (cfr (rPutGorM_lx R vs1 C G N W ph sp cy P B V1 Q la m ov h1 _ c1 hph g x0 1 x2 x3 x4 x5 x6 x7 x8 (-1) [x0,x1,x2,x3,x4,x5,x6,x7,x8,x9] hMjg2 rfl hbg2 hwg (by intro q hq; rw [List.mem_singleton.1 hq]; omega)) [(0,0),(1,1),(2,2),(3,3),(4,4),(5,5),(6,6),(7,7)] (fun r h' n' hrr => ?_)) (by simp [ales,ale,pvle,I.val])
    obtain ⟨e,vs2,V2,e1,he,e2,e3,h2,c2⟩ := hrr
    subst e1 e2 e3
    conv => cbv
    refine RetF.mk [i6 e] [hpR 0 1 6 3 W 7 ph sp cy,hpB 1 2 5 3 W,hpD 2 3 3 1 N 4 197 8 N,hpP 3 P,hpP 4 B,hpP 5 V2,hpP 6 Q,(7,.mix [.p (.vsl (.sym m) true la),.p (.bool ov)])] 8 (Re.at [(0,0),(1,1),(2,2),(3,3),(4,4),(5,5),(6,6),(7,7)] []) rfl ⟨e,he,vs2,V2,rfl,rfl,rfl,h2,c2⟩
  ·have hll : (l.length : Int) = dn.length + (rest.length + 1) := by simpa using hll
   have hxl : l[j.toNat]? = some x := by rw [hld,hj]; simp
   have hcell : cells[j.toNat]? = some (.int .i64 (.sym x)) := by rw [hcs]; exact ipv_get hxl
   obtain ⟨z0,z1,z2,z3,z4,z5,z6,hMx⟩ := hsu x List.mem_cons_self
   have hxg : g ≠ x := fun e => by rw [← e,hMjg,hMg] at hMx; cases hMx
   obtain ⟨hp3,hb3,hw3⟩ := c1.sudog h1.a hMx
   refine Br.yes (show j < ln by omega) ?_
   conv => cbv
   refine Need.mk (show 0 ≤ j ∧ j < ln by omega) ?_
   conv => cbv
   refine Cell.at j _ hcell (by simp [I.val]) rfl ?_
   conv => cbv
   refine cfr (rsudogM_lx R vs1 C G N W ph sp cy P B V1 Q la m ov h1 Mj c1 x z0 z1 z2 z3 z4 z5 z6 hMx) [(0,0),(1,1),(2,2),(3,3),(4,4),(5,5),(6,6),(7,7)] (fun r h' n' hrr => ?_)
   obtain ⟨⟨e5,e1,he5⟩,e2,e3⟩ := hrr
   subst e1 e2 e3
   conv => cbv
   refine Fit.mk (by show (-9223372036854775808 : Int) ≤ j + 1; omega) (by show j + 1 ≤ 9223372036854775807; omega) fun j2 hj2 => ?_
   have hj2 : j2 = j + 1 := hj2
   conv => cbv
   refine Br.mk (fun gj => ?_) (fun gj => ?_)
   ·have gj : j2 < ln := gj
    obtain ⟨y,rest,rfl⟩ : ∃ y r,rest = y :: r := by
     cases rest with
     | nil => simp at hll; omega
     | cons y r => exact ⟨y,r,rfl⟩
    have hyl : l[j2.toNat]? = some y := by rw [hld,show j2.toNat = dn.length + 1 by omega]; simp
    have hcell2 : cells[j2.toNat]? = some (.int .i64 (.sym y)) := by rw [hcs]; exact ipv_get hyl
    obtain ⟨u0,u1,u2,u3,u4,u5,u6,hMy⟩ := hsu y (List.mem_cons_of_mem _ List.mem_cons_self)
    have hyl2 := c1.len h1.a hMy
    have hRr := h1.r
    conv => cbv
    refine Fit.mk (by show (-9223372036854775808 : Int) ≤ j + 1; omega) (by show j + 1 ≤ 9223372036854775807; omega) fun j3 hj3 => ?_
    obtain rfl : j2 = j3 := hj2.trans (show j3 = j + 1 from hj3).symm
    conv => cbv
    refine Need.mk (show 0 ≤ j2 ∧ j2 < ln by omega) ?_
    conv => cbv
    refine Cell.at j2 _ hcell2 (by simp [I.val]) rfl ?_
    conv => cbv
    refine drawn_sound tok (by kernel_rfl) [(6,[])] [0,1,2,3,4,5,6] (by kernel_rfl) ?_; conv => cbv
    refine Need.mk (show 0 ≤ j ∧ j < ln by omega) ?_
    conv => cbv
    refine Cell.at j _ hcell (by simp [I.val]) rfl ?_
    conv => cbv
    have hp' : ∀ q ∈ [z0,z1,z3,y],-1 ≤ q := by
     simp only [List.forall_mem_cons] at hp3 ⊢
     obtain ⟨p0,p1,p3,p6,_⟩ := hp3
     exact ⟨p0,p1,p3,(by omega),fun q hq => by cases hq⟩
    have hb' : ∀ q ∈ [z0,z1,z3,z4,z5,y],b62 q := by
     simp only [List.forall_mem_cons] at hb3 ⊢
     obtain ⟨b0,b1,b3,b4,b5,b6,_⟩ := hb3
     exact ⟨b0,b1,b3,b4,b5,(by unfold b62; omega),fun q hq => by cases hq⟩
    refine CallF.le (args0 := [.ptr 0 (.lit 0),i6 x,.agg [i6 z0,i6 z1,i6 z2,i6 z3,i6 z4,i6 z5,i6 y]]) (cfr (rPutSudogM_lx R vs1 C G N W ph sp cy P B V1 Q la m ov h1 Mj c1 hph x z0 z1 z2 z3 z4 z5 y [z0,z1,z2,z3,z4,z5,z6] hMx rfl hb' hw3 hp') [(0,0),(1,1),(2,2),(3,3),(4,4),(5,5),(6,6),(7,7)] (fun r h' n' hrr => ?_)) (by simp [ales,ale,pvle,I.val])
    obtain ⟨e6,vs2,V2,e1,he6,e2,e3,h2,c2⟩ := hrr
    subst e1 e2 e3
    rw [← setM_eq hMx] at c2
    conv => cbv
    refine Fit.mk (by show (-9223372036854775808 : Int) ≤ j + 1; omega) (by show j + 1 ≤ 9223372036854775807; omega) fun j4 hj4 => ?_
    have hj4 : j4 = j + 1 := hj4
    conv => cbv
    refine Again.mk ((y :: rest)).length _ (by rw [hkk]; exact Nat.lt_succ_self _) (Re.at [(0,0),(1,1),(2,2),(3,3),(4,4),(5,5),(6,6),(7,7),(8,8)] []) ⟨j4,dn ++ [x],(y :: rest),vs2,V2,setM Mj x y,rfl,by rw [hld]; simp,by rw [hj4,hj]; simp,rfl,h2,c2,hpk,fun q hq => setM_su (hsu q (List.mem_cons_of_mem _ hq)),by rw [setM_ne hxg]; exact hMjg⟩
   ·have gj : ¬ j2 < ln := gj
    have hr0 : rest = [] := List.eq_nil_of_length_eq_zero (by omega)
    subst hr0
    conv => cbv
    refine drawn_sound tok (by kernel_rfl) [(6,[])] [0,1,2,3,4,5,6] (by kernel_rfl) ?_; conv => cbv
    refine Need.mk (show 0 ≤ j ∧ j < ln by omega) ?_
    conv => cbv
    refine Cell.at j _ hcell (by simp [I.val]) rfl ?_
    conv => cbv
    have hp' : ∀ q ∈ [z0,z1,z3,(-1)],-1 ≤ q := by
     simp only [List.forall_mem_cons] at hp3 ⊢
     obtain ⟨p0,p1,p3,p6,_⟩ := hp3
     exact ⟨p0,p1,p3,(by decide),fun q hq => by cases hq⟩
    have hb' : ∀ q ∈ [z0,z1,z3,z4,z5,(-1)],b62 q := by
     simp only [List.forall_mem_cons] at hb3 ⊢
     obtain ⟨b0,b1,b3,b4,b5,b6,_⟩ := hb3
     exact ⟨b0,b1,b3,b4,b5,(by unfold b62; omega),fun q hq => by cases hq⟩
    refine CallF.le (args0 := [.ptr 0 (.lit 0),i6 x,.agg [i6 z0,i6 z1,i6 z2,i6 z3,i6 z4,i6 z5,i6 (-1)]]) (cfr (rPutSudogM_lx R vs1 C G N W ph sp cy P B V1 Q la m ov h1 Mj c1 hph x z0 z1 z2 z3 z4 z5 (-1) [z0,z1,z2,z3,z4,z5,z6] hMx rfl hb' hw3 hp') [(0,0),(1,1),(2,2),(3,3),(4,4),(5,5),(6,6),(7,7)] (fun r h' n' hrr => ?_)) (by simp [ales,ale,pvle,I.val])
    obtain ⟨e6,vs2,V2,e1,he6,e2,e3,h2,c2⟩ := hrr
    subst e1 e2 e3
    rw [← setM_eq hMx] at c2
    conv => cbv
    refine Fit.mk (by show (-9223372036854775808 : Int) ≤ j + 1; omega) (by show j + 1 ≤ 9223372036854775807; omega) fun j4 hj4 => ?_
    have hj4 : j4 = j + 1 := hj4
    conv => cbv
    refine Again.mk ([]).length _ (by rw [hkk]; exact Nat.lt_succ_self _) (Re.at [(0,0),(1,1),(2,2),(3,3),(4,4),(5,5),(6,6),(7,7),(8,8)] []) ⟨j4,dn ++ [x],[],vs2,V2,setM Mj x (-1),rfl,by rw [hld]; simp,by rw [hj4,hj]; simp,rfl,h2,c2,hpk,fun q hq => setM_su (hsu q (List.mem_cons_of_mem _ hq)),by rw [setM_ne hxg]; exact hMjg⟩
theorem atW_ptr (c : Int) : atW (2 * c + 1) = c := by
 unfold atW
 rw [if_pos (by omega)]
 omega
theorem rmQ_all {q : Qs} {l : List Int} (h : ∀ c d x,x ∈ q c d → x ∈ l) : rmQ q l = fun _ _ => [] := by
 funext c d
 unfold rmQ
 rw [List.filter_eq_nil_iff]
 intro x hx
 simpa using h c d x hx
theorem mor1 {K : Hp} {q : Qs} {x g c v tq r : Int} {F : List Int} (hx : K x = some (3,[g,c,v,-1,tq,r,-1])) (hc : K c = some (1,F)) (hn : K (-1) = none) : Mor (relink K q) x [x] :=
 morRel ⟨rfl,g,c,v,-1,tq,r,-1,F,hx,hc,fun F e => by rw [hn] at e; cases e⟩
theorem q0_one {c x : Int} {d : Bool} : addQ [(c,d)] [x] (fun _ _ => []) = updQ (fun _ _ => []) c d [x] := rfl
theorem pop_rm {q : Qs} {a s : Int} {d : Bool} {B l : List Int} (hq : q a d = s :: B) (hs : s ∈ l) : rmQ (updQ q a d B) l = rmQ q l := by
 funext c' d'
 unfold rmQ
 by_cases e : c' = a ∧ d' = d
 ·obtain ⟨rfl,rfl⟩ := e
  rw [updQ_same,hq,List.filter_cons_of_neg (by simpa using hs)]
 ·rw [updQ_ne e]
theorem sysPop {M : Hp} {q : Qs} (h : Sys M q) {a s : Int} {d : Bool} {B : List Int} (hq : q a d = s :: B) : Sys (relink M (updQ q a d B)) (updQ q a d B) := h.take (A := []) (by simpa using hq)
theorem alloc14_lx (R : List Rw) (ws vs C : List Int) (N W ph sp cy : Int) (L D Q : List PV) (z : ByteArray) (ov : Bool) (P B V Qr la : List PV) (m : Int) (M : Hp) (nc ng : Int) (cs gs : List PV) (o : Unit → Obj) (S : Bst R ws vs C N W ph L D Q z P B V Qr la m M) (kd n : Int) (hk : 0 ≤ n ∧ n ≤ 31 ∧ 1 ≤ kd ∧ kd ≤ 6) (hlen : lenK kd n.toNat) (hroom : objCount R < R.length) : CallF (fun _ => Tryz.prog) 19 [.ptr 16 (.lit 0),i6 kd,i6 n] [hpA 0 1 5 6 3 W ph sp cy,hpB 1 2 4 3 W,hpC 2 3 127 2 N,hpP 3 L,hpP 4 D,hpF 5 z ov,hpP 6 Q,hpR 7 8 13 3 W 14 ph sp cy,hpB 8 9 12 3 W,hpD 9 10 3 1 N 11 197 8 N,hpP 10 P,hpP 11 B,hpP 12 V,hpP 13 Qr,(14,.mix [.p (.vsl (.sym m) true la),.p (.bool ov)]),(15,.fix 0 o),(16,.mix [.ptr 0 (.lit 0),.ptr 7 (.lit 0),.sl 17 3 1 (.lit 0) (.sym nc),.sl 18 3 1 (.lit 0) (.sym ng)]),hpP 17 cs,hpP 18 gs] 19 (fun r h n' => ∃ (x : Int) (R' : List Rw) (ws' vs' : List Int) (L' D' P' B' V' : List PV),r = .p (.int .i64 (.sym x)) ∧ h = [hpA 0 1 5 6 3 W ph sp cy,hpB 1 2 4 3 W,hpC 2 3 127 2 N,hpP 3 L',hpP 4 D',hpF 5 z ov,hpP 6 Q,hpR 7 8 13 3 W 14 ph sp cy,hpB 8 9 12 3 W,hpD 9 10 3 1 N 11 197 8 N,hpP 10 P',hpP 11 B',hpP 12 V',hpP 13 Qr,(14,.mix [.p (.vsl (.sym m) true la),.p (.bool ov)]),(15,.fix 0 o),(16,.mix [.ptr 0 (.lit 0),.ptr 7 (.lit 0),.sl 17 3 1 (.lit 0) (.sym nc),.sl 18 3 1 (.lit 0) (.sym ng)]),hpP 17 cs,hpP 18 gs] ∧ n' = 19 ∧ Bst R' ws' vs' C N W ph L' D' Q z P' B' V' Qr la m (upd M x (kd,zerK kd n.toNat)) ∧ objCount R' = objCount R + 1 ∧ M x = Option.none ∧ 0 ≤ x ∧ x < W ∧ R'.length = R.length) := by
 refine callF_of_body tok Tryz.func19 (by kernel_rfl) rfl rfl rfl ?_; conv => cbv
 refine cfr (alloc9_lx R ws C [] N W ph sp cy L D Q z ov S.h kd n) [(0,0),(1,1),(2,2),(3,3),(4,4),(5,5),(6,6)] (fun r h' n' hrr => ?_)
 obtain ⟨x,e,R',ws',C',L',D',Q',e1,e2,e3,h1,hT,hC⟩ := hrr
 subst e1 e2 e3
 conv => cbv
 refine cfr (ralloc9_lx R vs C [] N W ph sp cy P B V Qr la m ov S.r kd n) [(0,7),(1,8),(2,9),(3,10),(4,11),(5,12),(6,13),(7,14)] (fun r h' n' hrr => ?_)
 obtain ⟨y,f,Y,vs',DC,P',B',V',Qr',e1,e2,e3,g1,hU,hD⟩ := hrr
 subst e1 e2 e3
 obtain ⟨q1,q2,q3,hS1,hl1⟩ := (S.c.toSim S.h.a S.r.a S.d).alloc hT hU
 subst q1 q2 q3
 obtain ⟨he,hM1,hc1,hx0,hx1,hx2,hx3⟩ := S.c.alloc S.h.a hroom hk hlen hT
 obtain ⟨q4,q5,q6,q7⟩ := Bst.colour S he h1 g1 hC hD
 subst q4 q5 q6 q7
 conv => cbv
 refine Br.no (show ¬ ¬ (x = x) from fun q => q rfl) ?_
 conv => cbv
 refine Br.no (show ¬ ¬ (e = 0) from fun q => q he) ?_
 conv => cbv
 refine Br.no (show ¬ ¬ (e = 0) from fun q => q he) ?_
 conv => cbv
 refine RetF.mk [i6 x] [hpA 0 1 5 6 3 W ph sp cy,hpB 1 2 4 3 W,hpC 2 3 127 2 N,hpP 3 L',hpP 4 D',hpF 5 z ov,hpP 6 Q,hpR 7 8 13 3 W 14 ph sp cy,hpB 8 9 12 3 W,hpD 9 10 3 1 N 11 197 8 N,hpP 10 P',hpP 11 B',hpP 12 V',hpP 13 Qr,(14,.mix [.p (.vsl (.sym m) true la),.p (.bool ov)]),(15,.fix 0 o),(16,.mix [.ptr 0 (.lit 0),.ptr 7 (.lit 0),.sl 17 3 1 (.lit 0) (.sym nc),.sl 18 3 1 (.lit 0) (.sym ng)]),hpP 17 cs,hpP 18 gs] 19 (Re.at [(0,0),(1,1),(2,2),(3,3),(4,4),(5,5),(6,6),(7,7),(8,8),(9,9),(10,10),(11,11),(12,12),(13,13),(14,14),(15,15),(16,16),(17,17),(18,18)] []) rfl ⟨x,R',ws',vs',L',D',P',B',V',rfl,rfl,rfl,⟨h1,g1,hM1,hM1.sim hS1,S.ph,S.w⟩,hc1,hx0,hx1,by rw [S.h.w,S.h.n]; exact hx2,hx3⟩
theorem made14_lx (o : Unit → Obj) (ho : IsPow o) (caps : List Int) (mc n : Int) (CL : List PV) (hCL : CL = ipv caps) (hmc : mc = caps.length) : CallF (fun _ => Tryz.prog) 17 [.p (.vsl (.sym mc) true CL),i6 n] [(0,.fix 0 o)] 1 (fun r h n' => ∃ (N W : Int) (C : List Int) (R : List Rw) (ws vs : List Int) (L D Q : List PV) (z : ByteArray) (P B V Qr : List PV) (M : Hp) (CS GS : List PV) (chs bufs grs : List Int) (nc ng : Int),r = .ptr 16 (.lit 0) ∧ h = [hpA 1 2 6 7 3 W 0 0 0,hpB 2 3 5 3 W,hpC 3 4 127 2 N,hpP 4 L,hpP 5 D,hpF 6 z false,hpP 7 Q,hpR 8 9 14 3 W 15 0 0 0,hpB 9 10 13 3 W,hpD 10 11 3 1 N 12 197 8 N,hpP 11 P,hpP 12 B,hpP 13 V,hpP 14 Qr,(15,.mix [.p (.vsl (.sym 0) true []),.p (.bool false)]),(0,.fix 0 o),(16,.mix [.ptr 1 (.lit 0),.ptr 8 (.lit 0),.sl 17 3 1 (.lit 0) (.sym nc),.sl 18 3 1 (.lit 0) (.sym ng)]),hpP 17 CS,hpP 18 GS] ∧ n' = 19 ∧ Bst R ws vs C N W 0 L D Q z P B V Qr [] 0 M ∧ Bn caps M chs bufs grs ∧ Sys M (fun _ _ => []) ∧ CS = ipv chs ∧ GS = ipv grs ∧ nc = (chs.length : Int) ∧ ng = (grs.length : Int) ∧ (nc = mc ∨ nc = 4) ∧ nc ≤ mc ∧ nc ≤ 4 ∧ ng = ngor n ∧ (objCount R : Int) ≤ 2 * nc + ng ∧ R.length = 60 ∧ W = 1920) := by
 refine callF_of_bodyB tok Tryz.func17 (by kernel_rfl) rfl rfl rfl [6] ?_; conv => cbv
 obtain ⟨N,hN⟩ : ∃ N : Int,N = 60 := ⟨_,rfl⟩
 obtain ⟨W,hW⟩ : ∃ W,W = 32 * N := ⟨_,rfl⟩
 obtain ⟨Rz,hRz⟩ : ∃ Rz,Rz = List.replicate N.toNat ((0,[]) : Rw) := ⟨_,rfl⟩
 obtain ⟨wz,hwz⟩ : ∃ wz,wz = List.replicate W.toNat (0 : Int) := ⟨_,rfl⟩
 obtain ⟨L0,hL0⟩ : ∃ L0,L0 = rpv Rz := ⟨_,rfl⟩
 obtain ⟨D0,hD0⟩ : ∃ D0,D0 = ipv wz := ⟨_,rfl⟩
 obtain ⟨z0,hz0⟩ : ∃ z0 : ByteArray,z0 = ⟨(enc []).toArray⟩ := ⟨_,rfl⟩
 have h0 : HM Rz wz wz [] N W L0 D0 D0 z0 := by rw [hRz,hwz] at *; exact HM.new (by omega) (by omega) hW hL0 hD0 hD0 hz0
 refine CallF.le (args0 := [i6 N]) (callF_frame (newH_lx N W (by omega) (by omega) hW L0 D0 D0 z0 (by rw [hL0,hRz]) (by rw [hD0,hwz]) (by rw [hD0,hwz]) hz0) [] rfl trivial rfl rfl (fun r h' n' ⟨e1,e2,e3⟩ => ?_)) (by simp [ales,ale,pvle,I.val,hN])
 subst e1 e2 e3
 conv => cbv
 refine CallF.le (args0 := [i6 N]) (callF_frame (rnewH_lx N W (by omega) (by omega) hW) [] rfl trivial rfl rfl (fun r h' n' hrr => ?_)) (by simp [ales,ale,pvle,I.val,hN])
 obtain ⟨P0,B0,V0,Qr0,e1,e2,e3,g0⟩ := hrr
 subst e1 e2 e3
 rw [← hRz,← hwz] at g0
 have hC0 : Cont Rz wz (fun _ => Option.none) := by rw [hRz,hwz]; exact Cont.new _ _
 have hlz : Rz.length = 60 := by rw [hRz,List.length_replicate]; omega
 have hcz : objCount Rz = 0 := by rw [hRz]; exact new_count _
 have hwz' : wz = List.replicate W.toNat 0 := hwz
 conv => cbv
 refine cfr (arena_lx Rz wz wz [] N W 0 0 0 L0 D0 D0 z0 false) [(0,1),(1,2),(2,3),(3,4),(4,5),(5,6),(6,7)] (fun r h' n' ⟨e1,e2,e3⟩ => ?_)
 subst e1 e2 e3
 conv => cbv
 refine JoinF.mk (fun s => ∃ (i : Int) (R : List Rw) (ws vs : List Int) (L D P B V : List PV) (M : Hp) (CS : List PV) (chs bufs : List Int),s = ⟨.p (.vsl (.sym mc) true CL) :: .p (.int .i64 (.sym n)) :: (undefs 3 ++ .ptr 1 (.lit 0) :: .undef :: .ptr 8 (.lit 0) :: .undef :: .ptr 16 (.lit 0) :: .undef :: undefs 108),[hpA 1 2 6 7 3 W 0 0 0,hpB 2 3 5 3 W,hpC 3 4 127 2 N,hpP 4 L,hpP 5 D,hpF 6 z0 false,hpP 7 D0,hpR 8 9 14 3 W 15 0 0 0,hpB 9 10 13 3 W,hpD 10 11 3 1 N 12 197 8 N,hpP 11 P,hpP 12 B,hpP 13 V,hpP 14 Qr0,(15,.mix [.p (.vsl (.sym 0) true []),.p (.bool false)]),(0,.fix 0 o),(16,.mix [.ptr 1 (.lit 0),.ptr 8 (.lit 0),.sl 17 3 1 (.lit 0) (.sym i),.sl 18 3 1 (.lit 0) (.sym 0)]),hpP 17 CS,(18,.pure true [])],19⟩ ∧ 0 ≤ i ∧ (i = mc ∨ i = 4) ∧ i ≤ mc ∧ i ≤ 4 ∧ Bst R ws vs wz N W 0 L D D0 z0 P B V Qr0 [] 0 M ∧ Bn caps M chs bufs [] ∧ Sys M (fun _ _ => []) ∧ CS = ipv chs ∧ i = chs.length ∧ objCount R ≤ 2 * i ∧ R.length = 60) ?_ ?_
 ·refine LoopF.mk (fun kk s => ∃ (i : Int) (R : List Rw) (ws vs : List Int) (L D P B V : List PV) (M : Hp) (CS : List PV) (chs bufs : List Int),s = ⟨.p (.vsl (.sym mc) true CL) :: .p (.int .i64 (.sym n)) :: (undefs 3 ++ .ptr 1 (.lit 0) :: .undef :: .ptr 8 (.lit 0) :: .undef :: .ptr 16 (.lit 0) :: .p (.int .i64 (.sym i)) :: undefs 108),[hpA 1 2 6 7 3 W 0 0 0,hpB 2 3 5 3 W,hpC 3 4 127 2 N,hpP 4 L,hpP 5 D,hpF 6 z0 false,hpP 7 D0,hpR 8 9 14 3 W 15 0 0 0,hpB 9 10 13 3 W,hpD 10 11 3 1 N 12 197 8 N,hpP 11 P,hpP 12 B,hpP 13 V,hpP 14 Qr0,(15,.mix [.p (.vsl (.sym 0) true []),.p (.bool false)]),(0,.fix 0 o),(16,.mix [.ptr 1 (.lit 0),.ptr 8 (.lit 0),.sl 17 3 1 (.lit 0) (.sym i),.sl 18 3 1 (.lit 0) (.sym 0)]),hpP 17 CS,(18,.pure true [])],19⟩ ∧ 0 ≤ i ∧ i ≤ mc ∧ i ≤ 4 ∧ kk = (4 - i).toNat ∧ Bst R ws vs wz N W 0 L D D0 z0 P B V Qr0 [] 0 M ∧ Bn caps M chs bufs [] ∧ Sys M (fun _ _ => []) ∧ CS = ipv chs ∧ i = chs.length ∧ objCount R ≤ 2 * i ∧ R.length = 60) 4 _
   (Re.at [(0,0),(1,1),(2,2),(3,3),(4,4),(5,5),(6,6),(7,7),(8,8),(9,9),(10,10),(11,11),(12,12),(13,13),(14,14),(15,15),(16,16)] [17,18]) ⟨0,Rz,wz,wz,L0,D0,P0,B0,V0,(fun _ => Option.none),[],[],[],rfl,by omega,by omega,by omega,by omega,⟨h0,g0,hC0,hC0,rfl,hwz'⟩,Bn.new _ _,Sys.new (fun a F e => by cases e) (fun a F e => by cases e),rfl,rfl,by omega,hlz⟩ ?_
  rintro kk s ⟨i,R,ws,vs,L,D,P,B,V,M,CS,chs,bufs,rfl,hi0,hi1,hi2,hkk,S,hB,hY,hcs,hil,hcnt,hR⟩
  have hil : i = (chs.length : Int) := hil
  have hcnt : (objCount R : Int) ≤ 2 * i := hcnt
  conv => cbv
  refine Br.mk (fun gi => ?_) (fun gi => ?_)
  ·have gi : i < mc := gi
   conv => cbv
   refine Br.mk (fun g4 => ?_) (fun g4 => ?_)
   ·have g4 : i < 4 := g4
    obtain ⟨cx,hcx⟩ : ∃ a,caps[i.toNat]? = some a := ⟨_,List.getElem?_eq_getElem (by omega)⟩
    have hcell : CL[i.toNat]? = some (.int .i64 (.sym cx)) := by rw [hCL]; exact ipv_get hcx
    conv => cbv
    refine Need.mk (show 0 ≤ i ∧ i < mc from ⟨hi0,gi⟩) ?_
    conv => cbv
    refine Cell.at i _ hcell (by simp [I.val]) rfl ?_
    conv => cbv
    refine Fit.wrap fun xn hxn => ?_
    have hxn : xn = IntKind.u64.wrap cx := hxn
    have hyn : 0 ≤ xn := by rw [hxn]; simp [IntKind.wrap,IntKind.bits,IntKind.signed]; omega
    conv => cbv
    refine Sum.mk fun tn htn => ?_
    have htn : tn = xn % 4 := (show tn = xn.tmod 4 from htn).trans (Int.tmod_eq_emod_of_nonneg hyn)
    conv => cbv
    refine Fit.mk (by show (-9223372036854775808 : Int) ≤ tn; omega) (by show tn ≤ 9223372036854775807; omega) fun cp hcp => ?_
    have hcp : cp = capW cx := by unfold capW; rw [← hxn,← htn]; exact hcp
    have hcb := capW_bd cx
    clear htn hyn
    conv => cbv
    refine CallF.le (args0 := [.ptr 16 (.lit 0),i6 1,i6 9]) (cfr (alloc14_lx R ws vs wz N W 0 0 0 L D D0 z0 false P B V Qr0 [] 0 M i 0 CS [] o S 1 9 (by decide) ⟨fun _ => rfl,fun q => absurd q (by decide),fun q => absurd q (by decide)⟩ (by rw [hR]; omega)) [(0,1),(1,2),(2,3),(3,4),(4,5),(5,6),(6,7),(7,8),(8,9),(9,10),(10,11),(11,12),(12,13),(13,14),(14,15),(15,0),(16,16),(17,17),(18,18)] (fun r h' n' hrr => ?_)) (by simp [ales,ale,pvle,I.val])
    obtain ⟨at_,R1,ws1,vs1,L1,D1,P1,B1,V1,e1,e2,e3,S1,hk1,hx1,hp1,hq1,hl1⟩ := hrr
    subst e1 e2 e3
    have hR1 : R1.length = 60 := hl1.trans hR
    conv => cbv
    refine Br.mk (fun g0 => ?_) (fun g0 => ?_)
    ·have g0 : 0 < cp := g0
     conv => cbv
     refine CallF.le (args0 := [.ptr 16 (.lit 0),i6 2,i6 cp]) (cfr (alloc14_lx R1 ws1 vs1 wz N W 0 0 0 L1 D1 D0 z0 false P1 B1 V1 Qr0 [] 0 _ i 0 CS [] o S1 2 cp (by omega) ⟨fun q => absurd q (by decide),fun q => absurd q (by decide),fun q => absurd q (by decide)⟩ (by rw [hR1]; omega)) [(0,1),(1,2),(2,3),(3,4),(4,5),(5,6),(6,7),(7,8),(8,9),(9,10),(10,11),(11,12),(12,13),(13,14),(14,15),(15,0),(16,16),(17,17),(18,18)] (fun r h' n' hrr => ?_)) (by simp [ales,ale,pvle,I.val])
     obtain ⟨bf,R2,ws2,vs2,L2,D2,P2,B2,V2,e1,e2,e3,S2,hk2,hx2,hp2,hq2,hl2⟩ := hrr
     subst e1 e2 e3
     have hR2 : R2.length = 60 := hl2.trans hR1
     conv => cbv
     have hab : at_ ≠ bf := fun q => by
      rw [← q,upd_same] at hx2
      cases hx2
     have hbfW : bf ≤ 5000 := by omega
     have hbb : ∀ x ∈ [cp,0,0,0,bf,-1,-1,-1,-1],b62 x := by
      simp only [List.forall_mem_cons]
      unfold b62
      exact ⟨by omega,by omega,by omega,by omega,by omega,by omega,by omega,by omega,by omega,fun x hx => by cases hx⟩
     have hpp : ∀ x ∈ [bf,-1,-1,-1,-1],-1 ≤ x := by
      simp only [List.forall_mem_cons]
      exact ⟨by omega,by omega,by omega,by omega,by omega,fun x hx => by cases hx⟩
     refine drawn_sound tok (by kernel_rfl) [(3,[6,5,4]),(7,[])] [0,1,2,4,5,6,3,7,8] (by kernel_rfl) ?_; conv => cbv
     refine CallF.le (args0 := [.ptr 1 (.lit 0),i6 at_,.agg [i6 cp,i6 0,i6 0,i6 0,i6 bf,i6 (-1),i6 (-1),i6 (-1),i6 (-1)]]) (cfr (putChanM_lx R2 ws2 wz [] N W 0 0 0 L2 D2 D0 z0 false S2.h _ S2.c o ho rfl at_ cp 0 0 0 bf (-1) (-1) (-1) (-1) (zerK 1 9) ((upd_ne hab).trans (upd_same _ _ _)) rfl hbb hpp) [(0,1),(1,2),(2,3),(3,4),(4,5),(5,6),(6,7),(7,0)] (fun r h' n' hrr => ?_)) (by simp [ales,ale,pvle,I.val])
     obtain ⟨e8,ws8,D8,e1,he8,e2,e3,h8,c8⟩ := hrr
     subst e1 e2 e3
     conv => cbv
     refine CallF.le (args0 := [.ptr 8 (.lit 0),i6 at_,.agg [i6 cp,i6 0,i6 0,i6 0,i6 bf,i6 (-1),i6 (-1),i6 (-1),i6 (-1)]]) (cfr (rPutChanM_lx R2 vs2 wz [] N W 0 0 0 P2 B2 V2 Qr0 [] 0 false S2.r _ S2.d rfl at_ cp 0 0 0 bf (-1) (-1) (-1) (-1) (zerK 1 9) ((upd_ne hab).trans (upd_same _ _ _)) rfl hbb hpp) [(0,8),(1,9),(2,10),(3,11),(4,12),(5,13),(6,14),(7,15)] (fun r h' n' hrr => ?_)) (by simp [ales,ale,pvle,I.val])
     obtain ⟨e9,vs9,V9,e1,he9,e2,e3,h9,c9⟩ := hrr
     subst e1 e2 e3
     conv => cbv
     refine Br.no (show ¬ ¬ (e8 = e9) from fun q => q (he8.trans he9.symm)) ?_
     conv => cbv
     have hcl : CS.length = chs.length := by rw [hcs,ipv_length]
     refine Room.new rfl ?_
     conv => cbv
     refine Room.new ⟨?_,?_,?_⟩ ?_
     ·show (CS.length : Int) = i * 1; omega
     ·show (i + 1) * 8 ≤ 140737488355328; omega
     ·show i + 1 ≤ 9223372036854775807; omega
     conv => cbv
     refine Upd.mk fun cells2 hcs2 => ?_
     have hcs2 : cells2 = CS ++ [.int .i64 (.sym at_)] := hcs2
     have hcs3 : cells2 = ipv (chs ++ [at_]) := by rw [hcs2,hcs,← ipv_app]; rfl
     conv => cbv
     refine Sum.mk fun j2 hj2 => ?_
     have hj2 : j2 = i + 1 := hj2
     conv => cbv
     refine Fit.mk (by show (-9223372036854775808 : Int) ≤ i + 1; omega) (by show i + 1 ≤ 9223372036854775807; omega) fun i2 hiq => ?_
     have hiq : i2 = i + 1 := hiq
     obtain rfl : j2 = i2 := hj2.trans hiq.symm
     conv => cbv
     refine Again.mk (4 - j2).toNat _ (by omega) (Re.at [(0,0),(1,1),(2,2),(3,3),(4,4),(5,5),(6,6),(7,7),(8,8),(9,9),(10,10),(11,11),(12,12),(13,13),(14,14),(15,15),(16,16),(18,18),(21,17)] []) ⟨j2,R2,ws8,vs9,L2,D8,P2,B2,V9,_,cells2,chs ++ [at_],bufs ++ [_],rfl,by omega,by omega,by omega,rfl,⟨h8,h9,c8,c9,rfl,hwz'⟩,by have := hB.chan1 (x := cx) (c := at_) (b := bf) (by rw [show chs.length = i.toNat by omega]; exact hcx) (by rw [← hcp]; exact g0) hx1 _ hx2; rw [← hcp] at this; exact this,((hY.fresh hx1).fresh hx2).updv rfl (fun F _ => rfl) (fun c d h => (by cases h)) ⟨fun _ => rfl,fun q => absurd (show (1 : Int) = 3 from q) (by decide)⟩,hcs3,by rw [List.length_append]; show j2 = ((chs.length + 1 : Nat) : Int); omega,(show (objCount R2 : Int) ≤ 2 * j2 by omega),hR2⟩
    ·have g0 : ¬ 0 < cp := g0
     conv => cbv
     have hbb : ∀ x ∈ [cp,0,0,0,(-1),-1,-1,-1,-1],b62 x := by
      simp only [List.forall_mem_cons]
      unfold b62
      exact ⟨by omega,by omega,by omega,by omega,by omega,by omega,by omega,by omega,by omega,fun x hx => by cases hx⟩
     have hpp : ∀ x ∈ [(-1),-1,-1,-1,-1],-1 ≤ x := by
      simp only [List.forall_mem_cons]
      exact ⟨by omega,by omega,by omega,by omega,by omega,fun x hx => by cases hx⟩
     refine drawn_sound tok (by kernel_rfl) [(3,[6,5,4]),(7,[])] [0,1,2,4,5,6,3,7,8] (by kernel_rfl) ?_; conv => cbv
     refine CallF.le (args0 := [.ptr 1 (.lit 0),i6 at_,.agg [i6 cp,i6 0,i6 0,i6 0,i6 (-1),i6 (-1),i6 (-1),i6 (-1),i6 (-1)]]) (cfr (putChanM_lx R1 ws1 wz [] N W 0 0 0 L1 D1 D0 z0 false S1.h _ S1.c o ho rfl at_ cp 0 0 0 (-1) (-1) (-1) (-1) (-1) (zerK 1 9) (upd_same _ _ _) rfl hbb hpp) [(0,1),(1,2),(2,3),(3,4),(4,5),(5,6),(6,7),(7,0)] (fun r h' n' hrr => ?_)) (by simp [ales,ale,pvle,I.val])
     obtain ⟨e8,ws8,D8,e1,he8,e2,e3,h8,c8⟩ := hrr
     subst e1 e2 e3
     conv => cbv
     refine CallF.le (args0 := [.ptr 8 (.lit 0),i6 at_,.agg [i6 cp,i6 0,i6 0,i6 0,i6 (-1),i6 (-1),i6 (-1),i6 (-1),i6 (-1)]]) (cfr (rPutChanM_lx R1 vs1 wz [] N W 0 0 0 P1 B1 V1 Qr0 [] 0 false S1.r _ S1.d rfl at_ cp 0 0 0 (-1) (-1) (-1) (-1) (-1) (zerK 1 9) (upd_same _ _ _) rfl hbb hpp) [(0,8),(1,9),(2,10),(3,11),(4,12),(5,13),(6,14),(7,15)] (fun r h' n' hrr => ?_)) (by simp [ales,ale,pvle,I.val])
     obtain ⟨e9,vs9,V9,e1,he9,e2,e3,h9,c9⟩ := hrr
     subst e1 e2 e3
     conv => cbv
     refine Br.no (show ¬ ¬ (e8 = e9) from fun q => q (he8.trans he9.symm)) ?_
     conv => cbv
     have hcl : CS.length = chs.length := by rw [hcs,ipv_length]
     refine Room.new rfl ?_
     conv => cbv
     refine Room.new ⟨?_,?_,?_⟩ ?_
     ·show (CS.length : Int) = i * 1; omega
     ·show (i + 1) * 8 ≤ 140737488355328; omega
     ·show i + 1 ≤ 9223372036854775807; omega
     conv => cbv
     refine Upd.mk fun cells2 hcs2 => ?_
     have hcs2 : cells2 = CS ++ [.int .i64 (.sym at_)] := hcs2
     have hcs3 : cells2 = ipv (chs ++ [at_]) := by rw [hcs2,hcs,← ipv_app]; rfl
     conv => cbv
     refine Sum.mk fun j2 hj2 => ?_
     have hj2 : j2 = i + 1 := hj2
     conv => cbv
     refine Fit.mk (by show (-9223372036854775808 : Int) ≤ i + 1; omega) (by show i + 1 ≤ 9223372036854775807; omega) fun i2 hiq => ?_
     have hiq : i2 = i + 1 := hiq
     obtain rfl : j2 = i2 := hj2.trans hiq.symm
     conv => cbv
     refine Again.mk (4 - j2).toNat _ (by omega) (Re.at [(0,0),(1,1),(2,2),(3,3),(4,4),(5,5),(6,6),(7,7),(8,8),(9,9),(10,10),(11,11),(12,12),(13,13),(14,14),(15,15),(16,16),(18,18),(21,17)] []) ⟨j2,R1,ws8,vs9,L1,D8,P1,B1,V9,_,cells2,chs ++ [at_],bufs ++ [_],rfl,by omega,by omega,by omega,rfl,⟨h8,h9,c8,c9,rfl,hwz'⟩,by have := hB.chan0 (x := cx) (c := at_) (by rw [show chs.length = i.toNat by omega]; exact hcx) (by rw [← hcp]; omega) hx1 (1,zerK 1 (9 : Int).toNat); rw [← hcp] at this; exact this,(hY.fresh hx1).updv rfl (fun F _ => rfl) (fun c d h => (by cases h)) ⟨fun _ => rfl,fun q => absurd (show (1 : Int) = 3 from q) (by decide)⟩,hcs3,by rw [List.length_append]; show j2 = ((chs.length + 1 : Nat) : Int); omega,(show (objCount R1 : Int) ≤ 2 * j2 by omega),hR1⟩
   ·have g4 : ¬ i < 4 := g4
    conv => cbv
    refine Joined.mk _ (Re.at [(0,0),(1,1),(2,2),(3,3),(4,4),(5,5),(6,6),(7,7),(8,8),(9,9),(10,10),(11,11),(12,12),(13,13),(14,14),(15,15),(16,16),(17,17),(18,18)] []) ⟨i,R,ws,vs,L,D,P,B,V,M,CS,chs,bufs,rfl,hi0,by omega,hi1,hi2,S,hB,hY,hcs,hil,hcnt,hR⟩
  ·have gi : ¬ i < mc := gi
   conv => cbv
   refine Joined.mk _ (Re.at [(0,0),(1,1),(2,2),(3,3),(4,4),(5,5),(6,6),(7,7),(8,8),(9,9),(10,10),(11,11),(12,12),(13,13),(14,14),(15,15),(16,16),(17,17),(18,18)] []) ⟨i,R,ws,vs,L,D,P,B,V,M,CS,chs,bufs,rfl,hi0,by omega,hi1,hi2,S,hB,hY,hcs,hil,hcnt,hR⟩
 ·rintro s ⟨i,R,ws,vs,L,D,P,B,V,M,CS,chs,bufs,rfl,hi0,him,hi1,hi2,S,hB,hY,hcs,hil,hcnt,hR⟩
  have hil : i = (chs.length : Int) := hil
  have hcnt : (objCount R : Int) ≤ 2 * i := hcnt
  conv => cbv
  obtain ⟨ng,hng⟩ : ∃ ng,ng = ngor n := ⟨_,rfl⟩
  have hngb := ngor_bd n
  rw [← hng] at hngb
  refine LoopF.mk (fun kk s => ∃ (j : Int) (R : List Rw) (ws vs : List Int) (L D P B V : List PV) (M : Hp) (GS : List PV) (grs : List Int),s = ⟨.p (.vsl (.sym mc) true CL) :: .p (.int .i64 (.sym n)) :: (undefs 3 ++ .ptr 1 (.lit 0) :: .undef :: .ptr 8 (.lit 0) :: .undef :: .ptr 16 (.lit 0) :: (undefs 3 ++ .p (.int .i64 (.sym j)) :: undefs 105)),[hpA 1 2 6 7 3 W 0 0 0,hpB 2 3 5 3 W,hpC 3 4 127 2 N,hpP 4 L,hpP 5 D,hpF 6 z0 false,hpP 7 D0,hpR 8 9 14 3 W 15 0 0 0,hpB 9 10 13 3 W,hpD 10 11 3 1 N 12 197 8 N,hpP 11 P,hpP 12 B,hpP 13 V,hpP 14 Qr0,(15,.mix [.p (.vsl (.sym 0) true []),.p (.bool false)]),(0,.fix 0 o),(16,.mix [.ptr 1 (.lit 0),.ptr 8 (.lit 0),.sl 17 3 1 (.lit 0) (.sym i),.sl 18 3 1 (.lit 0) (.sym j)]),hpP 17 CS,hpP 18 GS],19⟩ ∧ 0 ≤ j ∧ j ≤ ng ∧ kk = (ng - j).toNat ∧ Bst R ws vs wz N W 0 L D D0 z0 P B V Qr0 [] 0 M ∧ Bn caps M chs bufs grs ∧ Sys M (fun _ _ => []) ∧ GS = ipv grs ∧ j = grs.length ∧ objCount R ≤ 2 * i + j ∧ R.length = 60) ng.toNat _
   (Re.at [(0,0),(1,1),(2,2),(3,3),(4,4),(5,5),(6,6),(7,7),(8,8),(9,9),(10,10),(11,11),(12,12),(13,13),(14,14),(15,15),(16,16),(17,17),(18,18)] []) ⟨0,R,ws,vs,L,D,P,B,V,M,[],[],rfl,by omega,by omega,by omega,S,hB,hY,rfl,rfl,(show (objCount R : Int) ≤ 2 * i + 0 by omega),hR⟩ ?_
  clear S hB hY hcnt hR
  rintro kk s ⟨j,R,ws,vs,L,D,P,B,V,M,GS,grs,rfl,hj0,hj1,hkk,S,hB,hY,hgs,hjl,hcnt,hR⟩
  have hjl : j = (grs.length : Int) := hjl
  have hcnt : (objCount R : Int) ≤ 2 * i + j := hcnt
  conv => cbv
  refine Fit.wrap fun xn hxn => ?_
  have hxn : xn = IntKind.u64.wrap n := hxn
  have hyn : 0 ≤ xn := by rw [hxn]; simp [IntKind.wrap,IntKind.bits,IntKind.signed]; omega
  conv => cbv
  refine Sum.mk fun tn htn => ?_
  have htn : tn = xn % 6 := (show tn = xn.tmod 6 from htn).trans (Int.tmod_eq_emod_of_nonneg hyn)
  conv => cbv
  refine Fit.mk (by show (-9223372036854775808 : Int) ≤ tn; omega) (by show tn ≤ 9223372036854775807; omega) fun un hun => ?_
  have hun : un = tn := hun
  conv => cbv
  refine Fit.mk (by show (-9223372036854775808 : Int) ≤ 1 + un; omega) (by show 1 + un ≤ 9223372036854775807; omega) fun ng2 hng2 => ?_
  have hng2 : ng2 = 1 + un := hng2
  obtain rfl : ng = ng2 := by rw [hng,hng2,hun,htn,hxn]; rfl
  clear hng2 hun htn hyn hxn
  conv => cbv
  refine Br.mk (fun gj => ?_) (fun gj => ?_)
  ·have gj : j < ng := gj
   conv => cbv
   refine CallF.le (args0 := [.ptr 16 (.lit 0),i6 4,i6 10]) (cfr (alloc14_lx R ws vs wz N W 0 0 0 L D D0 z0 false P B V Qr0 [] 0 M i j CS GS o S 4 10 (by decide) ⟨fun q => absurd q (by decide),fun q => absurd q (by decide),fun _ => rfl⟩ (by rw [hR]; omega)) [(0,1),(1,2),(2,3),(3,4),(4,5),(5,6),(6,7),(7,8),(8,9),(9,10),(10,11),(11,12),(12,13),(13,14),(14,15),(15,0),(16,16),(17,17),(18,18)] (fun r h' n' hrr => ?_)) (by simp [ales,ale,pvle,I.val])
   obtain ⟨at_,R1,ws1,vs1,L1,D1,P1,B1,V1,e1,e2,e3,S1,hk1,hx1,hp1,hq1,hl1⟩ := hrr
   subst e1 e2 e3
   have hR1 : R1.length = 60 := hl1.trans hR
   conv => cbv
   have hbb : ∀ x ∈ [j,0,0,-1],b62 x := by
    simp only [List.forall_mem_cons]
    unfold b62
    exact ⟨by omega,by omega,by omega,by omega,fun x hx => by cases hx⟩
   have hw0 : ∀ x ∈ [0,0,0,0,0,(0 : Int)],-9223372036854775808 ≤ x ∧ x ≤ 9223372036854775807 := by decide
   have hpp : ∀ x ∈ [(-1 : Int)],-1 ≤ x := by decide
   refine drawn_sound tok (by kernel_rfl) [(3,[6,5,4]),(7,[])] [0,1,2,4,5,6,3,7,8] (by kernel_rfl) ?_; conv => cbv
   refine CallF.le (args0 := [.ptr 1 (.lit 0),i6 at_,.agg [i6 j,i6 0,i6 0,i6 0,i6 0,i6 0,i6 0,i6 0,i6 0,i6 (-1)]]) (cfr (putGorM_lx R1 ws1 wz [] N W 0 0 0 L1 D1 D0 z0 false S1.h _ S1.c o ho rfl at_ j 0 0 0 0 0 0 0 0 (-1) (zerK 4 10) (upd_same _ _ _) rfl hbb hw0 hpp) [(0,1),(1,2),(2,3),(3,4),(4,5),(5,6),(6,7),(7,0)] (fun r h' n' hrr => ?_)) (by simp [ales,ale,pvle,I.val])
   obtain ⟨e8,ws8,D8,e1,he8,e2,e3,h8,c8⟩ := hrr
   subst e1 e2 e3
   conv => cbv
   refine CallF.le (args0 := [.ptr 8 (.lit 0),i6 at_,.agg [i6 j,i6 0,i6 0,i6 0,i6 0,i6 0,i6 0,i6 0,i6 0,i6 (-1)]]) (cfr (rPutGorM_lx R1 vs1 wz [] N W 0 0 0 P1 B1 V1 Qr0 [] 0 false S1.r _ S1.d rfl at_ j 0 0 0 0 0 0 0 0 (-1) (zerK 4 10) (upd_same _ _ _) rfl hbb hw0 hpp) [(0,8),(1,9),(2,10),(3,11),(4,12),(5,13),(6,14),(7,15)] (fun r h' n' hrr => ?_)) (by simp [ales,ale,pvle,I.val])
   obtain ⟨e9,vs9,V9,e1,he9,e2,e3,h9,c9⟩ := hrr
   subst e1 e2 e3
   conv => cbv
   refine Br.no (show ¬ ¬ (e8 = e9) from fun q => q (he8.trans he9.symm)) ?_
   conv => cbv
   have hcl : GS.length = grs.length := by rw [hgs,ipv_length]
   refine Room.new rfl ?_
   conv => cbv
   refine Room.new ⟨?_,?_,?_⟩ ?_
   ·show (GS.length : Int) = j * 1; omega
   ·show (j + 1) * 8 ≤ 140737488355328; omega
   ·show j + 1 ≤ 9223372036854775807; omega
   conv => cbv
   refine Upd.mk fun cells2 hcs2 => ?_
   have hcs2 : cells2 = GS ++ [.int .i64 (.sym at_)] := hcs2
   have hcs3 : cells2 = ipv (grs ++ [at_]) := by rw [hcs2,hgs,← ipv_app]; rfl
   conv => cbv
   refine Sum.mk fun j2 hj2 => ?_
   have hj2 : j2 = j + 1 := hj2
   conv => cbv
   refine Fit.mk (by show (-9223372036854775808 : Int) ≤ j + 1; omega) (by show j + 1 ≤ 9223372036854775807; omega) fun i2 hiq => ?_
   have hiq : i2 = j + 1 := hiq
   obtain rfl : j2 = i2 := hj2.trans hiq.symm
   conv => cbv
   refine Again.mk (ng - j2).toNat _ (by omega) (Re.at [(0,0),(1,1),(2,2),(3,3),(4,4),(5,5),(6,6),(7,7),(8,8),(9,9),(10,10),(11,11),(12,12),(13,13),(14,14),(15,15),(16,16),(17,17),(21,18)] []) ⟨j2,R1,ws8,vs9,L1,D8,P1,B1,V9,_,cells2,grs ++ [at_],rfl,by omega,by omega,rfl,⟨h8,h9,c8,c9,rfl,hwz'⟩,hB.gor hjl hx1 _,(hY.fresh hx1).updv rfl (fun F e => absurd (Option.some.inj ((upd_same _ _ _).symm.trans e)) (fun q => by cases q)) (fun c d h => (by cases h)) ⟨fun q => absurd (show (4 : Int) = 1 from q) (by decide),fun q => absurd (show (4 : Int) = 3 from q) (by decide)⟩,hcs3,by rw [List.length_append]; show j2 = ((grs.length + 1 : Nat) : Int); omega,(show (objCount R1 : Int) ≤ 2 * i + j2 by omega),hR1⟩
  ·have gj : ¬ j < ng := gj
   conv => cbv
   refine RetF.mk [.ptr 16 (.lit 0)] [hpA 1 2 6 7 3 W 0 0 0,hpB 2 3 5 3 W,hpC 3 4 127 2 N,hpP 4 L,hpP 5 D,hpF 6 z0 false,hpP 7 D0,hpR 8 9 14 3 W 15 0 0 0,hpB 9 10 13 3 W,hpD 10 11 3 1 N 12 197 8 N,hpP 11 P,hpP 12 B,hpP 13 V,hpP 14 Qr0,(15,.mix [.p (.vsl (.sym 0) true []),.p (.bool false)]),(0,.fix 0 o),(16,.mix [.ptr 1 (.lit 0),.ptr 8 (.lit 0),.sl 17 3 1 (.lit 0) (.sym i),.sl 18 3 1 (.lit 0) (.sym j)]),hpP 17 CS,hpP 18 GS] 19 (Re.at [(0,0),(1,1),(2,2),(3,3),(4,4),(5,5),(6,6),(7,7),(8,8),(9,9),(10,10),(11,11),(12,12),(13,13),(14,14),(15,15),(16,16),(17,17),(18,18)] []) rfl ⟨N,W,wz,R,ws,vs,L,D,D0,z0,P,B,V,Qr0,M,CS,GS,chs,bufs,grs,i,j,rfl,rfl,rfl,S,hB,hY,hcs,hgs,hil,hjl,him,hi1,hi2,by omega,by omega,hR,by omega⟩
theorem ch14_lx (R : List Rw) (ws vs C : List Int) (N W ph sp cy : Int) (L D Q : List PV) (z : ByteArray) (ov : Bool) (P B V Qr la : List PV) (m : Int) (M : Hp) (nc ng : Int) (cs gs : List PV) (o : Unit → Obj) (n : Int) (l : List Int) (hl : cs = ipv l) (hn : nc = l.length) (h0 : 0 < nc) (hb : nc ≤ 100) : CallF (fun _ => Tryz.prog) 22 [.ptr 16 (.lit 0),i6 n] [hpA 0 1 5 6 3 W ph sp cy,hpB 1 2 4 3 W,hpC 2 3 127 2 N,hpP 3 L,hpP 4 D,hpF 5 z ov,hpP 6 Q,hpR 7 8 13 3 W 14 ph sp cy,hpB 8 9 12 3 W,hpD 9 10 3 1 N 11 197 8 N,hpP 10 P,hpP 11 B,hpP 12 V,hpP 13 Qr,(14,.mix [.p (.vsl (.sym m) true la),.p (.bool ov)]),(15,.fix 0 o),(16,.mix [.ptr 0 (.lit 0),.ptr 7 (.lit 0),.sl 17 3 1 (.lit 0) (.sym nc),.sl 18 3 1 (.lit 0) (.sym ng)]),hpP 17 cs,hpP 18 gs] 19 (fun r h n' => (∃ x : Int,r = .p (.int .i64 (.sym x)) ∧ l[(IntKind.u64.wrap n % nc).toNat]? = some x) ∧ h = [hpA 0 1 5 6 3 W ph sp cy,hpB 1 2 4 3 W,hpC 2 3 127 2 N,hpP 3 L,hpP 4 D,hpF 5 z ov,hpP 6 Q,hpR 7 8 13 3 W 14 ph sp cy,hpB 8 9 12 3 W,hpD 9 10 3 1 N 11 197 8 N,hpP 10 P,hpP 11 B,hpP 12 V,hpP 13 Qr,(14,.mix [.p (.vsl (.sym m) true la),.p (.bool ov)]),(15,.fix 0 o),(16,.mix [.ptr 0 (.lit 0),.ptr 7 (.lit 0),.sl 17 3 1 (.lit 0) (.sym nc),.sl 18 3 1 (.lit 0) (.sym ng)]),hpP 17 cs,hpP 18 gs] ∧ n' = 19) := by
 refine callF_of_body tok Tryz.func22 (by kernel_rfl) rfl rfl rfl ?_; conv => cbv
 refine Br.no (show ¬ nc = 0 by omega) ?_
 conv => cbv
 refine drawn_sound tok (by kernel_rfl) [] [0,1,2,3,4,5,6,7,8,9,10,11,12,13,14,15,16] (by kernel_rfl) ?_; conv => cbv
 refine Fit.wrap fun xn hxn => ?_
 have hxn : xn = IntKind.u64.wrap n := hxn
 have hyn : 0 ≤ xn := by rw [hxn]; simp [IntKind.wrap,IntKind.bits,IntKind.signed]; omega
 conv => cbv
 refine Fit.mk (by show (0 : Int) ≤ nc; omega) (by show nc ≤ 18446744073709551615; omega) fun c2 hc2 => ?_
 have hc2 : c2 = nc := hc2
 conv => cbv
 refine Need.mk (show ¬ c2 = 0 by omega) ?_
 conv => cbv
 refine Sum.mk fun tn htn => ?_
 have htn : tn = xn % nc := (show tn = xn.tmod c2 from htn).trans (by rw [hc2]; exact Int.tmod_eq_emod_of_nonneg hyn)
 have ht0 := Int.emod_nonneg xn (show nc ≠ 0 by omega)
 have ht1 := Int.emod_lt_of_pos xn h0
 conv => cbv
 refine Fit.mk (by show (-9223372036854775808 : Int) ≤ tn; omega) (by show tn ≤ 9223372036854775807; omega) fun i hi => ?_
 have hi : i = tn := hi
 obtain ⟨x,hx⟩ : ∃ x,l[i.toNat]? = some x := ⟨_,List.getElem?_eq_getElem (by omega)⟩
 have hcell : cs[i.toNat]? = some (.int .i64 (.sym x)) := by rw [hl]; exact ipv_get hx
 conv => cbv
 refine Need.mk (show 0 ≤ i ∧ i < nc by omega) ?_
 conv => cbv
 refine Cell.at i _ hcell (by simp [I.val]) rfl ?_
 conv => cbv
 refine RetF.mk [i6 x] [hpA 0 1 5 6 3 W ph sp cy,hpB 1 2 4 3 W,hpC 2 3 127 2 N,hpP 3 L,hpP 4 D,hpF 5 z ov,hpP 6 Q,hpR 7 8 13 3 W 14 ph sp cy,hpB 8 9 12 3 W,hpD 9 10 3 1 N 11 197 8 N,hpP 10 P,hpP 11 B,hpP 12 V,hpP 13 Qr,(14,.mix [.p (.vsl (.sym m) true la),.p (.bool ov)]),(15,.fix 0 o),(16,.mix [.ptr 0 (.lit 0),.ptr 7 (.lit 0),.sl 17 3 1 (.lit 0) (.sym nc),.sl 18 3 1 (.lit 0) (.sym ng)]),hpP 17 cs,hpP 18 gs] 19 (Re.at [(0,0),(1,1),(2,2),(3,3),(4,4),(5,5),(6,6),(7,7),(8,8),(9,9),(10,10),(11,11),(12,12),(13,13),(14,14),(15,15),(16,16),(17,17),(18,18)] []) rfl ⟨⟨x,rfl,by rw [← hxn,← htn,← hi]; exact hx⟩,rfl,rfl⟩
theorem gor14_lx (R : List Rw) (ws vs C : List Int) (N W ph sp cy : Int) (L D Q : List PV) (z : ByteArray) (ov : Bool) (P B V Qr la : List PV) (m : Int) (M : Hp) (nc ng : Int) (cs gs : List PV) (o : Unit → Obj) (n : Int) (l : List Int) (hl : gs = ipv l) (hn : ng = l.length) (h0 : 0 < ng) (hb : ng ≤ 100) : CallF (fun _ => Tryz.prog) 21 [.ptr 16 (.lit 0),i6 n] [hpA 0 1 5 6 3 W ph sp cy,hpB 1 2 4 3 W,hpC 2 3 127 2 N,hpP 3 L,hpP 4 D,hpF 5 z ov,hpP 6 Q,hpR 7 8 13 3 W 14 ph sp cy,hpB 8 9 12 3 W,hpD 9 10 3 1 N 11 197 8 N,hpP 10 P,hpP 11 B,hpP 12 V,hpP 13 Qr,(14,.mix [.p (.vsl (.sym m) true la),.p (.bool ov)]),(15,.fix 0 o),(16,.mix [.ptr 0 (.lit 0),.ptr 7 (.lit 0),.sl 17 3 1 (.lit 0) (.sym nc),.sl 18 3 1 (.lit 0) (.sym ng)]),hpP 17 cs,hpP 18 gs] 19 (fun r h n' => (∃ x : Int,r = .p (.int .i64 (.sym x)) ∧ l[(IntKind.u64.wrap n % ng).toNat]? = some x) ∧ h = [hpA 0 1 5 6 3 W ph sp cy,hpB 1 2 4 3 W,hpC 2 3 127 2 N,hpP 3 L,hpP 4 D,hpF 5 z ov,hpP 6 Q,hpR 7 8 13 3 W 14 ph sp cy,hpB 8 9 12 3 W,hpD 9 10 3 1 N 11 197 8 N,hpP 10 P,hpP 11 B,hpP 12 V,hpP 13 Qr,(14,.mix [.p (.vsl (.sym m) true la),.p (.bool ov)]),(15,.fix 0 o),(16,.mix [.ptr 0 (.lit 0),.ptr 7 (.lit 0),.sl 17 3 1 (.lit 0) (.sym nc),.sl 18 3 1 (.lit 0) (.sym ng)]),hpP 17 cs,hpP 18 gs] ∧ n' = 19) := by
 refine callF_of_body tok Tryz.func21 (by kernel_rfl) rfl rfl rfl ?_; conv => cbv
 refine drawn_sound tok (by kernel_rfl) [] [0,1,2,3,4,5,6,7,8,9,10,11,12,13,14,15,16] (by kernel_rfl) ?_; conv => cbv
 refine Fit.wrap fun xn hxn => ?_
 have hxn : xn = IntKind.u64.wrap n := hxn
 have hyn : 0 ≤ xn := by rw [hxn]; simp [IntKind.wrap,IntKind.bits,IntKind.signed]; omega
 conv => cbv
 refine Fit.mk (by show (0 : Int) ≤ ng; omega) (by show ng ≤ 18446744073709551615; omega) fun c2 hc2 => ?_
 have hc2 : c2 = ng := hc2
 conv => cbv
 refine Need.mk (show ¬ c2 = 0 by omega) ?_
 conv => cbv
 refine Sum.mk fun tn htn => ?_
 have htn : tn = xn % ng := (show tn = xn.tmod c2 from htn).trans (by rw [hc2]; exact Int.tmod_eq_emod_of_nonneg hyn)
 have ht0 := Int.emod_nonneg xn (show ng ≠ 0 by omega)
 have ht1 := Int.emod_lt_of_pos xn h0
 conv => cbv
 refine Fit.mk (by show (-9223372036854775808 : Int) ≤ tn; omega) (by show tn ≤ 9223372036854775807; omega) fun i hi => ?_
 have hi : i = tn := hi
 obtain ⟨x,hx⟩ : ∃ x,l[i.toNat]? = some x := ⟨_,List.getElem?_eq_getElem (by omega)⟩
 have hcell : gs[i.toNat]? = some (.int .i64 (.sym x)) := by rw [hl]; exact ipv_get hx
 conv => cbv
 refine Need.mk (show 0 ≤ i ∧ i < ng by omega) ?_
 conv => cbv
 refine Cell.at i _ hcell (by simp [I.val]) rfl ?_
 conv => cbv
 refine RetF.mk [i6 x] [hpA 0 1 5 6 3 W ph sp cy,hpB 1 2 4 3 W,hpC 2 3 127 2 N,hpP 3 L,hpP 4 D,hpF 5 z ov,hpP 6 Q,hpR 7 8 13 3 W 14 ph sp cy,hpB 8 9 12 3 W,hpD 9 10 3 1 N 11 197 8 N,hpP 10 P,hpP 11 B,hpP 12 V,hpP 13 Qr,(14,.mix [.p (.vsl (.sym m) true la),.p (.bool ov)]),(15,.fix 0 o),(16,.mix [.ptr 0 (.lit 0),.ptr 7 (.lit 0),.sl 17 3 1 (.lit 0) (.sym nc),.sl 18 3 1 (.lit 0) (.sym ng)]),hpP 17 cs,hpP 18 gs] 19 (Re.at [(0,0),(1,1),(2,2),(3,3),(4,4),(5,5),(6,6),(7,7),(8,8),(9,9),(10,10),(11,11),(12,12),(13,13),(14,14),(15,15),(16,16),(17,17),(18,18)] []) rfl ⟨⟨x,rfl,by rw [← hxn,← htn,← hi]; exact hx⟩,rfl,rfl⟩
theorem allocT14_lx (R : List Rw) (ws vs C : List Int) (N W ph sp cy : Int) (L D Q : List PV) (z : ByteArray) (ov : Bool) (P B V Qr la : List PV) (m : Int) (M M2 : Hp) (nc ng : Int) (cs gs : List PV) (o : Unit → Obj) (S : Bs2 R ws vs C N W ph L D Q z P B V Qr la m M M2) (kd n : Int) (hk : 0 ≤ n ∧ n ≤ 31 ∧ 1 ≤ kd ∧ kd ≤ 6) (hlen : lenK kd n.toNat) (hroom : objCount R < R.length) : CallF (fun _ => Tryz.prog) 19 [.ptr 16 (.lit 0),i6 kd,i6 n] [hpA 0 1 5 6 3 W ph sp cy,hpB 1 2 4 3 W,hpC 2 3 127 2 N,hpP 3 L,hpP 4 D,hpF 5 z ov,hpP 6 Q,hpR 7 8 13 3 W 14 ph sp cy,hpB 8 9 12 3 W,hpD 9 10 3 1 N 11 197 8 N,hpP 10 P,hpP 11 B,hpP 12 V,hpP 13 Qr,(14,.mix [.p (.vsl (.sym m) true la),.p (.bool ov)]),(15,.fix 0 o),(16,.mix [.ptr 0 (.lit 0),.ptr 7 (.lit 0),.sl 17 3 1 (.lit 0) (.sym nc),.sl 18 3 1 (.lit 0) (.sym ng)]),hpP 17 cs,hpP 18 gs] 19 (fun r h n' => ∃ (x : Int) (R' : List Rw) (ws' vs' : List Int) (L' D' P' B' V' : List PV),r = .p (.int .i64 (.sym x)) ∧ h = [hpA 0 1 5 6 3 W ph sp cy,hpB 1 2 4 3 W,hpC 2 3 127 2 N,hpP 3 L',hpP 4 D',hpF 5 z ov,hpP 6 Q,hpR 7 8 13 3 W 14 ph sp cy,hpB 8 9 12 3 W,hpD 9 10 3 1 N 11 197 8 N,hpP 10 P',hpP 11 B',hpP 12 V',hpP 13 Qr,(14,.mix [.p (.vsl (.sym m) true la),.p (.bool ov)]),(15,.fix 0 o),(16,.mix [.ptr 0 (.lit 0),.ptr 7 (.lit 0),.sl 17 3 1 (.lit 0) (.sym nc),.sl 18 3 1 (.lit 0) (.sym ng)]),hpP 17 cs,hpP 18 gs] ∧ n' = 19 ∧ Bs2 R' ws' vs' C N W ph L' D' Q z P' B' V' Qr la m (upd M x (kd,zerK kd n.toNat)) (upd M2 x (kd,zerK kd n.toNat)) ∧ objCount R' = objCount R + 1 ∧ M x = Option.none ∧ M2 x = Option.none ∧ 0 ≤ x ∧ x < W ∧ R'.length = R.length) := by
 refine callF_of_body tok Tryz.func19 (by kernel_rfl) rfl rfl rfl ?_; conv => cbv
 refine cfr (alloc9_lx R ws C [] N W ph sp cy L D Q z ov S.h kd n) [(0,0),(1,1),(2,2),(3,3),(4,4),(5,5),(6,6)] (fun r h' n' hrr => ?_)
 obtain ⟨x,e,R',ws',C',L',D',Q',e1,e2,e3,h1,hT,hC⟩ := hrr
 subst e1 e2 e3
 conv => cbv
 refine cfr (ralloc9_lx R vs C [] N W ph sp cy P B V Qr la m ov S.r kd n) [(0,7),(1,8),(2,9),(3,10),(4,11),(5,12),(6,13),(7,14)] (fun r h' n' hrr => ?_)
 obtain ⟨y,f,Y,vs',DC,P',B',V',Qr',e1,e2,e3,g1,hU,hD⟩ := hrr
 subst e1 e2 e3
 obtain ⟨he,q1,q2,q3,hM1,hM2,hc1,hx0,hy0,hx1,hx2,hx3⟩ := S.alloc hroom hk hlen hT hU
 subst q1 q2 q3
 obtain ⟨q4,q5,q6,q7⟩ := Bs2.colour S he h1 g1 hC hD
 subst q4 q5 q6 q7
 conv => cbv
 refine Br.no (show ¬ ¬ (x = x) from fun q => q rfl) ?_
 conv => cbv
 refine Br.no (show ¬ ¬ (e = 0) from fun q => q he) ?_
 conv => cbv
 refine Br.no (show ¬ ¬ (e = 0) from fun q => q he) ?_
 conv => cbv
 refine RetF.mk [i6 x] [hpA 0 1 5 6 3 W ph sp cy,hpB 1 2 4 3 W,hpC 2 3 127 2 N,hpP 3 L',hpP 4 D',hpF 5 z ov,hpP 6 Q,hpR 7 8 13 3 W 14 ph sp cy,hpB 8 9 12 3 W,hpD 9 10 3 1 N 11 197 8 N,hpP 10 P',hpP 11 B',hpP 12 V',hpP 13 Qr,(14,.mix [.p (.vsl (.sym m) true la),.p (.bool ov)]),(15,.fix 0 o),(16,.mix [.ptr 0 (.lit 0),.ptr 7 (.lit 0),.sl 17 3 1 (.lit 0) (.sym nc),.sl 18 3 1 (.lit 0) (.sym ng)]),hpP 17 cs,hpP 18 gs] 19 (Re.at [(0,0),(1,1),(2,2),(3,3),(4,4),(5,5),(6,6),(7,7),(8,8),(9,9),(10,10),(11,11),(12,12),(13,13),(14,14),(15,15),(16,16),(17,17),(18,18)] []) rfl ⟨x,R',ws',vs',L',D',P',B',V',rfl,rfl,rfl,⟨h1,g1,hM1,hM2,S.ph,S.w⟩,hc1,hx0,hy0,hx1,by rw [S.h.w,S.h.n]; exact hx2,hx3⟩
theorem wait14_lx (R : List Rw) (ws vs C : List Int) (N W ph sp cy : Int) (L D Q : List PV) (z : ByteArray) (ov : Bool) (P B V Qr la : List PV) (m : Int) (K K2 : Hp) (q : Qs) (nc ng : Int) (cs gs : List PV) (o : Unit → Obj) (S : Bs2 R ws vs C N W ph L D Q z P B V Qr la m (relink K q) (relink K2 q)) (ho : IsPow o) (hY : Sys (relink K q) q) (hY2 : Sys (relink K2 q) q) (g v tq x0 x1 x2 x3 x4 x5 x6 x7 x8 x9 : Int) (hg : K g = some (4,[x0,x1,x2,x3,x4,x5,x6,x7,x8,x9])) (hg2 : K2 g = some (4,[x0,x1,x2,x3,x4,x5,x6,x7,x8,x9])) (hst : x1 = 0) (ps : List (Int × Bool)) (hps : ∀ p ∈ ps,(∃ F,K p.1 = some (1,F)) ∧ ∃ F,K2 p.1 = some (1,F)) (hpl : ps.length ≤ 3) (hv : -9223372036854775808 ≤ v ∧ v + 2 * ps.length ≤ 9223372036854775809) (htq : 0 ≤ tq ∧ tq ≤ 1000) (hroom : objCount R + ps.length ≤ R.length) (mc : Int) (hmc : mc = ps.length) (CH SN : List PV) (hCH : CH = ipv (ps.map Prod.fst)) (hSN : SN = ps.map fun p => PV.bool p.2) : CallF (fun _ => Tryz.prog) 48 [.ptr 16 (.lit 0),i6 g,.p (.vsl (.sym mc) true CH),.p (.vsl (.sym mc) true SN),i6 v,i6 tq] [hpA 0 1 5 6 3 W ph sp cy,hpB 1 2 4 3 W,hpC 2 3 127 2 N,hpP 3 L,hpP 4 D,hpF 5 z ov,hpP 6 Q,hpR 7 8 13 3 W 14 ph sp cy,hpB 8 9 12 3 W,hpD 9 10 3 1 N 11 197 8 N,hpP 10 P,hpP 11 B,hpP 12 V,hpP 13 Qr,(14,.mix [.p (.vsl (.sym m) true la),.p (.bool ov)]),(15,.fix 0 o),(16,.mix [.ptr 0 (.lit 0),.ptr 7 (.lit 0),.sl 17 3 1 (.lit 0) (.sym nc),.sl 18 3 1 (.lit 0) (.sym ng)]),hpP 17 cs,hpP 18 gs] 19 (fun r h n' => ∃ (xs : List Int) (R' : List Rw) (ws' vs' : List Int) (L' D' P' B' V' : List PV),r = .p (.bool true) ∧ h = [hpA 0 1 5 6 3 W ph sp cy,hpB 1 2 4 3 W,hpC 2 3 127 2 N,hpP 3 L',hpP 4 D',hpF 5 z ov,hpP 6 Q,hpR 7 8 13 3 W 14 ph sp cy,hpB 8 9 12 3 W,hpD 9 10 3 1 N 11 197 8 N,hpP 10 P',hpP 11 B',hpP 12 V',hpP 13 Qr,(14,.mix [.p (.vsl (.sym m) true la),.p (.bool ov)]),(15,.fix 0 o),(16,.mix [.ptr 0 (.lit 0),.ptr 7 (.lit 0),.sl 17 3 1 (.lit 0) (.sym nc),.sl 18 3 1 (.lit 0) (.sym ng)]),hpP 17 cs,hpP 18 gs] ∧ n' = 19 ∧ Bs2 R' ws' vs' C N W ph L' D' Q z P' B' V' Qr la m (relink (waitB g v tq ps xs [x0,1,x2,x3,x4,x5,x6,x7,x8,hdQ xs] K) (addQ ps xs q)) (relink (waitB g v tq ps xs [x0,1,x2,x3,x4,x5,x6,x7,x8,hdQ xs] K2) (addQ ps xs q)) ∧ Sys (relink (waitB g v tq ps xs [x0,1,x2,x3,x4,x5,x6,x7,x8,hdQ xs] K) (addQ ps xs q)) (addQ ps xs q) ∧ Sys (relink (waitB g v tq ps xs [x0,1,x2,x3,x4,x5,x6,x7,x8,hdQ xs] K2) (addQ ps xs q)) (addQ ps xs q) ∧ xs.length = ps.length ∧ xs.Nodup ∧ (∀ x ∈ xs,K x = Option.none ∧ K2 x = Option.none) ∧ objCount R' = objCount R + ps.length ∧ R'.length = R.length) := by
 refine callF_of_body tok Tryz.func48 (by kernel_rfl) rfl rfl rfl ?_; conv => cbv
 refine cfr (rgorM_lx R vs C [] N W ph sp cy P B V Qr la m ov S.r _ S.d g x0 x1 x2 x3 x4 x5 x6 x7 x8 x9 (relink_other hg2 ⟨by decide,by decide⟩)) [(0,7),(1,8),(2,9),(3,10),(4,11),(5,12),(6,13),(7,14)] (fun r h' n' hrr => ?_)
 obtain ⟨⟨e0,e1,he0⟩,e2,e3⟩ := hrr
 subst e1 e2 e3
 conv => cbv
 refine Br.no (show ¬ ¬ (x1 = 0) from fun q => q hst) ?_
 conv => cbv
 refine LoopF.mk (fun kk s => ∃ (i : Int) (R1 : List Rw) (ws1 vs1 : List Int) (L1 D1 P1 B1 V1 : List PV) (J J2 : Hp) (q1 : Qs) (dn : List Int) (rest : List (Int × Bool)) (LS : List PV),s = ⟨.ptr 16 (.lit 0) :: .p (.int .i64 (.sym g)) :: .p (.vsl (.sym mc) true CH) :: .p (.vsl (.sym mc) true SN) :: .p (.int .i64 (.sym v)) :: .p (.int .i64 (.sym tq)) :: (undefs 9 ++ .sl 20 3 1 (.lit 0) (.sym i) :: .p (.int .i64 (.sym i)) :: undefs 106),[hpA 0 1 5 6 3 W ph sp cy,hpB 1 2 4 3 W,hpC 2 3 127 2 N,hpP 3 L1,hpP 4 D1,hpF 5 z ov,hpP 6 Q,hpR 7 8 13 3 W 14 ph sp cy,hpB 8 9 12 3 W,hpD 9 10 3 1 N 11 197 8 N,hpP 10 P1,hpP 11 B1,hpP 12 V1,hpP 13 Qr,(14,.mix [.p (.vsl (.sym m) true la),.p (.bool ov)]),(15,.fix 0 o),(16,.mix [.ptr 0 (.lit 0),.ptr 7 (.lit 0),.sl 17 3 1 (.lit 0) (.sym nc),.sl 18 3 1 (.lit 0) (.sym ng)]),hpP 17 cs,hpP 18 gs,hpP 20 LS],21⟩ ∧ LS = ipv dn ∧ i = dn.length ∧ kk = rest.length ∧ ps.length = dn.length + rest.length ∧ (∀ j : Nat,rest[j]? = ps[dn.length + j]?) ∧ (∀ xs,addS g v tq 0 ps (dn ++ xs) K = addS g v tq i rest xs J) ∧ (∀ xs,addS g v tq 0 ps (dn ++ xs) K2 = addS g v tq i rest xs J2) ∧ (∀ xs,addQ ps (dn ++ xs) q = addQ rest xs q1) ∧ Bs2 R1 ws1 vs1 C N W ph L1 D1 Q z P1 B1 V1 Qr la m (relink J q1) (relink J2 q1) ∧ Sys (relink J q1) q1 ∧ Sys (relink J2 q1) q1 ∧ dn.Nodup ∧ (∀ x ∈ dn,K x = Option.none ∧ K2 x = Option.none ∧ IsSu J x ∧ IsSu J2 x) ∧ J g = K g ∧ J2 g = K2 g ∧ (∀ p ∈ rest,(∃ F,J p.1 = some (1,F)) ∧ ∃ F,J2 p.1 = some (1,F)) ∧ (∀ a,J a = Option.none → K a = Option.none) ∧ (∀ a,J2 a = Option.none → K2 a = Option.none) ∧ objCount R1 = objCount R + dn.length ∧ R1.length = R.length) ps.length _
  (Re.at [(0,0),(1,1),(2,2),(3,3),(4,4),(5,5),(6,6),(7,7),(8,8),(9,9),(10,10),(11,11),(12,12),(13,13),(14,14),(15,15),(16,16),(17,17),(18,18)] [20]) ⟨0,R,ws,vs,L,D,P,B,V,K,K2,q,[],ps,[],rfl,rfl,rfl,rfl,by simp,fun j => by simp,fun xs => rfl,fun xs => rfl,fun xs => rfl,S,hY,hY2,List.nodup_nil,fun x hx => (by cases hx),rfl,rfl,hps,fun a h => h,fun a h => h,rfl,rfl⟩ ?_
 rintro kk s ⟨i,R1,ws1,vs1,L1,D1,P1,B1,V1,J,J2,q1,dn,rest,LS,rfl,hLS,hi,hkk,hpl2,hrest,hS1,hS2,hQ1,S1,hY1,hY3,hnd,hdn,hJg,hJ2g,hch,hJn,hJ2n,hcnt,hRl⟩
 clear S hY hY2
 have hi : i = (dn.length : Int) := hi
 have hi0 : (0 : Int) ≤ i := by omega
 conv => cbv
 rcases rest with _ | ⟨⟨c,d⟩,rest⟩
 ·have hpl3 : dn.length = ps.length := by simpa using hpl2.symm
  refine Br.no (show ¬ (i < mc) by omega) ?_
  conv => cbv
  have hgdn : g ∉ dn := fun k => by
   have := (hdn g k).1
   rw [hg] at this
   cases this
  have hJg1 := relink_other (q := q1) (hJg.trans hg) ⟨by decide,by decide⟩
  have hJg2 := relink_other (q := q1) (hJ2g.trans hg2) ⟨by decide,by decide⟩
  have hsu1 : ∀ x ∈ dn,IsSu (relink J q1) x := fun x hx => rl_isSu (hdn x hx).2.2.1
  have hsu2 : ∀ x ∈ dn,IsSu (relink J2 q1) x := fun x hx => rl_isSu (hdn x hx).2.2.2
  refine drawn_sound tok (by kernel_rfl) [(6,[12,11,10,9,8,7]),(13,[])] [0,1,2,3,4,5,7,8,9,10,11,12,6,13,14,15] (by kernel_rfl) ?_; conv => cbv
  refine cfr (parkS_lx R1 ws1 C [] N W ph sp cy L1 D1 Q z ov S1.h _ S1.c q1 hY1 o ho S1.ph g x0 x1 x2 x3 x4 x5 x6 x7 x8 x9 dn i LS hLS hi (by omega) hJg1 hsu1) [(0,0),(1,1),(2,2),(3,3),(4,4),(5,5),(6,6),(7,15),(8,20)] (fun r h' n' hrr => ?_)
  obtain ⟨e8,he8,ws3,D3,e1,e2,e3,h3,c3⟩ := hrr
  subst e1 e2 e3
  conv => cbv
  refine CallF.re (args0 := [.ptr 7 (.lit 0),i6 g,.p (.vsl (.sym i) true LS)]) (h' := [hpA 0 1 5 6 3 W ph sp cy,hpB 1 2 4 3 W,hpC 2 3 127 2 N,hpP 3 L1,hpP 4 D3,hpF 5 z ov,hpP 6 Q,hpR 7 8 13 3 W 14 ph sp cy,hpB 8 9 12 3 W,hpD 9 10 3 1 N 11 197 8 N,hpP 10 P1,hpP 11 B1,hpP 12 V1,hpP 13 Qr,(14,.mix [.p (.vsl (.sym m) true la),.p (.bool ov)]),(15,.fix 0 o),(16,.mix [.ptr 0 (.lit 0),.ptr 7 (.lit 0),.sl 17 3 1 (.lit 0) (.sym nc),.sl 18 3 1 (.lit 0) (.sym ng)]),hpP 17 cs,hpP 18 gs]) (Re.at [(0,0),(1,1),(2,2),(3,3),(4,4),(5,5),(6,6),(7,7),(8,8),(9,9),(10,10),(11,11),(12,12),(13,13),(14,14),(15,15),(16,16),(17,17),(18,18)] []) (cfr (rpark_lx R1 vs1 C [] N W ph sp cy P1 B1 V1 Qr la m ov S1.r _ S1.d q1 hY3 S1.ph g x0 x1 x2 x3 x4 x5 x6 x7 x8 x9 dn i LS hLS hi (by omega) hJg2 hsu2) [(0,7),(1,8),(2,9),(3,10),(4,11),(5,12),(6,13),(7,14)] (fun r h' n' hrr => ?_))
  obtain ⟨e9,he9,vs3,V3,e1,e2,e3,g3,d3⟩ := hrr
  subst e1 e2 e3
  conv => cbv
  refine Br.yes (show e8 = e9 from he8.trans he9.symm) ?_
  conv => cbv
  have hJ : J = addS g v tq 0 ps dn K := by
   have := hS1 []
   rw [List.append_nil] at this
   exact this.symm
  have hJ2 : J2 = addS g v tq 0 ps dn K2 := by
   have := hS2 []
   rw [List.append_nil] at this
   exact this.symm
  have hQ : q1 = addQ ps dn q := by
   have := hQ1 []
   rw [List.append_nil] at this
   exact this.symm
  have hk1 : upd (parkM (relink J q1) dn) g (4,[x0,1,x2,x3,x4,x5,x6,x7,x8,hdQ dn]) = relink (waitB g v tq ps dn [x0,1,x2,x3,x4,x5,x6,x7,x8,hdQ dn] K) (addQ ps dn q) := by
   rw [rl_parkM (fun x hx => (hdn x hx).2.2.1),rl_ot ⟨by decide,by decide⟩,hJ,hQ]
   rfl
  have hk2 : upd (parkM (relink J2 q1) dn) g (4,[x0,1,x2,x3,x4,x5,x6,x7,x8,hdQ dn]) = relink (waitB g v tq ps dn [x0,1,x2,x3,x4,x5,x6,x7,x8,hdQ dn] K2) (addQ ps dn q) := by
   rw [rl_parkM (fun x hx => (hdn x hx).2.2.2),rl_ot ⟨by decide,by decide⟩,hJ2,hQ]
   rfl
  have hs1 := sysOther (F := [x0,1,x2,x3,x4,x5,x6,x7,x8,hdQ dn]) (sysParkM hY1 hsu1) ((parkM_ne hgdn).trans hJg1) ⟨by decide,by decide⟩
  have hs2 := sysOther (F := [x0,1,x2,x3,x4,x5,x6,x7,x8,hdQ dn]) (sysParkM hY3 hsu2) ((parkM_ne hgdn).trans hJg2) ⟨by decide,by decide⟩
  rw [hk1] at hs1 c3
  rw [hk2] at hs2 d3
  rw [hQ] at hs1 hs2
  refine RetF.mk [.p (.bool true)] [hpA 0 1 5 6 3 W ph sp cy,hpB 1 2 4 3 W,hpC 2 3 127 2 N,hpP 3 L1,hpP 4 D3,hpF 5 z ov,hpP 6 Q,hpR 7 8 13 3 W 14 ph sp cy,hpB 8 9 12 3 W,hpD 9 10 3 1 N 11 197 8 N,hpP 10 P1,hpP 11 B1,hpP 12 V3,hpP 13 Qr,(14,.mix [.p (.vsl (.sym m) true la),.p (.bool ov)]),(15,.fix 0 o),(16,.mix [.ptr 0 (.lit 0),.ptr 7 (.lit 0),.sl 17 3 1 (.lit 0) (.sym nc),.sl 18 3 1 (.lit 0) (.sym ng)]),hpP 17 cs,hpP 18 gs] 19 (Re.at [(0,0),(1,1),(2,2),(3,3),(4,4),(5,5),(6,6),(7,7),(8,8),(9,9),(10,10),(11,11),(12,12),(13,13),(14,14),(15,15),(16,16),(17,17),(18,18)] []) rfl ⟨dn,R1,ws3,vs3,L1,D3,P1,B1,V3,rfl,rfl,rfl,⟨h3,g3,c3,d3,S1.ph,S1.w⟩,hs1,hs2,hpl3,hnd,fun x hx => ⟨(hdn x hx).1,(hdn x hx).2.1⟩,by rw [hcnt,hpl3],hRl⟩
 ·have hp0 : ps[dn.length]? = some (c,d) := by have := hrest 0; simpa using this.symm
  have hlt := (List.getElem?_eq_some_iff.1 hp0).1
  have hcellC : CH[i.toNat]? = some (.int .i64 (.sym c)) := by
   rw [hCH,show i.toNat = dn.length by omega]
   exact ipv_get (by rw [List.getElem?_map,hp0]; rfl)
  have hcellS : SN[i.toNat]? = some (.bool d) := by rw [hSN,show i.toNat = dn.length by omega,List.getElem?_map,hp0]; rfl
  refine Br.yes (show i < mc by omega) ?_
  conv => cbv
  refine Need.mk (show 0 ≤ i ∧ i < mc by omega) ?_
  conv => cbv
  refine Cell.at i _ hcellC (by simp [I.val]) rfl ?_
  conv => cbv
  refine Fit.mk (by show (-9223372036854775808 : Int) ≤ 2 * i; omega) (by show 2 * i ≤ 9223372036854775807; omega) fun i2 hi2 => ?_
  have hi2 : i2 = 2 * i := hi2
  conv => cbv
  refine Fit.mk (by show (-9223372036854775808 : Int) ≤ v + i2; omega) (by show v + i2 ≤ 9223372036854775807; omega) fun vi hvi => ?_
  have hvi : vi = v + 2 * i := by rw [← hi2]; exact hvi
  conv => cbv
  refine Fit.mk (by show (-9223372036854775808 : Int) ≤ tq + i; omega) (by show tq + i ≤ 9223372036854775807; omega) fun ti hti => ?_
  have hti : ti = tq + i := hti
  conv => cbv
  refine Need.mk (show 0 ≤ i ∧ i < mc by omega) ?_
  conv => cbv
  refine Cell.at i _ hcellS (by simp [I.val]) rfl ?_
  obtain ⟨⟨Fc,hJc⟩,Fc2,hJ2c⟩ := hch (c,d) List.mem_cons_self
  obtain ⟨Gc,hMc0⟩ := rl_chan (q := q1) ⟨Fc,hJc⟩
  have hcl := S1.c.len S1.h.a hMc0
  have hJg1 := hJg.trans hg
  have hJg2 := hJ2g.trans hg2
  have hgl := S1.c.len S1.h.a (relink_other (q := q1) hJg1 ⟨by decide,by decide⟩)
  have hRr := S1.h.r
  cases d with
  | false =>
   conv => cbv
   refine CallF.le (args0 := [.ptr 16 (.lit 0),i6 3,i6 7]) (cfr (allocT14_lx R1 ws1 vs1 C N W ph sp cy L1 D1 Q z ov P1 B1 V1 Qr la m (relink J q1) (relink J2 q1) nc ng cs gs o S1 3 7 (by decide) ⟨fun k => absurd k (by decide),fun _ => rfl,fun k => absurd k (by decide)⟩ (by rw [hcnt,hRl]; simp at hpl2; omega)) [(0,0),(1,1),(2,2),(3,3),(4,4),(5,5),(6,6),(7,7),(8,8),(9,9),(10,10),(11,11),(12,12),(13,13),(14,14),(15,15),(16,16),(17,17),(18,18)] (fun r h' n' hrr => ?_)) (by simp [ales,ale,pvle,I.val])
   obtain ⟨x,R2,ws2,vs2,L2,D2,P2,B2,V2,e1,e2,e3,S2,hk2,hx2,hy2,hp2,hq2,hl2⟩ := hrr
   subst e1 e2 e3
   obtain ⟨hYa,hns⟩ := newSu2 (g := g) (c := c) (w := vi) (p := ti) (r := i) (m := -1) hY1 hx2
   obtain ⟨hYb,hns2⟩ := newSu2 (g := g) (c := c) (w := vi) (p := ti) (r := i) (m := -1) hY3 hy2
   rw [rl_su (hns c)] at hYa
   rw [rl_su (hns2 c)] at hYb
   have hJx := rl_none hx2
   have hJ2x := rl_none hy2
   have hxc : x ≠ c := fun e => by rw [e,hJc] at hJx; cases hJx
   have hxc2 : x ≠ c := hxc
   have hbb : ∀ q ∈ [g,c,-1,ti,i,-1],b62 q := by
    simp only [List.forall_mem_cons]
    unfold b62
    exact ⟨by omega,by omega,by omega,by omega,by omega,by omega,fun x hx => by cases hx⟩
   have hww : ∀ q ∈ [vi],-9223372036854775808 ≤ q ∧ q ≤ 9223372036854775807 := by
    intro q hq
    rw [List.mem_singleton.1 hq,hvi]
    simp at hpl2
    omega
   have hpp : ∀ q ∈ [g,c,-1,-1],-1 ≤ q := by
    simp only [List.forall_mem_cons]
    exact ⟨by omega,by omega,by omega,by omega,fun x hx => by cases hx⟩
   conv => cbv
   refine drawn_sound tok (by kernel_rfl) [(6,[12,11,10,9,8,7]),(13,[]),(29,[42,41,40,39,38,37,36,35,34,33,32,31,30]),(43,[])] [0,1,2,3,4,5,7,8,9,10,11,12,6,13,14,15,16,17,18,19,20,21,22,23,24,25,26,27,28,30,31,32,33,34,35,36,37,38,39,40,41,42,29,43,44,45] (drawnOKF_ok (by kernel_rfl)) ?_; conv => cbv
   refine CallF.le (args0 := [.ptr 0 (.lit 0),i6 x,.agg [i6 g,i6 c,i6 vi,i6 (-1),i6 ti,i6 i,i6 (-1)]]) (cfr (putSudogM_lx R2 ws2 C [] N W ph sp cy L2 D2 Q z ov S2.h _ S2.c o ho S2.ph x g c vi (-1) ti i (-1) (zerK 3 7) (upd_same _ _ _) rfl hbb hww hpp) [(0,0),(1,1),(2,2),(3,3),(4,4),(5,5),(6,6),(7,15)] (fun r h' n' hrr => ?_)) (by simp [ales,ale,pvle,I.val])
   obtain ⟨e8,ws3,D3,e1,he8,e2,e3,h3,c3⟩ := hrr
   subst e1 e2 e3
   rw [upd_upd2,rl_su (hns c)] at c3
   conv => cbv
   refine CallF.le (args0 := [.ptr 7 (.lit 0),i6 x,.agg [i6 g,i6 c,i6 vi,i6 (-1),i6 ti,i6 i,i6 (-1)]]) (cfr (rPutSudogM_lx R2 vs2 C [] N W ph sp cy P2 B2 V2 Qr la m ov S2.r _ S2.d S2.ph x g c vi (-1) ti i (-1) (zerK 3 7) (upd_same _ _ _) rfl hbb hww hpp) [(0,7),(1,8),(2,9),(3,10),(4,11),(5,12),(6,13),(7,14)] (fun r h' n' hrr => ?_)) (by simp [ales,ale,pvle,I.val])
   obtain ⟨e9,vs3,V3,e1,he9,e2,e3,g3,d3⟩ := hrr
   subst e1 e2 e3
   rw [upd_upd2,rl_su (hns2 c)] at d3
   conv => cbv
   refine Br.no (show ¬ ¬ (e8 = e9) from fun q => q (he8.trans he9.symm)) ?_
   conv => cbv
   refine Need.mk (show 0 ≤ i ∧ i < mc by omega) ?_
   conv => cbv
   refine Cell.at i _ hcellC (by simp [I.val]) rfl ?_
   conv => cbv
   refine Need.mk (show 0 ≤ i ∧ i < mc by omega) ?_
   conv => cbv
   refine Cell.at i _ hcellS (by simp [I.val]) rfl ?_
   conv => cbv
   refine Need.mk (show 0 ≤ i ∧ i < mc by omega) ?_
   conv => cbv
   refine Cell.at i _ hcellC (by simp [I.val]) rfl ?_
   conv => cbv
   refine Need.mk (show 0 ≤ i ∧ i < mc by omega) ?_
   conv => cbv
   refine Cell.at i _ hcellS (by simp [I.val]) rfl ?_
   conv => cbv
   have hMx : relink (upd J x (3,[g,c,vi,(-1),ti,i,(-1)])) q1 x = some (3,[g,c,vi,(-1),ti,i,(-1)]) := by rw [relink_get (upd_same _ _ _),lnk_sudog,nxtQ_not (hns c)]
   have hMx2 : relink (upd J2 x (3,[g,c,vi,(-1),ti,i,(-1)])) q1 x = some (3,[g,c,vi,(-1),ti,i,(-1)]) := by rw [relink_get (upd_same _ _ _),lnk_sudog,nxtQ_not (hns2 c)]
   obtain ⟨Gp,hGp⟩ := rl_chan (q := q1) (M := upd J x (3,[g,c,vi,(-1),ti,i,(-1)])) (a := c) ⟨Fc,by rw [upd_ne hxc.symm]; exact hJc⟩
   obtain ⟨y0,y1,y2,y3,y4,y5,y6,y7,y8,rfl⟩ := hch9 hYa c Gp hGp
   obtain ⟨Gq,hGq⟩ := rl_chan (q := q1) (M := upd J2 x (3,[g,c,vi,(-1),ti,i,(-1)])) (a := c) ⟨Fc2,by rw [upd_ne hxc.symm]; exact hJ2c⟩
   obtain ⟨u0,u1,u2,u3,u4,u5,u6,u7,u8,rfl⟩ := hch9 hYb c Gq hGq
   refine cfr (listPush0_lx R2 ws3 C [] N W ph sp cy L2 D3 Q z ov h3 _ c3 q1 hYa o ho S2.ph (hch9 hYa) (hsu7 hYa) c x y0 y1 y2 y3 y4 y5 y6 y7 y8 g vi (-1) ti i (-1) hGp hMx (hns c)) [(0,0),(1,1),(2,2),(3,3),(4,4),(5,5),(6,6),(7,15)] (fun r h' n' hrr => ?_)
   obtain ⟨e10,ws4,D4,e1,he10,e2,e3,h4,c4⟩ := hrr
   subst e1 e2 e3
   rw [relink_relink] at c4
   conv => cbv
   refine cfr (rPush0_lx R2 vs3 C [] N W ph sp cy P2 B2 V3 Qr la m ov g3 _ d3 q1 hYb S2.ph c x u0 u1 u2 u3 u4 u5 u6 u7 u8 g vi (-1) ti i (-1) hGq hMx2 (hns2 c)) [(0,7),(1,8),(2,9),(3,10),(4,11),(5,12),(6,13),(7,14)] (fun r h' n' hrr => ?_)
   obtain ⟨e11,vs4,V4,e1,he11,e2,e3,g4,d4⟩ := hrr
   subst e1 e2 e3
   rw [relink_relink] at d4
   have hYp := (hYa.push (d := false) hGp hMx (hns c)).1
   have hYq := (hYb.push (d := false) hGq hMx2 (hns2 c)).1
   rw [relink_relink] at hYp hYq
   conv => cbv
   refine Br.no (show ¬ ¬ (e10 = e11) from fun q => q (he10.trans he11.symm)) ?_
   conv => cbv
   have hxg : g ≠ x := fun e => by rw [← e,hJg1] at hJx; cases hJx
   have hLl : LS.length = dn.length := by rw [hLS,ipv_length]
   have hi3 : i < 3 := by simp at hpl2; omega
   refine Room.new rfl ?_
   conv => cbv
   refine Room.new ⟨?_,?_,?_⟩ ?_
   ·show (LS.length : Int) = i * 1; omega
   ·show (i + 1) * 8 ≤ 140737488355328; omega
   ·show i + 1 ≤ 9223372036854775807; omega
   conv => cbv
   refine Upd.mk fun LS2 hLS2 => ?_
   have hLS2 : LS2 = LS ++ [.int .i64 (.sym x)] := hLS2
   have hLS3 : LS2 = ipv (dn ++ [x]) := by rw [hLS2,hLS,← ipv_app]; rfl
   conv => cbv
   refine Sum.mk fun j2 hj2 => ?_
   have hj2 : j2 = i + 1 := hj2
   conv => cbv
   refine Fit.mk (by show (-9223372036854775808 : Int) ≤ i + 1; omega) (by show i + 1 ≤ 9223372036854775807; omega) fun j3 hj3 => ?_
   obtain rfl : j2 = j3 := hj2.trans (show j3 = i + 1 from hj3).symm
   conv => cbv
   have hxdn : x ∉ dn := fun k => by
    obtain ⟨_,_,⟨_,_,_,_,_,_,_,e⟩,_⟩ := hdn x k
    rw [hJx] at e
    cases e
   refine Again.mk rest.length _ (by rw [hkk]; exact Nat.lt_succ_self _) (Re.at [(0,0),(1,1),(2,2),(3,3),(4,4),(5,5),(6,6),(7,7),(8,8),(9,9),(10,10),(11,11),(12,12),(13,13),(14,14),(15,15),(16,16),(17,17),(18,18),(23,20)] []) ⟨j2,R2,ws4,vs4,L2,D4,P2,B2,V4,upd J x (3,[g,c,vi,(-1),ti,i,(-1)]),upd J2 x (3,[g,c,vi,(-1),ti,i,(-1)]),updQ q1 c false (q1 c false ++ [x]),dn ++ [x],rest,LS2,rfl,hLS3,by rw [List.length_append]; show j2 = ((dn.length + 1 : Nat) : Int); omega,rfl,by simp at hpl2 ⊢; omega,fun j => by
     have := hrest (j + 1)
     rw [List.getElem?_cons_succ] at this
     rw [this,List.length_append]
     congr 1
     simp; omega,fun xs => by
     have := hS1 (x :: xs)
     rw [List.append_assoc,List.singleton_append,this,hvi,hti,hj2]; rfl,fun xs => by
     have := hS2 (x :: xs)
     rw [List.append_assoc,List.singleton_append,this,hvi,hti,hj2]; rfl,fun xs => by
     have := hQ1 (x :: xs)
     rw [List.append_assoc,List.singleton_append,this]; rfl,⟨h4,g4,c4,d4,S2.ph,S2.w⟩,hYp,hYq,List.nodup_append.2 ⟨hnd,by simp,fun a ha b hb => by simp at hb; subst hb; exact fun e => hxdn (e ▸ ha)⟩,fun y hy => by
     rcases List.mem_append.1 hy with k | k
     ·obtain ⟨k1,k2,k3,k4⟩ := hdn y k
      exact ⟨k1,k2,suUpd k3,suUpd k4⟩
     ·rw [List.mem_singleton.1 k]
      exact ⟨hJn x hJx,hJ2n x hJ2x,⟨_,_,_,_,_,_,_,upd_same _ _ _⟩,⟨_,_,_,_,_,_,_,upd_same _ _ _⟩⟩,by rw [upd_ne hxg]; exact hJg,by rw [upd_ne hxg]; exact hJ2g,fun p hp => ⟨chUpd hJx (hch p (List.mem_cons_of_mem _ hp)).1,chUpd hJ2x (hch p (List.mem_cons_of_mem _ hp)).2⟩,fun a ha => noneUpd hJn ha,fun a ha => noneUpd hJ2n ha,by rw [hk2,hcnt,List.length_append]; simp; omega,hl2.trans hRl⟩
  | true =>
   conv => cbv
   refine CallF.le (args0 := [.ptr 16 (.lit 0),i6 3,i6 7]) (cfr (allocT14_lx R1 ws1 vs1 C N W ph sp cy L1 D1 Q z ov P1 B1 V1 Qr la m (relink J q1) (relink J2 q1) nc ng cs gs o S1 3 7 (by decide) ⟨fun k => absurd k (by decide),fun _ => rfl,fun k => absurd k (by decide)⟩ (by rw [hcnt,hRl]; simp at hpl2; omega)) [(0,0),(1,1),(2,2),(3,3),(4,4),(5,5),(6,6),(7,7),(8,8),(9,9),(10,10),(11,11),(12,12),(13,13),(14,14),(15,15),(16,16),(17,17),(18,18)] (fun r h' n' hrr => ?_)) (by simp [ales,ale,pvle,I.val])
   obtain ⟨x,R2,ws2,vs2,L2,D2,P2,B2,V2,e1,e2,e3,S2,hk2,hx2,hy2,hp2,hq2,hl2⟩ := hrr
   subst e1 e2 e3
   obtain ⟨hYa,hns⟩ := newSu2 (g := g) (c := c) (w := vi) (p := ti) (r := (-1)) (m := -1) hY1 hx2
   obtain ⟨hYb,hns2⟩ := newSu2 (g := g) (c := c) (w := vi) (p := ti) (r := (-1)) (m := -1) hY3 hy2
   rw [rl_su (hns c)] at hYa
   rw [rl_su (hns2 c)] at hYb
   have hJx := rl_none hx2
   have hJ2x := rl_none hy2
   have hxc : x ≠ c := fun e => by rw [e,hJc] at hJx; cases hJx
   have hxc2 : x ≠ c := hxc
   have hbb : ∀ q ∈ [g,c,-1,ti,(-1),-1],b62 q := by
    simp only [List.forall_mem_cons]
    unfold b62
    exact ⟨by omega,by omega,by omega,by omega,by omega,by omega,fun x hx => by cases hx⟩
   have hww : ∀ q ∈ [vi],-9223372036854775808 ≤ q ∧ q ≤ 9223372036854775807 := by
    intro q hq
    rw [List.mem_singleton.1 hq,hvi]
    simp at hpl2
    omega
   have hpp : ∀ q ∈ [g,c,-1,-1],-1 ≤ q := by
    simp only [List.forall_mem_cons]
    exact ⟨by omega,by omega,by omega,by omega,fun x hx => by cases hx⟩
   conv => cbv
   refine drawn_sound tok (by kernel_rfl) [(6,[12,11,10,9,8,7]),(13,[]),(29,[42,41,40,39,38,37,36,35,34,33,32,31,30]),(43,[])] [0,1,2,3,4,5,7,8,9,10,11,12,6,13,14,15,16,17,18,19,20,21,22,23,24,25,26,27,28,30,31,32,33,34,35,36,37,38,39,40,41,42,29,43,44,45] (drawnOKF_ok (by kernel_rfl)) ?_; conv => cbv
   refine CallF.le (args0 := [.ptr 0 (.lit 0),i6 x,.agg [i6 g,i6 c,i6 vi,i6 (-1),i6 ti,i6 (-1),i6 (-1)]]) (cfr (putSudogM_lx R2 ws2 C [] N W ph sp cy L2 D2 Q z ov S2.h _ S2.c o ho S2.ph x g c vi (-1) ti (-1) (-1) (zerK 3 7) (upd_same _ _ _) rfl hbb hww hpp) [(0,0),(1,1),(2,2),(3,3),(4,4),(5,5),(6,6),(7,15)] (fun r h' n' hrr => ?_)) (by simp [ales,ale,pvle,I.val])
   obtain ⟨e8,ws3,D3,e1,he8,e2,e3,h3,c3⟩ := hrr
   subst e1 e2 e3
   rw [upd_upd2,rl_su (hns c)] at c3
   conv => cbv
   refine CallF.le (args0 := [.ptr 7 (.lit 0),i6 x,.agg [i6 g,i6 c,i6 vi,i6 (-1),i6 ti,i6 (-1),i6 (-1)]]) (cfr (rPutSudogM_lx R2 vs2 C [] N W ph sp cy P2 B2 V2 Qr la m ov S2.r _ S2.d S2.ph x g c vi (-1) ti (-1) (-1) (zerK 3 7) (upd_same _ _ _) rfl hbb hww hpp) [(0,7),(1,8),(2,9),(3,10),(4,11),(5,12),(6,13),(7,14)] (fun r h' n' hrr => ?_)) (by simp [ales,ale,pvle,I.val])
   obtain ⟨e9,vs3,V3,e1,he9,e2,e3,g3,d3⟩ := hrr
   subst e1 e2 e3
   rw [upd_upd2,rl_su (hns2 c)] at d3
   conv => cbv
   refine Br.no (show ¬ ¬ (e8 = e9) from fun q => q (he8.trans he9.symm)) ?_
   conv => cbv
   refine Need.mk (show 0 ≤ i ∧ i < mc by omega) ?_
   conv => cbv
   refine Cell.at i _ hcellC (by simp [I.val]) rfl ?_
   conv => cbv
   refine Need.mk (show 0 ≤ i ∧ i < mc by omega) ?_
   conv => cbv
   refine Cell.at i _ hcellS (by simp [I.val]) rfl ?_
   conv => cbv
   refine Need.mk (show 0 ≤ i ∧ i < mc by omega) ?_
   conv => cbv
   refine Cell.at i _ hcellC (by simp [I.val]) rfl ?_
   conv => cbv
   refine Need.mk (show 0 ≤ i ∧ i < mc by omega) ?_
   conv => cbv
   refine Cell.at i _ hcellS (by simp [I.val]) rfl ?_
   conv => cbv
   have hMx : relink (upd J x (3,[g,c,vi,(-1),ti,(-1),(-1)])) q1 x = some (3,[g,c,vi,(-1),ti,(-1),(-1)]) := by rw [relink_get (upd_same _ _ _),lnk_sudog,nxtQ_not (hns c)]
   have hMx2 : relink (upd J2 x (3,[g,c,vi,(-1),ti,(-1),(-1)])) q1 x = some (3,[g,c,vi,(-1),ti,(-1),(-1)]) := by rw [relink_get (upd_same _ _ _),lnk_sudog,nxtQ_not (hns2 c)]
   obtain ⟨Gp,hGp⟩ := rl_chan (q := q1) (M := upd J x (3,[g,c,vi,(-1),ti,(-1),(-1)])) (a := c) ⟨Fc,by rw [upd_ne hxc.symm]; exact hJc⟩
   obtain ⟨y0,y1,y2,y3,y4,y5,y6,y7,y8,rfl⟩ := hch9 hYa c Gp hGp
   obtain ⟨Gq,hGq⟩ := rl_chan (q := q1) (M := upd J2 x (3,[g,c,vi,(-1),ti,(-1),(-1)])) (a := c) ⟨Fc2,by rw [upd_ne hxc.symm]; exact hJ2c⟩
   obtain ⟨u0,u1,u2,u3,u4,u5,u6,u7,u8,rfl⟩ := hch9 hYb c Gq hGq
   refine cfr (listPush1_lx R2 ws3 C [] N W ph sp cy L2 D3 Q z ov h3 _ c3 q1 hYa o ho S2.ph (hch9 hYa) (hsu7 hYa) c x y0 y1 y2 y3 y4 y5 y6 y7 y8 g vi (-1) ti (-1) (-1) hGp hMx (hns c)) [(0,0),(1,1),(2,2),(3,3),(4,4),(5,5),(6,6),(7,15)] (fun r h' n' hrr => ?_)
   obtain ⟨e10,ws4,D4,e1,he10,e2,e3,h4,c4⟩ := hrr
   subst e1 e2 e3
   rw [relink_relink] at c4
   conv => cbv
   refine cfr (rPush1_lx R2 vs3 C [] N W ph sp cy P2 B2 V3 Qr la m ov g3 _ d3 q1 hYb S2.ph c x u0 u1 u2 u3 u4 u5 u6 u7 u8 g vi (-1) ti (-1) (-1) hGq hMx2 (hns2 c)) [(0,7),(1,8),(2,9),(3,10),(4,11),(5,12),(6,13),(7,14)] (fun r h' n' hrr => ?_)
   obtain ⟨e11,vs4,V4,e1,he11,e2,e3,g4,d4⟩ := hrr
   subst e1 e2 e3
   rw [relink_relink] at d4
   have hYp := (hYa.push (d := true) hGp hMx (hns c)).1
   have hYq := (hYb.push (d := true) hGq hMx2 (hns2 c)).1
   rw [relink_relink] at hYp hYq
   conv => cbv
   refine Br.no (show ¬ ¬ (e10 = e11) from fun q => q (he10.trans he11.symm)) ?_
   conv => cbv
   have hxg : g ≠ x := fun e => by rw [← e,hJg1] at hJx; cases hJx
   have hLl : LS.length = dn.length := by rw [hLS,ipv_length]
   have hi3 : i < 3 := by simp at hpl2; omega
   refine Room.new rfl ?_
   conv => cbv
   refine Room.new ⟨?_,?_,?_⟩ ?_
   ·show (LS.length : Int) = i * 1; omega
   ·show (i + 1) * 8 ≤ 140737488355328; omega
   ·show i + 1 ≤ 9223372036854775807; omega
   conv => cbv
   refine Upd.mk fun LS2 hLS2 => ?_
   have hLS2 : LS2 = LS ++ [.int .i64 (.sym x)] := hLS2
   have hLS3 : LS2 = ipv (dn ++ [x]) := by rw [hLS2,hLS,← ipv_app]; rfl
   conv => cbv
   refine Sum.mk fun j2 hj2 => ?_
   have hj2 : j2 = i + 1 := hj2
   conv => cbv
   refine Fit.mk (by show (-9223372036854775808 : Int) ≤ i + 1; omega) (by show i + 1 ≤ 9223372036854775807; omega) fun j3 hj3 => ?_
   obtain rfl : j2 = j3 := hj2.trans (show j3 = i + 1 from hj3).symm
   conv => cbv
   have hxdn : x ∉ dn := fun k => by
    obtain ⟨_,_,⟨_,_,_,_,_,_,_,e⟩,_⟩ := hdn x k
    rw [hJx] at e
    cases e
   refine Again.mk rest.length _ (by rw [hkk]; exact Nat.lt_succ_self _) (Re.at [(0,0),(1,1),(2,2),(3,3),(4,4),(5,5),(6,6),(7,7),(8,8),(9,9),(10,10),(11,11),(12,12),(13,13),(14,14),(15,15),(16,16),(17,17),(18,18),(23,20)] []) ⟨j2,R2,ws4,vs4,L2,D4,P2,B2,V4,upd J x (3,[g,c,vi,(-1),ti,(-1),(-1)]),upd J2 x (3,[g,c,vi,(-1),ti,(-1),(-1)]),updQ q1 c true (q1 c true ++ [x]),dn ++ [x],rest,LS2,rfl,hLS3,by rw [List.length_append]; show j2 = ((dn.length + 1 : Nat) : Int); omega,rfl,by simp at hpl2 ⊢; omega,fun j => by
     have := hrest (j + 1)
     rw [List.getElem?_cons_succ] at this
     rw [this,List.length_append]
     congr 1
     simp; omega,fun xs => by
     have := hS1 (x :: xs)
     rw [List.append_assoc,List.singleton_append,this,hvi,hti,hj2]; rfl,fun xs => by
     have := hS2 (x :: xs)
     rw [List.append_assoc,List.singleton_append,this,hvi,hti,hj2]; rfl,fun xs => by
     have := hQ1 (x :: xs)
     rw [List.append_assoc,List.singleton_append,this]; rfl,⟨h4,g4,c4,d4,S2.ph,S2.w⟩,hYp,hYq,List.nodup_append.2 ⟨hnd,by simp,fun a ha b hb => by simp at hb; subst hb; exact fun e => hxdn (e ▸ ha)⟩,fun y hy => by
     rcases List.mem_append.1 hy with k | k
     ·obtain ⟨k1,k2,k3,k4⟩ := hdn y k
      exact ⟨k1,k2,suUpd k3,suUpd k4⟩
     ·rw [List.mem_singleton.1 k]
      exact ⟨hJn x hJx,hJ2n x hJ2x,⟨_,_,_,_,_,_,_,upd_same _ _ _⟩,⟨_,_,_,_,_,_,_,upd_same _ _ _⟩⟩,by rw [upd_ne hxg]; exact hJg,by rw [upd_ne hxg]; exact hJ2g,fun p hp => ⟨chUpd hJx (hch p (List.mem_cons_of_mem _ hp)).1,chUpd hJ2x (hch p (List.mem_cons_of_mem _ hp)).2⟩,fun a ha => noneUpd hJn ha,fun a ha => noneUpd hJ2n ha,by rw [hk2,hcnt,List.length_append]; simp; omega,hl2.trans hRl⟩
theorem awake14_lx (o : Unit → Obj) (ho : IsPow o) : CallF (fun _ => Tryz.prog) 18 [] [(0,.fix 0 o)] 1 (fun r h n => r = .p (.bool true) ∧ h = [(0,.fix 0 o)] ∧ n = 1) := by
 refine callF_of_body tok Tryz.func18 (by kernel_rfl) rfl rfl rfl ?_; conv => cbv
 refine CallF.re (args0 := [.p (.vsl (.sym 1) true [.int .i64 (.sym 0)]),i6 1]) (h' := [(0,.fix 0 o)]) (Re.at [(0,0)] []) (cfr (made14_lx o ho [0] 1 1 [.int .i64 (.sym 0)] rfl rfl) [(0,0)] (fun r h' n' hrr => ?_))
 obtain ⟨N,W,C,R,ws,vs,L,D,Q,z,P,B,V,Qr,M,CS,GS,chs,bufs,grs,nc,ng,e1,e2,e3,S,hB,hY,hcs,hgs,hnc,hng,hnm,hn1,hn4,hngo,hcnt,hR,hW⟩ := hrr
 subst e1 e2 e3
 conv => cbv
 have hnc1 : nc = 1 := by omega
 obtain ⟨c,hcc⟩ := chA1 hnc hnc1
 have hc0 : chs[0]? = some c := by rw [hcc]; rfl
 obtain ⟨b,hb0,hBC⟩ := hB.ch 0 c 0 hc0 rfl
 have hMc := hBC.c
 rw [capS (by decide)] at hMc
 have hcl := S.c.len S.h.a hMc
 have hcw : atW (2 * c + 1) = c := atW_ptr c
 have hngb := ngor_bd 1
 obtain ⟨g,hg0⟩ : ∃ g,grs[0]? = some g := ⟨_,List.getElem?_eq_getElem (by omega)⟩
 have hMg : M g = some (4,[0,0,0,0,0,0,0,0,0,-1]) := hB.gr 0 g hg0
 have hgl := S.c.len S.h.a hMg
 have hgc : g ≠ c := fun q => by rw [q,hMc] at hMg; cases hMg
 refine CallF.le (args0 := [.ptr 17 (.lit 0),i6 0]) (cfr (gor14_lx R ws vs C N W 0 0 0 L D Q z false P B V Qr [] 0 M nc ng CS GS o 0 grs hgs hng (by omega) (by omega)) [(0,2),(1,3),(2,4),(3,5),(4,6),(5,7),(6,8),(7,9),(8,10),(9,11),(10,12),(11,13),(12,14),(13,15),(14,16),(15,0),(16,17),(17,18),(18,19)] (fun r h' n' hrr => ?_)) (by simp [ales,ale,pvle,I.val])
 obtain ⟨⟨x1,e1,hx1⟩,e2,e3⟩ := hrr
 subst e1 e2 e3
 conv => cbv
 obtain rfl : g = x1 := (ix0 hx1 hg0).symm
 refine CallF.le (args0 := [.ptr 17 (.lit 0),i6 0]) (cfr (ch14_lx R ws vs C N W 0 0 0 L D Q z false P B V Qr [] 0 M nc ng CS GS o 0 chs hcs hnc (by omega) (by omega)) [(0,2),(1,3),(2,4),(3,5),(4,6),(5,7),(6,8),(7,9),(8,10),(9,11),(10,12),(11,13),(12,14),(13,15),(14,16),(15,0),(16,17),(17,18),(18,19)] (fun r h' n' hrr => ?_)) (by simp [ales,ale,pvle,I.val])
 obtain ⟨⟨x2,e1,hx2⟩,e2,e3⟩ := hrr
 subst e1 e2 e3
 conv => cbv
 obtain rfl : c = x2 := (ix0 hx2 hc0).symm
 have S2 : Bs2 R ws vs C N W 0 L D Q z P B V Qr [] 0 (relink M (fun _ _ => [])) (relink M (fun _ _ => [])) := by rw [hY.ln]; exact S.two
 have hY2 : Sys (relink M (fun _ _ => [])) (fun _ _ => []) := by rw [hY.ln]; exact hY
 refine CallF.re (args0 := [.ptr 17 (.lit 0),i6 g,.p (.vsl (.sym 1) true [.int .i64 (.sym c)]),.p (.vsl (.sym 1) true [.bool false]),i6 0,i6 5]) (h' := [(0,.fix 0 o),hpA 2 3 7 8 3 W 0 0 0,hpB 3 4 6 3 W,hpC 4 5 127 2 N,hpP 5 L,hpP 6 D,hpF 7 z false,hpP 8 Q,hpR 9 10 15 3 W 16 0 0 0,hpB 10 11 14 3 W,hpD 11 12 3 1 N 13 197 8 N,hpP 12 P,hpP 13 B,hpP 14 V,hpP 15 Qr,(16,.mix [.p (.vsl (.sym 0) true []),.p (.bool false)]),(0,.fix 0 o),(17,.mix [.ptr 2 (.lit 0),.ptr 9 (.lit 0),.sl 18 3 1 (.lit 0) (.sym nc),.sl 19 3 1 (.lit 0) (.sym ng)]),hpP 18 CS,hpP 19 GS]) (Re.at [(0,0),(2,2),(3,3),(4,4),(5,5),(6,6),(7,7),(8,8),(9,9),(10,10),(11,11),(12,12),(13,13),(14,14),(15,15),(16,16),(17,17),(18,18),(19,19)] []) (cfr (wait14_lx R ws vs C N W 0 0 0 L D Q z false P B V Qr [] 0 M M (fun _ _ => []) nc ng CS GS o S2 ho hY2 hY2 g 0 5 0 0 0 0 0 0 0 0 0 (-1) hMg hMg rfl [(c,false)] (by simp [hMc]) (by simp) (by simp) (by decide) (by simp; omega) 1 rfl [.int .i64 (.sym c)] [.bool false] rfl rfl) [(0,2),(1,3),(2,4),(3,5),(4,6),(5,7),(6,8),(7,9),(8,10),(9,11),(10,12),(11,13),(12,14),(13,15),(14,16),(15,0),(16,17),(17,18),(18,19)] (fun r h' n' hrr => ?_))
 obtain ⟨xs,R3,ws3,vs3,L3,D3,P3,B3,V3,e1,e2,e3,S3,hY3,hY4,hxl,hxn,hxK,hk3,hl3⟩ := hrr
 subst e1 e2 e3
 conv => cbv
 obtain ⟨x,rfl⟩ : ∃ x,xs = [x] := by
  match xs,hxl with
  | [x],_ => exact ⟨x,rfl⟩
 obtain ⟨hMx,_⟩ := hxK x (by simp)
 have hxg : x ≠ g := fun e => by rw [e,hMg] at hMx; cases hMx
 have hxc : c ≠ x := fun e => by rw [← e,hMc] at hMx; cases hMx
 have hKx := waitB_1 (v := 0) (tq := 5) (c := c) (d := false) (gF := [0,1,0,0,0,0,0,0,0,hdQ [x]]) (B := M) hxg
 have hKc := (waitB_ne (g := g) (v := 0) (tq := 5) (ps := [(c,false)]) (xs := [x]) (gF := [0,1,0,0,0,0,0,0,0,hdQ [x]]) (B := M) (a := c) hgc.symm (by simp [hxc])).trans hMc
 have hKg := waitB_g g (0) (5) [(c,false)] [x] [0,1,0,0,0,0,0,0,0,hdQ [x]] M
 have hKo : ∀ a,a ≠ g → a ≠ x → waitB g (0) (5) [(c,false)] [x] [0,1,0,0,0,0,0,0,0,hdQ [x]] M a = M a := fun a h1 h2 => waitB_ne h1 (by simp [h2])
 have hq1 : addQ [(c,false)] [x] (fun _ _ => []) c false = [x] := by rw [q0_one,updQ_same]
 have hqn : addQ [(c,false)] [x] (fun _ _ => []) c (!false) = [] := by rw [q0_one,updQ_ne (by simp)]
 have hqa : ∀ a e y,y ∈ addQ [(c,false)] [x] (fun _ _ => []) a e → y ∈ [x] := fun a e y hy => by
  rw [q0_one] at hy
  by_cases k : a = c ∧ e = false
  ·obtain ⟨rfl,rfl⟩ := k; rw [updQ_same] at hy; exact hy
  ·rw [updQ_ne k] at hy; cases hy
 have hh3 := S3.h
 have hc3 := S3.c
 generalize hK1 : waitB g (0) (5) [(c,false)] [x] [0,1,0,0,0,0,0,0,0,hdQ [x]] M = K1 at hKx hKc hKg hKo hc3 hY3
 generalize hQ1 : addQ [(c,false)] [x] (fun _ _ => []) = q1 at hq1 hqn hqa hc3 hY3
 have hKn : K1 (-1) = none := rl_none (neg_none hh3.a hc3)
 have hmor := mor1 (q := q1) hKx hKc hKn
 have hrm := rmQ_all hqa
 obtain ⟨n1,hMx3⟩ := relink_su (q := q1) hKx
 have hMc3 := relink_ch (q := q1) hKc
 have hMg3 := relink_other (q := q1) hKg ⟨by decide,by decide⟩
 have hY5 := sysFilt hY3 [x]
 rw [relink_relink,hrm] at hY5
 have hMc5 : relink K1 (fun _ _ => []) c = _ := relink_ch hKc
 have hMg5 := relink_other (q := fun _ _ => []) hKg ⟨by decide,by decide⟩
 clear hK1 hQ1 hxK hxl S2 hY2 S3 hY4 S
 refine drawn_sound tok (by kernel_rfl) [(5,[3,2,1,0]),(6,[])] [0,1,2,3,4,5,6,7,8,9,10,11] (by kernel_rfl) ?_; conv => cbv
 refine CallF.le (args0 := [.ptr 17 (.lit 0),i6 0]) (cfr (ch14_lx R3 ws3 vs3 C N W 0 0 0 L3 D3 Q z false P3 B3 V3 Qr [] 0 M nc ng CS GS o 0 chs hcs hnc (by omega) (by omega)) [(0,2),(1,3),(2,4),(3,5),(4,6),(5,7),(6,8),(7,9),(8,10),(9,11),(10,12),(11,13),(12,14),(13,15),(14,16),(15,0),(16,17),(17,18),(18,19)] (fun r h' n' hrr => ?_)) (by simp [ales,ale,pvle,I.val])
 obtain ⟨⟨x3,e1,hx3⟩,e2,e3⟩ := hrr
 subst e1 e2 e3
 conv => cbv
 obtain rfl : c = x3 := (ix0 hx3 hc0).symm
 have hq1' : q1 c false = x :: [] := hq1
 refine cfr (listPop0_lx R3 ws3 C [] N W 0 0 0 L3 D3 Q z false hh3 (relink K1 q1) hc3 q1 hY3 o ho rfl (hch9 hY3) (hsu7 hY3) c x 0 0 0 0 b _ _ _ _ g 0 n1 5 0 (-1) [] hq1' hMc3 hMx3) [(0,2),(1,3),(2,4),(3,5),(4,6),(5,7),(6,8),(7,0)] (fun r h' n' hrr => ?_)
 obtain ⟨ws4,D4,e1,e2,e3,hh4,hc4⟩ := hrr
 subst e1 e2 e3
 conv => cbv
 obtain ⟨n2,hMx4⟩ := relink_su (q := updQ q1 c false []) hMx3
 have hMg4 := relink_other (q := updQ q1 c false []) hMg3 ⟨by decide,by decide⟩
 have hmor4 := morRel (q := updQ q1 c false []) hmor
 have hY4 := sysPop hY3 hq1'
 refine CallF.le (args0 := [.ptr 2 (.lit 0),i6 x,i6 8]) (cfr (wake_lx R3 ws4 C [] N W 0 0 0 L3 D4 Q z false hh4 _ hc4 _ hY4 o ho rfl x 8 (by decide) g c 0 n2 5 0 (-1) 0 1 0 0 0 0 0 0 0 _ [x] hMx4 hMg4 hmor4 (by simp)) [(0,2),(1,3),(2,4),(3,5),(4,6),(5,7),(6,8),(7,0)] (fun r h' n' hrr => ?_)) (by simp [ales,ale,pvle,I.val])
 obtain ⟨e5,he5,ws5,D5,e1,e2,e3,hh5,hc5⟩ := hrr
 subst e1 e2 e3
 conv => cbv
 rw [relink_relink,pop_rm hq1' (by simp),relink_relink,hrm] at hc5
 have hgf : ([0,0,5] ++ setR 0 8 [0,0,0,0,0,0] ++ [-1] : List Int) = [0,0,5,8,0,0,0,0,0,-1] := rfl
 rw [hgf] at hc5
 obtain ⟨M5,hM5⟩ : ∃ M5,M5 = upd (relink K1 (fun _ _ => [])) g (4,[0,0,5,8,0,0,0,0,0,-1]) := ⟨_,rfl⟩
 rw [← hM5] at hc5
 have hM5g : M5 g = some (4,[0,0,5,8,0,0,0,0,0,-1]) := by rw [hM5]; exact upd_same _ _ _
 refine cfr (gorM_lx R3 ws5 C [] N W 0 0 0 L3 D5 Q z false hh5 M5 hc5 g 0 0 5 8 0 0 0 0 0 (-1) hM5g) [(0,2),(1,3),(2,4),(3,5),(4,6),(5,7),(6,8)] (fun r h' n' hrr => ?_)
 obtain ⟨⟨e6,e1,he6⟩,e2,e3⟩ := hrr
 subst e1 e2 e3
 conv => cbv
 refine Br.yes (show e5 = 0 from he5) ?_
 conv => cbv
 refine Br.yes (show e6 = 0 from he6) ?_
 conv => cbv
 refine CallF.le (args0 := [.ptr 17 (.lit 0),i6 0]) (cfr (gor14_lx R3 ws5 vs3 C N W 0 0 0 L3 D5 Q z false P3 B3 V3 Qr [] 0 M nc ng CS GS o 0 grs hgs hng (by omega) (by omega)) [(0,2),(1,3),(2,4),(3,5),(4,6),(5,7),(6,8),(7,9),(8,10),(9,11),(10,12),(11,13),(12,14),(13,15),(14,16),(15,0),(16,17),(17,18),(18,19)] (fun r h' n' hrr => ?_)) (by simp [ales,ale,pvle,I.val])
 obtain ⟨⟨x9,e1,hx9⟩,e2,e3⟩ := hrr
 subst e1 e2 e3
 conv => cbv
 obtain rfl : g = x9 := (ix0 hx9 hg0).symm
 refine Br.yes (show g = g from rfl) ?_
 conv => cbv
 refine Br.yes (show (5 : Int) = 5 from rfl) ?_
 conv => cbv
 refine Need.mk (show (0 : Int) ≤ 0 ∧ (0 : Int) < 6 by omega) ?_
 conv => cbv
 refine Br.yes (show (8 : Int) = 8 from rfl) ?_
 conv => cbv
 refine Br.yes (show (0 : Int) = 0 from rfl) ?_
 conv => cbv
 refine Br.yes (show (-1 : Int) = -1 from rfl) ?_
 conv => cbv
 refine RetF.mk [.p (.bool true)] [(0,.fix 0 o)] 1 (Re.at [(0,0)] []) rfl ⟨rfl,rfl,rfl⟩
end Go.Proofs.YtmckfhnijeiklaaGreatDoor
