/-
  Layer 22: LiveTells.
-/
import Derived.Test.YtjfdfbpgckilpaaGreatDoorBi
import Derived.Test.YtjfdfbpgckilpaaGreatDoorBf
import Derived.Test.YtjfdfbpgckilpaaGreatDoorBh
import Derived.Test.YtjfdfbpgckilpaaGreatDoorBg
namespace Go.Proofs.YtjfdfbpgckilpaaGreatDoor
open Go Go.LX
set_option maxRecDepth 100000
set_option linter.unusedVariables false
set_option linter.unusedSimpArgs false
set_option maxHeartbeats 32000000
theorem Sim.backL {R : List Rw} {ws vs : List Int} (hS : Sim R ws vs) {a k l : Int} (h : Kept R vs a k l) : Kept R ws a k l := by
 obtain ⟨k2,l2,hk⟩ := Kept.of hS.a h.obj6
 have := (hS.hdr _ _ _ hk).det9 h
 rw [this.1,this.2] at hk
 exact hk
theorem Sim.ldL {R : List Rw} {ws vs : List Int} (h : Sim R ws vs) {a i x : Int} (hl : Loaded R ws a i x 0) : Loaded R vs a i x 0 := by
 cases hl with
 | ok k l _ hK hi hx => exact .ok k l x (h.hdr a k l hK) hi (by rw [h.in_ a k l i hK hi.1 hi.2]; exact hx)
theorem Sim.ldbL {R : List Rw} {ws vs : List Int} (h : Sim R ws vs) {a i x : Int} (hl : Loaded R vs a i x 0) : Loaded R ws a i x 0 := by
 cases hl with
 | ok k l _ hK hi hx =>
  have hK2 := h.backL hK
  exact .ok k l x hK2 hi (by rw [← h.in_ a k l i hK2 hi.1 hi.2]; exact hx)
theorem Sim.rchL {R : List Rw} {ws vs A : List Int} (h : Sim R ws vs) (x : Int) : Rch R vs A x ↔ Rch R ws A x := by
 constructor
 ·intro hr
  induction hr with
  | root a ha ho => exact .root a ha ho
  | next a b _ hl ih => obtain ⟨i,y,h1,h2⟩ := hl; exact .next a b ih ⟨i,y,h.ldbL h1,h2⟩
 ·intro hr
  induction hr with
  | root a ha ho => exact .root a ha ho
  | next a b _ hl ih => obtain ⟨i,y,h1,h2⟩ := hl; exact .next a b ih ⟨i,y,h.ldL h1,h2⟩
theorem Sim.brkL {R : List Rw} {ws vs : List Int} (h : Sim R ws vs) (x : Int) : Brk R vs x ↔ Brk R ws x :=
 ⟨fun ⟨i,w,h1,h2⟩ => ⟨i,w,h.ldbL h1,h2⟩,fun ⟨i,w,h1,h2⟩ => ⟨i,w,h.ldL h1,h2⟩⟩
theorem liveTells_law (o : Unit → Obj) (ho : IsPow o) (k1 : Int) (ops : List (Int × Int × Int × Int × Int × Int)) (L1 : List PV) (hk1 : k1 = ops.length) (hL1 : L1 = sixes ops) (hkb : k1 ≤ 9223372036854775807) (hob : ∀ o ∈ ops,(-9223372036854775808 ≤ o.1 ∧ o.1 ≤ 9223372036854775807) ∧ (-9223372036854775808 ≤ o.2.1 ∧ o.2.1 ≤ 9223372036854775807) ∧ (-9223372036854775808 ≤ o.2.2.1 ∧ o.2.2.1 ≤ 9223372036854775807) ∧ (-9223372036854775808 ≤ o.2.2.2.1 ∧ o.2.2.2.1 ≤ 9223372036854775807) ∧ (-9223372036854775808 ≤ o.2.2.2.2.1 ∧ o.2.2.2.2.1 ≤ 9223372036854775807) ∧ (-9223372036854775808 ≤ o.2.2.2.2.2 ∧ o.2.2.2.2.2 ≤ 9223372036854775807)) (k2 : Int) (rts : List Int) (L2 : List PV) (hk2 : k2 = rts.length) (hL2 : L2 = ipv rts) (hkb2 : k2 ≤ 9223372036854775807) :
  CallF (fun _ => Tryz.prog) 6 [.p (.vsl (.sym k1) true L1),.p (.vsl (.sym k2) true L2)] [(0,.fix 0 o)] 1 (fun r _ _ => r = .p (.bool true)) := by
 refine callF_of_body tok Tryz.func6 (by kernel_rfl) rfl rfl rfl ?_; conv => cbv
 refine cfr (built_lx o ho k1 ops L1 hk1 hL1 hkb hob (fun _ _ _ => True) trivial (fun _ _ _ _ _ _ _ _ _ _ _ => trivial)) [(0,0)] (fun r h' n' hrr => ?_)
 obtain ⟨N,W,m,R,ws,vs,C,G,L,D,Q,z,ov,P,B,V,Qr,la,e1,e2,e3,hN,hW,h,hr,hS,_⟩ := hrr
 subst e1 e2 e3
 conv => cbv
 refine cfr (awake22_lx o ho) [(0,0)] (fun r h' n' ⟨e1,e2,e3⟩ => ?_)
 subst e1 e2 e3
 conv => cbv
 refine Br.mk (fun g => ?_) (fun g => ?_)
 ·conv => cbv
  refine cfr (awake22_lx o ho) [(0,0)] (fun r h' n' ⟨e1,e2,e3⟩ => ?_)
  subst e1 e2 e3
  conv => cbv
  refine RetF.mk [.p (.bool true)] [(0,.fix 0 o)] 1 (Re.at [(0,0)] []) rfl rfl
 have g : ¬ 50 < k2 := g
 have hl : rts.length ≤ 100000 := by omega
 have hvw := loaded_bd hr.a
 conv => cbv
 refine cfr (reach_lx R ws C G N W 0 0 0 L D Q z ov h rts k2 L2 hk2 hL2 hl) [(0,1),(1,2),(2,3),(3,4),(4,5),(5,6),(6,7)] (fun r h' n' hrr => ?_)
 obtain ⟨X1,j1,O1,e1,e2,e3,hO1,hj1,hXa1,hXm1⟩ := hrr
 subst e1 e2 e3
 conv => cbv
 refine cfr (rreach_lx R vs C G N W 0 0 0 P B V Qr la m ov hr rts k2 L2 hk2 hL2 hl hvw) [(0,8),(1,9),(2,10),(3,11),(4,12),(5,13),(6,14),(7,15)] (fun r h' n' hrr => ?_)
 obtain ⟨Y1,i1,E1,e1,e2,e3,hE1,hi1,hYa1,hYm1⟩ := hrr
 subst e1 e2 e3
 have hXY1 : X1 = Y1 := asc_eq hXa1 hYa1 (fun x => by rw [hXm1,hYm1,hS.rchL])
 have hlen1 : (X1.length : Int) < 1000000 := by
  have := rising_le hXa1 (fun x hx => obj_bd h.a (((hXm1 x).1 hx).obj))
  have hNR := h.n
  omega
 conv => cbv
 refine callF_frame (plaini64_lx X1 Y1 j1 i1 O1 E1 hj1 hi1 (by rw [hO1]; exact preI_ints X1) (by rw [hE1]; exact preI_ints Y1) hlen1) [] rfl trivial rfl rfl (fun r h' n' hrr => ?_)
 obtain ⟨⟨b1,e1,hb1⟩,e2,e3⟩ := hrr
 subst e1 e2 e3
 obtain rfl : b1 = true := hb1.2 hXY1
 conv => cbv
 refine cfr (lost_lx R ws C G N W 0 0 0 L D Q z ov h rts k2 L2 hk2 hL2 hl) [(0,1),(1,2),(2,3),(3,4),(4,5),(5,6),(6,7)] (fun r h' n' hrr => ?_)
 obtain ⟨X2,j2,O2,e1,e2,e3,hO2,hj2,hXa2,hXm2⟩ := hrr
 subst e1 e2 e3
 conv => cbv
 refine cfr (rlost_lx R vs C G N W 0 0 0 P B V Qr la m ov hr rts k2 L2 hk2 hL2 hl) [(0,8),(1,9),(2,10),(3,11),(4,12),(5,13),(6,14),(7,15)] (fun r h' n' hrr => ?_)
 obtain ⟨Y2,i2,E2,e1,e2,e3,hE2,hi2,hYa2,hYm2⟩ := hrr
 subst e1 e2 e3
 have hXY2 : X2 = Y2 := asc_eq hXa2 hYa2 (fun x => by rw [hXm2,hYm2,hS.rchL])
 have hlen2 : (X2.length : Int) < 1000000 := by
  have := rising_le hXa2 (fun x hx => obj_bd h.a (((hXm2 x).1 hx).1))
  have hNR := h.n
  omega
 conv => cbv
 refine callF_frame (plaini64_lx X2 Y2 j2 i2 O2 E2 hj2 hi2 (by rw [hO2]; exact preI_ints X2) (by rw [hE2]; exact preI_ints Y2) hlen2) [] rfl trivial rfl rfl (fun r h' n' hrr => ?_)
 obtain ⟨⟨b2,e1,hb2⟩,e2,e3⟩ := hrr
 subst e1 e2 e3
 obtain rfl : b2 = true := hb2.2 hXY2
 conv => cbv
 refine cfr (broken_lx R ws C G N W 0 0 0 L D Q z ov h rts k2 L2 hk2 hL2 hl) [(0,1),(1,2),(2,3),(3,4),(4,5),(5,6),(6,7)] (fun r h' n' hrr => ?_)
 obtain ⟨X3,j3,O3,e1,e2,e3,hO3,hj3,hXa3,hXm3⟩ := hrr
 subst e1 e2 e3
 conv => cbv
 refine cfr (rbroken_lx R vs C G N W 0 0 0 P B V Qr la m ov hr rts k2 L2 hk2 hL2 hl) [(0,8),(1,9),(2,10),(3,11),(4,12),(5,13),(6,14),(7,15)] (fun r h' n' hrr => ?_)
 obtain ⟨Y3,i3,E3,e1,e2,e3,hE3,hi3,hYa3,hYm3⟩ := hrr
 subst e1 e2 e3
 have hXY3 : X3 = Y3 := asc_eq hXa3 hYa3 (fun x => by rw [hXm3,hYm3,hS.rchL,hS.brkL])
 have hlen3 : (X3.length : Int) < 1000000 := by
  have := rising_le hXa3 (fun x hx => obj_bd h.a (((hXm3 x).1 hx).1.obj))
  have hNR := h.n
  omega
 conv => cbv
 refine callF_frame (plaini64_lx X3 Y3 j3 i3 O3 E3 hj3 hi3 (by rw [hO3]; exact preI_ints X3) (by rw [hE3]; exact preI_ints Y3) hlen3) [] rfl trivial rfl rfl (fun r h' n' hrr => ?_)
 obtain ⟨⟨b3,e1,hb3⟩,e2,e3⟩ := hrr
 subst e1 e2 e3
 obtain rfl : b3 = true := hb3.2 hXY3
 conv => cbv
 refine RetF.mk [.p (.bool true)] [(0,.fix 0 o)] 1 (Re.at [(0,0)] []) rfl rfl
end Go.Proofs.YtjfdfbpgckilpaaGreatDoor
