/-
  Layer 17: ShutNone.
-/
import Derived.Test.YtjgbhpclmlcbbaaGreatDoorBi
namespace Go.Proofs.YtjgbhpclmlcbbaaGreatDoor
open Go Go.LX
set_option maxRecDepth 100000
set_option linter.unusedVariables false
set_option linter.unusedSimpArgs false
set_option maxHeartbeats 32000000
theorem shutNone_law (o : Unit → Obj) (ho : IsPow o) (w : Int) (hw : (-9223372036854775808 ≤ w ∧ w ≤ 9223372036854775807)) : CallF (fun _ => Tryz.prog) 10 [i6 w] [(0,.fix 0 o)] 1 (fun r _ _ => r = .p (.bool true)) := by
 refine callF_of_body tok Tryz.func10 (by kernel_rfl) rfl rfl rfl ?_; conv => cbv
 refine CallF.re (args0 := [.p (.vsl (.sym 1) true [.int .i64 (.sym 0)]),i6 1]) (h' := [(0,.fix 0 o)]) (Re.at [(0,0)] []) (cfr (made17_lx o ho [0] 1 1 [.int .i64 (.sym 0)] rfl rfl) [(0,0)] (fun r h' n' hrr => ?_))
 obtain ⟨N,W,C,R,ws,vs,L,D,Q,z,P,B,V,Qr,M,CS,GS,chs,bufs,grs,nc,ng,e1,e2,e3,S,hB,hY,hcs,hgs,hnc,hng,hnm,hn1,hn4,hngo,hcnt,hR,hW⟩ := hrr
 subst e1 e2 e3
 conv => cbv
 refine cfr (awake17_lx o ho) [(0,0)] (fun r h' n' ⟨e1,e2,e3⟩ => ?_)
 subst e1 e2 e3
 conv => cbv
 have hnc1 : nc = 1 := by omega
 obtain ⟨c,hcc⟩ := chA1 hnc hnc1
 have hc0 : chs[0]? = some c := by rw [hcc]; rfl
 obtain ⟨b,hb0,hBC⟩ := hB.ch 0 c 0 hc0 rfl
 have hMc := hBC.c
 rw [capS (by decide)] at hMc
 have hcl := S.c.len S.h.a hMc
 have hcw : atW (2 * c + 1) = c := atW_ptr c
 have hngb := ngor_bd 1
 obtain ⟨g,hg0⟩ : ∃ g,grs[0]? = some g := ⟨_,List.getElem?_eq_getElem (by omega)⟩
 have hMg := hB.gr 0 g hg0
 have hgl := S.c.len S.h.a hMg
 have hgw : atW (2 * g + 1) = g := atW_ptr g
 have hgn : ∀ F,M g ≠ some (1,F) := fun F q => by rw [hMg] at q; cases q
 have hMb : ∀ F,M (-1) ≠ some (1,F) := fun F e => by rw [neg_none S.h.a S.c] at e; cases e
 have hh := S.h
 have hc := S.c
 refine drawn_sound tok (by kernel_rfl) [(5,[3,2,1,0]),(8,[])] [0,1,2,3,4,5,6,7,8,9,10,11,12,13] (by kernel_rfl) ?_; conv => cbv
 refine CallF.le (args0 := [.ptr 17 (.lit 0),i6 0]) (cfr (gor17_lx R ws vs C N W 0 0 0 L D Q z false P B V Qr [] 0 M nc ng CS GS o 0 grs hgs hng (by omega) (by omega)) [(0,2),(1,3),(2,4),(3,5),(4,6),(5,7),(6,8),(7,9),(8,10),(9,11),(10,12),(11,13),(12,14),(13,15),(14,16),(15,0),(16,17),(17,18),(18,19)] (fun r h' n' hrr => ?_)) (by simp [ales,ale,pvle,I.val])
 obtain ⟨⟨x1,e1,hx1⟩,e2,e3⟩ := hrr
 subst e1 e2 e3
 conv => cbv
 obtain rfl : g = x1 := (ix0 hx1 hg0).symm
 refine Fit.mk (by show (-9223372036854775808 : Int) ≤ 2 * g; omega) (by show 2 * g ≤ 9223372036854775807; omega) fun a1 ha1 => ?_
 have ha1 : a1 = 2 * g := ha1
 conv => cbv
 refine Fit.mk (by show (-9223372036854775808 : Int) ≤ a1 + 1; omega) (by show a1 + 1 ≤ 9223372036854775807; omega) fun w1 hw1 => ?_
 have hw1 : w1 = a1 + 1 := hw1
 conv => cbv
 refine CallF.le (args0 := [.ptr 2 (.lit 0),i6 w1]) (cfr (shutStray_lx R ws C [] N W 0 0 0 L D Q z false hh M hc o w1 (by omega) (by omega) (by rw [show w1 = 2 * g + 1 by omega,hgw]; exact hgn)) [(0,2),(1,3),(2,4),(3,5),(4,6),(5,7),(6,8),(7,0)] (fun r h' n' hrr => ?_)) (by simp [ales,ale,pvle,I.val])
 obtain ⟨e1,e2,e3⟩ := hrr
 subst e1 e2 e3
 conv => cbv
 refine CallF.le (args0 := [.ptr 2 (.lit 0),i6 2]) (cfr (shutStray_lx R ws C [] N W 0 0 0 L D Q z false hh M hc o 2 (by decide) (by decide) (by rw [atW_even (by decide)]; exact hMb)) [(0,2),(1,3),(2,4),(3,5),(4,6),(5,7),(6,8),(7,0)] (fun r h' n' hrr => ?_)) (by simp [ales,ale,pvle,I.val])
 obtain ⟨e1,e2,e3⟩ := hrr
 subst e1 e2 e3
 conv => cbv
 refine callF_frame (shutNil_lx (.sym w)) [] rfl trivial rfl rfl (fun r h' n' ⟨e1,e2,e3⟩ => ?_)
 subst e1 e2 e3
 conv => cbv
 refine drawn_sound tok (by kernel_rfl) [(21,[19,18,17,16]),(22,[])] [0,1,2,3,4,5,6,7,8,9,10,11,12,13,14,15,16,17,18,19,20,21,22,23,24,25] (by kernel_rfl) ?_; conv => cbv
 refine Br.yes (show (6 : Int) = 6 from rfl) ?_
 conv => cbv
 refine Br.yes (show (6 : Int) = 6 from rfl) ?_
 conv => cbv
 refine Br.yes (show (6 : Int) = 6 from rfl) ?_
 conv => cbv
 refine CallF.le (args0 := [.ptr 17 (.lit 0),i6 0]) (cfr (gor17_lx R ws vs C N W 0 0 0 L D Q z false P B V Qr [] 0 M nc ng CS GS o 0 grs hgs hng (by omega) (by omega)) [(0,2),(1,3),(2,4),(3,5),(4,6),(5,7),(6,8),(7,9),(8,10),(9,11),(10,12),(11,13),(12,14),(13,15),(14,16),(15,0),(16,17),(17,18),(18,19)] (fun r h' n' hrr => ?_)) (by simp [ales,ale,pvle,I.val])
 obtain ⟨⟨x2,e1,hx2⟩,e2,e3⟩ := hrr
 subst e1 e2 e3
 conv => cbv
 obtain rfl : g = x2 := (ix0 hx2 hg0).symm
 refine CallF.le (args0 := [.ptr 2 (.lit 0),i6 g,.p (.vsl (.sym 0) true [])]) (cfr (park_lx R ws C [] N W 0 0 0 L D Q z false hh M hc (fun _ _ => []) hY o ho rfl g 0 0 0 0 0 0 0 0 0 (-1) [] 0 [] rfl rfl (by decide) hMg (fun x hx => by cases hx)) [(0,2),(1,3),(2,4),(3,5),(4,6),(5,7),(6,8),(7,0)] (fun r h' n' hrr => ?_)) (by simp [ales,ale,pvle,I.val])
 obtain ⟨e9,he9,ws1,D1,e1,e2,e3,hh1,hc1⟩ := hrr
 subst e1 e2 e3
 conv => cbv
 refine Br.yes (show e9 = 0 from he9) ?_
 conv => cbv
 refine RetF.mk [.p (.bool true)] [(0,.fix 0 o)] 1 (Re.at [(0,0)] []) rfl rfl
end Go.Proofs.YtjgbhpclmlcbbaaGreatDoor
