/-
  Layer 12: awake.
-/
import Derived.Test.YtjfdfbpgckilpaaGreatDoorMd12
import Derived.Test.YtjfdfbpgckilpaaGreatDoorMs
import Derived.Test.YtjfdfbpgckilpaaGreatDoorBc
namespace Go.Proofs.YtjfdfbpgckilpaaGreatDoor
open Go Go.LX
set_option maxRecDepth 100000
set_option linter.unusedVariables false
set_option linter.unusedSimpArgs false
set_option maxHeartbeats 32000000
theorem capW_small {x : Int} (h : 0 ≤ x ∧ x < 4) : capW x = x := by
 unfold capW
 rw [show IntKind.u64.wrap x = x by simp [IntKind.wrap,IntKind.bits,IntKind.signed]; omega]
 omega
theorem chans1 {chs : List Int} {nc : Int} (hn : nc = (chs.length : Int)) (h1 : nc = 1) : ∃ c,chs = [c] := by
 match chs with
 | [c] => exact ⟨c,rfl⟩
 | [] => simp at hn; omega
 | _ :: _ :: _ => simp at hn; omega
theorem ch0 {chs : List Int} {nc x c : Int} (h : chs[(IntKind.u64.wrap 0 % nc).toNat]? = some x) (hc : chs[0]? = some c) : x = c := by
 rw [show IntKind.u64.wrap 0 = 0 by decide,Int.zero_emod] at h
 exact Option.some.inj (h.symm.trans hc)
theorem awake12_lx (o : Unit → Obj) (ho : IsPow o) : CallF (fun _ => Tryz.prog) 25 [] [(0,.fix 0 o)] 1 (fun r h n => r = .p (.bool true) ∧ h = [(0,.fix 0 o)] ∧ n = 1) := by
 refine callF_of_body tok Tryz.func25 (by kernel_rfl) rfl rfl rfl ?_; conv => cbv
 refine CallF.re (args0 := [.p (.vsl (.sym 1) true [.int .i64 (.sym 1)]),i6 1]) (h' := [(0,.fix 0 o)]) (Re.at [(0,0)] []) (cfr (made12_lx o ho [1] 1 1 [.int .i64 (.sym 1)] rfl rfl) [(0,0)] (fun r h' n' hrr => ?_))
 obtain ⟨N,W,C,R,ws,vs,L,D,Q,z,P,B,V,Qr,M,CS,GS,chs,bufs,grs,nc,ng,e1,e2,e3,S,hB,hY,hcs,hgs,hnc,hng,hnm,hn1,hn4,hngo,hcnt,hR,hW⟩ := hrr
 subst e1 e2 e3
 conv => cbv
 have hnc1 : nc = 1 := by omega
 obtain ⟨c,hcc⟩ := chans1 hnc hnc1
 have hc0 : chs[0]? = some c := by rw [hcc]; rfl
 obtain ⟨b,hb0,hBC⟩ := hB.ch 0 c 1 hc0 rfl
 have hMc := hBC.c
 rw [capW_small (by decide)] at hMc
 have hMb : M b = some (2,[0]) := by
  rcases hBC.b with q | ⟨_,_,q⟩
  ·rw [capW_small (by decide)] at q; omega
  ·rw [capW_small (by decide)] at q; exact q
 have hcb : c ≠ b := fun q => by rw [q,hMb] at hMc; cases hMc
 have hh := S.h
 have hc := S.c
 refine drawn_sound tok (by kernel_rfl) [(5,[3,2,1,0]),(6,[])] [0,1,2,3,4,5,6,7] (by kernel_rfl) ?_; conv => cbv
 refine CallF.le (args0 := [.ptr 17 (.lit 0),i6 0]) (cfr (ch12_lx R ws vs C N W 0 0 0 L D Q z false P B V Qr [] 0 M nc ng CS GS o 0 chs hcs hnc (by omega) (by omega)) [(0,2),(1,3),(2,4),(3,5),(4,6),(5,7),(6,8),(7,9),(8,10),(9,11),(10,12),(11,13),(12,14),(13,15),(14,16),(15,0),(16,17),(17,18),(18,19)] (fun r h' n' hrr => ?_)) (by simp [ales,ale,pvle,I.val])
 obtain ⟨⟨x1,e1,hx1⟩,e2,e3⟩ := hrr
 subst e1 e2 e3
 conv => cbv
 obtain rfl : c = x1 := (ch0 hx1 hc0).symm
 refine CallF.le (args0 := [.ptr 2 (.lit 0),i6 c,i6 7]) (cfr (ringPutM_lx R ws C [] N W 0 0 0 L D Q z false hh M hc o ho rfl c 7 1 0 0 0 b (-1) (-1) (-1) (-1) hMc (by decide) (by decide) (by decide)) [(0,2),(1,3),(2,4),(3,5),(4,6),(5,7),(6,8),(7,0)] (fun r h' n' hrr => ?_)) (by simp [ales,ale,pvle,I.val])
 obtain ⟨e,ws1,D1,e1,e2,e3,hh1,hr1⟩ := hrr
 subst e1 e2 e3
 conv => cbv
 rcases hr1 with q | hr1
 ·exact absurd q.1 (by decide)
 rcases hr1 _ hMb rfl with q | ⟨_,_,he,hc1⟩
 ·exact absurd q.1 (by decide)
 generalize hM1 : upd (upd M b (2,List.set [0] (((0 : Int) % 1 + 0) % 1).toNat 7)) c (1,[1,0,0 + 1,0,b,-1,-1,-1,-1]) = M1 at hc1
 have hMc1 : M1 c = some (1,[1,0,1,0,b,-1,-1,-1,-1]) := by rw [← hM1]; exact upd_same _ _ _
 have hMb1 : M1 b = some (2,[7]) := by rw [← hM1,upd_ne hcb.symm]; exact upd_same _ _ _
 refine drawn_sound tok (by kernel_rfl) [(5,[3,2,1,0]),(6,[])] [0,1,2,3,4,5,6,7] (by kernel_rfl) ?_; conv => cbv
 refine CallF.le (args0 := [.ptr 17 (.lit 0),i6 0]) (cfr (ch12_lx R ws1 vs C N W 0 0 0 L D1 Q z false P B V Qr [] 0 M nc ng CS GS o 0 chs hcs hnc (by omega) (by omega)) [(0,2),(1,3),(2,4),(3,5),(4,6),(5,7),(6,8),(7,9),(8,10),(9,11),(10,12),(11,13),(12,14),(13,15),(14,16),(15,0),(16,17),(17,18),(18,19)] (fun r h' n' hrr => ?_)) (by simp [ales,ale,pvle,I.val])
 obtain ⟨⟨x2,e1,hx2⟩,e2,e3⟩ := hrr
 subst e1 e2 e3
 conv => cbv
 obtain rfl : c = x2 := (ch0 hx2 hc0).symm
 refine CallF.le (args0 := [.ptr 2 (.lit 0),i6 c,i6 8]) (cfr (ringPutM_lx R ws1 C [] N W 0 0 0 L D1 Q z false hh1 M1 hc1 o ho rfl c 8 1 0 1 0 b (-1) (-1) (-1) (-1) hMc1 (by decide) (by decide) (by decide)) [(0,2),(1,3),(2,4),(3,5),(4,6),(5,7),(6,8),(7,0)] (fun r h' n' hrr => ?_)) (by simp [ales,ale,pvle,I.val])
 obtain ⟨f,ws2,D2,e1,e2,e3,hh2,hr2⟩ := hrr
 subst e1 e2 e3
 conv => cbv
 obtain ⟨hf,hw2⟩ : f = 9 ∧ ws2 = ws1 := by
  rcases hr2 with q | hr2
  ·exact absurd q.1 (by decide)
  rcases hr2 _ hMb1 rfl with q | q
  ·exact ⟨q.2.1,q.2.2⟩
  ·exact absurd q.2.1 (by decide)
 have hc2 : Cont R ws2 M1 := by rw [hw2]; exact hc1
 refine drawn_sound tok (by kernel_rfl) [(5,[3,2,1,0]),(6,[])] [0,1,2,3,4,5,6,7,8,9,10,11] (by kernel_rfl) ?_; conv => cbv
 refine CallF.le (args0 := [.ptr 17 (.lit 0),i6 0]) (cfr (ch12_lx R ws2 vs C N W 0 0 0 L D2 Q z false P B V Qr [] 0 M nc ng CS GS o 0 chs hcs hnc (by omega) (by omega)) [(0,2),(1,3),(2,4),(3,5),(4,6),(5,7),(6,8),(7,9),(8,10),(9,11),(10,12),(11,13),(12,14),(13,15),(14,16),(15,0),(16,17),(17,18),(18,19)] (fun r h' n' hrr => ?_)) (by simp [ales,ale,pvle,I.val])
 obtain ⟨⟨x3,e1,hx3⟩,e2,e3⟩ := hrr
 subst e1 e2 e3
 conv => cbv
 obtain rfl : c = x3 := (ch0 hx3 hc0).symm
 refine CallF.le (args0 := [.ptr 2 (.lit 0),i6 c]) (cfr (ringTakeM_lx R ws2 C [] N W 0 0 0 L D2 Q z false hh2 M1 hc2 o ho rfl c 1 0 1 0 b (-1) (-1) (-1) (-1) hMc1 (by decide)) [(0,2),(1,3),(2,4),(3,5),(4,6),(5,7),(6,8),(7,0)] (fun r h' n' hrr => ?_)) (by simp [ales,ale,pvle,I.val])
 obtain ⟨v,g,ws3,D3,e1,e2,e3,hh3,hr3⟩ := hrr
 subst e1 e2 e3
 conv => cbv
 obtain ⟨hg,hv⟩ : g = 0 ∧ v = 7 := by
  rcases hr3 with q | hr3
  ·exact absurd q.1 (by decide)
  obtain ⟨_,_,q1,q2,_⟩ := hr3 _ hMb1 rfl (by decide)
  exact ⟨q1,(Option.some.inj q2).symm⟩
 refine Br.yes (show e = 0 from he) ?_
 conv => cbv
 refine Br.yes (show f = 9 from hf) ?_
 conv => cbv
 refine Br.yes (show g = 0 from hg) ?_
 conv => cbv
 refine Br.yes (show v = 7 from hv) ?_
 conv => cbv
 refine RetF.mk [.p (.bool true)] [(0,.fix 0 o)] 1 (Re.at [(0,0)] []) rfl ⟨rfl,rfl,rfl⟩
end Go.Proofs.YtjfdfbpgckilpaaGreatDoor
