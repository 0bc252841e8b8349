/-
  The ground of the proof, part 8: the calculus and what is proved with it.
-/
import Derived.Test.YtkhfgngcoiablaaGreatDoorBg
import Derived.Test.YtkhfgngcoiablaaGreatDoorBd
import Derived.Test.YtkhfgngcoiablaaGreatDoorBf
import Derived.Test.YtkhfgngcoiablaaGreatDoorBc
namespace Go.Proofs.YtkhfgngcoiablaaGreatDoor
open Go Go.LX
set_option maxRecDepth 100000
set_option linter.unusedVariables false
set_option linter.unusedSimpArgs false
set_option maxHeartbeats 32000000
theorem sendRStray_lx (R : List Rw) (ws C G : List Int) (N W ph sp cy : Int) (L D Q : List PV) (z : ByteArray) (ov : Bool) (h : HM R ws C G N W L D Q z) (M : Hp) (hM : Cont R ws M) (o : Unit → Obj) (w : Int) (hw : (-9223372036854775808 ≤ w ∧ w ≤ 9223372036854775807)) (h0 : w ≠ 0) (hno : ∀ F,M (atW w) ≠ some (1,F)) : CallF (fun _ => Tryz.prog) 152 [.ptr 0 (.lit 0),i6 w] [hpA 0 1 5 6 3 W ph sp cy,hpB 1 2 4 3 W,hpC 2 3 233 2 N,hpP 3 L,hpP 4 D,hpF 5 z ov,hpP 6 Q,(7,.fix 0 o)] 8 (fun r h n => r = .p (.bool true) ∧ h = [hpA 0 1 5 6 3 W ph sp cy,hpB 1 2 4 3 W,hpC 2 3 233 2 N,hpP 3 L,hpP 4 D,hpF 5 z ov,hpP 6 Q,(7,.fix 0 o)] ∧ n = 8) := by
 refine callF_of_body tok Tryz.func152 (by kernel_rfl) rfl rfl rfl ?_; conv => cbv
 refine cfr (see_stray_lx R ws C G N W ph sp cy L D Q z ov h M hM w hw h0 hno) [(0,0),(1,1),(2,2),(3,3),(4,4),(5,5),(6,6)] (fun r h' n' ⟨e1,e2,e3⟩ => ?_)
 subst e1 e2 e3
 conv => cbv
 refine RetF.mk [.p (.bool true)] [hpA 0 1 5 6 3 W ph sp cy,hpB 1 2 4 3 W,hpC 2 3 233 2 N,hpP 3 L,hpP 4 D,hpF 5 z ov,hpP 6 Q,(7,.fix 0 o)] 8 (Re.at [(0,0),(1,1),(2,2),(3,3),(4,4),(5,5),(6,6),(7,7)] []) rfl ⟨rfl,rfl,rfl⟩
theorem takeRStray_lx (R : List Rw) (ws C G : List Int) (N W ph sp cy : Int) (L D Q : List PV) (z : ByteArray) (ov : Bool) (h : HM R ws C G N W L D Q z) (M : Hp) (hM : Cont R ws M) (o : Unit → Obj) (w : Int) (hw : (-9223372036854775808 ≤ w ∧ w ≤ 9223372036854775807)) (h0 : w ≠ 0) (hno : ∀ F,M (atW w) ≠ some (1,F)) : CallF (fun _ => Tryz.prog) 75 [.ptr 0 (.lit 0),i6 w] [hpA 0 1 5 6 3 W ph sp cy,hpB 1 2 4 3 W,hpC 2 3 233 2 N,hpP 3 L,hpP 4 D,hpF 5 z ov,hpP 6 Q,(7,.fix 0 o)] 8 (fun r h n => r = .p (.bool true) ∧ h = [hpA 0 1 5 6 3 W ph sp cy,hpB 1 2 4 3 W,hpC 2 3 233 2 N,hpP 3 L,hpP 4 D,hpF 5 z ov,hpP 6 Q,(7,.fix 0 o)] ∧ n = 8) := by
 refine callF_of_body tok Tryz.func75 (by kernel_rfl) rfl rfl rfl ?_; conv => cbv
 refine cfr (see_stray_lx R ws C G N W ph sp cy L D Q z ov h M hM w hw h0 hno) [(0,0),(1,1),(2,2),(3,3),(4,4),(5,5),(6,6)] (fun r h' n' ⟨e1,e2,e3⟩ => ?_)
 subst e1 e2 e3
 conv => cbv
 refine RetF.mk [.p (.bool true)] [hpA 0 1 5 6 3 W ph sp cy,hpB 1 2 4 3 W,hpC 2 3 233 2 N,hpP 3 L,hpP 4 D,hpF 5 z ov,hpP 6 Q,(7,.fix 0 o)] 8 (Re.at [(0,0),(1,1),(2,2),(3,3),(4,4),(5,5),(6,6),(7,7)] []) rfl ⟨rfl,rfl,rfl⟩
theorem hasRoom_lx (R : List Rw) (ws C G : List Int) (N W ph sp cy : Int) (L D Q : List PV) (z : ByteArray) (ov : Bool) (h : HM R ws C G N W L D Q z) (y0 y1 y2 y3 y4 y5 y6 y7 y8 : Int) : CallF (fun _ => Tryz.prog) 179 [.ptr 0 (.lit 0),.agg [i6 y0,i6 y1,i6 y2,i6 y3,i6 y4,i6 y5,i6 y6,i6 y7,i6 y8]] [hpA 0 1 5 6 3 W ph sp cy,hpB 1 2 4 3 W,hpC 2 3 233 2 N,hpP 3 L,hpP 4 D,hpF 5 z ov,hpP 6 Q] 7 (fun r h n => (∃ b : Bool,r = .p (.bool b) ∧ (b = true ↔ (max y2 0 < y0 ∧ Kept R ws y4 2 y0))) ∧ h = [hpA 0 1 5 6 3 W ph sp cy,hpB 1 2 4 3 W,hpC 2 3 233 2 N,hpP 3 L,hpP 4 D,hpF 5 z ov,hpP 6 Q] ∧ n = 7) := by
 refine callF_of_body tok Tryz.func179 (by kernel_rfl) rfl rfl rfl ?_; conv => cbv
 refine cfr (arena_lx R ws C G N W ph sp cy L D Q z ov) [(0,0),(1,1),(2,2),(3,3),(4,4),(5,5),(6,6)] (fun r h' n' ⟨e1,e2,e3⟩ => ?_)
 subst e1 e2 e3
 conv => cbv
 refine drawn_sound tok (by kernel_rfl) [(10,[]),(17,[19,18])] [0,1,2,3,4,5,6,7,8,9,10,11,12,13,14,15,16,18,19,17,20,21,22] (by kernel_rfl) ?_; conv => cbv
 refine Br.mk (fun gm => ?_) (fun gm => ?_)
 ·have gm : y2 < 0 := gm
  have hmx : max y2 0 = 0 := by omega
  conv => cbv
  refine Br.mk (fun g0 => ?_) (fun g0 => ?_)
  ·have g0 : max y2 0 < y0 := by rw [hmx]; exact g0
   conv => cbv
   refine cfr (kind_lx R ws N y4 W L D h.l h.d h.n h.r h.a h.w) [(0,1),(1,2),(2,3),(3,4)] (fun r h' n' hrr => ?_)
   obtain ⟨v,e1,e2,e3,hv⟩ := hrr
   subst e1 e2 e3
   conv => cbv
   refine Br.mk (fun g1 => ?_) (fun g1 => ?_)
   ·have g1 : v = 2 := g1
    conv => cbv
    refine cfr (len_lx R ws N y4 W L D h.l h.d h.n h.r h.a h.w) [(0,1),(1,2),(2,3),(3,4)] (fun r h' n' hrr => ?_)
    obtain ⟨l,e1,e2,e3,hl⟩ := hrr
    subst e1 e2 e3
    conv => cbv
    refine Br.mk (fun g2 => ?_) (fun g2 => ?_)
    ·have g2 : l = y0 := g2
     have hK : Kept R ws y4 2 y0 := by
      cases hv with
      | no hn => exact absurd g1 (by decide)
      | is k l2 hK2 =>
       have := lenR_of6 hK2 hl
       rw [← g1,← g2,this]
       exact hK2
     conv => cbv
     refine RetF.mk [.p (.bool true)] [hpA 0 1 5 6 3 W ph sp cy,hpB 1 2 4 3 W,hpC 2 3 233 2 N,hpP 3 L,hpP 4 D,hpF 5 z ov,hpP 6 Q] 7 (Re.at [(0,0),(1,1),(2,2),(3,3),(4,4),(5,5),(6,6)] []) rfl ⟨⟨true,rfl,⟨fun _ => ⟨g0,hK⟩,fun _ => rfl⟩⟩,rfl,rfl⟩
    ·have g2 : ¬ l = y0 := g2
     conv => cbv
     refine RetF.mk [.p (.bool false)] [hpA 0 1 5 6 3 W ph sp cy,hpB 1 2 4 3 W,hpC 2 3 233 2 N,hpP 3 L,hpP 4 D,hpF 5 z ov,hpP 6 Q] 7 (Re.at [(0,0),(1,1),(2,2),(3,3),(4,4),(5,5),(6,6)] []) rfl ⟨⟨false,rfl,⟨fun q => (by cases q),fun q => absurd (lenR_of6 q.2 hl) g2⟩⟩,rfl,rfl⟩
   ·have g1 : ¬ v = 2 := g1
    conv => cbv
    refine RetF.mk [.p (.bool false)] [hpA 0 1 5 6 3 W ph sp cy,hpB 1 2 4 3 W,hpC 2 3 233 2 N,hpP 3 L,hpP 4 D,hpF 5 z ov,hpP 6 Q] 7 (Re.at [(0,0),(1,1),(2,2),(3,3),(4,4),(5,5),(6,6)] []) rfl ⟨⟨false,rfl,⟨fun q => (by cases q),fun q => absurd (kindR_of6 q.2 hv) g1⟩⟩,rfl,rfl⟩
  ·have g0 : ¬ max y2 0 < y0 := by rw [hmx]; exact g0
   conv => cbv
   refine RetF.mk [.p (.bool false)] [hpA 0 1 5 6 3 W ph sp cy,hpB 1 2 4 3 W,hpC 2 3 233 2 N,hpP 3 L,hpP 4 D,hpF 5 z ov,hpP 6 Q] 7 (Re.at [(0,0),(1,1),(2,2),(3,3),(4,4),(5,5),(6,6)] []) rfl ⟨⟨false,rfl,⟨fun q => (by cases q),fun q => absurd q.1 g0⟩⟩,rfl,rfl⟩
 ·have gm : ¬ y2 < 0 := gm
  have hmx : max y2 0 = y2 := by omega
  conv => cbv
  refine Br.mk (fun g0 => ?_) (fun g0 => ?_)
  ·have g0 : max y2 0 < y0 := by rw [hmx]; exact g0
   conv => cbv
   refine cfr (kind_lx R ws N y4 W L D h.l h.d h.n h.r h.a h.w) [(0,1),(1,2),(2,3),(3,4)] (fun r h' n' hrr => ?_)
   obtain ⟨v,e1,e2,e3,hv⟩ := hrr
   subst e1 e2 e3
   conv => cbv
   refine Br.mk (fun g1 => ?_) (fun g1 => ?_)
   ·have g1 : v = 2 := g1
    conv => cbv
    refine cfr (len_lx R ws N y4 W L D h.l h.d h.n h.r h.a h.w) [(0,1),(1,2),(2,3),(3,4)] (fun r h' n' hrr => ?_)
    obtain ⟨l,e1,e2,e3,hl⟩ := hrr
    subst e1 e2 e3
    conv => cbv
    refine Br.mk (fun g2 => ?_) (fun g2 => ?_)
    ·have g2 : l = y0 := g2
     have hK : Kept R ws y4 2 y0 := by
      cases hv with
      | no hn => exact absurd g1 (by decide)
      | is k l2 hK2 =>
       have := lenR_of6 hK2 hl
       rw [← g1,← g2,this]
       exact hK2
     conv => cbv
     refine RetF.mk [.p (.bool true)] [hpA 0 1 5 6 3 W ph sp cy,hpB 1 2 4 3 W,hpC 2 3 233 2 N,hpP 3 L,hpP 4 D,hpF 5 z ov,hpP 6 Q] 7 (Re.at [(0,0),(1,1),(2,2),(3,3),(4,4),(5,5),(6,6)] []) rfl ⟨⟨true,rfl,⟨fun _ => ⟨g0,hK⟩,fun _ => rfl⟩⟩,rfl,rfl⟩
    ·have g2 : ¬ l = y0 := g2
     conv => cbv
     refine RetF.mk [.p (.bool false)] [hpA 0 1 5 6 3 W ph sp cy,hpB 1 2 4 3 W,hpC 2 3 233 2 N,hpP 3 L,hpP 4 D,hpF 5 z ov,hpP 6 Q] 7 (Re.at [(0,0),(1,1),(2,2),(3,3),(4,4),(5,5),(6,6)] []) rfl ⟨⟨false,rfl,⟨fun q => (by cases q),fun q => absurd (lenR_of6 q.2 hl) g2⟩⟩,rfl,rfl⟩
   ·have g1 : ¬ v = 2 := g1
    conv => cbv
    refine RetF.mk [.p (.bool false)] [hpA 0 1 5 6 3 W ph sp cy,hpB 1 2 4 3 W,hpC 2 3 233 2 N,hpP 3 L,hpP 4 D,hpF 5 z ov,hpP 6 Q] 7 (Re.at [(0,0),(1,1),(2,2),(3,3),(4,4),(5,5),(6,6)] []) rfl ⟨⟨false,rfl,⟨fun q => (by cases q),fun q => absurd (kindR_of6 q.2 hv) g1⟩⟩,rfl,rfl⟩
  ·have g0 : ¬ max y2 0 < y0 := by rw [hmx]; exact g0
   conv => cbv
   refine RetF.mk [.p (.bool false)] [hpA 0 1 5 6 3 W ph sp cy,hpB 1 2 4 3 W,hpC 2 3 233 2 N,hpP 3 L,hpP 4 D,hpF 5 z ov,hpP 6 Q] 7 (Re.at [(0,0),(1,1),(2,2),(3,3),(4,4),(5,5),(6,6)] []) rfl ⟨⟨false,rfl,⟨fun q => (by cases q),fun q => absurd q.1 g0⟩⟩,rfl,rfl⟩
theorem sendRRoom_lx (R : List Rw) (ws C G : List Int) (N W ph sp cy : Int) (L D Q : List PV) (z : ByteArray) (ov : Bool) (h : HM R ws C G N W L D Q z) (M : Hp) (hM : Cont R ws M) (q : Qs) (hY : Sys M q) (o : Unit → Obj) (w : Int) (hw : (-9223372036854775808 ≤ w ∧ w ≤ 9223372036854775807)) (h0 : w ≠ 0) (a y0 y1 y2 y3 y4 y5 y6 y7 y8 : Int) (ha : atW w = a) (hMa : M a = some (1,[y0,y1,y2,y3,y4,y5,y6,y7,y8])) (hcl : y1 = 0) (hq : q a false = []) (hcp : max y2 0 < y0) (X : List Int) (hMb : M y4 = some (2,X)) (hX : (X.length : Int) = y0) : CallF (fun _ => Tryz.prog) 152 [.ptr 0 (.lit 0),i6 w] [hpA 0 1 5 6 3 W ph sp cy,hpB 1 2 4 3 W,hpC 2 3 233 2 N,hpP 3 L,hpP 4 D,hpF 5 z ov,hpP 6 Q,(7,.fix 0 o)] 8 (fun r h n => r = .p (.bool true) ∧ h = [hpA 0 1 5 6 3 W ph sp cy,hpB 1 2 4 3 W,hpC 2 3 233 2 N,hpP 3 L,hpP 4 D,hpF 5 z ov,hpP 6 Q,(7,.fix 0 o)] ∧ n = 8) := by
 refine callF_of_body tok Tryz.func152 (by kernel_rfl) rfl rfl rfl ?_; conv => cbv
 refine cfr (see_is_lx R ws C G N W ph sp cy L D Q z ov h M hM w a y0 y1 y2 y3 y4 y5 y6 y7 y8 hw h0 ha hMa) [(0,0),(1,1),(2,2),(3,3),(4,4),(5,5),(6,6)] (fun r h' n' ⟨e1,e2,e3⟩ => ?_)
 subst e1 e2 e3
 conv => cbv
 refine callF_frame (closedF_lx a y0 y1 y2 y3 y4 y5 y6 y7 y8 hcl) [] rfl trivial rfl rfl (fun r h' n' ⟨e1,e2,e3⟩ => ?_)
 subst e1 e2 e3
 conv => cbv
 refine cfr (listAll_lx R ws C G N W ph sp cy L D Q z ov h M hM q hY a false (hch9 hY a) (hsu7 hY)) [(0,0),(1,1),(2,2),(3,3),(4,4),(5,5),(6,6)] (fun r h' n' hrr => ?_)
 obtain ⟨ml,cells,e1,e2,e3,hml,hcel⟩ := hrr
 subst e1 e2 e3
 conv => cbv
 refine Br.no (show ¬ (0 < ml) by rw [hml,hq]; decide) ?_
 conv => cbv
 refine cfr (hasRoom_lx R ws C G N W ph sp cy L D Q z ov h y0 y1 y2 y3 y4 y5 y6 y7 y8) [(0,0),(1,1),(2,2),(3,3),(4,4),(5,5),(6,6)] (fun r h' n' hrr => ?_)
 obtain ⟨⟨bb,e1,hb⟩,e2,e3⟩ := hrr
 subst e1 e2 e3
 obtain rfl : bb = true := hb.2 ⟨hcp,by rw [← hX]; exact hM.kept hMb⟩
 conv => cbv
 refine RetF.mk [.p (.bool true)] [hpA 0 1 5 6 3 W ph sp cy,hpB 1 2 4 3 W,hpC 2 3 233 2 N,hpP 3 L,hpP 4 D,hpF 5 z ov,hpP 6 Q,(7,.fix 0 o)] 8 (Re.at [(0,0),(1,1),(2,2),(3,3),(4,4),(5,5),(6,6),(7,7)] []) rfl ⟨rfl,rfl,rfl⟩
theorem takeRNone0_lx (R : List Rw) (ws C G : List Int) (N W ph sp cy : Int) (L D Q : List PV) (z : ByteArray) (ov : Bool) (h : HM R ws C G N W L D Q z) (M : Hp) (hM : Cont R ws M) (q : Qs) (hY : Sys M q) (o : Unit → Obj) (w : Int) (hw : (-9223372036854775808 ≤ w ∧ w ≤ 9223372036854775807)) (h0 : w ≠ 0) (a y0 y1 y2 y3 y4 y5 y6 y7 y8 : Int) (ha : atW w = a) (hMa : M a = some (1,[y0,y1,y2,y3,y4,y5,y6,y7,y8])) (hcl : y1 = 0) (hq : q a true = []) (hcp : y0 ≤ 0) : CallF (fun _ => Tryz.prog) 75 [.ptr 0 (.lit 0),i6 w] [hpA 0 1 5 6 3 W ph sp cy,hpB 1 2 4 3 W,hpC 2 3 233 2 N,hpP 3 L,hpP 4 D,hpF 5 z ov,hpP 6 Q,(7,.fix 0 o)] 8 (fun r h n => r = .p (.bool false) ∧ h = [hpA 0 1 5 6 3 W ph sp cy,hpB 1 2 4 3 W,hpC 2 3 233 2 N,hpP 3 L,hpP 4 D,hpF 5 z ov,hpP 6 Q,(7,.fix 0 o)] ∧ n = 8) := by
 refine callF_of_body tok Tryz.func75 (by kernel_rfl) rfl rfl rfl ?_; conv => cbv
 refine cfr (see_is_lx R ws C G N W ph sp cy L D Q z ov h M hM w a y0 y1 y2 y3 y4 y5 y6 y7 y8 hw h0 ha hMa) [(0,0),(1,1),(2,2),(3,3),(4,4),(5,5),(6,6)] (fun r h' n' ⟨e1,e2,e3⟩ => ?_)
 subst e1 e2 e3
 conv => cbv
 refine callF_frame (closedF_lx a y0 y1 y2 y3 y4 y5 y6 y7 y8 hcl) [] rfl trivial rfl rfl (fun r h' n' ⟨e1,e2,e3⟩ => ?_)
 subst e1 e2 e3
 conv => cbv
 refine cfr (ringAll0_lx R ws C G N W ph sp cy L D Q z ov h M hM a y0 y1 y2 y3 y4 y5 y6 y7 y8 hMa hcp) [(0,0),(1,1),(2,2),(3,3),(4,4),(5,5),(6,6)] (fun r h' n' hrr => ?_)
 obtain ⟨ml,e1,e2,e3,hml⟩ := hrr
 subst e1 e2 e3
 conv => cbv
 refine Br.no (show ¬ (0 < ml) by omega) ?_
 conv => cbv
 refine cfr (listAll_lx R ws C G N W ph sp cy L D Q z ov h M hM q hY a true (hch9 hY a) (hsu7 hY)) [(0,0),(1,1),(2,2),(3,3),(4,4),(5,5),(6,6)] (fun r h' n' hrr => ?_)
 obtain ⟨ml,cells,e1,e2,e3,hml,hcel⟩ := hrr
 subst e1 e2 e3
 conv => cbv
 refine Br.no (show ¬ (0 < ml) by rw [hml,hq]; decide) ?_
 conv => cbv
 refine RetF.mk [.p (.bool false)] [hpA 0 1 5 6 3 W ph sp cy,hpB 1 2 4 3 W,hpC 2 3 233 2 N,hpP 3 L,hpP 4 D,hpF 5 z ov,hpP 6 Q,(7,.fix 0 o)] 8 (Re.at [(0,0),(1,1),(2,2),(3,3),(4,4),(5,5),(6,6),(7,7)] []) rfl ⟨rfl,rfl,rfl⟩
theorem takeRNone_lx (R : List Rw) (ws C G : List Int) (N W ph sp cy : Int) (L D Q : List PV) (z : ByteArray) (ov : Bool) (h : HM R ws C G N W L D Q z) (M : Hp) (hM : Cont R ws M) (q : Qs) (hY : Sys M q) (o : Unit → Obj) (w : Int) (hw : (-9223372036854775808 ≤ w ∧ w ≤ 9223372036854775807)) (h0 : w ≠ 0) (a y0 y1 y2 y3 y4 y5 y6 y7 y8 : Int) (ha : atW w = a) (hMa : M a = some (1,[y0,y1,y2,y3,y4,y5,y6,y7,y8])) (hcl : y1 = 0) (hq : q a true = []) (hk : y2 ≤ 0) (hs : 0 ≤ y3) (X : List Int) (hMb : M y4 = some (2,X)) (hX : (X.length : Int) = y0) : CallF (fun _ => Tryz.prog) 75 [.ptr 0 (.lit 0),i6 w] [hpA 0 1 5 6 3 W ph sp cy,hpB 1 2 4 3 W,hpC 2 3 233 2 N,hpP 3 L,hpP 4 D,hpF 5 z ov,hpP 6 Q,(7,.fix 0 o)] 8 (fun r h n => r = .p (.bool false) ∧ h = [hpA 0 1 5 6 3 W ph sp cy,hpB 1 2 4 3 W,hpC 2 3 233 2 N,hpP 3 L,hpP 4 D,hpF 5 z ov,hpP 6 Q,(7,.fix 0 o)] ∧ n = 8) := by
 refine callF_of_body tok Tryz.func75 (by kernel_rfl) rfl rfl rfl ?_; conv => cbv
 refine cfr (see_is_lx R ws C G N W ph sp cy L D Q z ov h M hM w a y0 y1 y2 y3 y4 y5 y6 y7 y8 hw h0 ha hMa) [(0,0),(1,1),(2,2),(3,3),(4,4),(5,5),(6,6)] (fun r h' n' ⟨e1,e2,e3⟩ => ?_)
 subst e1 e2 e3
 conv => cbv
 refine callF_frame (closedF_lx a y0 y1 y2 y3 y4 y5 y6 y7 y8 hcl) [] rfl trivial rfl rfl (fun r h' n' ⟨e1,e2,e3⟩ => ?_)
 subst e1 e2 e3
 conv => cbv
 refine cfr (ringAllM_lx R ws C G N W ph sp cy L D Q z ov h M hM a y0 y1 y2 y3 y4 y5 y6 y7 y8 hMa hs) [(0,0),(1,1),(2,2),(3,3),(4,4),(5,5),(6,6)] (fun r h' n' hrr => ?_)
 obtain ⟨rl,ml,rcells,e1,e2,e3,hml,_,hal⟩ := hrr
 subst e1 e2 e3
 have hml0 : ml = 0 := by
  rcases hal with ⟨_,q2⟩ | hal
  ·rw [hml,q2]; rfl
  ·obtain ⟨_,q2,_⟩ := hal X hMb hX
   omega
 conv => cbv
 refine Br.no (show ¬ (0 < ml) by omega) ?_
 conv => cbv
 refine cfr (listAll_lx R ws C G N W ph sp cy L D Q z ov h M hM q hY a true (hch9 hY a) (hsu7 hY)) [(0,0),(1,1),(2,2),(3,3),(4,4),(5,5),(6,6)] (fun r h' n' hrr => ?_)
 obtain ⟨ml,cells,e1,e2,e3,hml,hcel⟩ := hrr
 subst e1 e2 e3
 conv => cbv
 refine Br.no (show ¬ (0 < ml) by rw [hml,hq]; decide) ?_
 conv => cbv
 refine RetF.mk [.p (.bool false)] [hpA 0 1 5 6 3 W ph sp cy,hpB 1 2 4 3 W,hpC 2 3 233 2 N,hpP 3 L,hpP 4 D,hpF 5 z ov,hpP 6 Q,(7,.fix 0 o)] 8 (Re.at [(0,0),(1,1),(2,2),(3,3),(4,4),(5,5),(6,6),(7,7)] []) rfl ⟨rfl,rfl,rfl⟩
def wordOf (regs : List Int) (c : Int) : Int := if 0 ≤ c ∧ c < 6 then (regs[c.toNat]?).getD 0 else 0
theorem word_lx (gi gs gp r0 r1 r2 r3 r4 r5 gu reg : Int) : CallF (fun _ => Tryz.prog) 110 [.agg [i6 gi,i6 gs,i6 gp,i6 r0,i6 r1,i6 r2,i6 r3,i6 r4,i6 r5,i6 gu],i6 reg] [] 0 (fun r h n => (∃ v : Int,r = .p (.int .i64 (.sym v)) ∧ v = wordOf [r0,r1,r2,r3,r4,r5] reg) ∧ h = [] ∧ n = 0) := by
 refine callF_of_body tok Tryz.func110 (by kernel_rfl) rfl rfl rfl ?_; conv => cbv
 refine Br.mk (fun g1 => ?_) (fun g1 => ?_)
 ·have g1 : reg < 0 := g1
  have hv : (0 : Int) = wordOf [r0,r1,r2,r3,r4,r5] reg := by unfold wordOf; rw [if_neg (by omega)]
  conv => cbv
  refine CallF.le (args0 := [i6 0]) (callF_frame (intV_lx 0 (by unfold b62; decide)) [] rfl trivial rfl rfl (fun r h' n' hrr => ?_)) (by simp [ales,ale,pvle,I.val])
  obtain ⟨⟨z0,e1,hz0⟩,e2,e3⟩ := hrr
  subst e1 e2 e3
  obtain rfl : (0 : Int) = z0 := by omega
  conv => cbv
  refine RetF.mk [i6 0] [] 0 (Re.at [] []) rfl ⟨⟨0,rfl,hv⟩,rfl,rfl⟩
 ·have g1 : ¬ reg < 0 := g1
  conv => cbv
  refine Br.mk (fun g2 => ?_) (fun g2 => ?_)
  ·have g2 : 6 ≤ reg := g2
   have hv : (0 : Int) = wordOf [r0,r1,r2,r3,r4,r5] reg := by unfold wordOf; rw [if_neg (by omega)]
   conv => cbv
   refine CallF.le (args0 := [i6 0]) (callF_frame (intV_lx 0 (by unfold b62; decide)) [] rfl trivial rfl rfl (fun r h' n' hrr => ?_)) (by simp [ales,ale,pvle,I.val])
   obtain ⟨⟨z0,e1,hz0⟩,e2,e3⟩ := hrr
   subst e1 e2 e3
   obtain rfl : (0 : Int) = z0 := by omega
   conv => cbv
   refine RetF.mk [i6 0] [] 0 (Re.at [] []) rfl ⟨⟨0,rfl,hv⟩,rfl,rfl⟩
  ·have g2 : ¬ 6 ≤ reg := g2
   conv => cbv
   refine Need.mk (show 0 ≤ reg ∧ reg < 6 by omega) ?_
   conv => cbv
   refine Sum.mk fun z hz => ?_
   have hz : z = 3 + reg := hz
   conv => cbv
   obtain ⟨v,hv2⟩ : ∃ v,[r0,r1,r2,r3,r4,r5][reg.toNat]? = some v := ⟨_,List.getElem?_eq_getElem (by simp; omega)⟩
   have hv : v = wordOf [r0,r1,r2,r3,r4,r5] reg := by unfold wordOf; rw [if_pos (by omega),hv2]; rfl
   have hcell : ([.int .i64 (.sym gi),.int .i64 (.sym gs),.int .i64 (.sym gp),.int .i64 (.sym r0),.int .i64 (.sym r1),.int .i64 (.sym r2),.int .i64 (.sym r3),.int .i64 (.sym r4),.int .i64 (.sym r5),.int .i64 (.sym gu)] : List PV)[z.toNat]? = some (.int .i64 (.sym v)) := by
    rcases (by omega : reg = 0 ∨ reg = 1 ∨ reg = 2 ∨ reg = 3 ∨ reg = 4 ∨ reg = 5) with e | e | e | e | e | e <;> subst e <;> subst hz <;> cases hv2 <;> rfl
   refine Cell.mk _ (show ([.int .i64 (.sym gi),.int .i64 (.sym gs),.int .i64 (.sym gp),.int .i64 (.sym r0),.int .i64 (.sym r1),.int .i64 (.sym r2),.int .i64 (.sym r3),.int .i64 (.sym r4),.int .i64 (.sym r5),.int .i64 (.sym gu)] : List PV)[(z + ((0 : Nat) : Int)).toNat]? = _ by rw [show z + ((0 : Nat) : Int) = z by simp]; exact hcell) ?_
   conv => cbv
   refine RetF.mk [i6 v] [] 0 (Re.at [] []) rfl ⟨⟨v,rfl,hv⟩,rfl,rfl⟩
inductive Looks : Int → Int → LV → Prop
 | snd (w : Int) : Looks 1 w (.iface 201 (.agg [i6 w]))
 | tak (w : Int) : Looks 2 w (.iface 202 (.agg [i6 w]))
 | els (w : Int) : Looks 3 w (.iface 148 (.agg []))
theorem chlook_lx (gi gs gp r0 r1 r2 r3 r4 r5 gu : Int) (kd ch rg tt : Int) (hk : kd = 1 ∨ kd = 2 ∨ kd = 3) : CallF (fun _ => Tryz.prog) 107 [.agg [i6 gi,i6 gs,i6 gp,i6 r0,i6 r1,i6 r2,i6 r3,i6 r4,i6 r5,i6 gu],.agg [i6 kd,i6 ch,i6 rg,i6 tt]] [] 0 (fun r h n => (∃ w,w = wordOf [r0,r1,r2,r3,r4,r5] ch ∧ Looks kd w r) ∧ h = [] ∧ n = 0) := by
 refine callF_of_body tok Tryz.func107 (by kernel_rfl) rfl rfl rfl ?_; conv => cbv
 refine callF_frame (word_lx gi gs gp r0 r1 r2 r3 r4 r5 gu ch) [] rfl trivial rfl rfl (fun r h' n' hrr => ?_)
 obtain ⟨⟨v,e1,hv⟩,e2,e3⟩ := hrr
 subst e1 e2 e3
 conv => cbv
 refine Br.mk (fun g1 => ?_) (fun g1 => ?_)
 ·have g1 : kd = 1 := g1
  conv => cbv
  obtain rfl : kd = 1 := by omega
  refine RetF.mk [.iface 201 (.agg [i6 v])] [] 0 (Re.at [] []) rfl ⟨⟨v,hv,.snd v⟩,rfl,rfl⟩
 ·have g1 : ¬ kd = 1 := g1
  conv => cbv
  refine Br.mk (fun g2 => ?_) (fun g2 => ?_)
  ·have g2 : kd = 2 := g2
   conv => cbv
   obtain rfl : kd = 2 := by omega
   refine RetF.mk [.iface 202 (.agg [i6 v])] [] 0 (Re.at [] []) rfl ⟨⟨v,hv,.tak v⟩,rfl,rfl⟩
  ·have g2 : ¬ kd = 2 := g2
   conv => cbv
   refine Br.yes (show kd = 3 by omega) ?_
   conv => cbv
   obtain rfl : kd = 3 := by omega
   refine RetF.mk [.iface 148 (.agg [])] [] 0 (Re.at [] []) rfl ⟨⟨v,hv,.els v⟩,rfl,rfl⟩
theorem readyS_lx (R : List Rw) (ws C G : List Int) (N W ph sp cy : Int) (L D Q : List PV) (z : ByteArray) (ov : Bool) (h : HM R ws C G N W L D Q z) (o : Unit → Obj) (w : Int) (bb : Bool) (hs : CallF (fun _ => Tryz.prog) 152 [.ptr 0 (.lit 0),i6 w] [hpA 0 1 5 6 3 W ph sp cy,hpB 1 2 4 3 W,hpC 2 3 233 2 N,hpP 3 L,hpP 4 D,hpF 5 z ov,hpP 6 Q,(7,.fix 0 o)] 8 (fun r h n => r = .p (.bool bb) ∧ h = [hpA 0 1 5 6 3 W ph sp cy,hpB 1 2 4 3 W,hpC 2 3 233 2 N,hpP 3 L,hpP 4 D,hpF 5 z ov,hpP 6 Q,(7,.fix 0 o)] ∧ n = 8)) : CallF (fun _ => Tryz.prog) 108 [.ptr 0 (.lit 0),.iface 201 (.agg [i6 w])] [hpA 0 1 5 6 3 W ph sp cy,hpB 1 2 4 3 W,hpC 2 3 233 2 N,hpP 3 L,hpP 4 D,hpF 5 z ov,hpP 6 Q,(7,.fix 0 o)] 8 (fun r h n => r = .p (.bool bb) ∧ h = [hpA 0 1 5 6 3 W ph sp cy,hpB 1 2 4 3 W,hpC 2 3 233 2 N,hpP 3 L,hpP 4 D,hpF 5 z ov,hpP 6 Q,(7,.fix 0 o)] ∧ n = 8) := by
 refine callF_of_body tok Tryz.func108 (by kernel_rfl) rfl rfl rfl ?_; conv => cbv
 refine callF_frame hs [(0,0),(1,1),(2,2),(3,3),(4,4),(5,5),(6,6),(7,7)] rfl (by simp [hmapOk,nget,hget,renB,okB,renV,renVs,rn,okVs,okV]) rfl rfl (fun r h' n' ⟨e1,e2,e3⟩ => ?_)
 subst e1 e2 e3
 conv => cbv
 refine RetF.mk [.p (.bool bb)] [hpA 0 1 5 6 3 W ph sp cy,hpB 1 2 4 3 W,hpC 2 3 233 2 N,hpP 3 L,hpP 4 D,hpF 5 z ov,hpP 6 Q,(7,.fix 0 o)] 8 (Re.at [(0,0),(1,1),(2,2),(3,3),(4,4),(5,5),(6,6),(7,7)] []) rfl ⟨rfl,rfl,rfl⟩
theorem readyT_lx (R : List Rw) (ws C G : List Int) (N W ph sp cy : Int) (L D Q : List PV) (z : ByteArray) (ov : Bool) (h : HM R ws C G N W L D Q z) (o : Unit → Obj) (w : Int) (bb : Bool) (hs : CallF (fun _ => Tryz.prog) 75 [.ptr 0 (.lit 0),i6 w] [hpA 0 1 5 6 3 W ph sp cy,hpB 1 2 4 3 W,hpC 2 3 233 2 N,hpP 3 L,hpP 4 D,hpF 5 z ov,hpP 6 Q,(7,.fix 0 o)] 8 (fun r h n => r = .p (.bool bb) ∧ h = [hpA 0 1 5 6 3 W ph sp cy,hpB 1 2 4 3 W,hpC 2 3 233 2 N,hpP 3 L,hpP 4 D,hpF 5 z ov,hpP 6 Q,(7,.fix 0 o)] ∧ n = 8)) : CallF (fun _ => Tryz.prog) 108 [.ptr 0 (.lit 0),.iface 202 (.agg [i6 w])] [hpA 0 1 5 6 3 W ph sp cy,hpB 1 2 4 3 W,hpC 2 3 233 2 N,hpP 3 L,hpP 4 D,hpF 5 z ov,hpP 6 Q,(7,.fix 0 o)] 8 (fun r h n => r = .p (.bool bb) ∧ h = [hpA 0 1 5 6 3 W ph sp cy,hpB 1 2 4 3 W,hpC 2 3 233 2 N,hpP 3 L,hpP 4 D,hpF 5 z ov,hpP 6 Q,(7,.fix 0 o)] ∧ n = 8) := by
 refine callF_of_body tok Tryz.func108 (by kernel_rfl) rfl rfl rfl ?_; conv => cbv
 refine callF_frame hs [(0,0),(1,1),(2,2),(3,3),(4,4),(5,5),(6,6),(7,7)] rfl (by simp [hmapOk,nget,hget,renB,okB,renV,renVs,rn,okVs,okV]) rfl rfl (fun r h' n' ⟨e1,e2,e3⟩ => ?_)
 subst e1 e2 e3
 conv => cbv
 refine RetF.mk [.p (.bool bb)] [hpA 0 1 5 6 3 W ph sp cy,hpB 1 2 4 3 W,hpC 2 3 233 2 N,hpP 3 L,hpP 4 D,hpF 5 z ov,hpP 6 Q,(7,.fix 0 o)] 8 (Re.at [(0,0),(1,1),(2,2),(3,3),(4,4),(5,5),(6,6),(7,7)] []) rfl ⟨rfl,rfl,rfl⟩
abbrev Cas := Int × Int × Int × Int
def casPV (l : List Cas) : List PV := l.flatMap fun c => [.int .i64 (.sym c.1),.int .i64 (.sym c.2.1),.int .i64 (.sym c.2.2.1),.int .i64 (.sym c.2.2.2)]
theorem casPV_get : ∀ {l : List Cas} {i : Nat} {c : Cas},l[i]? = some c → (casPV l)[4 * i]? = some (.int .i64 (.sym c.1)) ∧ (casPV l)[4 * i + 1]? = some (.int .i64 (.sym c.2.1)) ∧ (casPV l)[4 * i + 2]? = some (.int .i64 (.sym c.2.2.1)) ∧ (casPV l)[4 * i + 3]? = some (.int .i64 (.sym c.2.2.2))
 | c :: l,0,d,h => by cases h; exact ⟨rfl,rfl,rfl,rfl⟩
 | c :: l,i + 1,d,h => by
  have := casPV_get (l := l) (i := i) h
  exact this
def CasAt (cells : List PV) (l : List Cas) : Prop := ∀ (i : Nat) (c : Cas),l[i]? = some c → ∃ e0 e1 e2 e3 : I,cells[4 * i]? = some (.int .i64 e0) ∧ cells[4 * i + 1]? = some (.int .i64 e1) ∧ cells[4 * i + 2]? = some (.int .i64 e2) ∧ cells[4 * i + 3]? = some (.int .i64 e3) ∧ e0.val = c.1 ∧ e1.val = c.2.1 ∧ e2.val = c.2.2.1 ∧ e3.val = c.2.2.2
theorem CasAt.of (l : List Cas) : CasAt (casPV l) l := fun i c h => by
 obtain ⟨h1,h2,h3,h4⟩ := casPV_get h
 exact ⟨_,_,_,_,h1,h2,h3,h4,rfl,rfl,rfl,rfl⟩
theorem CasAt.add {cells new : List PV} {l m : List Cas} (h : CasAt cells l) (hl : cells.length = 4 * l.length) (hn : CasAt new m) : CasAt (cells ++ new) (l ++ m) := fun i c hc => by
 by_cases hi : i < l.length
 ·rw [List.getElem?_append_left hi] at hc
  obtain ⟨e0,e1,e2,e3,h1,h2,h3,h4,hv⟩ := h i c hc
  exact ⟨e0,e1,e2,e3,by rw [List.getElem?_append_left (by omega)]; exact h1,by rw [List.getElem?_append_left (by omega)]; exact h2,by rw [List.getElem?_append_left (by omega)]; exact h3,by rw [List.getElem?_append_left (by omega)]; exact h4,hv⟩
 ·rw [List.getElem?_append_right (by omega)] at hc
  obtain ⟨e0,e1,e2,e3,h1,h2,h3,h4,hv⟩ := hn _ c hc
  refine ⟨e0,e1,e2,e3,?_,?_,?_,?_,hv⟩
  ·rw [List.getElem?_append_right (by omega),show 4 * i - cells.length = 4 * (i - l.length) by omega]; exact h1
  ·rw [List.getElem?_append_right (by omega),show 4 * i + 1 - cells.length = 4 * (i - l.length) + 1 by omega]; exact h2
  ·rw [List.getElem?_append_right (by omega),show 4 * i + 2 - cells.length = 4 * (i - l.length) + 2 by omega]; exact h3
  ·rw [List.getElem?_append_right (by omega),show 4 * i + 3 - cells.length = 4 * (i - l.length) + 3 by omega]; exact h4
theorem CasAt.one (a b c d : I) : CasAt [.int .i64 a,.int .i64 b,.int .i64 c,.int .i64 d] [(a.val,b.val,c.val,d.val)] := fun i x h => by
 match i,h with
 | 0,h => cases h; exact ⟨a,b,c,d,rfl,rfl,rfl,rfl,rfl,rfl,rfl,rfl⟩
 | _ + 1,h => cases h
structure Picked (l : List Cas) (rd : Cas → Bool) (p : Int) : Prop where
 none : (∀ c ∈ l,c.1 ≠ 3 → rd c = false) → (p = -1 ∧ ∀ c ∈ l,c.1 ≠ 3) ∨ ∃ (j : Nat) (c : Cas),p = j ∧ l[j]? = some c ∧ c.1 = 3 ∧ ∀ (i : Nat) (d : Cas),i < j → l[i]? = some d → d.1 ≠ 3
 one : ∀ (j : Nat) (c : Cas),l[j]? = some c → c.1 ≠ 3 → rd c = true → (∀ (i : Nat) (d : Cas),l[i]? = some d → d.1 ≠ 3 → rd d = true → i = j) → p = j
theorem Looks.or {kd w : Int} {r : LV} (h : Looks kd w r) : (kd = 1 ∧ r = .iface 201 (.agg [i6 w])) ∨ (kd = 2 ∧ r = .iface 202 (.agg [i6 w])) ∨ (kd = 3 ∧ r = .iface 148 (.agg [])) := by
 cases h
 ·exact .inl ⟨rfl,rfl⟩
 ·exact .inr (.inl ⟨rfl,rfl⟩)
 ·exact .inr (.inr ⟨rfl,rfl⟩)
structure Told18 (l : List Cas) (n : Nat) (tl : List Int) (ow : Int) : Prop where
 mem : ∀ x ∈ tl,∃ (j : Nat) (c : Cas),x = j ∧ l[j]? = some c ∧ c.1 ≠ 3
 all : ∀ (j : Nat) (c : Cas),j < n → l[j]? = some c → c.1 ≠ 3 → (j : Int) ∈ tl
 els : (ow = -1 ∧ ∀ (j : Nat) (c : Cas),j < n → l[j]? = some c → c.1 ≠ 3) ∨ ∃ (j : Nat) (c : Cas),ow = j ∧ l[j]? = some c ∧ c.1 = 3 ∧ ∀ (i : Nat) (d : Cas),i < j → l[i]? = some d → d.1 ≠ 3
 len : tl.length ≤ n
theorem Told18.nil (l : List Cas) : Told18 l 0 [] (-1) := ⟨fun x h => (by cases h),fun j c h => (by omega),.inl ⟨rfl,fun j c h => (by omega)⟩,Nat.le_refl _⟩
theorem Told18.turn {l : List Cas} {n : Nat} {tl : List Int} {ow : Int} (h : Told18 l n tl ow) {c : Cas} (hc : l[n]? = some c) (h3 : c.1 ≠ 3) : Told18 l (n + 1) (tl ++ [(n : Int)]) ow := by
 refine ⟨fun x hx => ?_,fun j d hj hd h4 => ?_,?_,by rw [List.length_append]; exact Nat.add_le_add_right h.len 1⟩
 ·rcases List.mem_append.1 hx with hx | hx
  ·exact h.mem x hx
  ·rw [List.mem_singleton] at hx; exact ⟨n,c,hx,hc,h3⟩
 ·rw [List.mem_append,List.mem_singleton]
  by_cases e : j = n
  ·exact .inr (by rw [e])
  ·exact .inl (h.all j d (by omega) hd h4)
 ·rcases h.els with ⟨e1,e2⟩ | e
  ·refine .inl ⟨e1,fun j d hj hd => ?_⟩
   by_cases e : j = n
   ·subst e; rw [hc] at hd; cases hd; exact h3
   ·exact e2 j d (by omega) hd
  ·exact .inr e
theorem Told18.els0 {l : List Cas} {n : Nat} {tl : List Int} (h : Told18 l n tl (-1)) {c : Cas} (hc : l[n]? = some c) (h3 : c.1 = 3) : Told18 l (n + 1) tl n := by
 refine ⟨h.mem,fun j d hj hd h4 => ?_,.inr ⟨n,c,rfl,hc,h3,?_⟩,Nat.le_succ_of_le h.len⟩
 ·by_cases e : j = n
  ·subst e; rw [hc] at hd; cases hd; exact absurd h3 h4
  ·exact h.all j d (by omega) hd h4
 ·rcases h.els with ⟨_,e2⟩ | ⟨j,_,e,_⟩
  ·exact e2
  ·omega
theorem Told18.els1 {l : List Cas} {n : Nat} {tl : List Int} {ow : Int} (h : Told18 l n tl ow) (ho : ow ≠ -1) {c : Cas} (hc : l[n]? = some c) (h3 : c.1 = 3) : Told18 l (n + 1) tl ow := by
 refine ⟨h.mem,fun j d hj hd h4 => ?_,?_,Nat.le_succ_of_le h.len⟩
 ·by_cases e : j = n
  ·subst e; rw [hc] at hd; cases hd; exact absurd h3 h4
  ·exact h.all j d (by omega) hd h4
 ·rcases h.els with ⟨e1,_⟩ | e
  ·exact absurd e1 ho
  ·exact .inr e
theorem Told18.done {l : List Cas} {tl : List Int} {ow : Int} {rd : Cas → Bool} (h : Told18 l l.length tl ow) (hn : ∀ x ∈ tl,∀ (j : Nat) (c : Cas),x = j → l[j]? = some c → rd c = false) : Picked l rd ow := by
 refine ⟨fun _ => ?_,fun j c hc h3 hr _ => ?_⟩
 ·rcases h.els with ⟨e1,e2⟩ | e
  ·refine .inl ⟨e1,fun c hc => ?_⟩
   obtain ⟨j,hj⟩ := List.getElem?_of_mem hc
   exact e2 j c (List.getElem?_eq_some_iff.1 hj).1 hj
  ·exact .inr e
 ·have := hn j (h.all j c (List.getElem?_eq_some_iff.1 hc).1 hc h3) j c rfl hc
  rw [hr] at this; cases this
theorem Picked.this {l : List Cas} {rd : Cas → Bool} {j : Nat} {c : Cas} (hc : l[j]? = some c) (h3 : c.1 ≠ 3) (hr : rd c = true) : Picked l rd j := by
 refine ⟨fun h => ?_,fun i d _ _ _ hu => ?_⟩
 ·rw [h c (List.mem_of_getElem? hc) h3] at hr; cases hr
 ·rw [hu j c hc h3 hr]
theorem turn_ex {s m : Int} (hm : 0 < m) (hs : 0 ≤ s) (p : Nat) (hp : (p : Int) < m) : ∃ k : Nat,(k : Int) < m ∧ (s + k) % m = p := by
 refine ⟨(((p : Int) - s) % m).toNat,?_,?_⟩
 ·have h1 := Int.emod_nonneg ((p : Int) - s) (show m ≠ 0 by omega)
  have h2 := Int.emod_lt_of_pos ((p : Int) - s) hm
  omega
 ·have h1 := Int.emod_nonneg ((p : Int) - s) (show m ≠ 0 by omega)
  rw [Int.toNat_of_nonneg h1,Int.add_emod_emod,show s + ((p : Int) - s) = p by omega]
  exact Int.emod_eq_of_lt (by omega) hp
theorem chPick_lx (R : List Rw) (ws C G : List Int) (N W ph sp cy : Int) (L D Q : List PV) (z : ByteArray) (ov : Bool) (h : HM R ws C G N W L D Q z) (o : Unit → Obj) (gi gs gp r0 r1 r2 r3 r4 r5 gu draw m : Int) (l : List Cas) (cells : List PV) (hm : m = l.length) (hcel : CasAt cells l) (hlen : l.length ≤ 30) (hk : ∀ c ∈ l,c.1 = 1 ∨ c.1 = 2 ∨ c.1 = 3) (rd : Cas → Bool)
  (hS : ∀ c ∈ l,c.1 = 1 → CallF (fun _ => Tryz.prog) 152 [.ptr 0 (.lit 0),i6 (wordOf [r0,r1,r2,r3,r4,r5] c.2.1)] [hpA 0 1 5 6 3 W ph sp cy,hpB 1 2 4 3 W,hpC 2 3 233 2 N,hpP 3 L,hpP 4 D,hpF 5 z ov,hpP 6 Q,(7,.fix 0 o)] 8 (fun r h n => r = .p (.bool (rd c)) ∧ h = [hpA 0 1 5 6 3 W ph sp cy,hpB 1 2 4 3 W,hpC 2 3 233 2 N,hpP 3 L,hpP 4 D,hpF 5 z ov,hpP 6 Q,(7,.fix 0 o)] ∧ n = 8))
  (hT : ∀ c ∈ l,c.1 = 2 → CallF (fun _ => Tryz.prog) 75 [.ptr 0 (.lit 0),i6 (wordOf [r0,r1,r2,r3,r4,r5] c.2.1)] [hpA 0 1 5 6 3 W ph sp cy,hpB 1 2 4 3 W,hpC 2 3 233 2 N,hpP 3 L,hpP 4 D,hpF 5 z ov,hpP 6 Q,(7,.fix 0 o)] 8 (fun r h n => r = .p (.bool (rd c)) ∧ h = [hpA 0 1 5 6 3 W ph sp cy,hpB 1 2 4 3 W,hpC 2 3 233 2 N,hpP 3 L,hpP 4 D,hpF 5 z ov,hpP 6 Q,(7,.fix 0 o)] ∧ n = 8)) :
  CallF (fun _ => Tryz.prog) 48 [.ptr 0 (.lit 0),.agg [i6 gi,i6 gs,i6 gp,i6 r0,i6 r1,i6 r2,i6 r3,i6 r4,i6 r5,i6 gu],.sl 8 85 4 (.lit 0) (.sym m),i6 draw] [hpA 0 1 5 6 3 W ph sp cy,hpB 1 2 4 3 W,hpC 2 3 233 2 N,hpP 3 L,hpP 4 D,hpF 5 z ov,hpP 6 Q,(7,.fix 0 o),hpP 8 cells] 9 (fun r h n => ∃ p : Int,r = .p (.int .i64 (.sym p)) ∧ h = [hpA 0 1 5 6 3 W ph sp cy,hpB 1 2 4 3 W,hpC 2 3 233 2 N,hpP 3 L,hpP 4 D,hpF 5 z ov,hpP 6 Q,(7,.fix 0 o),hpP 8 cells] ∧ n = 9 ∧ Picked l rd p) := by
 refine callF_of_body tok Tryz.func48 (by kernel_rfl) rfl rfl rfl ?_; conv => cbv
 obtain ⟨ow0,how0⟩ : ∃ x : Int,x = -1 := ⟨_,rfl⟩
 have hS0 : Told18 l 0 [] ow0 := by rw [how0]; exact Told18.nil l
 refine LoopF.mk (fun kk s => ∃ (i tn ow : Int) (tl : List Int) (TL : List PV),s = ⟨.ptr 0 (.lit 0) :: .agg [i6 gi,i6 gs,i6 gp,i6 r0,i6 r1,i6 r2,i6 r3,i6 r4,i6 r5,i6 gu] :: .sl 8 85 4 (.lit 0) (.sym m) :: .p (.int .i64 (.sym draw)) :: (undefs 1 ++ .ptr 9 (.lit 0) :: (undefs 3 ++ .sl 10 3 1 (.lit 0) (.sym tn) :: .p (.int .i64 (.sym ow)) :: (undefs 7 ++ .sl 8 85 4 (.lit 0) (.sym m) :: .p (.int .i64 (.sym m)) :: .p (.int .i64 (.sym i)) :: undefs 50))),[hpA 0 1 5 6 3 W ph sp cy,hpB 1 2 4 3 W,hpC 2 3 233 2 N,hpP 3 L,hpP 4 D,hpF 5 z ov,hpP 6 Q,(7,.fix 0 o),hpP 8 cells,(9,.pure false [.int .i64 (.sym gi),.int .i64 (.sym gs),.int .i64 (.sym gp),.int .i64 (.sym r0),.int .i64 (.sym r1),.int .i64 (.sym r2),.int .i64 (.sym r3),.int .i64 (.sym r4),.int .i64 (.sym r5),.int .i64 (.sym gu)]),hpP 10 TL],11⟩ ∧ 0 ≤ i ∧ i ≤ m ∧ kk = (m - i).toNat ∧ tn = tl.length ∧ TL = ipv tl ∧ Told18 l i.toNat tl ow) m.toNat _
  (Re.at [(0,0),(1,1),(2,2),(3,3),(4,4),(5,5),(6,6),(7,7),(8,8),(9,9)] [10]) ⟨0,0,ow0,[],[],rfl,by omega,by omega,by omega,rfl,rfl,hS0⟩ ?_
 clear hS0 how0
 rintro kk s ⟨i,tn,ow,tl,TL,rfl,hi0,hi1,hkk,htn,hTL,hSn⟩
 have hkk : kk = (m - i).toNat := hkk
 conv => cbv
 refine Br.mk (fun glt => ?_) (fun glt => ?_)
 ·have glt : i < m := glt
  obtain ⟨⟨kd,ch,rg,tt⟩,hci⟩ : ∃ c,l[i.toNat]? = some c := ⟨_,List.getElem?_eq_getElem (by omega)⟩
  obtain ⟨f0,f1,f2,f3,q1,q2,q3,q4,v0,v1,v2,v3⟩ := hcel _ _ hci
  have hkd := hk _ (List.mem_of_getElem? hci)
  conv => cbv
  refine Need.mk (show 0 ≤ i ∧ i < m from ⟨hi0,glt⟩) ?_
  conv => cbv
  refine Sum.mk fun zz hz => ?_
  have hz : zz = i * 4 := hz
  conv => cbv
  refine Cell.mk _ (show cells[(zz + ((0 : Nat) : Int)).toNat]? = _ by rw [show (zz + ((0 : Nat) : Int)).toNat = 4 * i.toNat + 0 by omega]; exact q1) ?_
  conv => cbv
  refine Cell.mk _ (show cells[(zz + ((1 : Nat) : Int)).toNat]? = _ by rw [show (zz + ((1 : Nat) : Int)).toNat = 4 * i.toNat + 1 by omega]; exact q2) ?_
  conv => cbv
  refine Cell.mk _ (show cells[(zz + ((2 : Nat) : Int)).toNat]? = _ by rw [show (zz + ((2 : Nat) : Int)).toNat = 4 * i.toNat + 2 by omega]; exact q3) ?_
  conv => cbv
  refine Cell.mk _ (show cells[(zz + ((3 : Nat) : Int)).toNat]? = _ by rw [show (zz + ((3 : Nat) : Int)).toNat = 4 * i.toNat + 3 by omega]; exact q4) ?_
  conv => cbv
  refine CallF.le (args0 := [.agg [i6 gi,i6 gs,i6 gp,i6 r0,i6 r1,i6 r2,i6 r3,i6 r4,i6 r5,i6 gu],.agg [i6 kd,i6 ch,i6 rg,i6 tt]]) (callF_frame (chlook_lx gi gs gp r0 r1 r2 r3 r4 r5 gu kd ch rg tt hkd) [] rfl trivial rfl rfl (fun r h' n' ⟨⟨w,hw,hL⟩,e2,e3⟩ => ?_)) (by simp [ales,ale,pvle,I.val]; exact ⟨v0,v1,v2,v3⟩)
  subst e2 e3
  rcases hL.or with ⟨hk1,rfl⟩ | ⟨hk1,rfl⟩ | ⟨hk1,rfl⟩
  ·conv => cbv
   have hTl : (TL.length : Int) = tn := by rw [hTL,ipv_length]; exact htn.symm
   have hln := hSn.len
   refine Room.new rfl ?_
   conv => cbv
   refine Room.new ⟨?_,?_,?_⟩ ?_
   ·show (TL.length : Int) = tn * 1; omega
   ·show (tn + 1) * 8 ≤ 140737488355328; omega
   ·show tn + 1 ≤ 9223372036854775807; omega
   conv => cbv
   refine Upd.mk fun TL2 hTL2 => ?_
   have hTL2 : TL2 = TL ++ [.int .i64 (.sym i)] := hTL2
   conv => cbv
   refine Sum.mk fun tn2 htn2 => ?_
   have htn2 : tn2 = tn + 1 := htn2
   conv => cbv
   refine Fit.mk (by show (-9223372036854775808 : Int) ≤ i + 1; omega) (by show i + 1 ≤ 9223372036854775807; omega) fun i2 hi2 => ?_
   have hi2 : i2 = i + 1 := hi2
   have hi3 : i2.toNat = i.toNat + 1 := by omega
   conv => cbv
   have hSn2 := hSn.turn hci (show kd ≠ 3 by omega)
   refine Again.mk (m - i2).toNat _ (by omega) (Re.at [(0,0),(1,1),(2,2),(3,3),(4,4),(5,5),(6,6),(7,7),(8,8),(9,9),(14,10)] []) ⟨i2,tn2,ow,tl ++ [((i.toNat : Nat) : Int)],TL2,rfl,by omega,by omega,rfl,by rw [List.length_append,List.length_singleton,htn2,htn]; push_cast; rfl,by rw [hTL2,hTL,← ipv_app,show ((i.toNat : Nat) : Int) = i by omega]; rfl,by rw [hi3]; exact hSn2⟩
  ·conv => cbv
   have hTl : (TL.length : Int) = tn := by rw [hTL,ipv_length]; exact htn.symm
   have hln := hSn.len
   refine Room.new rfl ?_
   conv => cbv
   refine Room.new ⟨?_,?_,?_⟩ ?_
   ·show (TL.length : Int) = tn * 1; omega
   ·show (tn + 1) * 8 ≤ 140737488355328; omega
   ·show tn + 1 ≤ 9223372036854775807; omega
   conv => cbv
   refine Upd.mk fun TL2 hTL2 => ?_
   have hTL2 : TL2 = TL ++ [.int .i64 (.sym i)] := hTL2
   conv => cbv
   refine Sum.mk fun tn2 htn2 => ?_
   have htn2 : tn2 = tn + 1 := htn2
   conv => cbv
   refine Fit.mk (by show (-9223372036854775808 : Int) ≤ i + 1; omega) (by show i + 1 ≤ 9223372036854775807; omega) fun i2 hi2 => ?_
   have hi2 : i2 = i + 1 := hi2
   have hi3 : i2.toNat = i.toNat + 1 := by omega
   conv => cbv
   have hSn2 := hSn.turn hci (show kd ≠ 3 by omega)
   refine Again.mk (m - i2).toNat _ (by omega) (Re.at [(0,0),(1,1),(2,2),(3,3),(4,4),(5,5),(6,6),(7,7),(8,8),(9,9),(14,10)] []) ⟨i2,tn2,ow,tl ++ [((i.toNat : Nat) : Int)],TL2,rfl,by omega,by omega,rfl,by rw [List.length_append,List.length_singleton,htn2,htn]; push_cast; rfl,by rw [hTL2,hTL,← ipv_app,show ((i.toNat : Nat) : Int) = i by omega]; rfl,by rw [hi3]; exact hSn2⟩
  ·conv => cbv
   refine Br.mk (fun go => ?_) (fun go => ?_)
   ·have go : ow = -1 := go
    conv => cbv
    refine Fit.mk (by show (-9223372036854775808 : Int) ≤ i + 1; omega) (by show i + 1 ≤ 9223372036854775807; omega) fun i2 hi2 => ?_
    have hi2 : i2 = i + 1 := hi2
    have hi3 : i2.toNat = i.toNat + 1 := by omega
    conv => cbv
    obtain ⟨i0,hi0'⟩ : ∃ x : Int,x = i := ⟨_,rfl⟩
    have hSn2 : Told18 l (i.toNat + 1) tl ((i.toNat : Nat) : Int) := Told18.els0 (by rw [← go]; exact hSn) hci (show kd = 3 from hk1)
    rw [show ((i.toNat : Nat) : Int) = i by omega] at hSn2
    refine Again.mk (m - i2).toNat _ (by omega) (Re.at [(0,0),(1,1),(2,2),(3,3),(4,4),(5,5),(6,6),(7,7),(8,8),(9,9),(10,10)] []) ⟨i2,tn,i,tl,TL,rfl,by omega,by omega,rfl,htn,hTL,by rw [hi3]; exact hSn2⟩
   ·have go : ¬ ow = -1 := go
    conv => cbv
    refine Fit.mk (by show (-9223372036854775808 : Int) ≤ i + 1; omega) (by show i + 1 ≤ 9223372036854775807; omega) fun i2 hi2 => ?_
    have hi2 : i2 = i + 1 := hi2
    have hi3 : i2.toNat = i.toNat + 1 := by omega
    conv => cbv
    have hSn2 := hSn.els1 go hci (show kd = 3 from hk1)
    refine Again.mk (m - i2).toNat _ (by omega) (Re.at [(0,0),(1,1),(2,2),(3,3),(4,4),(5,5),(6,6),(7,7),(8,8),(9,9),(10,10)] []) ⟨i2,tn,ow,tl,TL,rfl,by omega,by omega,rfl,htn,hTL,by rw [hi3]; exact hSn2⟩
 ·have glt : ¬ i < m := glt
  conv => cbv
  have hin : i.toNat = l.length := by omega
  rw [hin] at hSn
  have hTl : (TL.length : Int) = tn := by rw [hTL,ipv_length]; exact htn.symm
  have hln := hSn.len
  obtain ⟨s0,hs0⟩ : ∃ s0 : Int,s0 = (max draw 0) % tn := ⟨_,rfl⟩
  clear glt hkk
  refine LoopF.mk (fun kk s => ∃ k : Int,s = ⟨.ptr 0 (.lit 0) :: .agg [i6 gi,i6 gs,i6 gp,i6 r0,i6 r1,i6 r2,i6 r3,i6 r4,i6 r5,i6 gu] :: .sl 8 85 4 (.lit 0) (.sym m) :: .p (.int .i64 (.sym draw)) :: (undefs 1 ++ .ptr 9 (.lit 0) :: (undefs 3 ++ .sl 10 3 1 (.lit 0) (.sym tn) :: .p (.int .i64 (.sym ow)) :: (undefs 32 ++ .p (.int .i64 (.sym tn)) :: .p (.int .i64 (.sym k)) :: undefs 26))),[hpA 0 1 5 6 3 W ph sp cy,hpB 1 2 4 3 W,hpC 2 3 233 2 N,hpP 3 L,hpP 4 D,hpF 5 z ov,hpP 6 Q,(7,.fix 0 o),hpP 8 cells,(9,.pure false [.int .i64 (.sym gi),.int .i64 (.sym gs),.int .i64 (.sym gp),.int .i64 (.sym r0),.int .i64 (.sym r1),.int .i64 (.sym r2),.int .i64 (.sym r3),.int .i64 (.sym r4),.int .i64 (.sym r5),.int .i64 (.sym gu)]),hpP 10 TL],11⟩ ∧ 0 ≤ k ∧ k ≤ tn ∧ kk = (tn - k).toNat ∧ ∀ (q : Nat) (x : Int),(q : Int) < k → tl[((s0 + q) % tn).toNat]? = some x → ∀ (j : Nat) (c : Cas),x = j → l[j]? = some c → rd c = false) tn.toNat _
   (Re.at [(0,0),(1,1),(2,2),(3,3),(4,4),(5,5),(6,6),(7,7),(8,8),(9,9),(10,10)] []) ⟨0,rfl,by omega,by omega,by omega,fun q x hq => by omega⟩ ?_
  rintro kk s ⟨k,rfl,hk0,hk1,hkk,hno⟩
  have hkk : kk = (tn - k).toNat := hkk
  conv => cbv
  refine Br.mk (fun glt => ?_) (fun glt => ?_)
  ·have glt : k < tn := glt
   conv => cbv
   have hs00 : 0 ≤ s0 ∧ s0 < tn := by rw [hs0]; exact ⟨Int.emod_nonneg _ (by omega),Int.emod_lt_of_pos _ (by omega)⟩
   refine Br.mk (fun gd => ?_) (fun gd => ?_)
   ·have gd : draw < 0 := gd
    conv => cbv
    refine Need.mk (show ¬ tn = 0 by omega) ?_
    conv => cbv
    refine Sum.mk fun s1 hs1 => ?_
    have hs1 : s1 = s0 := (show s1 = Int.tmod 0 tn from hs1).trans (by rw [hs0,Int.tmod_eq_emod_of_nonneg (by omega),show max draw 0 = 0 by omega])
    conv => cbv
    refine Fit.mk (by show (-9223372036854775808 : Int) ≤ s1 + k; omega) (by show s1 + k ≤ 9223372036854775807; omega) fun s2 hs2 => ?_
    have hs2 : s2 = s1 + k := hs2
    conv => cbv
    refine Need.mk (show ¬ tn = 0 by omega) ?_
    conv => cbv
    refine Sum.mk fun p hp => ?_
    have hp : p = (s0 + k) % tn := (show p = Int.tmod s2 tn from hp).trans (by rw [hs2,hs1,Int.tmod_eq_emod_of_nonneg (by omega)])
    have hp0 : 0 ≤ p := by rw [hp]; exact Int.emod_nonneg _ (by omega)
    have hp1 : p < tn := by rw [hp]; exact Int.emod_lt_of_pos _ (by omega)
    obtain ⟨x,hx⟩ : ∃ x,tl[p.toNat]? = some x := ⟨_,List.getElem?_eq_getElem (by omega)⟩
    have hcx : TL[p.toNat]? = some (.int .i64 (.sym x)) := by rw [hTL]; exact ipv_get hx
    obtain ⟨j,⟨kd,ch,rg,tt⟩,hxj,hcj,hc3⟩ := hSn.mem x (List.mem_of_getElem? hx)
    have hjl := (List.getElem?_eq_some_iff.1 hcj).1
    obtain ⟨f0,f1,f2,f3,q1,q2,q3,q4,v0,v1,v2,v3⟩ := hcel _ _ hcj
    have hkd := hk _ (List.mem_of_getElem? hcj)
    have hmem := List.mem_of_getElem? hcj
    conv => cbv
    refine Need.mk (show 0 ≤ p ∧ p < tn from ⟨hp0,hp1⟩) ?_
    conv => cbv
    refine Cell.at p _ hcx (by simp [I.val]) rfl ?_
    conv => cbv
    refine drawn_sound tok (by kernel_rfl) [(6,[0]),(7,[])] [0,1,2,3,4,5,6,7] (by kernel_rfl) ?_; conv => cbv
    refine Need.mk (show 0 ≤ x ∧ x < m by omega) ?_
    conv => cbv
    refine Sum.mk fun zz hz => ?_
    have hz : zz = x * 4 := hz
    conv => cbv
    refine Cell.mk _ (show cells[(zz + ((0 : Nat) : Int)).toNat]? = _ by rw [show (zz + ((0 : Nat) : Int)).toNat = 4 * j + 0 by omega]; exact q1) ?_
    conv => cbv
    refine Cell.mk _ (show cells[(zz + ((1 : Nat) : Int)).toNat]? = _ by rw [show (zz + ((1 : Nat) : Int)).toNat = 4 * j + 1 by omega]; exact q2) ?_
    conv => cbv
    refine Cell.mk _ (show cells[(zz + ((2 : Nat) : Int)).toNat]? = _ by rw [show (zz + ((2 : Nat) : Int)).toNat = 4 * j + 2 by omega]; exact q3) ?_
    conv => cbv
    refine Cell.mk _ (show cells[(zz + ((3 : Nat) : Int)).toNat]? = _ by rw [show (zz + ((3 : Nat) : Int)).toNat = 4 * j + 3 by omega]; exact q4) ?_
    conv => cbv
    refine CallF.le (args0 := [.agg [i6 gi,i6 gs,i6 gp,i6 r0,i6 r1,i6 r2,i6 r3,i6 r4,i6 r5,i6 gu],.agg [i6 kd,i6 ch,i6 rg,i6 tt]]) (callF_frame (chlook_lx gi gs gp r0 r1 r2 r3 r4 r5 gu kd ch rg tt hkd) [] rfl trivial rfl rfl (fun r h' n' ⟨⟨w,hw,hL⟩,e2,e3⟩ => ?_)) (by simp [ales,ale,pvle,I.val]; exact ⟨v0,v1,v2,v3⟩)
    subst e2 e3
    obtain ⟨bb,hbb⟩ : ∃ bb,bb = rd (kd,ch,rg,tt) := ⟨_,rfl⟩
    rcases hL.or with ⟨hk1,rfl⟩ | ⟨hk1,rfl⟩ | ⟨hk1,rfl⟩
    ·conv => cbv
     refine cfr (readyS_lx R ws C G N W ph sp cy L D Q z ov h o w bb (by rw [hw,hbb]; exact hS _ hmem hk1)) [(0,0),(1,1),(2,2),(3,3),(4,4),(5,5),(6,6),(7,7)] (fun r h' n' ⟨e1,e2,e3⟩ => ?_)
     subst e1 e2 e3
     cases bb with
     | true =>
      conv => cbv
      refine RetF.mk [i6 x] [hpA 0 1 5 6 3 W ph sp cy,hpB 1 2 4 3 W,hpC 2 3 233 2 N,hpP 3 L,hpP 4 D,hpF 5 z ov,hpP 6 Q,(7,.fix 0 o),hpP 8 cells] 9 (Re.at [(0,0),(1,1),(2,2),(3,3),(4,4),(5,5),(6,6),(7,7),(8,8)] []) rfl ⟨x,rfl,rfl,rfl,by rw [hxj]; exact Picked.this hcj hc3 hbb.symm⟩
     | false =>
      conv => cbv
      refine Fit.mk (by show (-9223372036854775808 : Int) ≤ k + 1; omega) (by show k + 1 ≤ 9223372036854775807; omega) fun k2 hk2 => ?_
      have hk2 : k2 = k + 1 := hk2
      conv => cbv
      refine Again.mk (tn - k2).toNat _ (by omega) (Re.at [(0,0),(1,1),(2,2),(3,3),(4,4),(5,5),(6,6),(7,7),(8,8),(9,9),(10,10)] []) ⟨k2,rfl,by omega,by omega,rfl,fun q y hq hy i c hyi hc => ?_⟩
      have hq : ((q : Nat) : Int) < k2 := hq
      by_cases e : (q : Int) = k
      ·have hy : tl[((s0 + ((q : Nat) : Int)) % tn).toNat]? = some y := hy
       rw [e,← hp,hx] at hy
       have hy := Option.some.inj hy
       have hyi : y = ((i : Nat) : Int) := hyi
       have hij : i = j := by omega
       rw [hij,hcj] at hc
       cases hc
       exact hbb.symm
      ·exact hno q y (show ((q : Nat) : Int) < k by omega) hy i c hyi hc
    ·conv => cbv
     refine cfr (readyT_lx R ws C G N W ph sp cy L D Q z ov h o w bb (by rw [hw,hbb]; exact hT _ hmem hk1)) [(0,0),(1,1),(2,2),(3,3),(4,4),(5,5),(6,6),(7,7)] (fun r h' n' ⟨e1,e2,e3⟩ => ?_)
     subst e1 e2 e3
     cases bb with
     | true =>
      conv => cbv
      refine RetF.mk [i6 x] [hpA 0 1 5 6 3 W ph sp cy,hpB 1 2 4 3 W,hpC 2 3 233 2 N,hpP 3 L,hpP 4 D,hpF 5 z ov,hpP 6 Q,(7,.fix 0 o),hpP 8 cells] 9 (Re.at [(0,0),(1,1),(2,2),(3,3),(4,4),(5,5),(6,6),(7,7),(8,8)] []) rfl ⟨x,rfl,rfl,rfl,by rw [hxj]; exact Picked.this hcj hc3 hbb.symm⟩
     | false =>
      conv => cbv
      refine Fit.mk (by show (-9223372036854775808 : Int) ≤ k + 1; omega) (by show k + 1 ≤ 9223372036854775807; omega) fun k2 hk2 => ?_
      have hk2 : k2 = k + 1 := hk2
      conv => cbv
      refine Again.mk (tn - k2).toNat _ (by omega) (Re.at [(0,0),(1,1),(2,2),(3,3),(4,4),(5,5),(6,6),(7,7),(8,8),(9,9),(10,10)] []) ⟨k2,rfl,by omega,by omega,rfl,fun q y hq hy i c hyi hc => ?_⟩
      have hq : ((q : Nat) : Int) < k2 := hq
      by_cases e : (q : Int) = k
      ·have hy : tl[((s0 + ((q : Nat) : Int)) % tn).toNat]? = some y := hy
       rw [e,← hp,hx] at hy
       have hy := Option.some.inj hy
       have hyi : y = ((i : Nat) : Int) := hyi
       have hij : i = j := by omega
       rw [hij,hcj] at hc
       cases hc
       exact hbb.symm
      ·exact hno q y (show ((q : Nat) : Int) < k by omega) hy i c hyi hc
    ·exact absurd hk1 hc3
   ·have gd : ¬ draw < 0 := gd
    conv => cbv
    refine Need.mk (show ¬ tn = 0 by omega) ?_
    conv => cbv
    refine Sum.mk fun s1 hs1 => ?_
    have hs1 : s1 = s0 := (show s1 = Int.tmod draw tn from hs1).trans (by rw [hs0,Int.tmod_eq_emod_of_nonneg (by omega),show max draw 0 = draw by omega])
    conv => cbv
    refine Fit.mk (by show (-9223372036854775808 : Int) ≤ s1 + k; omega) (by show s1 + k ≤ 9223372036854775807; omega) fun s2 hs2 => ?_
    have hs2 : s2 = s1 + k := hs2
    conv => cbv
    refine Need.mk (show ¬ tn = 0 by omega) ?_
    conv => cbv
    refine Sum.mk fun p hp => ?_
    have hp : p = (s0 + k) % tn := (show p = Int.tmod s2 tn from hp).trans (by rw [hs2,hs1,Int.tmod_eq_emod_of_nonneg (by omega)])
    have hp0 : 0 ≤ p := by rw [hp]; exact Int.emod_nonneg _ (by omega)
    have hp1 : p < tn := by rw [hp]; exact Int.emod_lt_of_pos _ (by omega)
    obtain ⟨x,hx⟩ : ∃ x,tl[p.toNat]? = some x := ⟨_,List.getElem?_eq_getElem (by omega)⟩
    have hcx : TL[p.toNat]? = some (.int .i64 (.sym x)) := by rw [hTL]; exact ipv_get hx
    obtain ⟨j,⟨kd,ch,rg,tt⟩,hxj,hcj,hc3⟩ := hSn.mem x (List.mem_of_getElem? hx)
    have hjl := (List.getElem?_eq_some_iff.1 hcj).1
    obtain ⟨f0,f1,f2,f3,q1,q2,q3,q4,v0,v1,v2,v3⟩ := hcel _ _ hcj
    have hkd := hk _ (List.mem_of_getElem? hcj)
    have hmem := List.mem_of_getElem? hcj
    conv => cbv
    refine Need.mk (show 0 ≤ p ∧ p < tn from ⟨hp0,hp1⟩) ?_
    conv => cbv
    refine Cell.at p _ hcx (by simp [I.val]) rfl ?_
    conv => cbv
    refine drawn_sound tok (by kernel_rfl) [(6,[0]),(7,[])] [0,1,2,3,4,5,6,7] (by kernel_rfl) ?_; conv => cbv
    refine Need.mk (show 0 ≤ x ∧ x < m by omega) ?_
    conv => cbv
    refine Sum.mk fun zz hz => ?_
    have hz : zz = x * 4 := hz
    conv => cbv
    refine Cell.mk _ (show cells[(zz + ((0 : Nat) : Int)).toNat]? = _ by rw [show (zz + ((0 : Nat) : Int)).toNat = 4 * j + 0 by omega]; exact q1) ?_
    conv => cbv
    refine Cell.mk _ (show cells[(zz + ((1 : Nat) : Int)).toNat]? = _ by rw [show (zz + ((1 : Nat) : Int)).toNat = 4 * j + 1 by omega]; exact q2) ?_
    conv => cbv
    refine Cell.mk _ (show cells[(zz + ((2 : Nat) : Int)).toNat]? = _ by rw [show (zz + ((2 : Nat) : Int)).toNat = 4 * j + 2 by omega]; exact q3) ?_
    conv => cbv
    refine Cell.mk _ (show cells[(zz + ((3 : Nat) : Int)).toNat]? = _ by rw [show (zz + ((3 : Nat) : Int)).toNat = 4 * j + 3 by omega]; exact q4) ?_
    conv => cbv
    refine CallF.le (args0 := [.agg [i6 gi,i6 gs,i6 gp,i6 r0,i6 r1,i6 r2,i6 r3,i6 r4,i6 r5,i6 gu],.agg [i6 kd,i6 ch,i6 rg,i6 tt]]) (callF_frame (chlook_lx gi gs gp r0 r1 r2 r3 r4 r5 gu kd ch rg tt hkd) [] rfl trivial rfl rfl (fun r h' n' ⟨⟨w,hw,hL⟩,e2,e3⟩ => ?_)) (by simp [ales,ale,pvle,I.val]; exact ⟨v0,v1,v2,v3⟩)
    subst e2 e3
    obtain ⟨bb,hbb⟩ : ∃ bb,bb = rd (kd,ch,rg,tt) := ⟨_,rfl⟩
    rcases hL.or with ⟨hk1,rfl⟩ | ⟨hk1,rfl⟩ | ⟨hk1,rfl⟩
    ·conv => cbv
     refine cfr (readyS_lx R ws C G N W ph sp cy L D Q z ov h o w bb (by rw [hw,hbb]; exact hS _ hmem hk1)) [(0,0),(1,1),(2,2),(3,3),(4,4),(5,5),(6,6),(7,7)] (fun r h' n' ⟨e1,e2,e3⟩ => ?_)
     subst e1 e2 e3
     cases bb with
     | true =>
      conv => cbv
      refine RetF.mk [i6 x] [hpA 0 1 5 6 3 W ph sp cy,hpB 1 2 4 3 W,hpC 2 3 233 2 N,hpP 3 L,hpP 4 D,hpF 5 z ov,hpP 6 Q,(7,.fix 0 o),hpP 8 cells] 9 (Re.at [(0,0),(1,1),(2,2),(3,3),(4,4),(5,5),(6,6),(7,7),(8,8)] []) rfl ⟨x,rfl,rfl,rfl,by rw [hxj]; exact Picked.this hcj hc3 hbb.symm⟩
     | false =>
      conv => cbv
      refine Fit.mk (by show (-9223372036854775808 : Int) ≤ k + 1; omega) (by show k + 1 ≤ 9223372036854775807; omega) fun k2 hk2 => ?_
      have hk2 : k2 = k + 1 := hk2
      conv => cbv
      refine Again.mk (tn - k2).toNat _ (by omega) (Re.at [(0,0),(1,1),(2,2),(3,3),(4,4),(5,5),(6,6),(7,7),(8,8),(9,9),(10,10)] []) ⟨k2,rfl,by omega,by omega,rfl,fun q y hq hy i c hyi hc => ?_⟩
      have hq : ((q : Nat) : Int) < k2 := hq
      by_cases e : (q : Int) = k
      ·have hy : tl[((s0 + ((q : Nat) : Int)) % tn).toNat]? = some y := hy
       rw [e,← hp,hx] at hy
       have hy := Option.some.inj hy
       have hyi : y = ((i : Nat) : Int) := hyi
       have hij : i = j := by omega
       rw [hij,hcj] at hc
       cases hc
       exact hbb.symm
      ·exact hno q y (show ((q : Nat) : Int) < k by omega) hy i c hyi hc
    ·conv => cbv
     refine cfr (readyT_lx R ws C G N W ph sp cy L D Q z ov h o w bb (by rw [hw,hbb]; exact hT _ hmem hk1)) [(0,0),(1,1),(2,2),(3,3),(4,4),(5,5),(6,6),(7,7)] (fun r h' n' ⟨e1,e2,e3⟩ => ?_)
     subst e1 e2 e3
     cases bb with
     | true =>
      conv => cbv
      refine RetF.mk [i6 x] [hpA 0 1 5 6 3 W ph sp cy,hpB 1 2 4 3 W,hpC 2 3 233 2 N,hpP 3 L,hpP 4 D,hpF 5 z ov,hpP 6 Q,(7,.fix 0 o),hpP 8 cells] 9 (Re.at [(0,0),(1,1),(2,2),(3,3),(4,4),(5,5),(6,6),(7,7),(8,8)] []) rfl ⟨x,rfl,rfl,rfl,by rw [hxj]; exact Picked.this hcj hc3 hbb.symm⟩
     | false =>
      conv => cbv
      refine Fit.mk (by show (-9223372036854775808 : Int) ≤ k + 1; omega) (by show k + 1 ≤ 9223372036854775807; omega) fun k2 hk2 => ?_
      have hk2 : k2 = k + 1 := hk2
      conv => cbv
      refine Again.mk (tn - k2).toNat _ (by omega) (Re.at [(0,0),(1,1),(2,2),(3,3),(4,4),(5,5),(6,6),(7,7),(8,8),(9,9),(10,10)] []) ⟨k2,rfl,by omega,by omega,rfl,fun q y hq hy i c hyi hc => ?_⟩
      have hq : ((q : Nat) : Int) < k2 := hq
      by_cases e : (q : Int) = k
      ·have hy : tl[((s0 + ((q : Nat) : Int)) % tn).toNat]? = some y := hy
       rw [e,← hp,hx] at hy
       have hy := Option.some.inj hy
       have hyi : y = ((i : Nat) : Int) := hyi
       have hij : i = j := by omega
       rw [hij,hcj] at hc
       cases hc
       exact hbb.symm
      ·exact hno q y (show ((q : Nat) : Int) < k by omega) hy i c hyi hc
    ·exact absurd hk1 hc3
  ·have glt : ¬ k < tn := glt
   have hpk : Picked l rd ow := hSn.done fun x hx j c hxj hc => by
    obtain ⟨p,hp⟩ := List.getElem?_of_mem hx
    have hpl := (List.getElem?_eq_some_iff.1 hp).1
    obtain ⟨q,hq1,hq2⟩ := turn_ex (s := s0) (m := tn) (by omega) (by rw [hs0]; exact Int.emod_nonneg _ (by omega)) p (by omega)
    exact hno q x (by omega) (by rw [hq2]; exact hp) j c hxj hc
   conv => cbv
   refine RetF.mk [i6 ow] [hpA 0 1 5 6 3 W ph sp cy,hpB 1 2 4 3 W,hpC 2 3 233 2 N,hpP 3 L,hpP 4 D,hpF 5 z ov,hpP 6 Q,(7,.fix 0 o),hpP 8 cells] 9 (Re.at [(0,0),(1,1),(2,2),(3,3),(4,4),(5,5),(6,6),(7,7),(8,8)] []) rfl ⟨ow,rfl,rfl,rfl,hpk⟩
def waitsTo (regs : List Int) (l : List Cas) : Nat → List Int
 | 0 => []
 | n + 1 => waitsTo regs l n ++ (match l[n]? with
  | some c => if c.1 ≠ 3 ∧ wordOf regs c.2.1 % 2 = 1 then [(n : Int)] else []
  | none => [])
theorem waitsTo_yes {regs : List Int} {l : List Cas} {n : Nat} {c : Cas} (hc : l[n]? = some c) (h : c.1 ≠ 3 ∧ wordOf regs c.2.1 % 2 = 1) : waitsTo regs l (n + 1) = waitsTo regs l n ++ [(n : Int)] := by
 rw [waitsTo,hc]; simp only; rw [if_pos h]
theorem waitsTo_no {regs : List Int} {l : List Cas} {n : Nat} {c : Cas} (hc : l[n]? = some c) (h : ¬ (c.1 ≠ 3 ∧ wordOf regs c.2.1 % 2 = 1)) : waitsTo regs l (n + 1) = waitsTo regs l n := by
 rw [waitsTo,hc]; simp only; rw [if_neg h,List.append_nil]
theorem waitsTo_len (regs : List Int) (l : List Cas) : ∀ n : Nat,(waitsTo regs l n).length ≤ n
 | 0 => Nat.le_refl _
 | n + 1 => by
  rw [waitsTo,List.length_append]
  have := waitsTo_len regs l n
  split
  ·split
   ·simp; omega
   ·simp; omega
  ·simp; omega
theorem chWaits_lx (gi gs gp r0 r1 r2 r3 r4 r5 gu m : Int) (l : List Cas) (cells : List PV) (hm : m = l.length) (hcel : CasAt cells l) (hlen : l.length ≤ 30) (hk : ∀ c ∈ l,c.1 = 1 ∨ c.1 = 2 ∨ c.1 = 3) (hwb : ∀ c : Int,-9223372036854775808 ≤ wordOf [r0,r1,r2,r3,r4,r5] c ∧ wordOf [r0,r1,r2,r3,r4,r5] c ≤ 9223372036854775807) :
  CallF (fun _ => Tryz.prog) 49 [.agg [i6 gi,i6 gs,i6 gp,i6 r0,i6 r1,i6 r2,i6 r3,i6 r4,i6 r5,i6 gu],.sl 0 85 4 (.lit 0) (.sym m)] [hpP 0 cells] 1 (fun r h n => ∃ (wn : Int) (wl : List Int) (WL : List PV),r = .sl 1 3 1 (.lit 0) (.sym wn) ∧ h = [hpP 0 cells,hpP 1 WL] ∧ n = 2 ∧ wn = wl.length ∧ WL = ipv wl ∧ wl = waitsTo [r0,r1,r2,r3,r4,r5] l l.length) := by
 refine callF_of_body tok Tryz.func49 (by kernel_rfl) rfl rfl rfl ?_; conv => cbv
 refine LoopF.mk (fun kk s => ∃ (i tn : Int) (tl : List Int) (TL : List PV),s = ⟨.agg [i6 gi,i6 gs,i6 gp,i6 r0,i6 r1,i6 r2,i6 r3,i6 r4,i6 r5,i6 gu] :: .sl 0 85 4 (.lit 0) (.sym m) :: .ptr 1 (.lit 0) :: (undefs 2 ++ .sl 2 3 1 (.lit 0) (.sym tn) :: (undefs 4 ++ .sl 0 85 4 (.lit 0) (.sym m) :: .p (.int .i64 (.sym m)) :: .p (.int .i64 (.sym i)) :: undefs 26)),[hpP 0 cells,(1,.pure false [.int .i64 (.sym gi),.int .i64 (.sym gs),.int .i64 (.sym gp),.int .i64 (.sym r0),.int .i64 (.sym r1),.int .i64 (.sym r2),.int .i64 (.sym r3),.int .i64 (.sym r4),.int .i64 (.sym r5),.int .i64 (.sym gu)]),hpP 2 TL],3⟩ ∧ 0 ≤ i ∧ i ≤ m ∧ kk = (m - i).toNat ∧ tn = tl.length ∧ TL = ipv tl ∧ tl = waitsTo [r0,r1,r2,r3,r4,r5] l i.toNat) m.toNat _
  (Re.at [(0,0),(1,1)] [2]) ⟨0,0,[],[],rfl,by omega,by omega,by omega,rfl,rfl,rfl⟩ ?_
 rintro kk s ⟨i,tn,tl,TL,rfl,hi0,hi1,hkk,htn,hTL,htl⟩
 have hkk : kk = (m - i).toNat := hkk
 conv => cbv
 refine Br.mk (fun glt => ?_) (fun glt => ?_)
 ·have glt : i < m := glt
  obtain ⟨⟨kd,ch,rg,tt⟩,hci⟩ : ∃ c,l[i.toNat]? = some c := ⟨_,List.getElem?_eq_getElem (by omega)⟩
  obtain ⟨f0,f1,f2,f3,q1,q2,q3,q4,v0,v1,v2,v3⟩ := hcel _ _ hci
  have hkd := hk _ (List.mem_of_getElem? hci)
  conv => cbv
  refine Need.mk (show 0 ≤ i ∧ i < m from ⟨hi0,glt⟩) ?_
  conv => cbv
  refine Sum.mk fun zz hz => ?_
  have hz : zz = i * 4 := hz
  conv => cbv
  refine Cell.mk _ (show cells[(zz + ((0 : Nat) : Int)).toNat]? = _ by rw [show (zz + ((0 : Nat) : Int)).toNat = 4 * i.toNat + 0 by omega]; exact q1) ?_
  conv => cbv
  refine Cell.mk _ (show cells[(zz + ((1 : Nat) : Int)).toNat]? = _ by rw [show (zz + ((1 : Nat) : Int)).toNat = 4 * i.toNat + 1 by omega]; exact q2) ?_
  conv => cbv
  refine Cell.mk _ (show cells[(zz + ((2 : Nat) : Int)).toNat]? = _ by rw [show (zz + ((2 : Nat) : Int)).toNat = 4 * i.toNat + 2 by omega]; exact q3) ?_
  conv => cbv
  refine Cell.mk _ (show cells[(zz + ((3 : Nat) : Int)).toNat]? = _ by rw [show (zz + ((3 : Nat) : Int)).toNat = 4 * i.toNat + 3 by omega]; exact q4) ?_
  conv => cbv
  refine CallF.le (args0 := [.agg [i6 gi,i6 gs,i6 gp,i6 r0,i6 r1,i6 r2,i6 r3,i6 r4,i6 r5,i6 gu],.agg [i6 kd,i6 ch,i6 rg,i6 tt]]) (callF_frame (chlook_lx gi gs gp r0 r1 r2 r3 r4 r5 gu kd ch rg tt hkd) [] rfl trivial rfl rfl (fun r h' n' ⟨⟨w,hw,hL⟩,e2,e3⟩ => ?_)) (by simp [ales,ale,pvle,I.val]; exact ⟨v0,v1,v2,v3⟩)
  subst e2 e3
  rcases hL.or with ⟨hk1,rfl⟩ | ⟨hk1,rfl⟩ | ⟨hk1,rfl⟩
  ·conv => cbv
   refine CallF.le (args0 := [.agg [i6 gi,i6 gs,i6 gp,i6 r0,i6 r1,i6 r2,i6 r3,i6 r4,i6 r5,i6 gu],i6 ch]) (callF_frame (word_lx gi gs gp r0 r1 r2 r3 r4 r5 gu ch) [] rfl trivial rfl rfl (fun r h' n' hrr => ?_)) (by simp [ales,ale,pvle,I.val]; exact v1)
   obtain ⟨⟨v,e1,hv⟩,e2,e3⟩ := hrr
   subst e1 e2 e3
   conv => cbv
   refine callF_frame (isPtr_lx v (by rw [hv]; exact hwb ch)) [] rfl trivial rfl rfl (fun r h' n' hrr => ?_)
   obtain ⟨bb,e1,e2,e3,hb⟩ := hrr
   subst e1 e2 e3
   cases bb with
   | true =>
    conv => cbv
    have hTl : (TL.length : Int) = tn := by rw [hTL,ipv_length]; exact htn.symm
    have hln : tl.length ≤ i.toNat := by rw [htl]; exact waitsTo_len _ _ _
    refine Room.new rfl ?_
    conv => cbv
    refine Room.new ⟨?_,?_,?_⟩ ?_
    ·show (TL.length : Int) = tn * 1; omega
    ·show (tn + 1) * 8 ≤ 140737488355328; omega
    ·show tn + 1 ≤ 9223372036854775807; omega
    conv => cbv
    refine Upd.mk fun TL2 hTL2 => ?_
    have hTL2 : TL2 = TL ++ [.int .i64 (.sym i)] := hTL2
    conv => cbv
    refine Sum.mk fun tn2 htn2 => ?_
    have htn2 : tn2 = tn + 1 := htn2
    conv => cbv
    refine Fit.mk (by show (-9223372036854775808 : Int) ≤ i + 1; omega) (by show i + 1 ≤ 9223372036854775807; omega) fun i2 hi2 => ?_
    have hi2 : i2 = i + 1 := hi2
    have hi3 : i2.toNat = i.toNat + 1 := by omega
    conv => cbv
    have htl2 : tl ++ [((i.toNat : Nat) : Int)] = waitsTo [r0,r1,r2,r3,r4,r5] l i2.toNat := by rw [hi3,waitsTo_yes hci ⟨(show kd ≠ 3 by omega),by rw [← hv]; exact hb.1 rfl⟩,htl]
    refine Again.mk (m - i2).toNat _ (by omega) (Re.at [(0,0),(1,1),(6,2)] []) ⟨i2,tn2,tl ++ [((i.toNat : Nat) : Int)],TL2,rfl,by omega,by omega,rfl,by rw [List.length_append,List.length_singleton,htn2,htn]; push_cast; rfl,by rw [hTL2,hTL,← ipv_app,show ((i.toNat : Nat) : Int) = i by omega]; rfl,htl2⟩
   | false =>
    conv => cbv
    refine Fit.mk (by show (-9223372036854775808 : Int) ≤ i + 1; omega) (by show i + 1 ≤ 9223372036854775807; omega) fun i2 hi2 => ?_
    have hi2 : i2 = i + 1 := hi2
    have hi3 : i2.toNat = i.toNat + 1 := by omega
    conv => cbv
    have htl2 : tl = waitsTo [r0,r1,r2,r3,r4,r5] l i2.toNat := by rw [hi3,waitsTo_no hci (fun q => (by have := hb.2 (by rw [hv]; exact q.2); cases this))]; exact htl
    refine Again.mk (m - i2).toNat _ (by omega) (Re.at [(0,0),(1,1),(2,2)] []) ⟨i2,tn,tl,TL,rfl,by omega,by omega,rfl,htn,hTL,htl2⟩
  ·conv => cbv
   refine CallF.le (args0 := [.agg [i6 gi,i6 gs,i6 gp,i6 r0,i6 r1,i6 r2,i6 r3,i6 r4,i6 r5,i6 gu],i6 ch]) (callF_frame (word_lx gi gs gp r0 r1 r2 r3 r4 r5 gu ch) [] rfl trivial rfl rfl (fun r h' n' hrr => ?_)) (by simp [ales,ale,pvle,I.val]; exact v1)
   obtain ⟨⟨v,e1,hv⟩,e2,e3⟩ := hrr
   subst e1 e2 e3
   conv => cbv
   refine callF_frame (isPtr_lx v (by rw [hv]; exact hwb ch)) [] rfl trivial rfl rfl (fun r h' n' hrr => ?_)
   obtain ⟨bb,e1,e2,e3,hb⟩ := hrr
   subst e1 e2 e3
   cases bb with
   | true =>
    conv => cbv
    have hTl : (TL.length : Int) = tn := by rw [hTL,ipv_length]; exact htn.symm
    have hln : tl.length ≤ i.toNat := by rw [htl]; exact waitsTo_len _ _ _
    refine Room.new rfl ?_
    conv => cbv
    refine Room.new ⟨?_,?_,?_⟩ ?_
    ·show (TL.length : Int) = tn * 1; omega
    ·show (tn + 1) * 8 ≤ 140737488355328; omega
    ·show tn + 1 ≤ 9223372036854775807; omega
    conv => cbv
    refine Upd.mk fun TL2 hTL2 => ?_
    have hTL2 : TL2 = TL ++ [.int .i64 (.sym i)] := hTL2
    conv => cbv
    refine Sum.mk fun tn2 htn2 => ?_
    have htn2 : tn2 = tn + 1 := htn2
    conv => cbv
    refine Fit.mk (by show (-9223372036854775808 : Int) ≤ i + 1; omega) (by show i + 1 ≤ 9223372036854775807; omega) fun i2 hi2 => ?_
    have hi2 : i2 = i + 1 := hi2
    have hi3 : i2.toNat = i.toNat + 1 := by omega
    conv => cbv
    have htl2 : tl ++ [((i.toNat : Nat) : Int)] = waitsTo [r0,r1,r2,r3,r4,r5] l i2.toNat := by rw [hi3,waitsTo_yes hci ⟨(show kd ≠ 3 by omega),by rw [← hv]; exact hb.1 rfl⟩,htl]
    refine Again.mk (m - i2).toNat _ (by omega) (Re.at [(0,0),(1,1),(6,2)] []) ⟨i2,tn2,tl ++ [((i.toNat : Nat) : Int)],TL2,rfl,by omega,by omega,rfl,by rw [List.length_append,List.length_singleton,htn2,htn]; push_cast; rfl,by rw [hTL2,hTL,← ipv_app,show ((i.toNat : Nat) : Int) = i by omega]; rfl,htl2⟩
   | false =>
    conv => cbv
    refine Fit.mk (by show (-9223372036854775808 : Int) ≤ i + 1; omega) (by show i + 1 ≤ 9223372036854775807; omega) fun i2 hi2 => ?_
    have hi2 : i2 = i + 1 := hi2
    have hi3 : i2.toNat = i.toNat + 1 := by omega
    conv => cbv
    have htl2 : tl = waitsTo [r0,r1,r2,r3,r4,r5] l i2.toNat := by rw [hi3,waitsTo_no hci (fun q => (by have := hb.2 (by rw [hv]; exact q.2); cases this))]; exact htl
    refine Again.mk (m - i2).toNat _ (by omega) (Re.at [(0,0),(1,1),(2,2)] []) ⟨i2,tn,tl,TL,rfl,by omega,by omega,rfl,htn,hTL,htl2⟩
  ·conv => cbv
   refine Fit.mk (by show (-9223372036854775808 : Int) ≤ i + 1; omega) (by show i + 1 ≤ 9223372036854775807; omega) fun i2 hi2 => ?_
   have hi2 : i2 = i + 1 := hi2
   have hi3 : i2.toNat = i.toNat + 1 := by omega
   conv => cbv
   have htl2 : tl = waitsTo [r0,r1,r2,r3,r4,r5] l i2.toNat := by rw [hi3,waitsTo_no hci (fun q => q.1 hk1)]; exact htl
   refine Again.mk (m - i2).toNat _ (by omega) (Re.at [(0,0),(1,1),(2,2)] []) ⟨i2,tn,tl,TL,rfl,by omega,by omega,rfl,htn,hTL,htl2⟩
 ·have glt : ¬ i < m := glt
  conv => cbv
  refine RetF.mk [.sl 1 3 1 (.lit 0) (.sym tn)] [hpP 0 cells,hpP 1 TL] 2 (Re.at [(0,0),(2,1)] []) rfl ⟨tn,tl,TL,rfl,rfl,rfl,htn,hTL,by rw [htl,show i.toNat = l.length by omega]⟩
theorem pickA_lx (R : List Rw) (ws C G : List Int) (N W ph sp cy : Int) (L D Q : List PV) (z : ByteArray) (ov : Bool) (h : HM R ws C G N W L D Q z) (M : Hp) (hM : Cont R ws M) (q : Qs) (hY : Sys M q) (o : Unit → Obj) (w1 a b : Int) (hw1 : (-9223372036854775808 ≤ w1 ∧ w1 ≤ 9223372036854775807)) (h0 : w1 ≠ 0) (ha : atW w1 = a) (hMa : M a = some (1,[1,0,0,0,b,-1,-1,-1,-1])) (hMb : M b = some (2,[0])) (hq : ∀ d,q a d = []) : CallF (fun _ => Tryz.prog) 48 [.ptr 0 (.lit 0),.agg [.p (.int .i64 (.lit 0)),.p (.int .i64 (.lit 0)),.p (.int .i64 (.lit 0)),.p (.int .i64 (.lit 0)),i6 w1,.p (.int .i64 (.lit 0)),.p (.int .i64 (.lit 0)),.p (.int .i64 (.lit 0)),.p (.int .i64 (.lit 0)),.p (.int .i64 (.lit 0))],.sl 8 85 4 (.lit 0) (.lit 3),.p (.int .i64 (.lit 0))] [hpA 0 1 5 6 3 W ph sp cy,hpB 1 2 4 3 W,hpC 2 3 233 2 N,hpP 3 L,hpP 4 D,hpF 5 z ov,hpP 6 Q,(7,.fix 0 o),(8,.pure false [.int .i64 (.lit 2),.int .i64 (.lit 1),.int .i64 (.lit 0),.int .i64 (.lit 0),.int .i64 (.lit 1),.int .i64 (.lit 1),.int .i64 (.lit 0),.int .i64 (.lit 0),.int .i64 (.lit 3),.int .i64 (.lit 0),.int .i64 (.lit 0),.int .i64 (.lit 0)])] 9 (fun r h n => r = .p (.int .i64 (.sym 1)) ∧ h = [hpA 0 1 5 6 3 W ph sp cy,hpB 1 2 4 3 W,hpC 2 3 233 2 N,hpP 3 L,hpP 4 D,hpF 5 z ov,hpP 6 Q,(7,.fix 0 o),(8,.pure false [.int .i64 (.lit 2),.int .i64 (.lit 1),.int .i64 (.lit 0),.int .i64 (.lit 0),.int .i64 (.lit 1),.int .i64 (.lit 1),.int .i64 (.lit 0),.int .i64 (.lit 0),.int .i64 (.lit 3),.int .i64 (.lit 0),.int .i64 (.lit 0),.int .i64 (.lit 0)])] ∧ n = 9) := by
 obtain ⟨CL,hCL⟩ : ∃ CL,CL = casPV [(2,1,0,0),(1,1,0,0),(3,0,0,0)] := ⟨_,rfl⟩
 have hle : pvles [.int .i64 (.lit 2),.int .i64 (.lit 1),.int .i64 (.lit 0),.int .i64 (.lit 0),.int .i64 (.lit 1),.int .i64 (.lit 1),.int .i64 (.lit 0),.int .i64 (.lit 0),.int .i64 (.lit 3),.int .i64 (.lit 0),.int .i64 (.lit 0),.int .i64 (.lit 0)] CL := by rw [hCL]; simp [casPV,pvles,pvle,I.val]
 have hle2 : pvles CL [.int .i64 (.lit 2),.int .i64 (.lit 1),.int .i64 (.lit 0),.int .i64 (.lit 0),.int .i64 (.lit 1),.int .i64 (.lit 1),.int .i64 (.lit 0),.int .i64 (.lit 0),.int .i64 (.lit 3),.int .i64 (.lit 0),.int .i64 (.lit 0),.int .i64 (.lit 0)] := by rw [hCL]; simp [casPV,pvles,pvle,I.val]
 unfold pvles at hle hle2
 have hw : wordOf [0,w1,0,0,0,0] 1 = w1 := rfl
 refine CallF.ret (CallF.re (args0 := [.ptr 0 (.lit 0),.agg [i6 0,i6 0,i6 0,i6 0,i6 w1,i6 0,i6 0,i6 0,i6 0,i6 0],.sl 8 85 4 (.lit 0) (.sym 3),i6 0]) (h' := [hpA 0 1 5 6 3 W ph sp cy,hpB 1 2 4 3 W,hpC 2 3 233 2 N,hpP 3 L,hpP 4 D,hpF 5 z ov,hpP 6 Q,(7,.fix 0 o),hpP 8 CL]) (Re.at [(0,0),(1,1),(2,2),(3,3),(4,4),(5,5),(6,6),(7,7),(8,8)] []) (chPick_lx R ws C G N W ph sp cy L D Q z ov h o 0 0 0 0 w1 0 0 0 0 0 0 3 [(2,1,0,0),(1,1,0,0),(3,0,0,0)] CL rfl (by rw [hCL]; exact CasAt.of _) (by decide) (by decide) (fun c => decide (c.1 = 1)) (fun c hc h1 => ?_) (fun c hc h1 => ?_))) (fun r h' n' hrr => ?_)
 ·have hcw : c.2.1 = 1 := by
   simp only [List.mem_cons,List.not_mem_nil,or_false] at hc
   rcases hc with e | e | e <;> subst e <;> first | rfl | (exact absurd h1 (by decide))
  rw [hcw,hw,show decide (c.1 = 1) = true from decide_eq_true h1]
  exact sendRRoom_lx R ws C G N W ph sp cy L D Q z ov h M hM q hY o w1 hw1 h0 a 1 0 0 0 b (-1) (-1) (-1) (-1) ha hMa rfl (hq _) (by decide) [0] hMb rfl
 ·have hcw : c.2.1 = 1 := by
   simp only [List.mem_cons,List.not_mem_nil,or_false] at hc
   rcases hc with e | e | e <;> subst e <;> first | rfl | (exact absurd h1 (by decide))
  rw [hcw,hw,show decide (c.1 = 1) = false from decide_eq_false (by omega)]
  exact takeRNone_lx R ws C G N W ph sp cy L D Q z ov h M hM q hY o w1 hw1 h0 a 1 0 0 0 b (-1) (-1) (-1) (-1) ha hMa rfl (hq _) (by decide) (by decide) [0] hMb rfl
 ·obtain ⟨p,e1,e2,e3,hp⟩ := hrr
  subst e1 e2 e3
  obtain rfl : p = 1 := by
   refine hp.one 1 (1,1,0,0) rfl (by decide) (by decide) (fun i d hd _ hr => ?_)
   match i,hd with
   | 0,e => cases e; exact absurd hr (by decide)
   | 1,e => rfl
   | 2,e => cases e; exact absurd hr (by decide)
   | _ + 3,e => cases e
  exact RetF.mk [i6 (1)] [hpA 0 1 5 6 3 W ph sp cy,hpB 1 2 4 3 W,hpC 2 3 233 2 N,hpP 3 L,hpP 4 D,hpF 5 z ov,hpP 6 Q,(7,.fix 0 o),(8,.pure false [.int .i64 (.lit 2),.int .i64 (.lit 1),.int .i64 (.lit 0),.int .i64 (.lit 0),.int .i64 (.lit 1),.int .i64 (.lit 1),.int .i64 (.lit 0),.int .i64 (.lit 0),.int .i64 (.lit 3),.int .i64 (.lit 0),.int .i64 (.lit 0),.int .i64 (.lit 0)])] 9 (Re.at [(0,0),(1,1),(2,2),(3,3),(4,4),(5,5),(6,6),(7,7),(8,8)] []) rfl ⟨rfl,rfl,rfl⟩
theorem pickB_lx (R : List Rw) (ws C G : List Int) (N W ph sp cy : Int) (L D Q : List PV) (z : ByteArray) (ov : Bool) (h : HM R ws C G N W L D Q z) (M : Hp) (hM : Cont R ws M) (q : Qs) (hY : Sys M q) (o : Unit → Obj) (w1 a b : Int) (hw1 : (-9223372036854775808 ≤ w1 ∧ w1 ≤ 9223372036854775807)) (h0 : w1 ≠ 0) (ha : atW w1 = a) (hMa : M a = some (1,[1,0,0,0,b,-1,-1,-1,-1])) (hMb : M b = some (2,[0])) (hq : ∀ d,q a d = []) : CallF (fun _ => Tryz.prog) 48 [.ptr 0 (.lit 0),.agg [.p (.int .i64 (.lit 0)),.p (.int .i64 (.lit 0)),.p (.int .i64 (.lit 0)),.p (.int .i64 (.lit 0)),i6 w1,.p (.int .i64 (.lit 0)),.p (.int .i64 (.lit 0)),.p (.int .i64 (.lit 0)),.p (.int .i64 (.lit 0)),.p (.int .i64 (.lit 0))],.sl 8 85 4 (.lit 0) (.lit 1),.p (.int .i64 (.lit 0))] [hpA 0 1 5 6 3 W ph sp cy,hpB 1 2 4 3 W,hpC 2 3 233 2 N,hpP 3 L,hpP 4 D,hpF 5 z ov,hpP 6 Q,(7,.fix 0 o),(8,.pure false [.int .i64 (.lit 2),.int .i64 (.lit 1),.int .i64 (.lit 0),.int .i64 (.lit 0),.int .i64 (.lit 1),.int .i64 (.lit 1),.int .i64 (.lit 0),.int .i64 (.lit 0),.int .i64 (.lit 3),.int .i64 (.lit 0),.int .i64 (.lit 0),.int .i64 (.lit 0)])] 9 (fun r h n => r = .p (.int .i64 (.sym (-1))) ∧ h = [hpA 0 1 5 6 3 W ph sp cy,hpB 1 2 4 3 W,hpC 2 3 233 2 N,hpP 3 L,hpP 4 D,hpF 5 z ov,hpP 6 Q,(7,.fix 0 o),(8,.pure false [.int .i64 (.lit 2),.int .i64 (.lit 1),.int .i64 (.lit 0),.int .i64 (.lit 0),.int .i64 (.lit 1),.int .i64 (.lit 1),.int .i64 (.lit 0),.int .i64 (.lit 0),.int .i64 (.lit 3),.int .i64 (.lit 0),.int .i64 (.lit 0),.int .i64 (.lit 0)])] ∧ n = 9) := by
 obtain ⟨CL,hCL⟩ : ∃ CL,CL = casPV [(2,1,0,0),(1,1,0,0),(3,0,0,0)] := ⟨_,rfl⟩
 have hle : pvles [.int .i64 (.lit 2),.int .i64 (.lit 1),.int .i64 (.lit 0),.int .i64 (.lit 0),.int .i64 (.lit 1),.int .i64 (.lit 1),.int .i64 (.lit 0),.int .i64 (.lit 0),.int .i64 (.lit 3),.int .i64 (.lit 0),.int .i64 (.lit 0),.int .i64 (.lit 0)] CL := by rw [hCL]; simp [casPV,pvles,pvle,I.val]
 have hle2 : pvles CL [.int .i64 (.lit 2),.int .i64 (.lit 1),.int .i64 (.lit 0),.int .i64 (.lit 0),.int .i64 (.lit 1),.int .i64 (.lit 1),.int .i64 (.lit 0),.int .i64 (.lit 0),.int .i64 (.lit 3),.int .i64 (.lit 0),.int .i64 (.lit 0),.int .i64 (.lit 0)] := by rw [hCL]; simp [casPV,pvles,pvle,I.val]
 unfold pvles at hle hle2
 have hw : wordOf [0,w1,0,0,0,0] 1 = w1 := rfl
 refine CallF.ret (CallF.re (args0 := [.ptr 0 (.lit 0),.agg [i6 0,i6 0,i6 0,i6 0,i6 w1,i6 0,i6 0,i6 0,i6 0,i6 0],.sl 8 85 4 (.lit 0) (.sym 1),i6 0]) (h' := [hpA 0 1 5 6 3 W ph sp cy,hpB 1 2 4 3 W,hpC 2 3 233 2 N,hpP 3 L,hpP 4 D,hpF 5 z ov,hpP 6 Q,(7,.fix 0 o),hpP 8 CL]) (Re.at [(0,0),(1,1),(2,2),(3,3),(4,4),(5,5),(6,6),(7,7),(8,8)] []) (chPick_lx R ws C G N W ph sp cy L D Q z ov h o 0 0 0 0 w1 0 0 0 0 0 0 1 [(2,1,0,0)] CL rfl (by rw [hCL]; exact (fun i c h => by
  match i,h with
  | 0,h => cases h; exact ⟨_,_,_,_,rfl,rfl,rfl,rfl,rfl,rfl,rfl,rfl⟩
  | _ + 1,h => cases h)) (by decide) (by decide) (fun c => decide (c.1 = 1)) (fun c hc h1 => ?_) (fun c hc h1 => ?_))) (fun r h' n' hrr => ?_)
 ·have hcw : c.2.1 = 1 := by
   simp only [List.mem_cons,List.not_mem_nil,or_false] at hc
   subst hc; rfl
  rw [hcw,hw,show decide (c.1 = 1) = true from decide_eq_true h1]
  exact sendRRoom_lx R ws C G N W ph sp cy L D Q z ov h M hM q hY o w1 hw1 h0 a 1 0 0 0 b (-1) (-1) (-1) (-1) ha hMa rfl (hq _) (by decide) [0] hMb rfl
 ·have hcw : c.2.1 = 1 := by
   simp only [List.mem_cons,List.not_mem_nil,or_false] at hc
   subst hc; rfl
  rw [hcw,hw,show decide (c.1 = 1) = false from decide_eq_false (by omega)]
  exact takeRNone_lx R ws C G N W ph sp cy L D Q z ov h M hM q hY o w1 hw1 h0 a 1 0 0 0 b (-1) (-1) (-1) (-1) ha hMa rfl (hq _) (by decide) (by decide) [0] hMb rfl
 ·obtain ⟨p,e1,e2,e3,hp⟩ := hrr
  subst e1 e2 e3
  obtain rfl : p = (-1) := by
   rcases hp.none (fun c hc _ => by simp at hc; subst hc; decide) with ⟨e,_⟩ | ⟨j,c,_,hj,h3,_⟩
   ·exact e
   ·match j,hj with
    | 0,e => cases e; exact absurd h3 (by decide)
    | _ + 1,e => cases e
  exact RetF.mk [i6 ((-1))] [hpA 0 1 5 6 3 W ph sp cy,hpB 1 2 4 3 W,hpC 2 3 233 2 N,hpP 3 L,hpP 4 D,hpF 5 z ov,hpP 6 Q,(7,.fix 0 o),(8,.pure false [.int .i64 (.lit 2),.int .i64 (.lit 1),.int .i64 (.lit 0),.int .i64 (.lit 0),.int .i64 (.lit 1),.int .i64 (.lit 1),.int .i64 (.lit 0),.int .i64 (.lit 0),.int .i64 (.lit 3),.int .i64 (.lit 0),.int .i64 (.lit 0),.int .i64 (.lit 0)])] 9 (Re.at [(0,0),(1,1),(2,2),(3,3),(4,4),(5,5),(6,6),(7,7),(8,8)] []) rfl ⟨rfl,rfl,rfl⟩
theorem waitsA_lx (w1 : Int) (hw1 : (-9223372036854775808 ≤ w1 ∧ w1 ≤ 9223372036854775807)) (hodd : w1 % 2 = 1) : CallF (fun _ => Tryz.prog) 49 [.agg [.p (.int .i64 (.lit 0)),.p (.int .i64 (.lit 0)),.p (.int .i64 (.lit 0)),.p (.int .i64 (.lit 0)),i6 w1,.p (.int .i64 (.lit 0)),.p (.int .i64 (.lit 0)),.p (.int .i64 (.lit 0)),.p (.int .i64 (.lit 0)),.p (.int .i64 (.lit 0))],.sl 0 85 4 (.lit 0) (.lit 3)] [(0,.pure false [.int .i64 (.lit 2),.int .i64 (.lit 1),.int .i64 (.lit 0),.int .i64 (.lit 0),.int .i64 (.lit 1),.int .i64 (.lit 1),.int .i64 (.lit 0),.int .i64 (.lit 0),.int .i64 (.lit 3),.int .i64 (.lit 0),.int .i64 (.lit 0),.int .i64 (.lit 0)])] 1 (fun r h n => r = .p (.vsl (.sym 2) true [.int .i64 (.sym 0),.int .i64 (.sym 1)]) ∧ h = [(0,.pure false [.int .i64 (.lit 2),.int .i64 (.lit 1),.int .i64 (.lit 0),.int .i64 (.lit 0),.int .i64 (.lit 1),.int .i64 (.lit 1),.int .i64 (.lit 0),.int .i64 (.lit 0),.int .i64 (.lit 3),.int .i64 (.lit 0),.int .i64 (.lit 0),.int .i64 (.lit 0)])] ∧ n = 1) := by
 obtain ⟨CL,hCL⟩ : ∃ CL,CL = casPV [(2,1,0,0),(1,1,0,0),(3,0,0,0)] := ⟨_,rfl⟩
 have hle : pvles [.int .i64 (.lit 2),.int .i64 (.lit 1),.int .i64 (.lit 0),.int .i64 (.lit 0),.int .i64 (.lit 1),.int .i64 (.lit 1),.int .i64 (.lit 0),.int .i64 (.lit 0),.int .i64 (.lit 3),.int .i64 (.lit 0),.int .i64 (.lit 0),.int .i64 (.lit 0)] CL := by rw [hCL]; simp [casPV,pvles,pvle,I.val]
 have hle2 : pvles CL [.int .i64 (.lit 2),.int .i64 (.lit 1),.int .i64 (.lit 0),.int .i64 (.lit 0),.int .i64 (.lit 1),.int .i64 (.lit 1),.int .i64 (.lit 0),.int .i64 (.lit 0),.int .i64 (.lit 3),.int .i64 (.lit 0),.int .i64 (.lit 0),.int .i64 (.lit 0)] := by rw [hCL]; simp [casPV,pvles,pvle,I.val]
 unfold pvles at hle hle2
 refine CallF.ret (CallF.re (args0 := [.agg [i6 0,i6 0,i6 0,i6 0,i6 w1,i6 0,i6 0,i6 0,i6 0,i6 0],.sl 0 85 4 (.lit 0) (.sym 3)]) (h' := [hpP 0 CL]) (Re.at [(0,0)] []) (chWaits_lx 0 0 0 0 w1 0 0 0 0 0 3 [(2,1,0,0),(1,1,0,0),(3,0,0,0)] CL rfl (by rw [hCL]; exact CasAt.of _) (by decide) (by decide) (fun c => ?_))) (fun r h' n' hrr => ?_)
 ·unfold wordOf
  split
  ·rename_i hc
   rcases (by omega : c = 0 ∨ c = 1 ∨ c = 2 ∨ c = 3 ∨ c = 4 ∨ c = 5) with e | e | e | e | e | e <;> subst e <;> first | exact hw1 | (exact (by decide : (-9223372036854775808 : Int) ≤ 0 ∧ (0 : Int) ≤ 9223372036854775807))
  ·decide
 ·obtain ⟨wn,wl,WL,e1,e2,e3,hwn,hWL,hwl⟩ := hrr
  subst e1 e2 e3
  have hw : wordOf [0,w1,0,0,0,0] 1 = w1 := rfl
  have hwl2 : wl = [0,1] := by
   rw [hwl]
   show waitsTo _ _ 3 = _
   rw [waitsTo_no (c := (3,0,0,0)) rfl (fun q => q.1 rfl),waitsTo_yes (c := (1,1,0,0)) rfl ⟨(by decide),by rw [hw]; exact hodd⟩,waitsTo_yes (c := (2,1,0,0)) rfl ⟨(by decide),by rw [hw]; exact hodd⟩]
   rfl
  have hWL2 : WL = [.int .i64 (.sym 0),.int .i64 (.sym 1)] := by rw [hWL,hwl2]; rfl
  have hwn2 : wn = 2 := by rw [hwn,hwl2]; rfl
  clear hwn hWL
  subst hwn2 hWL2
  exact RetF.mk [.p (.vsl (.sym 2) true [.int .i64 (.sym 0),.int .i64 (.sym 1)])] [(0,.pure false [.int .i64 (.lit 2),.int .i64 (.lit 1),.int .i64 (.lit 0),.int .i64 (.lit 0),.int .i64 (.lit 1),.int .i64 (.lit 1),.int .i64 (.lit 0),.int .i64 (.lit 0),.int .i64 (.lit 3),.int .i64 (.lit 0),.int .i64 (.lit 0),.int .i64 (.lit 0)])] 1 (Re.at [(0,0)] []) rfl ⟨rfl,rfl,rfl⟩
theorem awake18_lx (o : Unit → Obj) (ho : IsPow o) : CallF (fun _ => Tryz.prog) 45 [] [(0,.fix 0 o)] 1 (fun r h n => r = .p (.bool true) ∧ h = [(0,.fix 0 o)] ∧ n = 1) := by
 refine callF_of_body tok Tryz.func45 (by kernel_rfl) rfl rfl rfl ?_; conv => cbv
 refine CallF.re (args0 := [.p (.vsl (.sym 1) true [.int .i64 (.sym 1)]),i6 1]) (h' := [(0,.fix 0 o)]) (Re.at [(0,0)] []) (cfr (made18_lx o ho [1] 1 1 [.int .i64 (.sym 1)] rfl rfl) [(0,0)] (fun r h' n' hrr => ?_))
 obtain ⟨N,W,C,R,ws,vs,L,D,Q,z,P,B,V,Qr,M,CS,GS,chs,bufs,grs,nc,ng,e1,e2,e3,S,hB,hY,hcs,hgs,hnc,hng,hnm,hn1,hn4,hngo,hcnt,hR,hW⟩ := hrr
 subst e1 e2 e3
 conv => cbv
 have hnc1 : nc = 1 := by omega
 obtain ⟨c,hcc⟩ := chA1 hnc hnc1
 have hc0 : chs[0]? = some c := by rw [hcc]; rfl
 obtain ⟨b,hb0,hBC⟩ := hB.ch 0 c 1 hc0 rfl
 have hMc := hBC.c
 rw [capS (by decide)] at hMc
 have hcl := S.c.len S.h.a hMc
 have hcw : atW (2 * c + 1) = c := atW_ptr c
 have hngb := ngor_bd 1
 have hMb : M b = some (2,[0]) := by
  rcases hBC.b with q | ⟨_,_,q⟩
  ·rw [capS (by decide)] at q; omega
  ·rw [capS (by decide)] at q; exact q
 have hh := S.h
 have hc := S.c
 refine CallF.le (args0 := [.ptr 17 (.lit 0),i6 0]) (cfr (ch18_lx R ws vs C N W 0 0 0 L D Q z false P B V Qr [] 0 M nc ng CS GS o 0 chs hcs hnc (by omega) (by omega)) [(0,2),(1,3),(2,4),(3,5),(4,6),(5,7),(6,8),(7,9),(8,10),(9,11),(10,12),(11,13),(12,14),(13,15),(14,16),(15,0),(16,17),(17,18),(18,19)] (fun r h' n' hrr => ?_)) (by simp [ales,ale,pvle,I.val])
 obtain ⟨⟨x1,e1,hx1⟩,e2,e3⟩ := hrr
 subst e1 e2 e3
 conv => cbv
 obtain rfl : c = x1 := (ix0 hx1 hc0).symm
 refine Fit.mk (by show (-9223372036854775808 : Int) ≤ 2 * c; omega) (by show 2 * c ≤ 9223372036854775807; omega) fun a1 ha1 => ?_
 have ha1 : a1 = 2 * c := ha1
 conv => cbv
 refine Fit.mk (by show (-9223372036854775808 : Int) ≤ a1 + 1; omega) (by show a1 + 1 ≤ 9223372036854775807; omega) fun w1 hw1 => ?_
 have hw1 : w1 = a1 + 1 := hw1
 conv => cbv
 refine Need.mk (show (0 : Int) ≤ 1 ∧ (1 : Int) < 6 by omega) ?_
 conv => cbv
 refine readF_sound tok (by kernel_rfl) [0,2,3,4,5,6,7,8,9,10,11,12,13,14,15,16,17,18,19,20,21] [6,16,22] [(23,[22,21,20]),(24,[])] [0,1,2,3,4,5,6,7,8,9,10,11,12,13,14,15,16,17,18,19,20,21,22,23,24,25,26] (by kernel_rfl) ?_
 conv => cbv
 refine ReadF.mk (.p (.int .i64 (.sym 1))) (fun h' n' hbR hnR => callF_read (pickA_lx R ws C [] N W 0 0 0 L D Q z false hh M hc (fun _ _ => []) hY o w1 c b (by omega) (by omega) (by rw [show w1 = 2 * c + 1 by omega]; exact hcw) hMc hMb (fun _ => rfl)) [(0,2),(1,3),(2,4),(3,5),(4,6),(5,7),(6,8),(7,0),(8,21)] (by simp [fok,nget,nback]; omega) (by simp [hmapOk,nget,hbR,hget,renB,okB,renV,renVs,rn,okVs,okV]) rfl rfl rfl rfl) ?_
 conv => cbv
 refine Br.yes (show (1 : Int) = 1 from rfl) ?_
 conv => cbv
 refine Need.mk ⟨(show (0 : Int) ≤ 1 by decide),.inl (show (1 : Int) ≤ 3 by decide)⟩ ?_
 conv => cbv
 refine ReadF.mk (.p (.int .i64 (.sym (-1)))) (fun h' n' hbR hnR => callF_read (pickB_lx R ws C [] N W 0 0 0 L D Q z false hh M hc (fun _ _ => []) hY o w1 c b (by omega) (by omega) (by rw [show w1 = 2 * c + 1 by omega]; exact hcw) hMc hMb (fun _ => rfl)) [(0,2),(1,3),(2,4),(3,5),(4,6),(5,7),(6,8),(7,0),(8,21)] (by simp [fok,nget,nback]; omega) (by simp [hmapOk,nget,hbR,hget,renB,okB,renV,renVs,rn,okVs,okV]) rfl rfl rfl rfl) ?_
 conv => cbv
 refine Br.yes (show (-1 : Int) = -1 from rfl) ?_
 conv => cbv
 refine ReadF.mk (.p (.vsl (.sym 2) true [.int .i64 (.sym 0),.int .i64 (.sym 1)])) (fun h' n' hbR hnR => callF_read (waitsA_lx w1 (by omega) (by omega)) [(0,21)] (by simp [fok,nget,nback]; omega) (by simp [hmapOk,nget,hbR,hget,renB,okB,renV,renVs,rn,okVs,okV]) rfl rfl rfl rfl) ?_
 conv => cbv
 refine callF_lend (plainE_true [0,1] 2 [.int .i64 (.sym 0),.int .i64 (.sym 1)] [.int .i64 (.sym 0),.int .i64 (.sym 1)] rfl rfl rfl (by decide)) (by
  simp only [lends,lendV,hget,I.val]
  exact ⟨by simp [pvle,I.val],⟨rfl,_,_,rfl,.inr ⟨_,List.prefix_refl _,by simp [pvles,pvle,I.val]⟩⟩,trivial⟩) (fun r h' n' ⟨e1,e2,e3⟩ => by subst e1 e2; exact ⟨trivial,trivial⟩) (fun r h' n' ⟨e1,e2,e3⟩ => ?_)
 subst e1 e2 e3
 conv => cbv
 refine RetF.mk [.p (.bool true)] [(0,.fix 0 o)] 1 (Re.at [(0,0)] []) rfl ⟨rfl,rfl,rfl⟩
end Go.Proofs.YtkhfgngcoiablaaGreatDoor
