/-
  Layer 21: the reference's record.Need, of anything.
-/
import Derived.Test.YtpbhcdbkmmjimaaGreatDoorBh
namespace Go.Proofs.YtpbhcdbkmmjimaaGreatDoor
open Go Go.LX
set_option maxRecDepth 100000
set_option linter.unusedVariables false
set_option linter.unusedSimpArgs false
set_option maxHeartbeats 32000000
theorem rFieldsAny_lx (k : Int) (hk2 : k ≠ 2) : CallF (fun _ => Tryz.prog) 73 [i6 k] [] 0 (fun r h n => (∃ (v : Int) (l : List PV),r = .p (.vsl (.sym v) true l) ∧ v = needW k) ∧ h = [] ∧ n = 0) := by
 refine callF_of_body tok Tryz.func73 (by kernel_rfl) rfl rfl rfl ?_; conv => cbv
 refine Br.mk (fun g1 => ?_) (fun g1 => ?_)
 ·have g1 : k = 1 := g1
  conv => cbv
  refine RetF.mk [.p (.vsl (.sym 9) true [.str fun _ => ⟨#[99,97,112]⟩,.str fun _ => ⟨#[99,108,111,115,101,100]⟩,.str fun _ => ⟨#[99,111,117,110,116]⟩,.str fun _ => ⟨#[115,116,97,114,116]⟩,.str fun _ => ⟨#[98,117,102]⟩,.str fun _ => ⟨#[116,97,107,101,104,101,97,100]⟩,.str fun _ => ⟨#[116,97,107,101,116,97,105,108]⟩,.str fun _ => ⟨#[115,101,110,100,104,101,97,100]⟩,.str fun _ => ⟨#[115,101,110,100,116,97,105,108]⟩])] [] 0 (Re.at [] []) rfl ⟨⟨_,_,rfl,by rw [g1]; rfl⟩,rfl,rfl⟩
 have g1 : ¬ k = 1 := g1
 conv => cbv
 refine Br.mk (fun g3 => ?_) (fun g3 => ?_)
 ·have g3 : k = 3 := g3
  conv => cbv
  refine RetF.mk [.p (.vsl (.sym 7) true [.str fun _ => ⟨#[103,111,114]⟩,.str fun _ => ⟨#[99,104,97,110]⟩,.str fun _ => ⟨#[118,97,108,117,101]⟩,.str fun _ => ⟨#[110,101,120,116]⟩,.str fun _ => ⟨#[116,111]⟩,.str fun _ => ⟨#[114,101,103]⟩,.str fun _ => ⟨#[109,111,114,101]⟩])] [] 0 (Re.at [] []) rfl ⟨⟨_,_,rfl,by rw [g3]; rfl⟩,rfl,rfl⟩
 have g3 : ¬ k = 3 := g3
 conv => cbv
 refine Br.mk (fun g4 => ?_) (fun g4 => ?_)
 ·have g4 : k = 4 := g4
  conv => cbv
  refine RetF.mk [.p (.vsl (.sym 10) true [.str fun _ => ⟨#[105,100]⟩,.str fun _ => ⟨#[115,116,97,116,117,115]⟩,.str fun _ => ⟨#[112,99]⟩,.str fun _ => ⟨#[97]⟩,.str fun _ => ⟨#[98]⟩,.str fun _ => ⟨#[99]⟩,.str fun _ => ⟨#[100]⟩,.str fun _ => ⟨#[101]⟩,.str fun _ => ⟨#[102]⟩,.str fun _ => ⟨#[115,117,100,111,103,115]⟩])] [] 0 (Re.at [] []) rfl ⟨⟨_,_,rfl,by rw [g4]; rfl⟩,rfl,rfl⟩
 have g4 : ¬ k = 4 := g4
 conv => cbv
 refine Br.mk (fun g5 => ?_) (fun g5 => ?_)
 ·have g5 : k = 5 := g5
  conv => cbv
  refine RetF.mk [.p (.vsl (.sym 2) true [.str fun _ => ⟨#[118,97,108,117,101]⟩,.str fun _ => ⟨#[102,105,110,97,108]⟩])] [] 0 (Re.at [] []) rfl ⟨⟨_,_,rfl,by rw [g5]; rfl⟩,rfl,rfl⟩
 have g5 : ¬ k = 5 := g5
 conv => cbv
 refine Br.mk (fun g6 => ?_) (fun g6 => ?_)
 ·have g6 : k = 6 := g6
  conv => cbv
  refine RetF.mk [.p (.vsl (.sym 2) true [.str fun _ => ⟨#[119,104,101,110]⟩,.str fun _ => ⟨#[99,104,97,110]⟩])] [] 0 (Re.at [] []) rfl ⟨⟨_,_,rfl,by rw [g6]; rfl⟩,rfl,rfl⟩
 have g6 : ¬ k = 6 := g6
 conv => cbv
 refine RetF.mk [.p (.vsl (.sym 0) true [])] [] 0 (Re.at [] []) rfl ⟨⟨_,_,rfl,by unfold needW; rw [if_neg g1,if_neg g3,if_neg g4,if_neg g5,if_neg g6]⟩,rfl,rfl⟩
theorem rNeedAny_lx (k m : Int) : CallF (fun _ => Tryz.prog) 28 [i6 k,i6 m] [] 0 (fun r h n => (∃ (v : Int) (b : Bool),r = .tup [i6 v,.p (.bool b)] ∧ NeedR k m v b) ∧ h = [] ∧ n = 0) := by
 refine callF_of_body tok Tryz.func28 (by kernel_rfl) rfl rfl rfl ?_; conv => cbv
 refine Br.mk (fun g => ?_) (fun g => ?_)
 ·have g : k = 2 := g
  conv => cbv
  refine Br.mk (fun g2 => ?_) (fun g2 => ?_)
  ·have g2 : m < 0 := g2
   conv => cbv
   refine RetF.mk [i6 0,.p (.bool false)] [] 0 (Re.at [] []) rfl ⟨⟨0,false,rfl,.inl ⟨g,.inr ⟨by omega,rfl,rfl⟩⟩⟩,rfl,rfl⟩
  have g2 : ¬ m < 0 := g2
  conv => cbv
  refine Br.mk (fun g3 => ?_) (fun g3 => ?_)
  ·have g3 : 3 < m := g3
   conv => cbv
   refine RetF.mk [i6 0,.p (.bool false)] [] 0 (Re.at [] []) rfl ⟨⟨0,false,rfl,.inl ⟨g,.inr ⟨by omega,rfl,rfl⟩⟩⟩,rfl,rfl⟩
  have g3 : ¬ 3 < m := g3
  conv => cbv
  refine RetF.mk [i6 m,.p (.bool true)] [] 0 (Re.at [] []) rfl ⟨⟨m,true,rfl,.inl ⟨g,.inl ⟨by omega,by omega,rfl,rfl⟩⟩⟩,rfl,rfl⟩
 have g : ¬ k = 2 := g
 conv => cbv
 refine callF_frame (rFieldsAny_lx k g) [] rfl trivial rfl rfl (fun r h' n' hrr => ?_)
 obtain ⟨⟨v,l,e1,hv⟩,e2,e3⟩ := hrr
 subst e1 e2 e3
 conv => cbv
 refine Br.mk (fun g2 => ?_) (fun g2 => ?_)
 ·have g2 : 0 < v := g2
  conv => cbv
  refine RetF.mk [i6 v,.p (.bool true)] [] 0 (Re.at [] []) rfl ⟨⟨v,true,rfl,.inr ⟨g,hv,⟨fun _ => g2,fun _ => rfl⟩⟩⟩,rfl,rfl⟩
 ·have g2 : ¬ 0 < v := g2
  conv => cbv
  refine RetF.mk [i6 v,.p (.bool false)] [] 0 (Re.at [] []) rfl ⟨⟨v,false,rfl,.inr ⟨g,hv,⟨fun q => (by cases q),fun q => absurd q g2⟩⟩⟩,rfl,rfl⟩
end Go.Proofs.YtpbhcdbkmmjimaaGreatDoor
