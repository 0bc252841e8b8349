/-
  The ground of the proof, part 8: the calculus and what is proved with it.
-/
import Derived.Test.YtjfdfbpgckilpaaGreatDoorBg
import Derived.Test.YtjfdfbpgckilpaaGreatDoorBd
import Derived.Test.YtjfdfbpgckilpaaGreatDoorBf
namespace Go.Proofs.YtjfdfbpgckilpaaGreatDoor
open Go Go.LX
set_option maxRecDepth 100000
set_option linter.unusedVariables false
set_option linter.unusedSimpArgs false
set_option maxHeartbeats 32000000
theorem rInt62_lx (v : Int) (hv : b62 v) : CallF (fun _ => Tryz.prog) 16 [i6 v] [] 0 (fun r h n => (∃ x : Int,r = .p (.int .i64 (.sym x)) ∧ x = v * 2) ∧ h = [] ∧ n = 0) := by
 obtain ⟨h1,h2⟩ := hv
 refine callF_of_body tok Tryz.func16 (by kernel_rfl) rfl rfl rfl ?_; conv => cbv
 refine Fit.mk (by show (-9223372036854775808 : Int) ≤ v * 2; omega) (by show v * 2 ≤ 9223372036854775807; omega) fun x hx => ?_
 have hx : x = v * 2 := hx
 conv => cbv
 refine RetF.mk [i6 x] [] 0 (Re.at [] []) rfl ⟨⟨x,rfl,hx⟩,rfl,rfl⟩
theorem rPtr62_lx (v : Int) (hv : b62 v) : CallF (fun _ => Tryz.prog) 15 [i6 v] [] 0 (fun r h n => (∃ x : Int,r = .p (.int .i64 (.sym x)) ∧ x = v * 2 + 1) ∧ h = [] ∧ n = 0) := by
 obtain ⟨h1,h2⟩ := hv
 refine callF_of_body tok Tryz.func15 (by kernel_rfl) rfl rfl rfl ?_; conv => cbv
 refine Fit.mk (by show (-9223372036854775808 : Int) ≤ v * 2; omega) (by show v * 2 ≤ 9223372036854775807; omega) fun x hx => ?_
 have hx : x = v * 2 := hx
 conv => cbv
 refine Fit.mk (by show (-9223372036854775808 : Int) ≤ x + 1; omega) (by show x + 1 ≤ 9223372036854775807; omega) fun y hy => ?_
 have hy : y = x + 1 := hy
 conv => cbv
 refine RetF.mk [i6 y] [] 0 (Re.at [] []) rfl ⟨⟨y,rfl,by omega⟩,rfl,rfl⟩
theorem rNum_lx (w : Int) (hw : -9223372036854775808 ≤ w ∧ w ≤ 9223372036854775807) : CallF (fun _ => Tryz.prog) 195 [i6 w] [] 0 (fun r h n => (∃ x : Int,r = .p (.int .i64 (.sym x)) ∧ x = numW w) ∧ h = [] ∧ n = 0) := by
 refine callF_of_body tok Tryz.func195 (by kernel_rfl) rfl rfl rfl ?_; conv => cbv
 refine callF_frame (rIsPtr_lx w) [] rfl trivial rfl rfl (fun r h' n' hrr => ?_)
 obtain ⟨b,e1,e2,e3,hb⟩ := hrr
 subst e1 e2 e3
 cases b with
 | true =>
  have hb : w % 2 = 1 := hb.1 rfl
  conv => cbv
  refine RetF.mk [i6 0] [] 0 (Re.at [] []) rfl ⟨⟨0,rfl,by rw [numW,if_pos hb]⟩,rfl,rfl⟩
 | false =>
  have hb : ¬ w % 2 = 1 := fun k => by have := hb.2 k; cases this
  have hdv : w.tdiv 2 = w / 2 := Int.tdiv_eq_ediv_of_dvd (by omega)
  conv => cbv
  refine Fit.mk (by show (-9223372036854775808 : Int) ≤ w.tdiv 2; omega) (by show w.tdiv 2 ≤ 9223372036854775807; omega) fun y hy => ?_
  have hy : y = w / 2 := hy.trans hdv
  conv => cbv
  refine RetF.mk [i6 y] [] 0 (Re.at [] []) rfl ⟨⟨y,rfl,by rw [numW,if_neg hb]; exact hy⟩,rfl,rfl⟩
theorem rNumber_lx (w : Int) (hw : -9223372036854775808 ≤ w ∧ w ≤ 9223372036854775807) : CallF (fun _ => Tryz.prog) 144 [i6 w] [] 0 (fun r h n => (∃ x : Int,r = .p (.int .i64 (.sym x)) ∧ x = numW w) ∧ h = [] ∧ n = 0) := by
 refine callF_of_body tok Tryz.func144 (by kernel_rfl) rfl rfl rfl ?_; conv => cbv
 refine callF_frame (rNum_lx w hw) [] rfl trivial rfl rfl (fun r h' n' hrr => ?_)
 obtain ⟨⟨x,e1,hx⟩,e2,e3⟩ := hrr
 subst e1 e2 e3
 conv => cbv
 refine RetF.mk [i6 x] [] 0 (Re.at [] []) rfl ⟨⟨x,rfl,hx⟩,rfl,rfl⟩
theorem rPlace_lx (w : Int) (hw : -9223372036854775808 ≤ w ∧ w ≤ 9223372036854775807) : CallF (fun _ => Tryz.prog) 145 [i6 w] [] 0 (fun r h n => (∃ x : Int,r = .p (.int .i64 (.sym x)) ∧ x = atW w) ∧ h = [] ∧ n = 0) := by
 refine callF_of_body tok Tryz.func145 (by kernel_rfl) rfl rfl rfl ?_; conv => cbv
 refine callF_frame (rAt_lx w hw) [] rfl trivial rfl rfl (fun r h' n' hrr => ?_)
 obtain ⟨x,e1,e2,e3,h1,h2⟩ := hrr
 subst e1 e2 e3
 conv => cbv
 refine RetF.mk [i6 x] [] 0 (Re.at [] []) rfl ⟨⟨x,rfl,?_⟩,rfl,rfl⟩
 unfold atW
 split
 ·rename_i k; exact h1 k
 ·rename_i k; exact h2 k
theorem rptr_lx (a : Int) (ha : b62 a) : CallF (fun _ => Tryz.prog) 136 [i6 a] [] 0 (fun r h n => (∃ x : Int,r = .p (.int .i64 (.sym x)) ∧ x = plW a) ∧ h = [] ∧ n = 0) := by
 refine callF_of_body tok Tryz.func136 (by kernel_rfl) rfl rfl rfl ?_; conv => cbv
 refine Br.mk (fun g => ?_) (fun g => ?_)
 ·have g : a < 0 := g
  conv => cbv
  refine CallF.le (args0 := [i6 0]) (callF_frame (rInt62_lx 0 (by unfold b62; omega)) [] rfl trivial rfl rfl (fun r h' n' hrr => ?_)) (by simp [ales,ale,pvle,I.val])
  obtain ⟨⟨x,e1,hx⟩,e2,e3⟩ := hrr
  subst e1 e2 e3
  conv => cbv
  refine RetF.mk [i6 x] [] 0 (Re.at [] []) rfl ⟨⟨x,rfl,by rw [plW,if_pos g]; omega⟩,rfl,rfl⟩
 ·have g : ¬ a < 0 := g
  conv => cbv
  refine callF_frame (rPtr62_lx a ha) [] rfl trivial rfl rfl (fun r h' n' hrr => ?_)
  obtain ⟨⟨x,e1,hx⟩,e2,e3⟩ := hrr
  subst e1 e2 e3
  conv => cbv
  refine RetF.mk [i6 x] [] 0 (Re.at [] []) rfl ⟨⟨x,rfl,by rw [plW,if_neg g]; omega⟩,rfl,rfl⟩
inductive WR (kd ln : Int) (R : List Rw) (ws : List Int) (a : Int) : Int → List Int → Prop
 | ok (X : List Int) (h : Kept R ws a kd ln) (hX : Wrds R ws a X) (hl : X.length = ln) : WR kd ln R ws a 0 X
 | no (h : ¬ Kept R ws a kd ln) : WR kd ln R ws a 10 []
theorem rWords1_lx (R : List Rw) (vs C G : List Int) (N W ph sp cy : Int) (P B V Q la : List PV) (m : Int) (ov : Bool) (h : RM R vs C G N W P B V Q la m) (a : Int) : CallF (fun _ => Tryz.prog) 143 [.ptr 0 (.lit 0),i6 a,.p (.int .i64 (.lit 1))] [hpR 0 1 6 3 W 7 ph sp cy,hpB 1 2 5 3 W,hpD 2 3 3 1 N 4 254 8 N,hpP 3 P,hpP 4 B,hpP 5 V,hpP 6 Q,(7,.mix [.p (.vsl (.sym m) true la),.p (.bool ov)])] 8 (fun r h n => (∃ (X : List Int) (k e : Int) (O : List PV),r = .tup [.p (.vsl (.sym k) true O),i6 e] ∧ O = ipv X ∧ k = X.length ∧ WR 1 9 R vs a e X) ∧ h = [hpR 0 1 6 3 W 7 ph sp cy,hpB 1 2 5 3 W,hpD 2 3 3 1 N 4 254 8 N,hpP 3 P,hpP 4 B,hpP 5 V,hpP 6 Q,(7,.mix [.p (.vsl (.sym m) true la),.p (.bool ov)])] ∧ n = 8) := by
 refine callF_of_body tok Tryz.func143 (by kernel_rfl) rfl rfl rfl ?_; conv => cbv
 refine callF_frame rNeed1_lx [] rfl trivial rfl rfl (fun r h' n' ⟨e1,e2,e3⟩ => ?_)
 subst e1 e2 e3
 conv => cbv
 refine cfr (rkind_lx R vs N a W P B V h.p h.b h.v h.n h.r h.a h.w) [(0,1),(1,2),(2,3),(3,4),(4,5)] (fun r h' n' hrr => ?_)
 obtain ⟨v,e1,e2,e3,hv⟩ := hrr
 subst e1 e2 e3
 conv => cbv
 refine Br.mk (fun g1 => ?_) (fun g1 => ?_)
 ·have g1 : ¬ v = 1 := g1
  conv => cbv
  refine RetF.mk [.p (.vsl (.sym 0) true []),i6 10] [hpR 0 1 6 3 W 7 ph sp cy,hpB 1 2 5 3 W,hpD 2 3 3 1 N 4 254 8 N,hpP 3 P,hpP 4 B,hpP 5 V,hpP 6 Q,(7,.mix [.p (.vsl (.sym m) true la),.p (.bool ov)])] 8 (Re.at [(0,0),(1,1),(2,2),(3,3),(4,4),(5,5),(6,6),(7,7)] []) rfl ⟨⟨[],0,10,[],rfl,rfl,rfl,.no (fun k => g1 (kindR_of6 k hv))⟩,rfl,rfl⟩
 ·have g1 : v = 1 := Classical.byContradiction fun q => g1 q
  conv => cbv
  refine cfr (rlen_lx R vs N a W P B V h.p h.b h.v h.n h.r h.a h.w) [(0,1),(1,2),(2,3),(3,4),(4,5)] (fun r h' n' hrr => ?_)
  obtain ⟨l,e1,e2,e3,hl⟩ := hrr
  subst e1 e2 e3
  conv => cbv
  refine Br.mk (fun g2 => ?_) (fun g2 => ?_)
  ·have g2 : ¬ l = 9 := g2
   conv => cbv
   refine RetF.mk [.p (.vsl (.sym 0) true []),i6 10] [hpR 0 1 6 3 W 7 ph sp cy,hpB 1 2 5 3 W,hpD 2 3 3 1 N 4 254 8 N,hpP 3 P,hpP 4 B,hpP 5 V,hpP 6 Q,(7,.mix [.p (.vsl (.sym m) true la),.p (.bool ov)])] 8 (Re.at [(0,0),(1,1),(2,2),(3,3),(4,4),(5,5),(6,6),(7,7)] []) rfl ⟨⟨[],0,10,[],rfl,rfl,rfl,.no (fun k => g2 (lenR_of6 k hl))⟩,rfl,rfl⟩
  ·have g2 : l = 9 := Classical.byContradiction fun q => g2 q
   have hK : Kept R vs a 1 9 := by
    cases hv with
    | no hn => exact absurd g1 (by decide)
    | is _ _ hK => have := lenR_of6 hK hl; rw [g1,← this,g2] at hK; exact hK
   obtain ⟨X,hX,hlX,hX31⟩ := wrds_ex h.a (.is 1 9 hK)
   clear hv hl
   conv => cbv
   refine LoopF.mk (fun kk s => ∃ (i : Int) (O : List PV),s = ⟨.ptr 0 (.lit 0) :: .p (.int .i64 (.sym a)) :: (undefs 6 ++ .p (.int .i64 (.lit 9)) :: .undef :: .sl 8 3 1 (.lit 0) (.sym i) :: .p (.int .i64 (.sym i)) :: undefs 45),[hpR 0 1 6 3 W 7 ph sp cy,hpB 1 2 5 3 W,hpD 2 3 3 1 N 4 254 8 N,hpP 3 P,hpP 4 B,hpP 5 V,hpP 6 Q,(7,.mix [.p (.vsl (.sym m) true la),.p (.bool ov)]),hpP 8 O],9⟩ ∧ 0 ≤ i ∧ i ≤ 9 ∧ O = ipv (X.take i.toNat) ∧ kk = (9 - i).toNat) 9 _
    (Re.at [(0,0),(1,1),(2,2),(3,3),(4,4),(5,5),(6,6),(7,7)] [8]) ⟨0,[],rfl,by omega,by omega,by simp [ipv],by omega⟩ ?_
   rintro kk s ⟨i,O,rfl,hi0,hi1,hO,hk⟩
   have hOl : (O.length : Int) = i := by rw [hO,ipv_length,List.length_take]; omega
   conv => cbv
   refine Br.mk (fun gi => ?_) (fun gi => ?_)
   ·have gi : i < 9 := gi
    obtain ⟨x0,hx0⟩ : ∃ x0,X[i.toNat]? = some x0 := ⟨_,List.getElem?_eq_getElem (by omega)⟩
    have hld := hX.2 _ _ hx0
    rw [show ((i.toNat : Nat) : Int) = i by omega] at hld
    conv => cbv
    refine cfr (rload_lx i R vs N a W P B V h.p h.b h.v h.n h.r h.a h.w) [(0,1),(1,2),(2,3),(3,4),(4,5)] (fun r h' n' hrr => ?_)
    obtain ⟨x,e,e1,e2,e3,hx⟩ := hrr
    subst e1 e2 e3
    obtain ⟨rfl,rfl⟩ := loaded_det hx hld
    conv => cbv
    refine Room.new rfl ?_
    conv => cbv
    refine Room.new ⟨?_,?_,?_⟩ ?_
    ·show (O.length : Int) = i * 1; omega
    ·show (i + 1) * 8 ≤ 140737488355328; omega
    ·show i + 1 ≤ 9223372036854775807; omega
    conv => cbv
    refine Upd.mk fun O3 hO3 => ?_
    have hO3 : O3 = O ++ [.int .i64 (.sym x)] := hO3
    have hO3 : O3 = ipv (X.take (i.toNat + 1)) := by
     rw [hO3,hO,List.take_add_one,hx0]
     simp [ipv]
    conv => cbv
    refine Sum.mk fun j2 hj2 => ?_
    have hj2 : j2 = i + 1 := hj2
    conv => cbv
    refine Fit.mk (by show (-9223372036854775808 : Int) ≤ i + 1; omega) (by show i + 1 ≤ 9223372036854775807; omega) fun i2 hi2 => ?_
    have hi2 : i2 = i + 1 := hi2
    obtain rfl : j2 = i2 := by omega
    have htt : j2.toNat = i.toNat + 1 := by omega
    rw [← htt] at hO3
    conv => cbv
    refine Again.mk (9 - j2).toNat _ (by omega) (Re.at [(0,0),(1,1),(2,2),(3,3),(4,4),(5,5),(6,6),(7,7),(10,8)] []) ⟨j2,O3,rfl,by omega,by omega,hO3,by omega⟩
   ·have gi : ¬ i < 9 := gi
    obtain rfl : i = 9 := by omega
    have hOX : O = ipv X := by rw [hO,List.take_of_length_le (by omega)]
    conv => cbv
    refine RetF.mk [.p (.vsl (.sym 9) true O),i6 0] [hpR 0 1 6 3 W 7 ph sp cy,hpB 1 2 5 3 W,hpD 2 3 3 1 N 4 254 8 N,hpP 3 P,hpP 4 B,hpP 5 V,hpP 6 Q,(7,.mix [.p (.vsl (.sym m) true la),.p (.bool ov)])] 8 (Re.at [(0,0),(1,1),(2,2),(3,3),(4,4),(5,5),(6,6),(7,7)] []) rfl ⟨⟨X,9,0,O,rfl,hOX,hlX,.ok X hK hX hlX.symm⟩,rfl,rfl⟩
theorem rWords4_lx (R : List Rw) (vs C G : List Int) (N W ph sp cy : Int) (P B V Q la : List PV) (m : Int) (ov : Bool) (h : RM R vs C G N W P B V Q la m) (a : Int) : CallF (fun _ => Tryz.prog) 143 [.ptr 0 (.lit 0),i6 a,.p (.int .i64 (.lit 4))] [hpR 0 1 6 3 W 7 ph sp cy,hpB 1 2 5 3 W,hpD 2 3 3 1 N 4 254 8 N,hpP 3 P,hpP 4 B,hpP 5 V,hpP 6 Q,(7,.mix [.p (.vsl (.sym m) true la),.p (.bool ov)])] 8 (fun r h n => (∃ (X : List Int) (k e : Int) (O : List PV),r = .tup [.p (.vsl (.sym k) true O),i6 e] ∧ O = ipv X ∧ k = X.length ∧ WR 4 10 R vs a e X) ∧ h = [hpR 0 1 6 3 W 7 ph sp cy,hpB 1 2 5 3 W,hpD 2 3 3 1 N 4 254 8 N,hpP 3 P,hpP 4 B,hpP 5 V,hpP 6 Q,(7,.mix [.p (.vsl (.sym m) true la),.p (.bool ov)])] ∧ n = 8) := by
 refine callF_of_body tok Tryz.func143 (by kernel_rfl) rfl rfl rfl ?_; conv => cbv
 refine callF_frame rNeed4_lx [] rfl trivial rfl rfl (fun r h' n' ⟨e1,e2,e3⟩ => ?_)
 subst e1 e2 e3
 conv => cbv
 refine cfr (rkind_lx R vs N a W P B V h.p h.b h.v h.n h.r h.a h.w) [(0,1),(1,2),(2,3),(3,4),(4,5)] (fun r h' n' hrr => ?_)
 obtain ⟨v,e1,e2,e3,hv⟩ := hrr
 subst e1 e2 e3
 conv => cbv
 refine Br.mk (fun g1 => ?_) (fun g1 => ?_)
 ·have g1 : ¬ v = 4 := g1
  conv => cbv
  refine RetF.mk [.p (.vsl (.sym 0) true []),i6 10] [hpR 0 1 6 3 W 7 ph sp cy,hpB 1 2 5 3 W,hpD 2 3 3 1 N 4 254 8 N,hpP 3 P,hpP 4 B,hpP 5 V,hpP 6 Q,(7,.mix [.p (.vsl (.sym m) true la),.p (.bool ov)])] 8 (Re.at [(0,0),(1,1),(2,2),(3,3),(4,4),(5,5),(6,6),(7,7)] []) rfl ⟨⟨[],0,10,[],rfl,rfl,rfl,.no (fun k => g1 (kindR_of6 k hv))⟩,rfl,rfl⟩
 ·have g1 : v = 4 := Classical.byContradiction fun q => g1 q
  conv => cbv
  refine cfr (rlen_lx R vs N a W P B V h.p h.b h.v h.n h.r h.a h.w) [(0,1),(1,2),(2,3),(3,4),(4,5)] (fun r h' n' hrr => ?_)
  obtain ⟨l,e1,e2,e3,hl⟩ := hrr
  subst e1 e2 e3
  conv => cbv
  refine Br.mk (fun g2 => ?_) (fun g2 => ?_)
  ·have g2 : ¬ l = 10 := g2
   conv => cbv
   refine RetF.mk [.p (.vsl (.sym 0) true []),i6 10] [hpR 0 1 6 3 W 7 ph sp cy,hpB 1 2 5 3 W,hpD 2 3 3 1 N 4 254 8 N,hpP 3 P,hpP 4 B,hpP 5 V,hpP 6 Q,(7,.mix [.p (.vsl (.sym m) true la),.p (.bool ov)])] 8 (Re.at [(0,0),(1,1),(2,2),(3,3),(4,4),(5,5),(6,6),(7,7)] []) rfl ⟨⟨[],0,10,[],rfl,rfl,rfl,.no (fun k => g2 (lenR_of6 k hl))⟩,rfl,rfl⟩
  ·have g2 : l = 10 := Classical.byContradiction fun q => g2 q
   have hK : Kept R vs a 4 10 := by
    cases hv with
    | no hn => exact absurd g1 (by decide)
    | is _ _ hK => have := lenR_of6 hK hl; rw [g1,← this,g2] at hK; exact hK
   obtain ⟨X,hX,hlX,hX31⟩ := wrds_ex h.a (.is 4 10 hK)
   clear hv hl
   conv => cbv
   refine LoopF.mk (fun kk s => ∃ (i : Int) (O : List PV),s = ⟨.ptr 0 (.lit 0) :: .p (.int .i64 (.sym a)) :: (undefs 6 ++ .p (.int .i64 (.lit 10)) :: .undef :: .sl 8 3 1 (.lit 0) (.sym i) :: .p (.int .i64 (.sym i)) :: undefs 45),[hpR 0 1 6 3 W 7 ph sp cy,hpB 1 2 5 3 W,hpD 2 3 3 1 N 4 254 8 N,hpP 3 P,hpP 4 B,hpP 5 V,hpP 6 Q,(7,.mix [.p (.vsl (.sym m) true la),.p (.bool ov)]),hpP 8 O],9⟩ ∧ 0 ≤ i ∧ i ≤ 10 ∧ O = ipv (X.take i.toNat) ∧ kk = (10 - i).toNat) 10 _
    (Re.at [(0,0),(1,1),(2,2),(3,3),(4,4),(5,5),(6,6),(7,7)] [8]) ⟨0,[],rfl,by omega,by omega,by simp [ipv],by omega⟩ ?_
   rintro kk s ⟨i,O,rfl,hi0,hi1,hO,hk⟩
   have hOl : (O.length : Int) = i := by rw [hO,ipv_length,List.length_take]; omega
   conv => cbv
   refine Br.mk (fun gi => ?_) (fun gi => ?_)
   ·have gi : i < 10 := gi
    obtain ⟨x0,hx0⟩ : ∃ x0,X[i.toNat]? = some x0 := ⟨_,List.getElem?_eq_getElem (by omega)⟩
    have hld := hX.2 _ _ hx0
    rw [show ((i.toNat : Nat) : Int) = i by omega] at hld
    conv => cbv
    refine cfr (rload_lx i R vs N a W P B V h.p h.b h.v h.n h.r h.a h.w) [(0,1),(1,2),(2,3),(3,4),(4,5)] (fun r h' n' hrr => ?_)
    obtain ⟨x,e,e1,e2,e3,hx⟩ := hrr
    subst e1 e2 e3
    obtain ⟨rfl,rfl⟩ := loaded_det hx hld
    conv => cbv
    refine Room.new rfl ?_
    conv => cbv
    refine Room.new ⟨?_,?_,?_⟩ ?_
    ·show (O.length : Int) = i * 1; omega
    ·show (i + 1) * 8 ≤ 140737488355328; omega
    ·show i + 1 ≤ 9223372036854775807; omega
    conv => cbv
    refine Upd.mk fun O3 hO3 => ?_
    have hO3 : O3 = O ++ [.int .i64 (.sym x)] := hO3
    have hO3 : O3 = ipv (X.take (i.toNat + 1)) := by
     rw [hO3,hO,List.take_add_one,hx0]
     simp [ipv]
    conv => cbv
    refine Sum.mk fun j2 hj2 => ?_
    have hj2 : j2 = i + 1 := hj2
    conv => cbv
    refine Fit.mk (by show (-9223372036854775808 : Int) ≤ i + 1; omega) (by show i + 1 ≤ 9223372036854775807; omega) fun i2 hi2 => ?_
    have hi2 : i2 = i + 1 := hi2
    obtain rfl : j2 = i2 := by omega
    have htt : j2.toNat = i.toNat + 1 := by omega
    rw [← htt] at hO3
    conv => cbv
    refine Again.mk (10 - j2).toNat _ (by omega) (Re.at [(0,0),(1,1),(2,2),(3,3),(4,4),(5,5),(6,6),(7,7),(10,8)] []) ⟨j2,O3,rfl,by omega,by omega,hO3,by omega⟩
   ·have gi : ¬ i < 10 := gi
    obtain rfl : i = 10 := by omega
    have hOX : O = ipv X := by rw [hO,List.take_of_length_le (by omega)]
    conv => cbv
    refine RetF.mk [.p (.vsl (.sym 10) true O),i6 0] [hpR 0 1 6 3 W 7 ph sp cy,hpB 1 2 5 3 W,hpD 2 3 3 1 N 4 254 8 N,hpP 3 P,hpP 4 B,hpP 5 V,hpP 6 Q,(7,.mix [.p (.vsl (.sym m) true la),.p (.bool ov)])] 8 (Re.at [(0,0),(1,1),(2,2),(3,3),(4,4),(5,5),(6,6),(7,7)] []) rfl ⟨⟨X,10,0,O,rfl,hOX,hlX,.ok X hK hX hlX.symm⟩,rfl,rfl⟩
theorem WR.two {kd ln : Int} {R : List Rw} {ws : List Int} {a e : Int} {Y : List Int} (h : WR kd ln R ws a e Y) : (e = 0 ∧ Kept R ws a kd ln ∧ Wrds R ws a Y ∧ Y.length = ln) ∨ (e = 10 ∧ Y = [] ∧ ¬ Kept R ws a kd ln) := by
 cases h with
 | ok _ h hX hl => exact .inl ⟨rfl,h,hX,hl⟩
 | no h => exact .inr ⟨rfl,rfl,h⟩
theorem rPutW1_lx (R : List Rw) (vs C G : List Int) (N W ph sp cy : Int) (P B V Q la : List PV) (m : Int) (ov : Bool) (h : RM R vs C G N W P B V Q la m) (a : Int) (X : List Int) (O : List PV) (hO : O = ipv X) (hXl : (X.length : Int) = 9) (hXb : ∀ x ∈ X,-9223372036854775808 ≤ x ∧ x ≤ 9223372036854775807) : CallF (fun _ => Tryz.prog) 135 [.ptr 0 (.lit 0),i6 a,.p (.int .i64 (.lit 1)),.p (.vsl (.sym 9) true O)] [hpR 0 1 6 3 W 7 ph sp cy,hpB 1 2 5 3 W,hpD 2 3 3 1 N 4 254 8 N,hpP 3 P,hpP 4 B,hpP 5 V,hpP 6 Q,(7,.mix [.p (.vsl (.sym m) true la),.p (.bool ov)])] 8
  (fun r h n => ∃ (e : Int) (vs' C' G' : List Int) (ov' : Bool) (V' Q' la' : List PV) (m' : Int),r = .p (.int .i64 (.sym e)) ∧ h = [hpR 0 1 6 3 W 7 ph sp cy,hpB 1 2 5 3 W,hpD 2 3 3 1 N 4 254 8 N,hpP 3 P,hpP 4 B,hpP 5 V',hpP 6 Q',(7,.mix [.p (.vsl (.sym m') true la'),.p (.bool ov')])] ∧ n = 8 ∧ RM R vs' C' G' N W P B V' Q' la' m' ∧ PT 1 9 X R ph a (vs,C,G,ov) e (vs',C',G',ov')) := by
 refine callF_of_body tok Tryz.func135 (by kernel_rfl) rfl rfl rfl ?_; conv => cbv
 refine cfr (rWords1_lx R vs C G N W ph sp cy P B V Q la m ov h a) [(0,0),(1,1),(2,2),(3,3),(4,4),(5,5),(6,6),(7,7)] (fun r h' n' hrr => ?_)
 obtain ⟨⟨Y,y,e,OY,e1,hOY,hy,hW⟩,e2,e3⟩ := hrr
 subst e1 e2 e3
 conv => cbv
 rcases hW.two with ⟨he,hK,hY,hYl⟩ | ⟨he,hYn,hK⟩
 case inr =>
  have hy0 : y = 0 := by rw [hy,hYn]; rfl
  refine LoopF.rounds 1 ?_
  conv => cbv
  refine Br.no (show ¬ (0 < y) by omega) ?_
  conv => cbv
  refine RetF.mk [i6 e] [hpR 0 1 6 3 W 7 ph sp cy,hpB 1 2 5 3 W,hpD 2 3 3 1 N 4 254 8 N,hpP 3 P,hpP 4 B,hpP 5 V,hpP 6 Q,(7,.mix [.p (.vsl (.sym m) true la),.p (.bool ov)])] 8 (Re.at [(0,0),(1,1),(2,2),(3,3),(4,4),(5,5),(6,6),(7,7)] []) rfl ⟨e,vs,C,G,ov,V,Q,la,m,rfl,rfl,rfl,h,by rw [he]; exact .no hK⟩
 case inl =>
 have hyl : y = 9 := by omega
 have hb := hK.bounds h.a
 clear hW
 obtain ⟨E,hE⟩ : ∃ E,E = putS R ph a 0 X (vs,C,G,ov) := ⟨_,rfl⟩
 refine LoopF.mk (fun kk s => ∃ (i e : Int) (vs1 C1 G1 : List Int) (ov1 : Bool) (V1 Q1 la1 : List PV) (m1 : Int),s = ⟨.ptr 0 (.lit 0) :: .p (.int .i64 (.sym a)) :: .undef :: .p (.vsl (.sym 9) true O) :: (undefs 5 ++ .p (.vsl (.sym y) true OY) :: .p (.int .i64 (.sym e)) :: .p (.int .i64 (.sym i)) :: undefs 35),[hpR 0 1 6 3 W 7 ph sp cy,hpB 1 2 5 3 W,hpD 2 3 3 1 N 4 254 8 N,hpP 3 P,hpP 4 B,hpP 5 V1,hpP 6 Q1,(7,.mix [.p (.vsl (.sym m1) true la1),.p (.bool ov1)])],8⟩ ∧ 0 ≤ i ∧ i ≤ 9 ∧ kk = (9 - i).toNat ∧ e = 0 ∧ RM R vs1 C1 G1 N W P B V1 Q1 la1 m1 ∧ Kept R vs1 a 1 9 ∧ (∀ j,i ≤ j → j < 9 → vs1[(a + 1 + j).toNat]? = vs[(a + 1 + j).toNat]?) ∧ E = putS R ph a i.toNat (X.drop i.toNat) (vs1,C1,G1,ov1)) 9 _
  (Re.at [(0,0),(1,1),(2,2),(3,3),(4,4),(5,5),(6,6),(7,7)] []) ⟨0,e,vs,C,G,ov,V,Q,la,m,rfl,by omega,by omega,by omega,he,h,hK,fun _ _ _ => rfl,hE⟩ ?_
 clear he
 rintro kk s ⟨i,e,vs1,C1,G1,ov1,V1,Q1,la1,m1,rfl,hi0,hi1,hkk,he,h1,hK1,hsm,hE1⟩
 have hb1 := hK1.bounds h1.a
 have hlen1 := h1.a.len
 conv => cbv
 refine Br.mk (fun gi => ?_) (fun gi => ?_)
 ·have gi : i < 9 := by have : i < y := gi; omega
  obtain ⟨w,hw⟩ : ∃ w,X[i.toNat]? = some w := ⟨_,List.getElem?_eq_getElem (by omega)⟩
  have hOw : O[i.toNat]? = some (.int .i64 (.sym w)) := by rw [hO,ipv_getx,hw]; rfl
  have hwb := hXb w (List.mem_of_getElem? hw)
  obtain ⟨x,hx⟩ : ∃ x,Y[i.toNat]? = some x := ⟨_,List.getElem?_eq_getElem (by omega)⟩
  have hOx : OY[i.toNat]? = some (.int .i64 (.sym x)) := by rw [hOY,ipv_getx,hx]; rfl
  have hld := hY.2 _ _ hx
  rw [show ((i.toNat : Nat) : Int) = i by omega] at hld
  have hxw : vs1[(a + 1 + i).toNat]? = some x := by rw [hsm i (Int.le_refl _) gi]; exact (loaded_of hK ⟨hi0,gi⟩ hld).2
  have hdr : X.drop i.toNat = w :: X.drop (i.toNat + 1) := by rw [List.drop_eq_getElem_cons (by omega)]; rw [List.getElem?_eq_getElem (by omega)] at hw; rw [Option.some.inj hw]
  rw [hdr,putS] at hE1
  dsimp only at hE1
  rw [show a + 1 + ((i.toNat : Nat) : Int) = a + 1 + i by omega,hxw] at hE1
  conv => cbv
  refine Br.yes (show e = 0 from he) ?_
  conv => cbv
  refine drawn_sound tok (by kernel_rfl) [] [0,1,2,3,4,5,6,7,8] (by kernel_rfl) ?_; conv => cbv
  refine Need.mk (show 0 ≤ i ∧ i < y by omega) ?_
  conv => cbv
  refine Cell.at i _ hOx (by simp [I.val]) rfl ?_
  conv => cbv
  refine Need.mk (show 0 ≤ i ∧ i < 9 by omega) ?_
  conv => cbv
  refine Cell.at i _ hOw (by simp [I.val]) rfl ?_
  conv => cbv
  refine Br.mk (fun gx => ?_) (fun gx => ?_)
  ·have gx : ¬ x = w := gx
   rw [if_neg (fun q => gx (Option.some.inj q))] at hE1
   conv => cbv
   refine Need.mk (show 0 ≤ i ∧ i < 9 by omega) ?_
   conv => cbv
   refine Cell.at i _ hOw (by simp [I.val]) rfl ?_
   conv => cbv
   refine cfr (rstore9_lx R vs1 C1 G1 N W ph sp cy P B V1 Q1 la1 m1 ov1 h1 a i w hwb) [(0,0),(1,1),(2,2),(3,3),(4,4),(5,5),(6,6),(7,7)] (fun r h' n' hrr => ?_)
   obtain ⟨f,vs2,C2,G2,ov2,V2,Q2,la2,m2,e1,e2,e3,h2,hS,hC⟩ := hrr
   subst e1 e2 e3
   have hK2 := (stored_to h1.a hS).1 a 1 9 hK1
   obtain ⟨hf,hw2⟩ := stored_of hK1 ⟨hi0,gi⟩ hS
   have hC : (C2,G2,ov2) = shadeW R ph w (C1,G1,ov1) := by rw [hC,storeS,if_pos hf]
   rw [← hC,← hw2] at hE1
   clear hS hC h1 hK1
   conv => cbv
   refine Fit.mk (by show (-9223372036854775808 : Int) ≤ i + 1; omega) (by show i + 1 ≤ 9223372036854775807; omega) fun i2 hi2 => ?_
   have hi2 : i2 = i + 1 := hi2
   have htn : i2.toNat = i.toNat + 1 := by omega
   rw [← htn] at hE1
   conv => cbv
   refine Again.mk (9 - i2).toNat _ (by omega) (Re.at [(0,0),(1,1),(2,2),(3,3),(4,4),(5,5),(6,6),(7,7)] []) ⟨i2,f,vs2,C2,G2,ov2,V2,Q2,la2,m2,rfl,by omega,by omega,rfl,hf,h2,hK2,fun j hj0 hj1 => ?_,hE1⟩
   rw [hw2,List.getElem?_set_ne (by omega)]
   exact hsm j (by omega) hj1
  ·have gx : x = w := Classical.byContradiction fun q => gx q
   rw [if_pos (by rw [gx])] at hE1
   conv => cbv
   refine Fit.mk (by show (-9223372036854775808 : Int) ≤ i + 1; omega) (by show i + 1 ≤ 9223372036854775807; omega) fun i2 hi2 => ?_
   have hi2 : i2 = i + 1 := hi2
   have htn : i2.toNat = i.toNat + 1 := by omega
   rw [← htn] at hE1
   conv => cbv
   refine Again.mk (9 - i2).toNat _ (by omega) (Re.at [(0,0),(1,1),(2,2),(3,3),(4,4),(5,5),(6,6),(7,7)] []) ⟨i2,e,vs1,C1,G1,ov1,V1,Q1,la1,m1,rfl,by omega,by omega,rfl,he,h1,hK1,fun j hj0 hj1 => hsm j (by omega) hj1,hE1⟩
 ·have gi : ¬ i < 9 := by have : ¬ i < y := gi; omega
  have hdr : X.drop i.toNat = [] := List.drop_eq_nil_of_le (by omega)
  rw [hdr,putS] at hE1
  conv => cbv
  refine RetF.mk [i6 e] [hpR 0 1 6 3 W 7 ph sp cy,hpB 1 2 5 3 W,hpD 2 3 3 1 N 4 254 8 N,hpP 3 P,hpP 4 B,hpP 5 V1,hpP 6 Q1,(7,.mix [.p (.vsl (.sym m1) true la1),.p (.bool ov1)])] 8 (Re.at [(0,0),(1,1),(2,2),(3,3),(4,4),(5,5),(6,6),(7,7)] []) rfl ⟨e,vs1,C1,G1,ov1,V1,Q1,la1,m1,rfl,rfl,rfl,h1,by rw [he,← hE1,hE]; exact .ok hK⟩
theorem rPutW4_lx (R : List Rw) (vs C G : List Int) (N W ph sp cy : Int) (P B V Q la : List PV) (m : Int) (ov : Bool) (h : RM R vs C G N W P B V Q la m) (a : Int) (X : List Int) (O : List PV) (hO : O = ipv X) (hXl : (X.length : Int) = 10) (hXb : ∀ x ∈ X,-9223372036854775808 ≤ x ∧ x ≤ 9223372036854775807) : CallF (fun _ => Tryz.prog) 135 [.ptr 0 (.lit 0),i6 a,.p (.int .i64 (.lit 4)),.p (.vsl (.sym 10) true O)] [hpR 0 1 6 3 W 7 ph sp cy,hpB 1 2 5 3 W,hpD 2 3 3 1 N 4 254 8 N,hpP 3 P,hpP 4 B,hpP 5 V,hpP 6 Q,(7,.mix [.p (.vsl (.sym m) true la),.p (.bool ov)])] 8
  (fun r h n => ∃ (e : Int) (vs' C' G' : List Int) (ov' : Bool) (V' Q' la' : List PV) (m' : Int),r = .p (.int .i64 (.sym e)) ∧ h = [hpR 0 1 6 3 W 7 ph sp cy,hpB 1 2 5 3 W,hpD 2 3 3 1 N 4 254 8 N,hpP 3 P,hpP 4 B,hpP 5 V',hpP 6 Q',(7,.mix [.p (.vsl (.sym m') true la'),.p (.bool ov')])] ∧ n = 8 ∧ RM R vs' C' G' N W P B V' Q' la' m' ∧ PT 4 10 X R ph a (vs,C,G,ov) e (vs',C',G',ov')) := by
 refine callF_of_body tok Tryz.func135 (by kernel_rfl) rfl rfl rfl ?_; conv => cbv
 refine cfr (rWords4_lx R vs C G N W ph sp cy P B V Q la m ov h a) [(0,0),(1,1),(2,2),(3,3),(4,4),(5,5),(6,6),(7,7)] (fun r h' n' hrr => ?_)
 obtain ⟨⟨Y,y,e,OY,e1,hOY,hy,hW⟩,e2,e3⟩ := hrr
 subst e1 e2 e3
 conv => cbv
 rcases hW.two with ⟨he,hK,hY,hYl⟩ | ⟨he,hYn,hK⟩
 case inr =>
  have hy0 : y = 0 := by rw [hy,hYn]; rfl
  refine LoopF.rounds 1 ?_
  conv => cbv
  refine Br.no (show ¬ (0 < y) by omega) ?_
  conv => cbv
  refine RetF.mk [i6 e] [hpR 0 1 6 3 W 7 ph sp cy,hpB 1 2 5 3 W,hpD 2 3 3 1 N 4 254 8 N,hpP 3 P,hpP 4 B,hpP 5 V,hpP 6 Q,(7,.mix [.p (.vsl (.sym m) true la),.p (.bool ov)])] 8 (Re.at [(0,0),(1,1),(2,2),(3,3),(4,4),(5,5),(6,6),(7,7)] []) rfl ⟨e,vs,C,G,ov,V,Q,la,m,rfl,rfl,rfl,h,by rw [he]; exact .no hK⟩
 case inl =>
 have hyl : y = 10 := by omega
 have hb := hK.bounds h.a
 clear hW
 obtain ⟨E,hE⟩ : ∃ E,E = putS R ph a 0 X (vs,C,G,ov) := ⟨_,rfl⟩
 refine LoopF.mk (fun kk s => ∃ (i e : Int) (vs1 C1 G1 : List Int) (ov1 : Bool) (V1 Q1 la1 : List PV) (m1 : Int),s = ⟨.ptr 0 (.lit 0) :: .p (.int .i64 (.sym a)) :: .undef :: .p (.vsl (.sym 10) true O) :: (undefs 5 ++ .p (.vsl (.sym y) true OY) :: .p (.int .i64 (.sym e)) :: .p (.int .i64 (.sym i)) :: undefs 35),[hpR 0 1 6 3 W 7 ph sp cy,hpB 1 2 5 3 W,hpD 2 3 3 1 N 4 254 8 N,hpP 3 P,hpP 4 B,hpP 5 V1,hpP 6 Q1,(7,.mix [.p (.vsl (.sym m1) true la1),.p (.bool ov1)])],8⟩ ∧ 0 ≤ i ∧ i ≤ 10 ∧ kk = (10 - i).toNat ∧ e = 0 ∧ RM R vs1 C1 G1 N W P B V1 Q1 la1 m1 ∧ Kept R vs1 a 4 10 ∧ (∀ j,i ≤ j → j < 10 → vs1[(a + 1 + j).toNat]? = vs[(a + 1 + j).toNat]?) ∧ E = putS R ph a i.toNat (X.drop i.toNat) (vs1,C1,G1,ov1)) 10 _
  (Re.at [(0,0),(1,1),(2,2),(3,3),(4,4),(5,5),(6,6),(7,7)] []) ⟨0,e,vs,C,G,ov,V,Q,la,m,rfl,by omega,by omega,by omega,he,h,hK,fun _ _ _ => rfl,hE⟩ ?_
 clear he
 rintro kk s ⟨i,e,vs1,C1,G1,ov1,V1,Q1,la1,m1,rfl,hi0,hi1,hkk,he,h1,hK1,hsm,hE1⟩
 have hb1 := hK1.bounds h1.a
 have hlen1 := h1.a.len
 conv => cbv
 refine Br.mk (fun gi => ?_) (fun gi => ?_)
 ·have gi : i < 10 := by have : i < y := gi; omega
  obtain ⟨w,hw⟩ : ∃ w,X[i.toNat]? = some w := ⟨_,List.getElem?_eq_getElem (by omega)⟩
  have hOw : O[i.toNat]? = some (.int .i64 (.sym w)) := by rw [hO,ipv_getx,hw]; rfl
  have hwb := hXb w (List.mem_of_getElem? hw)
  obtain ⟨x,hx⟩ : ∃ x,Y[i.toNat]? = some x := ⟨_,List.getElem?_eq_getElem (by omega)⟩
  have hOx : OY[i.toNat]? = some (.int .i64 (.sym x)) := by rw [hOY,ipv_getx,hx]; rfl
  have hld := hY.2 _ _ hx
  rw [show ((i.toNat : Nat) : Int) = i by omega] at hld
  have hxw : vs1[(a + 1 + i).toNat]? = some x := by rw [hsm i (Int.le_refl _) gi]; exact (loaded_of hK ⟨hi0,gi⟩ hld).2
  have hdr : X.drop i.toNat = w :: X.drop (i.toNat + 1) := by rw [List.drop_eq_getElem_cons (by omega)]; rw [List.getElem?_eq_getElem (by omega)] at hw; rw [Option.some.inj hw]
  rw [hdr,putS] at hE1
  dsimp only at hE1
  rw [show a + 1 + ((i.toNat : Nat) : Int) = a + 1 + i by omega,hxw] at hE1
  conv => cbv
  refine Br.yes (show e = 0 from he) ?_
  conv => cbv
  refine drawn_sound tok (by kernel_rfl) [] [0,1,2,3,4,5,6,7,8] (by kernel_rfl) ?_; conv => cbv
  refine Need.mk (show 0 ≤ i ∧ i < y by omega) ?_
  conv => cbv
  refine Cell.at i _ hOx (by simp [I.val]) rfl ?_
  conv => cbv
  refine Need.mk (show 0 ≤ i ∧ i < 10 by omega) ?_
  conv => cbv
  refine Cell.at i _ hOw (by simp [I.val]) rfl ?_
  conv => cbv
  refine Br.mk (fun gx => ?_) (fun gx => ?_)
  ·have gx : ¬ x = w := gx
   rw [if_neg (fun q => gx (Option.some.inj q))] at hE1
   conv => cbv
   refine Need.mk (show 0 ≤ i ∧ i < 10 by omega) ?_
   conv => cbv
   refine Cell.at i _ hOw (by simp [I.val]) rfl ?_
   conv => cbv
   refine cfr (rstore9_lx R vs1 C1 G1 N W ph sp cy P B V1 Q1 la1 m1 ov1 h1 a i w hwb) [(0,0),(1,1),(2,2),(3,3),(4,4),(5,5),(6,6),(7,7)] (fun r h' n' hrr => ?_)
   obtain ⟨f,vs2,C2,G2,ov2,V2,Q2,la2,m2,e1,e2,e3,h2,hS,hC⟩ := hrr
   subst e1 e2 e3
   have hK2 := (stored_to h1.a hS).1 a 4 10 hK1
   obtain ⟨hf,hw2⟩ := stored_of hK1 ⟨hi0,gi⟩ hS
   have hC : (C2,G2,ov2) = shadeW R ph w (C1,G1,ov1) := by rw [hC,storeS,if_pos hf]
   rw [← hC,← hw2] at hE1
   clear hS hC h1 hK1
   conv => cbv
   refine Fit.mk (by show (-9223372036854775808 : Int) ≤ i + 1; omega) (by show i + 1 ≤ 9223372036854775807; omega) fun i2 hi2 => ?_
   have hi2 : i2 = i + 1 := hi2
   have htn : i2.toNat = i.toNat + 1 := by omega
   rw [← htn] at hE1
   conv => cbv
   refine Again.mk (10 - i2).toNat _ (by omega) (Re.at [(0,0),(1,1),(2,2),(3,3),(4,4),(5,5),(6,6),(7,7)] []) ⟨i2,f,vs2,C2,G2,ov2,V2,Q2,la2,m2,rfl,by omega,by omega,rfl,hf,h2,hK2,fun j hj0 hj1 => ?_,hE1⟩
   rw [hw2,List.getElem?_set_ne (by omega)]
   exact hsm j (by omega) hj1
  ·have gx : x = w := Classical.byContradiction fun q => gx q
   rw [if_pos (by rw [gx])] at hE1
   conv => cbv
   refine Fit.mk (by show (-9223372036854775808 : Int) ≤ i + 1; omega) (by show i + 1 ≤ 9223372036854775807; omega) fun i2 hi2 => ?_
   have hi2 : i2 = i + 1 := hi2
   have htn : i2.toNat = i.toNat + 1 := by omega
   rw [← htn] at hE1
   conv => cbv
   refine Again.mk (10 - i2).toNat _ (by omega) (Re.at [(0,0),(1,1),(2,2),(3,3),(4,4),(5,5),(6,6),(7,7)] []) ⟨i2,e,vs1,C1,G1,ov1,V1,Q1,la1,m1,rfl,by omega,by omega,rfl,he,h1,hK1,fun j hj0 hj1 => hsm j (by omega) hj1,hE1⟩
 ·have gi : ¬ i < 10 := by have : ¬ i < y := gi; omega
  have hdr : X.drop i.toNat = [] := List.drop_eq_nil_of_le (by omega)
  rw [hdr,putS] at hE1
  conv => cbv
  refine RetF.mk [i6 e] [hpR 0 1 6 3 W 7 ph sp cy,hpB 1 2 5 3 W,hpD 2 3 3 1 N 4 254 8 N,hpP 3 P,hpP 4 B,hpP 5 V1,hpP 6 Q1,(7,.mix [.p (.vsl (.sym m1) true la1),.p (.bool ov1)])] 8 (Re.at [(0,0),(1,1),(2,2),(3,3),(4,4),(5,5),(6,6),(7,7)] []) rfl ⟨e,vs1,C1,G1,ov1,V1,Q1,la1,m1,rfl,rfl,rfl,h1,by rw [he,← hE1,hE]; exact .ok hK⟩
theorem rchan_lx (R : List Rw) (vs C G : List Int) (N W ph sp cy : Int) (P B V Q la : List PV) (m : Int) (ov : Bool) (h : RM R vs C G N W P B V Q la m) (a : Int) : CallF (fun _ => Tryz.prog) 79 [.ptr 0 (.lit 0),i6 a] [hpR 0 1 6 3 W 7 ph sp cy,hpB 1 2 5 3 W,hpD 2 3 3 1 N 4 254 8 N,hpP 3 P,hpP 4 B,hpP 5 V,hpP 6 Q,(7,.mix [.p (.vsl (.sym m) true la),.p (.bool ov)])] 8 (fun r h n => (∃ (y0 y1 y2 y3 y4 y5 y6 y7 y8 e : Int),r = .tup [.agg [i6 y0,i6 y1,i6 y2,i6 y3,i6 y4,i6 y5,i6 y6,i6 y7,i6 y8],i6 e] ∧ TR 1 9 chanFs R vs a e [y0,y1,y2,y3,y4,y5,y6,y7,y8]) ∧ h = [hpR 0 1 6 3 W 7 ph sp cy,hpB 1 2 5 3 W,hpD 2 3 3 1 N 4 254 8 N,hpP 3 P,hpP 4 B,hpP 5 V,hpP 6 Q,(7,.mix [.p (.vsl (.sym m) true la),.p (.bool ov)])] ∧ n = 8) := by
 refine callF_of_body tok Tryz.func79 (by kernel_rfl) rfl rfl rfl ?_; conv => cbv
 refine CallF.le (args0 := [.ptr 0 (.lit 0),i6 a,.p (.int .i64 (.lit 1))]) (cfr (rWords1_lx R vs C G N W ph sp cy P B V Q la m ov h a) [(0,0),(1,1),(2,2),(3,3),(4,4),(5,5),(6,6),(7,7)] (fun r h' n' hrr => ?_)) (by simp [ales,ale,pvle,I.val])
 obtain ⟨⟨Y,q,e,OY,e1,hOY,hq,hW⟩,e2,e3⟩ := hrr
 subst e1 e2 e3
 conv => cbv
 rcases hW.two with ⟨he,hK,hY,hYl⟩ | ⟨he,hYn,hK⟩
 case inr =>
  refine Br.yes (show ¬ e = 0 by omega) ?_
  conv => cbv
  refine RetF.mk [.agg [i6 0,i6 0,i6 0,i6 0,i6 0,i6 0,i6 0,i6 0,i6 0],i6 e] [hpR 0 1 6 3 W 7 ph sp cy,hpB 1 2 5 3 W,hpD 2 3 3 1 N 4 254 8 N,hpP 3 P,hpP 4 B,hpP 5 V,hpP 6 Q,(7,.mix [.p (.vsl (.sym m) true la),.p (.bool ov)])] 8 (Re.at [(0,0),(1,1),(2,2),(3,3),(4,4),(5,5),(6,6),(7,7)] []) rfl ⟨⟨0,0,0,0,0,0,0,0,0,e,rfl,by rw [he]; exact .no hK⟩,rfl,rfl⟩
 case inl =>
 obtain ⟨x0,x1,x2,x3,x4,x5,x6,x7,x8,rfl⟩ := list9 (X := Y) (by omega)
 have hb := hY.bd h.a
 simp only [List.forall_mem_cons] at hb
 obtain ⟨b0,b1,b2,b3,b4,b5,b6,b7,b8,_⟩ := hb
 have hqn : q = 9 := hq
 refine Br.no (show ¬ ¬ e = 0 by omega) ?_
 conv => cbv
 refine drawn_sound tok (by kernel_rfl) [(3,[37,34,33,32,30,29,28,26,25,24,22,21,20,18,17,16,14,13,12,10,9,8,6,5,4]),(7,[37,34,33,32,30,29,28,26,25,24,22,21,20,18,17,16,14,13,12,10,9,8]),(11,[37,34,33,32,30,29,28,26,25,24,22,21,20,18,17,16,14,13,12]),(15,[37,34,33,32,30,29,28,26,25,24,22,21,20,18,17,16]),(19,[37,34,33,32,30,29,28,26,25,24,22,21,20]),(23,[37,34,33,32,30,29,28,26,25,24]),(27,[37,34,33,32,30,29,28]),(31,[37,34,33,32]),(35,[37]),(38,[37])] [0,1,2,4,5,6,8,9,10,12,13,14,16,17,18,20,21,22,24,25,26,28,29,30,32,33,34,37,3,7,11,15,19,23,27,31,35,36,38,39] (by kernel_rfl) ?_; conv => cbv
 refine Need.mk (show (0 : Int) ≤ 0 ∧ (0 : Int) < q by omega) ?_
 conv => cbv
 refine Cell.mk (.int .i64 (.sym x0)) (by rw [hOY]; rfl) ?_
 conv => cbv
 refine Need.mk (show (0 : Int) ≤ 1 ∧ (1 : Int) < q by omega) ?_
 conv => cbv
 refine Cell.mk (.int .i64 (.sym x1)) (by rw [hOY]; rfl) ?_
 conv => cbv
 refine Need.mk (show (0 : Int) ≤ 2 ∧ (2 : Int) < q by omega) ?_
 conv => cbv
 refine Cell.mk (.int .i64 (.sym x2)) (by rw [hOY]; rfl) ?_
 conv => cbv
 refine Need.mk (show (0 : Int) ≤ 3 ∧ (3 : Int) < q by omega) ?_
 conv => cbv
 refine Cell.mk (.int .i64 (.sym x3)) (by rw [hOY]; rfl) ?_
 conv => cbv
 refine Need.mk (show (0 : Int) ≤ 4 ∧ (4 : Int) < q by omega) ?_
 conv => cbv
 refine Cell.mk (.int .i64 (.sym x4)) (by rw [hOY]; rfl) ?_
 conv => cbv
 refine Need.mk (show (0 : Int) ≤ 5 ∧ (5 : Int) < q by omega) ?_
 conv => cbv
 refine Cell.mk (.int .i64 (.sym x5)) (by rw [hOY]; rfl) ?_
 conv => cbv
 refine Need.mk (show (0 : Int) ≤ 6 ∧ (6 : Int) < q by omega) ?_
 conv => cbv
 refine Cell.mk (.int .i64 (.sym x6)) (by rw [hOY]; rfl) ?_
 conv => cbv
 refine Need.mk (show (0 : Int) ≤ 7 ∧ (7 : Int) < q by omega) ?_
 conv => cbv
 refine Cell.mk (.int .i64 (.sym x7)) (by rw [hOY]; rfl) ?_
 conv => cbv
 refine Need.mk (show (0 : Int) ≤ 8 ∧ (8 : Int) < q by omega) ?_
 conv => cbv
 refine Cell.mk (.int .i64 (.sym x8)) (by rw [hOY]; rfl) ?_
 conv => cbv
 refine callF_frame (rNumber_lx x0 b0) [] rfl trivial rfl rfl (fun r h' n' hrr => ?_)
 obtain ⟨⟨y0,e1,hy0⟩,e2,e3⟩ := hrr
 subst e1 e2 e3
 conv => cbv
 refine callF_frame (rNumber_lx x1 b1) [] rfl trivial rfl rfl (fun r h' n' hrr => ?_)
 obtain ⟨⟨y1,e1,hy1⟩,e2,e3⟩ := hrr
 subst e1 e2 e3
 conv => cbv
 refine callF_frame (rNumber_lx x2 b2) [] rfl trivial rfl rfl (fun r h' n' hrr => ?_)
 obtain ⟨⟨y2,e1,hy2⟩,e2,e3⟩ := hrr
 subst e1 e2 e3
 conv => cbv
 refine callF_frame (rNumber_lx x3 b3) [] rfl trivial rfl rfl (fun r h' n' hrr => ?_)
 obtain ⟨⟨y3,e1,hy3⟩,e2,e3⟩ := hrr
 subst e1 e2 e3
 conv => cbv
 refine callF_frame (rPlace_lx x4 b4) [] rfl trivial rfl rfl (fun r h' n' hrr => ?_)
 obtain ⟨⟨y4,e1,hy4⟩,e2,e3⟩ := hrr
 subst e1 e2 e3
 conv => cbv
 refine callF_frame (rPlace_lx x5 b5) [] rfl trivial rfl rfl (fun r h' n' hrr => ?_)
 obtain ⟨⟨y5,e1,hy5⟩,e2,e3⟩ := hrr
 subst e1 e2 e3
 conv => cbv
 refine callF_frame (rPlace_lx x6 b6) [] rfl trivial rfl rfl (fun r h' n' hrr => ?_)
 obtain ⟨⟨y6,e1,hy6⟩,e2,e3⟩ := hrr
 subst e1 e2 e3
 conv => cbv
 refine callF_frame (rPlace_lx x7 b7) [] rfl trivial rfl rfl (fun r h' n' hrr => ?_)
 obtain ⟨⟨y7,e1,hy7⟩,e2,e3⟩ := hrr
 subst e1 e2 e3
 conv => cbv
 refine callF_frame (rPlace_lx x8 b8) [] rfl trivial rfl rfl (fun r h' n' hrr => ?_)
 obtain ⟨⟨y8,e1,hy8⟩,e2,e3⟩ := hrr
 subst e1 e2 e3
 conv => cbv
 refine RetF.mk [.agg [i6 y0,i6 y1,i6 y2,i6 y3,i6 y4,i6 y5,i6 y6,i6 y7,i6 y8],i6 e] [hpR 0 1 6 3 W 7 ph sp cy,hpB 1 2 5 3 W,hpD 2 3 3 1 N 4 254 8 N,hpP 3 P,hpP 4 B,hpP 5 V,hpP 6 Q,(7,.mix [.p (.vsl (.sym m) true la),.p (.bool ov)])] 8 (Re.at [(0,0),(1,1),(2,2),(3,3),(4,4),(5,5),(6,6),(7,7)] []) rfl ⟨⟨y0,y1,y2,y3,y4,y5,y6,y7,y8,e,rfl,?_⟩,rfl,rfl⟩
 have hfs : [y0,y1,y2,y3,y4,y5,y6,y7,y8] = chanFs [x0,x1,x2,x3,x4,x5,x6,x7,x8] := by simp only [chanFs,hy0,hy1,hy2,hy3,hy4,hy5,hy6,hy7,hy8]
 rw [he,hfs]; exact .ok _ hK hY
theorem rPutChan_lx (R : List Rw) (vs C G : List Int) (N W ph sp cy : Int) (P B V Q la : List PV) (m : Int) (ov : Bool) (h : RM R vs C G N W P B V Q la m) (a x0 x1 x2 x3 x4 x5 x6 x7 x8 : Int) (hb : ∀ x ∈ [x0,x1,x2,x3,x4,x5,x6,x7,x8],b62 x) : CallF (fun _ => Tryz.prog) 72 [.ptr 0 (.lit 0),i6 a,.agg [i6 x0,i6 x1,i6 x2,i6 x3,i6 x4,i6 x5,i6 x6,i6 x7,i6 x8]] [hpR 0 1 6 3 W 7 ph sp cy,hpB 1 2 5 3 W,hpD 2 3 3 1 N 4 254 8 N,hpP 3 P,hpP 4 B,hpP 5 V,hpP 6 Q,(7,.mix [.p (.vsl (.sym m) true la),.p (.bool ov)])] 8
  (fun r h n => ∃ (e : Int) (vs' C' G' : List Int) (ov' : Bool) (V' Q' la' : List PV) (m' : Int),r = .p (.int .i64 (.sym e)) ∧ h = [hpR 0 1 6 3 W 7 ph sp cy,hpB 1 2 5 3 W,hpD 2 3 3 1 N 4 254 8 N,hpP 3 P,hpP 4 B,hpP 5 V',hpP 6 Q',(7,.mix [.p (.vsl (.sym m') true la'),.p (.bool ov')])] ∧ n = 8 ∧ RM R vs' C' G' N W P B V' Q' la' m' ∧ PT 1 9 (chanWs [x0,x1,x2,x3,x4,x5,x6,x7,x8]) R ph a (vs,C,G,ov) e (vs',C',G',ov')) := by
 have hbd := chanWs_bd x0 x1 x2 x3 x4 x5 x6 x7 x8 hb
 simp only [List.forall_mem_cons] at hb
 obtain ⟨b0,b1,b2,b3,b4,b5,b6,b7,b8,_⟩ := hb
 refine callF_of_body tok Tryz.func72 (by kernel_rfl) rfl rfl rfl ?_; conv => cbv
 refine drawn_sound tok (by kernel_rfl) [(4,[27,26,24,23,21,20,18,17,15,14,12,11,9,8,6,5,1,0]),(7,[27,26,24,23,21,20,18,17,15,14,12,11,9,8,1,0]),(10,[27,26,24,23,21,20,18,17,15,14,12,11,1,0]),(13,[27,26,24,23,21,20,18,17,15,14,1,0]),(16,[27,26,24,23,21,20,18,17,1,0]),(19,[27,26,24,23,21,20,1,0]),(22,[27,26,24,23,1,0]),(25,[27,26,1,0]),(28,[1,0]),(29,[1,0]),(30,[])] [0,1,2,3,5,6,8,9,11,12,14,15,17,18,20,21,23,24,26,27,4,7,10,13,16,19,22,25,28,29,30,31] (by kernel_rfl) ?_; conv => cbv
 refine callF_frame (rInt62_lx x0 b0) [] rfl trivial rfl rfl (fun r h' n' hrr => ?_)
 obtain ⟨⟨v0,e1,hv0⟩,e2,e3⟩ := hrr
 subst e1 e2 e3
 conv => cbv
 refine callF_frame (rInt62_lx x1 b1) [] rfl trivial rfl rfl (fun r h' n' hrr => ?_)
 obtain ⟨⟨v1,e1,hv1⟩,e2,e3⟩ := hrr
 subst e1 e2 e3
 conv => cbv
 refine callF_frame (rInt62_lx x2 b2) [] rfl trivial rfl rfl (fun r h' n' hrr => ?_)
 obtain ⟨⟨v2,e1,hv2⟩,e2,e3⟩ := hrr
 subst e1 e2 e3
 conv => cbv
 refine callF_frame (rInt62_lx x3 b3) [] rfl trivial rfl rfl (fun r h' n' hrr => ?_)
 obtain ⟨⟨v3,e1,hv3⟩,e2,e3⟩ := hrr
 subst e1 e2 e3
 conv => cbv
 refine callF_frame (rptr_lx x4 b4) [] rfl trivial rfl rfl (fun r h' n' hrr => ?_)
 obtain ⟨⟨v4,e1,hv4⟩,e2,e3⟩ := hrr
 subst e1 e2 e3
 conv => cbv
 refine callF_frame (rptr_lx x5 b5) [] rfl trivial rfl rfl (fun r h' n' hrr => ?_)
 obtain ⟨⟨v5,e1,hv5⟩,e2,e3⟩ := hrr
 subst e1 e2 e3
 conv => cbv
 refine callF_frame (rptr_lx x6 b6) [] rfl trivial rfl rfl (fun r h' n' hrr => ?_)
 obtain ⟨⟨v6,e1,hv6⟩,e2,e3⟩ := hrr
 subst e1 e2 e3
 conv => cbv
 refine callF_frame (rptr_lx x7 b7) [] rfl trivial rfl rfl (fun r h' n' hrr => ?_)
 obtain ⟨⟨v7,e1,hv7⟩,e2,e3⟩ := hrr
 subst e1 e2 e3
 conv => cbv
 refine callF_frame (rptr_lx x8 b8) [] rfl trivial rfl rfl (fun r h' n' hrr => ?_)
 obtain ⟨⟨v8,e1,hv8⟩,e2,e3⟩ := hrr
 subst e1 e2 e3
 conv => cbv
 have hv : [v0,v1,v2,v3,v4,v5,v6,v7,v8] = chanWs [x0,x1,x2,x3,x4,x5,x6,x7,x8] := by simp only [chanWs,hv0,hv1,hv2,hv3,hv4,hv5,hv6,hv7,hv8]
 refine CallF.re (args0 := [.ptr 0 (.lit 0),i6 a,.p (.int .i64 (.lit 1)),.p (.vsl (.sym 9) true [.int .i64 (.sym v0),.int .i64 (.sym v1),.int .i64 (.sym v2),.int .i64 (.sym v3),.int .i64 (.sym v4),.int .i64 (.sym v5),.int .i64 (.sym v6),.int .i64 (.sym v7),.int .i64 (.sym v8)])]) (h' := [hpR 0 1 6 3 W 7 ph sp cy,hpB 1 2 5 3 W,hpD 2 3 3 1 N 4 254 8 N,hpP 3 P,hpP 4 B,hpP 5 V,hpP 6 Q,(7,.mix [.p (.vsl (.sym m) true la),.p (.bool ov)])]) (Re.at [(0,0),(1,1),(2,2),(3,3),(4,4),(5,5),(6,6),(7,7)] []) (cfr (rPutW1_lx R vs C G N W ph sp cy P B V Q la m ov h a [v0,v1,v2,v3,v4,v5,v6,v7,v8] [.int .i64 (.sym v0),.int .i64 (.sym v1),.int .i64 (.sym v2),.int .i64 (.sym v3),.int .i64 (.sym v4),.int .i64 (.sym v5),.int .i64 (.sym v6),.int .i64 (.sym v7),.int .i64 (.sym v8)] rfl rfl (by rw [hv]; exact hbd)) [(0,0),(1,1),(2,2),(3,3),(4,4),(5,5),(6,6),(7,7)] (fun r h' n' hrr => ?_))
 obtain ⟨e,vs',C',G',ov',V',Q',la',m',e1,e2,e3,h',hP⟩ := hrr
 subst e1 e2 e3
 rw [hv] at hP
 conv => cbv
 refine RetF.mk [i6 e] [hpR 0 1 6 3 W 7 ph sp cy,hpB 1 2 5 3 W,hpD 2 3 3 1 N 4 254 8 N,hpP 3 P,hpP 4 B,hpP 5 V',hpP 6 Q',(7,.mix [.p (.vsl (.sym m') true la'),.p (.bool ov')])] 8 (Re.at [(0,0),(1,1),(2,2),(3,3),(4,4),(5,5),(6,6),(7,7)] []) rfl ⟨e,vs',C',G',ov',V',Q',la',m',rfl,rfl,rfl,h',hP⟩
theorem rPutGor_lx (R : List Rw) (vs C G : List Int) (N W ph sp cy : Int) (P B V Q la : List PV) (m : Int) (ov : Bool) (h : RM R vs C G N W P B V Q la m) (a x0 x1 x2 x3 x4 x5 x6 x7 x8 x9 : Int) (hb : ∀ x ∈ [x0,x1,x2,x9],b62 x) (hw : ∀ x ∈ [x3,x4,x5,x6,x7,x8],-9223372036854775808 ≤ x ∧ x ≤ 9223372036854775807) : CallF (fun _ => Tryz.prog) 74 [.ptr 0 (.lit 0),i6 a,.agg [i6 x0,i6 x1,i6 x2,i6 x3,i6 x4,i6 x5,i6 x6,i6 x7,i6 x8,i6 x9]] [hpR 0 1 6 3 W 7 ph sp cy,hpB 1 2 5 3 W,hpD 2 3 3 1 N 4 254 8 N,hpP 3 P,hpP 4 B,hpP 5 V,hpP 6 Q,(7,.mix [.p (.vsl (.sym m) true la),.p (.bool ov)])] 8
  (fun r h n => ∃ (e : Int) (vs' C' G' : List Int) (ov' : Bool) (V' Q' la' : List PV) (m' : Int),r = .p (.int .i64 (.sym e)) ∧ h = [hpR 0 1 6 3 W 7 ph sp cy,hpB 1 2 5 3 W,hpD 2 3 3 1 N 4 254 8 N,hpP 3 P,hpP 4 B,hpP 5 V',hpP 6 Q',(7,.mix [.p (.vsl (.sym m') true la'),.p (.bool ov')])] ∧ n = 8 ∧ RM R vs' C' G' N W P B V' Q' la' m' ∧ PT 4 10 (gorWs [x0,x1,x2,x3,x4,x5,x6,x7,x8,x9]) R ph a (vs,C,G,ov) e (vs',C',G',ov')) := by
 have hbd := gorWs_bd x0 x1 x2 x3 x4 x5 x6 x7 x8 x9 hb hw
 simp only [List.forall_mem_cons] at hb
 obtain ⟨b0,b1,b2,b9,_⟩ := hb
 refine callF_of_body tok Tryz.func74 (by kernel_rfl) rfl rfl rfl ?_; conv => cbv
 refine drawn_sound tok (by kernel_rfl) [(2,[7,6,4,3]),(5,[7,6]),(8,[]),(9,[])] [0,1,3,4,6,7,2,5,8,9,10] (by kernel_rfl) ?_; conv => cbv
 refine callF_frame (rInt62_lx x0 b0) [] rfl trivial rfl rfl (fun r h' n' hrr => ?_)
 obtain ⟨⟨v0,e1,hv0⟩,e2,e3⟩ := hrr
 subst e1 e2 e3
 conv => cbv
 refine callF_frame (rInt62_lx x1 b1) [] rfl trivial rfl rfl (fun r h' n' hrr => ?_)
 obtain ⟨⟨v1,e1,hv1⟩,e2,e3⟩ := hrr
 subst e1 e2 e3
 conv => cbv
 refine callF_frame (rInt62_lx x2 b2) [] rfl trivial rfl rfl (fun r h' n' hrr => ?_)
 obtain ⟨⟨v2,e1,hv2⟩,e2,e3⟩ := hrr
 subst e1 e2 e3
 conv => cbv
 refine LoopF.rounds 7 ?_
 conv => cbv
 refine Need.mk (by simp [I.val]) ?_
 conv => cbv
 refine Room.new rfl ?_
 conv => cbv
 refine Room.new ⟨rfl,by simp [I.val],by simp [I.val]⟩ ?_
 conv => cbv
 refine Need.mk (by simp [I.val]) ?_
 conv => cbv
 refine Room.new rfl ?_
 conv => cbv
 refine Room.new ⟨rfl,by simp [I.val],by simp [I.val]⟩ ?_
 conv => cbv
 refine Need.mk (by simp [I.val]) ?_
 conv => cbv
 refine Room.new rfl ?_
 conv => cbv
 refine Room.new ⟨rfl,by simp [I.val],by simp [I.val]⟩ ?_
 conv => cbv
 refine Need.mk (by simp [I.val]) ?_
 conv => cbv
 refine Room.new rfl ?_
 conv => cbv
 refine Room.new ⟨rfl,by simp [I.val],by simp [I.val]⟩ ?_
 conv => cbv
 refine Need.mk (by simp [I.val]) ?_
 conv => cbv
 refine Room.new rfl ?_
 conv => cbv
 refine Room.new ⟨rfl,by simp [I.val],by simp [I.val]⟩ ?_
 conv => cbv
 refine Need.mk (by simp [I.val]) ?_
 conv => cbv
 refine Room.new rfl ?_
 conv => cbv
 refine Room.new ⟨rfl,by simp [I.val],by simp [I.val]⟩ ?_
 conv => cbv
 refine callF_frame (rptr_lx x9 b9) [] rfl trivial rfl rfl (fun r h' n' hrr => ?_)
 obtain ⟨⟨v9,e1,hv9⟩,e2,e3⟩ := hrr
 subst e1 e2 e3
 conv => cbv
 refine Room.new rfl ?_
 conv => cbv
 refine Room.new ⟨rfl,by simp [I.val],by simp [I.val]⟩ ?_
 conv => cbv
 have hv : [v0,v1,v2,x3,x4,x5,x6,x7,x8,v9] = gorWs [x0,x1,x2,x3,x4,x5,x6,x7,x8,x9] := by simp only [gorWs,hv0,hv1,hv2,hv9]
 refine CallF.re (args0 := [.ptr 0 (.lit 0),i6 a,.p (.int .i64 (.lit 4)),.p (.vsl (.sym 10) true [.int .i64 (.sym v0),.int .i64 (.sym v1),.int .i64 (.sym v2),.int .i64 (.sym x3),.int .i64 (.sym x4),.int .i64 (.sym x5),.int .i64 (.sym x6),.int .i64 (.sym x7),.int .i64 (.sym x8),.int .i64 (.sym v9)])]) (h' := [hpR 0 1 6 3 W 7 ph sp cy,hpB 1 2 5 3 W,hpD 2 3 3 1 N 4 254 8 N,hpP 3 P,hpP 4 B,hpP 5 V,hpP 6 Q,(7,.mix [.p (.vsl (.sym m) true la),.p (.bool ov)])]) (Re.at [(0,0),(1,1),(2,2),(3,3),(4,4),(5,5),(6,6),(7,7)] []) (cfr (rPutW4_lx R vs C G N W ph sp cy P B V Q la m ov h a [v0,v1,v2,x3,x4,x5,x6,x7,x8,v9] [.int .i64 (.sym v0),.int .i64 (.sym v1),.int .i64 (.sym v2),.int .i64 (.sym x3),.int .i64 (.sym x4),.int .i64 (.sym x5),.int .i64 (.sym x6),.int .i64 (.sym x7),.int .i64 (.sym x8),.int .i64 (.sym v9)] rfl rfl (by rw [hv]; exact hbd)) [(0,0),(1,1),(2,2),(3,3),(4,4),(5,5),(6,6),(7,7)] (fun r h' n' hrr => ?_))
 obtain ⟨e,vs',C',G',ov',V',Q',la',m',e1,e2,e3,h',hP⟩ := hrr
 subst e1 e2 e3
 rw [hv] at hP
 conv => cbv
 refine RetF.mk [i6 e] [hpR 0 1 6 3 W 7 ph sp cy,hpB 1 2 5 3 W,hpD 2 3 3 1 N 4 254 8 N,hpP 3 P,hpP 4 B,hpP 5 V',hpP 6 Q',(7,.mix [.p (.vsl (.sym m') true la'),.p (.bool ov')])] 8 (Re.at [(0,0),(1,1),(2,2),(3,3),(4,4),(5,5),(6,6),(7,7)] []) rfl ⟨e,vs',C',G',ov',V',Q',la',m',rfl,rfl,rfl,h',hP⟩
theorem rnewH_lx (N W : Int) (h2 : 2 ≤ N) (h8 : N ≤ 128) (hW : W = 32 * N) : CallF (fun _ => Tryz.prog) 69 [i6 N] [] 0 (fun r h n => ∃ P B V Q : List PV,r = .tup [.ptr 0 (.lit 0),.p (.int .i64 (.lit 0))] ∧ h = [hpR 0 1 6 3 W 7 0 0 0,hpB 1 2 5 3 W,hpD 2 3 3 1 N 4 254 8 N,hpP 3 P,hpP 4 B,hpP 5 V,hpP 6 Q,(7,.mix [.p (.vsl (.sym 0) true []),.p (.bool false)])] ∧ n = 8 ∧ RM (List.replicate N.toNat (0,[])) (List.replicate W.toNat 0) (List.replicate W.toNat 0) [] N W P B V Q [] 0) := by
 refine callF_of_body tok Tryz.func69 (by kernel_rfl) rfl rfl rfl ?_; conv => cbv
 refine callF_frame (rnewA_lx N W h2 h8 hW) [] rfl trivial rfl rfl (fun r h' n' hrr => ?_)
 obtain ⟨P,B,V,e1,e2,e3,hP,hB,hV⟩ := hrr
 subst e1 e2 e3
 conv => cbv
 refine Need.mk ⟨by show 0 ≤ W; omega,Int.le_refl _,by show W * 8 ≤ 140737488355328; omega,by show W ≤ 9223372036854775807; omega⟩ ?_
 conv => cbv
 obtain ⟨Q,hQ⟩ : ∃ Q,Q = ipv (List.replicate W.toNat 0) := ⟨_,rfl⟩
 refine Upd.mk fun Q0 hQ0 => ?_
 have hle : pvles Q0 Q := by
  have hQ0 : Q0 = repsP [.int .i64 (.lit 0)] W.toNat := hQ0
  rw [hQ0,hQ]; exact zero_ipv _
 unfold pvles at hle
 clear hQ0
 conv => cbv
 refine RetF.mk [.ptr 0 (.lit 0),.p (.int .i64 (.lit 0))] [hpR 0 1 6 3 W 7 0 0 0,hpB 1 2 5 3 W,hpD 2 3 3 1 N 4 254 8 N,hpP 3 P,hpP 4 B,hpP 5 V,hpP 6 Q,(7,.mix [.p (.vsl (.sym 0) true []),.p (.bool false)])] 8 (Re.at [(7,0),(0,1),(1,2),(2,3),(3,4),(4,5),(5,6),(6,7)] []) rfl ⟨P,B,V,Q,rfl,rfl,rfl,⟨by rw [show W.toNat = 32 * N.toNat by omega]; exact AOk.new _,by rw [List.length_replicate]; omega,by rw [List.length_replicate]; omega,hW,hP,hB,hV,hQ,by rw [List.length_replicate]; omega,rfl,rfl,fun x hx => (by cases hx),Nat.zero_le _⟩⟩
theorem beginS_lx (R : List Rw) (ws C G : List Int) (N W ph sp cy : Int) (L D Q : List PV) (z : ByteArray) (ov : Bool) (h : HM R ws C G N W L D Q z) (o : Unit → Obj) (ho : IsPow o) (A : List Int) (k : Int) (rs : List PV) (hrs : rs = ipv A) (hk : k = A.length) (hA : (A.length : Int) < 1000000) (hph : ph = 0) : CallF (fun _ => Tryz.prog) 18 [.ptr 0 (.lit 0),.sl 8 3 1 (.lit 0) (.sym k)] [hpA 0 1 5 6 3 W ph sp cy,hpB 1 2 4 3 W,hpC 2 3 179 2 N,hpP 3 L,hpP 4 D,hpF 5 z ov,hpP 6 Q,(7,.fix 0 o),(8,.pure false rs)] 9 (fun r h n => ∃ (C' G' : List Int) (ov' : Bool) (Q' : List PV) (z' : ByteArray),r = .p (.int .i64 (.lit 0)) ∧ h = [hpA 0 1 9 6 3 W 1 sp cy,hpB 1 2 4 3 W,hpC 2 3 179 2 N,hpP 3 L,hpP 4 D,hpF 9 z' ov',hpP 6 Q',(7,.fix 0 o),(8,.pure false rs)] ∧ n = 10 ∧ HM R ws C' G' N W L D Q' z' ∧ (C',G',ov') = begS R W A) := by
 have hCl := h.c; have hWn := h.w; have hNr := h.n; have hRr := h.r
 have hQl : Q.length = C.length := by rw [h.q,ipv_length]
 refine callF_of_body tok Tryz.func18 (by kernel_rfl) rfl rfl rfl ?_; conv => cbv
 refine cfr (arena_lx R ws C G N W ph sp cy L D Q z ov) [(0,0),(1,1),(2,2),(3,3),(4,4),(5,5),(6,6)] (fun r h' n' ⟨e1,e2,e3⟩ => ?_)
 subst e1 e2 e3
 conv => cbv
 refine Br.mk (fun g => ?_) (fun g => ?_)
 case refine_1 =>
  have g : ph ≠ 0 := g
  exact absurd hph g
 conv => cbv
 refine Need.mk ⟨Int.le_refl _,by show 0 ≤ W; omega,by show 0 + W * 1 ≤ (Q.length : Int); omega⟩ ?_
 conv => cbv
 obtain ⟨Q0,hQ0⟩ : ∃ Q0,Q0 = ipv (List.replicate W.toNat 0) := ⟨_,rfl⟩
 refine Upd.mk fun Q2 hQ2 => ?_
 have hle : pvles Q2 Q0 := by
  have hQ2 : Q2 = updL Q 0 (repsP [.int .i64 (.lit 0)] W.toNat) := hQ2
  rw [hQ2,hQ0,h.q,show W.toNat = C.length by omega,← zer_all]
  exact upd_zer _ _ _ _ (pvles_refl _)
 unfold pvles at hle
 clear hQ2
 conv => cbv
 refine callF_frame greyNew_lx [] rfl trivial rfl rfl (fun r h' n' hrr => ?_)
 obtain ⟨z1,e1,e2,e3,hz1⟩ := hrr
 subst e1 e2 e3
 have hM0 : HM R ws (List.replicate W.toNat 0) [] N W L D Q0 z1 := ⟨h.a,h.k,h.n,h.r,h.w,h.l,h.d,hQ0,by rw [List.length_replicate]; omega,hz1,fun x hx => (by cases hx),Nat.zero_le _⟩
 conv => cbv
 refine LoopF.mk (fun kk s => ∃ (i : Int) (C' G' : List Int) (ov' : Bool) (Q' : List PV) (z' : ByteArray),s = ⟨.ptr 0 (.lit 0) :: (undefs 25 ++ .sl 8 3 1 (.lit 0) (.sym k) :: .p (.int .i64 (.sym k)) :: .p (.int .i64 (.sym i)) :: undefs 7),[hpA 0 1 9 6 3 W 1 sp cy,hpB 1 2 4 3 W,hpC 2 3 179 2 N,hpP 3 L,hpP 4 D,hpF 9 z' ov',hpP 6 Q',(7,.fix 0 o),(8,.pure false rs)],10⟩ ∧ 0 ≤ i ∧ i ≤ k ∧ HM R ws C' G' N W L D Q' z' ∧ (C',G',ov') = begS R W (A.take i.toNat) ∧ kk = (k - i).toNat) k.toNat _
  (Re.at [(0,0),(1,1),(2,2),(3,3),(4,4),(6,6),(7,7),(8,8),(9,9)] []) ⟨0,_,_,_,Q0,z1,rfl,by omega,by omega,hM0,rfl,by omega⟩ ?_
 rintro kk s ⟨i,C',G',ov',Q',z',rfl,hi0,hi1,h2,hS,hk2⟩
 conv => cbv
 refine Br.mk (fun gi => ?_) (fun gi => ?_)
 ·have gi : i < k := gi
  obtain ⟨k',rfl⟩ : ∃ k',kk = k' + 1 := ⟨kk - 1,by omega⟩
  obtain ⟨a,ha⟩ : ∃ a,A[i.toNat]? = some a := ⟨_,List.getElem?_eq_getElem (by omega)⟩
  have hc : rs[i.toNat]? = some (.int .i64 (.sym a)) := by rw [hrs]; exact ipv_get ha
  conv => cbv
  refine Need.mk ⟨hi0,gi⟩ ?_
  conv => cbv
  refine Cell.at i _ hc (by simp [I.val]) rfl ?_
  conv => cbv
  refine cfr (shade_lx R ws C' G' N W 1 sp cy L D Q' z' ov' h2 o ho a) [(0,0),(1,1),(2,2),(3,3),(4,4),(5,9),(6,6),(7,7)] (fun r h' n' hrr => ?_)
  obtain ⟨C2,G2,ov2,Q2,z2,e1,e2,e3,h3,hS2⟩ := hrr
  subst e1 e2 e3
  have hS3 : (C2,G2,ov2) = begS R W (A.take (i.toNat + 1)) := by
   rw [hS2,hS]
   unfold begS
   rw [List.take_add_one,ha,Option.toList_some,List.foldl_append]; rfl
  conv => cbv
  refine Fit.mk (by show (-9223372036854775808 : Int) ≤ i + 1; omega) (by show i + 1 ≤ 9223372036854775807; omega) fun i2 hi2 => ?_
  have hi2 : i2 = i + 1 := hi2
  rw [show i.toNat + 1 = i2.toNat by omega] at hS3
  conv => cbv
  refine Again.mk k' _ (Nat.lt_succ_self _) (Re.at [(0,0),(1,1),(2,2),(3,3),(4,4),(6,6),(7,7),(8,8),(9,9)] []) ⟨i2,C2,G2,ov2,Q2,z2,rfl,by omega,by omega,h3,hS3,by omega⟩
 ·have gi : ¬ i < k := gi
  rw [List.take_of_length_le (by omega)] at hS
  conv => cbv
  refine RetF.mk [.p (.int .i64 (.lit 0))] [hpA 0 1 9 6 3 W 1 sp cy,hpB 1 2 4 3 W,hpC 2 3 179 2 N,hpP 3 L,hpP 4 D,hpF 9 z' ov',hpP 6 Q',(7,.fix 0 o),(8,.pure false rs)] 10 (Re.at [(0,0),(1,1),(2,2),(3,3),(4,4),(6,6),(7,7),(8,8),(9,9)] []) rfl ⟨C',G',ov',Q',z',rfl,rfl,rfl,h2,hS⟩
theorem rbeginS_lx (R : List Rw) (vs C G : List Int) (N W ph sp cy : Int) (P B V Q la : List PV) (m : Int) (ov : Bool) (h : RM R vs C G N W P B V Q la m) (A : List Int) (k : Int) (rs : List PV) (hrs : rs = ipv A) (hk : k = A.length) (hA : (A.length : Int) < 1000000) (hph : ph = 0) : CallF (fun _ => Tryz.prog) 29 [.ptr 0 (.lit 0),.sl 8 3 1 (.lit 0) (.sym k)] [hpR 0 1 6 3 W 7 ph sp cy,hpB 1 2 5 3 W,hpD 2 3 3 1 N 4 254 8 N,hpP 3 P,hpP 4 B,hpP 5 V,hpP 6 Q,(7,.mix [.p (.vsl (.sym m) true la),.p (.bool ov)]),(8,.pure false rs)] 9 (fun r h n => ∃ (C' G' : List Int) (ov' : Bool) (Q' la' : List PV) (m' : Int),r = .p (.int .i64 (.lit 0)) ∧ h = [hpR 0 1 6 3 W 9 1 sp cy,hpB 1 2 5 3 W,hpD 2 3 3 1 N 4 254 8 N,hpP 3 P,hpP 4 B,hpP 5 V,hpP 6 Q',(9,.mix [.p (.vsl (.sym m') true la'),.p (.bool ov')]),(8,.pure false rs)] ∧ n = 10 ∧ RM R vs C' G' N W P B V Q' la' m' ∧ (C',G',ov') = begS R W A) := by
 have hCl := h.c; have hWn := h.w; have hNr := h.n; have hRr := h.r
 have hQl : Q.length = C.length := by rw [h.q,ipv_length]
 refine callF_of_body tok Tryz.func29 (by kernel_rfl) rfl rfl rfl ?_; conv => cbv
 refine Br.no (show ¬ (ph ≠ 0) by omega) ?_
 conv => cbv
 refine LoopF.mk (fun kk s => ∃ (i : Int) (C' : List Int) (Q' : List PV),s = ⟨.ptr 0 (.lit 0) :: .sl 8 3 1 (.lit 0) (.sym k) :: (undefs 3 ++ .p (.int .i64 (.sym i)) :: undefs 41),[hpR 0 1 6 3 W 7 ph sp cy,hpB 1 2 5 3 W,hpD 2 3 3 1 N 4 254 8 N,hpP 3 P,hpP 4 B,hpP 5 V,hpP 6 Q',(7,.mix [.p (.vsl (.sym m) true la),.p (.bool ov)]),(8,.pure false rs)],9⟩ ∧ 0 ≤ i ∧ i ≤ W ∧ Q' = ipv C' ∧ C' = List.replicate i.toNat 0 ++ C.drop i.toNat ∧ kk = (W - i).toNat) W.toNat _
  (Re.at [(0,0),(1,1),(2,2),(3,3),(4,4),(5,5),(6,6),(7,7),(8,8)] []) ⟨0,C,Q,rfl,by omega,by omega,h.q,by simp,by omega⟩ ?_
 rintro kk s ⟨i,C',Q',rfl,hi0,hi1,hQ',hC',hkk⟩
 have hC'l : C'.length = C.length := by rw [hC',List.length_append,List.length_replicate,List.length_drop]; omega
 have hQ'l : Q'.length = C.length := by rw [hQ',ipv_length]; exact hC'l
 conv => cbv
 refine Br.mk (fun gi => ?_) (fun gi => ?_)
 ·have gi : i < W := gi
  obtain ⟨k',rfl⟩ : ∃ k',kk = k' + 1 := ⟨kk - 1,by omega⟩
  conv => cbv
  refine Need.mk ⟨hi0,gi⟩ ?_
  conv => cbv
  refine Need.mk (by show i + 1 ≤ (Q'.length : Int); omega) ?_
  conv => cbv
  obtain ⟨C2,hC2⟩ : ∃ C2,C2 = C'.set i.toNat 0 := ⟨_,rfl⟩
  obtain ⟨Q3,hQ3⟩ : ∃ Q3,Q3 = ipv C2 := ⟨_,rfl⟩
  refine Upd.mk fun Q2 hQ2 => ?_
  have hle : pvles Q2 Q3 := by
   have hQ2 : Q2 = Q'.set i.toNat (.int .i64 (.lit 0)) := hQ2
   rw [hQ2,hQ3,hC2,hQ',← ipv_set]
   exact pvles_set _ _ _ _ _ (pvles_refl _) (by simp [pvle,I.val])
  unfold pvles at hle
  clear hQ2
  have hC3 : C2 = List.replicate (i.toNat + 1) 0 ++ C.drop (i.toNat + 1) := by
   rw [hC2,hC',List.set_append_right _ _ (by rw [List.length_replicate]; omega),List.length_replicate,Nat.sub_self,List.drop_eq_getElem_cons (by omega),List.set_cons_zero,List.replicate_succ',List.append_assoc]
   rfl
  conv => cbv
  refine Fit.mk (by show (-9223372036854775808 : Int) ≤ i + 1; omega) (by show i + 1 ≤ 9223372036854775807; omega) fun i2 hi2 => ?_
  have hi2 : i2 = i + 1 := hi2
  rw [show i.toNat + 1 = i2.toNat by omega] at hC3
  conv => cbv
  refine Again.mk k' _ (Nat.lt_succ_self _) (Re.at [(0,0),(1,1),(2,2),(3,3),(4,4),(5,5),(6,6),(7,7),(8,8)] []) ⟨i2,C2,Q3,rfl,by omega,by omega,hQ3,hC3,by omega⟩
 ·have gi : ¬ i < W := gi
  have hC' : C' = List.replicate W.toNat 0 := by rw [hC',show i.toNat = W.toNat by omega,List.drop_of_length_le (by omega),List.append_nil]
  have hM0 : RM R vs (List.replicate W.toNat 0) [] N W P B V Q' [] 0 := ⟨h.a,h.n,h.r,h.w,h.p,h.b,h.v,by rw [hQ',hC'],by rw [List.length_replicate]; omega,rfl,rfl,fun x hx => (by cases hx),Nat.zero_le _⟩
  clear hQ' hC' hC'l hQ'l
  conv => cbv
  refine LoopF.mk (fun kk s => ∃ (i : Int) (C' G' : List Int) (ov' : Bool) (Q' la' : List PV) (m' : Int),s = ⟨.ptr 0 (.lit 0) :: .sl 8 3 1 (.lit 0) (.sym k) :: (undefs 4 ++ .p (.int .i64 (.sym i)) :: undefs 40),[hpR 0 1 6 3 W 9 1 sp cy,hpB 1 2 5 3 W,hpD 2 3 3 1 N 4 254 8 N,hpP 3 P,hpP 4 B,hpP 5 V,hpP 6 Q',(9,.mix [.p (.vsl (.sym m') true la'),.p (.bool ov')]),(8,.pure false rs)],10⟩ ∧ 0 ≤ i ∧ i ≤ k ∧ RM R vs C' G' N W P B V Q' la' m' ∧ (C',G',ov') = begS R W (A.take i.toNat) ∧ kk = (k - i).toNat) k.toNat _
   (Re.at [(0,0),(1,1),(2,2),(3,3),(4,4),(5,5),(6,6),(8,8),(9,9)] []) ⟨0,_,_,_,Q',[],0,rfl,by omega,by omega,hM0,rfl,by omega⟩ ?_
  clear hM0
  rintro kk s ⟨i,C',G',ov',Q',la',m',rfl,hi0,hi1,h2,hS,hk2⟩
  conv => cbv
  refine Br.mk (fun gi => ?_) (fun gi => ?_)
  ·have gi : i < k := gi
   obtain ⟨k',rfl⟩ : ∃ k',kk = k' + 1 := ⟨kk - 1,by omega⟩
   obtain ⟨a,ha⟩ : ∃ a,A[i.toNat]? = some a := ⟨_,List.getElem?_eq_getElem (by omega)⟩
   have hc : rs[i.toNat]? = some (.int .i64 (.sym a)) := by rw [hrs]; exact ipv_get ha
   conv => cbv
   refine Need.mk ⟨hi0,gi⟩ ?_
   conv => cbv
   refine Cell.at i _ hc (by simp [I.val]) rfl ?_
   conv => cbv
   refine cfr (rshade_lx R vs C' G' N W 1 sp cy P B V Q' la' m' ov' h2 a) [(0,0),(1,1),(2,2),(3,3),(4,4),(5,5),(6,6),(7,9)] (fun r h' n' hrr => ?_)
   obtain ⟨C2,G2,ov2,Q2,la2,m2,e1,e2,e3,h3,hS2⟩ := hrr
   subst e1 e2 e3
   have hS3 : (C2,G2,ov2) = begS R W (A.take (i.toNat + 1)) := by
    rw [hS2,hS]
    unfold begS
    rw [List.take_add_one,ha,Option.toList_some,List.foldl_append]; rfl
   conv => cbv
   refine Fit.mk (by show (-9223372036854775808 : Int) ≤ i + 1; omega) (by show i + 1 ≤ 9223372036854775807; omega) fun i2 hi2 => ?_
   have hi2 : i2 = i + 1 := hi2
   rw [show i.toNat + 1 = i2.toNat by omega] at hS3
   conv => cbv
   refine Again.mk k' _ (Nat.lt_succ_self _) (Re.at [(0,0),(1,1),(2,2),(3,3),(4,4),(5,5),(6,6),(8,8),(9,9)] []) ⟨i2,C2,G2,ov2,Q2,la2,m2,rfl,by omega,by omega,h3,hS3,by omega⟩
  ·have gi : ¬ i < k := gi
   rw [List.take_of_length_le (by omega)] at hS
   conv => cbv
   refine RetF.mk [.p (.int .i64 (.lit 0))] [hpR 0 1 6 3 W 9 1 sp cy,hpB 1 2 5 3 W,hpD 2 3 3 1 N 4 254 8 N,hpP 3 P,hpP 4 B,hpP 5 V,hpP 6 Q',(9,.mix [.p (.vsl (.sym m') true la'),.p (.bool ov')]),(8,.pure false rs)] 10 (Re.at [(0,0),(1,1),(2,2),(3,3),(4,4),(5,5),(6,6),(8,8),(9,9)] []) rfl ⟨C',G',ov',Q',la',m',rfl,rfl,rfl,h2,hS⟩
theorem three_eq {a a' b b' : List Int} {c c' : Bool} {x : List Int × List Int × Bool} (h : (a,b,c) = x) (h' : (a',b',c') = x) : a = a' ∧ b = b' ∧ c = c' := by
 rw [← h'] at h
 cases h
 exact ⟨rfl,rfl,rfl⟩
theorem stepd_nums {R R' : List Rw} {ws C G ws' C' G' : List Int} {ov ov' : Bool} {ph sp cy W p s y : Int} {out : List Gn} (hsp : 0 ≤ sp) (hcy : 0 ≤ cy) (h : Stepd R ws C G ov ph sp cy W out R' ws' C' G' ov' p s y) : 0 ≤ s ∧ s ≤ sp + 1 ∧ 0 ≤ y ∧ y ≤ cy + 1 := by
 cases h with
 | mark _ _ _ _ _ _ _ _ hm => cases hm with
  | scan _ _ _ _ _ _ _ _ _ _ => exact ⟨hsp,by omega,hcy,by omega⟩
  | keep _ _ _ _ _ _ _ _ _ _ _ _ _ => exact ⟨hsp,by omega,hcy,by omega⟩
  | sweep _ _ _ _ => exact ⟨by omega,by omega,hcy,by omega⟩
 | sweep _ _ _ _ =>
  unfold swCy
  split <;> exact ⟨by omega,by omega,by omega,by omega⟩
 | idle _ _ => exact ⟨hsp,by omega,hcy,by omega⟩
theorem beginStateU_lx (R : List Rw) (ws C G : List Int) (N W ph sp cy : Int) (L D Q : List PV) (z : ByteArray) (ov : Bool) (h : HM R ws C G N W L D Q z) (hph : ph ≠ 0) : CallF (fun _ => Tryz.prog) 18 [.ptr 0 (.lit 0),.undef] [hpA 0 1 5 6 3 W ph sp cy,hpB 1 2 4 3 W,hpC 2 3 179 2 N,hpP 3 L,hpP 4 D,hpF 5 z ov,hpP 6 Q] 7 (fun r h n => r = .p (.int .i64 (.lit 11)) ∧ h = [hpA 0 1 5 6 3 W ph sp cy,hpB 1 2 4 3 W,hpC 2 3 179 2 N,hpP 3 L,hpP 4 D,hpF 5 z ov,hpP 6 Q] ∧ n = 7) := by
 refine callF_of_body tok Tryz.func18 (by kernel_rfl) rfl rfl rfl ?_; conv => cbv
 refine cfr (arena_lx R ws C G N W ph sp cy L D Q z ov) [(0,0),(1,1),(2,2),(3,3),(4,4),(5,5),(6,6)] (fun r h' n' ⟨e1,e2,e3⟩ => ?_)
 subst e1 e2 e3
 conv => cbv
 refine Br.yes (show ph ≠ 0 from hph) ?_
 conv => cbv
 refine RetF.mk [.p (.int .i64 (.lit 11))] [hpA 0 1 5 6 3 W ph sp cy,hpB 1 2 4 3 W,hpC 2 3 179 2 N,hpP 3 L,hpP 4 D,hpF 5 z ov,hpP 6 Q] 7 (Re.at [(0,0),(1,1),(2,2),(3,3),(4,4),(5,5),(6,6)] []) rfl ⟨rfl,rfl,rfl⟩
theorem rbeginStateU_lx (R : List Rw) (vs C G : List Int) (N W ph sp cy : Int) (P B V Q la : List PV) (m : Int) (ov : Bool) (h : RM R vs C G N W P B V Q la m) (hph : ph ≠ 0) : CallF (fun _ => Tryz.prog) 29 [.ptr 0 (.lit 0),.undef] [hpR 0 1 6 3 W 7 ph sp cy,hpB 1 2 5 3 W,hpD 2 3 3 1 N 4 254 8 N,hpP 3 P,hpP 4 B,hpP 5 V,hpP 6 Q,(7,.mix [.p (.vsl (.sym m) true la),.p (.bool ov)])] 8 (fun r h n => r = .p (.int .i64 (.lit 11)) ∧ h = [hpR 0 1 6 3 W 7 ph sp cy,hpB 1 2 5 3 W,hpD 2 3 3 1 N 4 254 8 N,hpP 3 P,hpP 4 B,hpP 5 V,hpP 6 Q,(7,.mix [.p (.vsl (.sym m) true la),.p (.bool ov)])] ∧ n = 8) := by
 refine callF_of_body tok Tryz.func29 (by kernel_rfl) rfl rfl rfl ?_; conv => cbv
 refine Br.yes (show ph ≠ 0 from hph) ?_
 conv => cbv
 refine RetF.mk [.p (.int .i64 (.lit 11))] [hpR 0 1 6 3 W 7 ph sp cy,hpB 1 2 5 3 W,hpD 2 3 3 1 N 4 254 8 N,hpP 3 P,hpP 4 B,hpP 5 V,hpP 6 Q,(7,.mix [.p (.vsl (.sym m) true la),.p (.bool ov)])] 8 (Re.at [(0,0),(1,1),(2,2),(3,3),(4,4),(5,5),(6,6),(7,7)] []) rfl ⟨rfl,rfl,rfl⟩
theorem plainE_true (A : List Int) (m : Int) (la lb : List PV) (hm : m = A.length) (ha : la = ipv A) (hb : lb = ipv A) (hA : (A.length : Int) < 1000000) :
  CallF (fun _ => Tryz.prog) 35 [.p (.vsl (.sym m) true la),.p (.vsl (.sym m) true lb)] [] 0 (fun r h n => r = .p (.bool true) ∧ h = [] ∧ n = 0) :=
 (plaini64_lx A A m m la lb hm hm (by rw [ha]; exact preI_ints A) (by rw [hb]; exact preI_ints A) hA).mono fun r h n ⟨⟨b,e1,h1⟩,e2,e3⟩ => ⟨by rw [e1,h1.2 rfl],e2,e3⟩
theorem allocC_white {n : Nat} (a : Int) : allocC 0 a 0 (List.replicate n 0) = List.replicate n 0 := by
 unfold allocC
 rw [if_pos rfl,if_pos rfl,List.set_replicate_self]
structure PutF (R : List Rw) (a kd m : Int) (i : Nat) (l : List Int) (s s' : List Int) : Prop where
 ok : AOk R s'
 kept : Kept R s' a kd m
 up : ∀ b k n,Kept R s b k n → Kept R s' b k n
 down : ∀ b k n,Kept R s' b k n → Kept R s b k n
 oth : ∀ b j y,b ≠ a → Loaded R s b j y 0 → Loaded R s' b j y 0
 out : ∀ j : Int,0 ≤ j → (j < i ∨ (i : Int) + l.length ≤ j) → s'[(a + 1 + j).toNat]? = s[(a + 1 + j).toNat]?
 in_ : ∀ (q : Nat) (x : Int),l[q]? = some x → s'[(a + 1 + (i + q : Nat)).toNat]? = some x
theorem putS_fact {R : List Rw} {ph a kd m : Int} : ∀ (l : List Int) (i : Nat) (s : St4),AOk R s.1 → Kept R s.1 a kd m → (i : Int) + l.length ≤ m → (∀ x ∈ l,-9223372036854775808 ≤ x ∧ x ≤ 9223372036854775807) → PutF R a kd m i l s.1 (putS R ph a i l s).1
 | [],i,s,hA,hK,_,_ => ⟨hA,hK,fun _ _ _ h => h,fun _ _ _ h => h,fun _ _ _ _ h => h,fun _ _ _ => rfl,fun q x h => by simp at h⟩
 | w :: l,i,s,hA,hK,hm,hb => by
  have hbd := hK.bounds hA
  have hlen := hA.len
  rw [List.length_cons] at hm
  rw [putS]
  by_cases hc : s.1[(a + 1 + (i : Int)).toNat]? = some w
  ·rw [if_pos hc]
   have f := putS_fact (ph := ph) l (i + 1) s hA hK (by omega) fun x hx => hb x (List.mem_cons_of_mem _ hx)
   refine ⟨f.ok,f.kept,f.up,f.down,f.oth,fun j hj0 hj => ?_,fun q x hq => ?_⟩
   ·by_cases e : j = i
    ·subst e; exact f.out _ hj0 (.inl (by omega))
    ·rw [List.length_cons] at hj
     exact f.out j hj0 (by omega)
   ·cases q with
    | zero => simp at hq; rw [← hq,← hc]; rw [show (i + 0 : Nat) = i from rfl]; exact f.out i (by omega) (.inl (by omega))
    | succ q => have := f.in_ q x (by simpa using hq); rw [show i + (q + 1) = i + 1 + q by omega]; exact this
  ·rw [if_neg hc]
   have hS : Stored R s.1 a i w 0 (s.1.set (a + 1 + (i : Int)).toNat w) := .ok kd m hK ⟨by omega,by omega⟩
   obtain ⟨g1,g2⟩ := stored_to hA hS
   have f := putS_fact (ph := ph) l (i + 1) (s.1.set (a + 1 + (i : Int)).toNat w,shadeW R ph w s.2) (hA.set hK ⟨by omega,by omega⟩ (hb w (List.mem_cons_self ..))) (g1 _ _ _ hK) (by omega) fun x hx => hb x (List.mem_cons_of_mem _ hx)
   refine ⟨f.ok,f.kept,fun b k n h => f.up b k n (g1 b k n h),fun b k n h => stored_kept hA hS b k n (f.down b k n h),fun b j y hn h => f.oth b j y hn (g2 b j y hn h),fun j hj0 hj => ?_,fun q x hq => ?_⟩
   ·rw [List.length_cons] at hj
    rw [f.out j hj0 (by omega)]
    exact List.getElem?_set_ne (by omega)
   ·cases q with
    | zero =>
     simp at hq
     rw [← hq,show (i + 0 : Nat) = i from rfl,f.out i (by omega) (.inl (by omega))]
     exact List.getElem?_set_self (by omega)
    | succ q => have := f.in_ q x (by simpa using hq); rw [show i + (q + 1) = i + 1 + q by omega]; exact this
theorem putS_sim {R : List Rw} {ph a kd m : Int} : ∀ (l : List Int) (i : Nat) (ws vs : List Int) (c : List Int × List Int × Bool),Sim R ws vs → Kept R ws a kd m → (i : Int) + l.length ≤ m → (∀ x ∈ l,-9223372036854775808 ≤ x ∧ x ≤ 9223372036854775807) → (putS R ph a i l (ws,c)).2 = (putS R ph a i l (vs,c)).2 ∧ Sim R (putS R ph a i l (ws,c)).1 (putS R ph a i l (vs,c)).1
 | [],i,ws,vs,c,hS,_,_,_ => ⟨rfl,hS⟩
 | w :: l,i,ws,vs,c,hS,hK,hm,hb => by
  rw [List.length_cons] at hm
  have hK2 := hS.hdr _ _ _ hK
  have hin := hS.in_ a kd m i hK (by omega) (by omega)
  rw [putS,putS]
  dsimp only
  rw [hin]
  by_cases hc : ws[(a + 1 + (i : Int)).toNat]? = some w
  ·rw [if_pos hc,if_pos hc]
   exact putS_sim l (i + 1) ws vs c hS hK (by omega) fun x hx => hb x (List.mem_cons_of_mem _ hx)
  ·rw [if_neg hc,if_neg hc]
   have h1 : Stored R ws a i w 0 (ws.set (a + 1 + (i : Int)).toNat w) := .ok kd m hK ⟨by omega,by omega⟩
   have h2 : Stored R vs a i w 0 (vs.set (a + 1 + (i : Int)).toNat w) := .ok kd m hK2 ⟨by omega,by omega⟩
   exact putS_sim l (i + 1) _ _ _ (hS.store (hb w (List.mem_cons_self ..)) h1 h2).2 ((stored_to hS.a h1).1 _ _ _ hK) (by omega) fun x hx => hb x (List.mem_cons_of_mem _ hx)
theorem atW_plW {a : Int} (h : -1 ≤ a) : atW (plW a) = a := by unfold atW plW; split <;> split <;> omega
theorem numW_two (v : Int) : numW (v * 2) = v := by unfold numW; rw [if_neg (by omega)]; omega
theorem PT.two {kd ln : Int} {W : List Int} {R : List Rw} {ph a e : Int} {s s' : St4} (h : PT kd ln W R ph a s e s') : (e = 0 ∧ Kept R s.1 a kd ln ∧ s' = putS R ph a 0 W s) ∨ (e = 10 ∧ ¬ Kept R s.1 a kd ln ∧ s' = s) := by
 cases h with
 | ok h => exact .inl ⟨rfl,h,rfl⟩
 | no h => exact .inr ⟨rfl,h,rfl⟩
theorem PT.sim {kd ln : Int} {W : List Int} {R : List Rw} {ph a e f : Int} {ws vs ws' vs' : List Int} {c c' d' : List Int × List Int × Bool} (hS : Sim R ws vs) (hl : (W.length : Int) = ln) (hb : ∀ x ∈ W,-9223372036854775808 ≤ x ∧ x ≤ 9223372036854775807) (h1 : PT kd ln W R ph a (ws,c) e (ws',c')) (h2 : PT kd ln W R ph a (vs,c) f (vs',d')) : e = f ∧ c' = d' ∧ Sim R ws' vs' := by
 rcases h1.two with ⟨e1,k1,q1⟩ | ⟨e1,k1,q1⟩ <;> rcases h2.two with ⟨e2,k2,q2⟩ | ⟨e2,k2,q2⟩
 ·have := putS_sim (ph := ph) W 0 ws vs c hS k1 (by omega) hb
  rw [← q1,← q2] at this
  exact ⟨e1.trans e2.symm,this.1,this.2⟩
 ·exact absurd (hS.hdr _ _ _ k1) k2
 ·exfalso
  obtain ⟨k,l,hk⟩ := Kept.of hS.a (k2.obj6)
  have := (hS.hdr _ _ _ hk).det9 k2
  rw [this.1,this.2] at hk
  exact k1 hk
 ·cases q1; cases q2
  exact ⟨e1.trans e2.symm,rfl,hS⟩
theorem chan_back (x0 x1 x2 x3 x4 x5 x6 x7 x8 : Int) (hp : ∀ x ∈ [x4,x5,x6,x7,x8],-1 ≤ x) : chanFs (chanWs [x0,x1,x2,x3,x4,x5,x6,x7,x8]) = [x0,x1,x2,x3,x4,x5,x6,x7,x8] := by
 simp only [List.forall_mem_cons] at hp
 obtain ⟨p4,p5,p6,p7,p8,_⟩ := hp
 simp only [chanFs,chanWs,numW_two,atW_plW p4,atW_plW p5,atW_plW p6,atW_plW p7,atW_plW p8]
theorem gor_back (x0 x1 x2 x3 x4 x5 x6 x7 x8 x9 : Int) (hp : ∀ x ∈ [x9],-1 ≤ x) : gorFs (gorWs [x0,x1,x2,x3,x4,x5,x6,x7,x8,x9]) = [x0,x1,x2,x3,x4,x5,x6,x7,x8,x9] := by
 simp only [List.forall_mem_cons] at hp
 obtain ⟨p9,_⟩ := hp
 simp only [gorFs,gorWs,numW_two,atW_plW p9]
theorem Sim.back {R : List Rw} {ws vs : List Int} (hS : Sim R ws vs) {a k l : Int} (h : Kept R vs a k l) : Kept R ws a k l := by
 obtain ⟨k2,l2,hk⟩ := Kept.of hS.a h.obj6
 have := (hS.hdr _ _ _ hk).det9 h
 rw [this.1,this.2] at hk
 exact hk
def ff (c : Int) (e : Rw) : Nat := if e.1 = c ∧ e.2 ≠ [] then 1 else 0
def cnt (f : Rw → Nat) (R : List Rw) : Nat := (R.map f).sum
def Hld (R : List Rw) (ws : List Int) (a kd ln : Int) (Wl : List Int) : Prop := Kept R ws a kd ln ∧ (Wl.length : Int) = ln ∧ ∀ (q : Nat) (x : Int),Wl[q]? = some x → ws[(a + 1 + (q : Int)).toNat]? = some x
theorem Kept.ne9 {R : List Rw} {ws : List Int} {a b k l k' l' : Int} (h : Kept R ws a k l) (h' : Kept R ws b k' l') (hk : k ≠ k') : a ≠ b := fun e => by
 subst e
 exact hk (h.det9 h').1
theorem PT.hld {kd ln : Int} {Wl : List Int} {R : List Rw} {ph a e : Int} {s s' : St4} (hA : AOk R s.1) (hK : Kept R s.1 a kd ln) (hl : (Wl.length : Int) = ln) (hb : ∀ x ∈ Wl,-9223372036854775808 ≤ x ∧ x ≤ 9223372036854775807) (hP : PT kd ln Wl R ph a s e s') : e = 0 ∧ Hld R s'.1 a kd ln Wl ∧ (∀ b k n V,b ≠ a → Hld R s.1 b k n V → Hld R s'.1 b k n V) ∧ (∀ b k n,Kept R s.1 b k n → Kept R s'.1 b k n) := by
 rcases hP.two with ⟨e1,k1,q1⟩ | ⟨e1,k1,q1⟩
 ·have hF := putS_fact (ph := ph) Wl 0 s hA hK (by omega) hb
  rw [← q1] at hF
  refine ⟨e1,⟨hF.kept,hl,fun q x hq => ?_⟩,fun b k n V hn ⟨h1,h2,h3⟩ => ⟨hF.up _ _ _ h1,h2,fun q x hq => ?_⟩,hF.up⟩
  ·have := hF.in_ q x hq
   rwa [show (0 + q : Nat) = q by omega] at this
  ·have hql : q < V.length := by
    rcases Nat.lt_or_ge q V.length with h | h
    ·exact h
    ·rw [List.getElem?_eq_none h] at hq; cases hq
   exact (loaded_of (hF.up _ _ _ h1) ⟨by omega,by omega⟩ (hF.oth b q x hn (.ok k n x h1 ⟨by omega,by omega⟩ (h3 q x hq)))).2
 ·exact absurd hK k1
theorem TR.hld {kd ln : Int} {fs : List Int → List Int} {Wl : List Int} {R : List Rw} {ws : List Int} {a f : Int} {y : List Int} (hH : Hld R ws a kd ln Wl) (hT : TR kd ln fs R ws a f y) : f = 0 ∧ y = fs Wl := by
 obtain ⟨hK,hl,hw⟩ := hH
 cases hT with
 | no h => exact absurd hK h
 | ok X h hX =>
  refine ⟨rfl,?_⟩
  have hXl : (X.length : Int) = ln := lenR_of6 hK hX.1
  have : X = Wl := by
   apply List.ext_getElem?
   intro j
   by_cases hj : j < Wl.length
   ·obtain ⟨x,hx⟩ : ∃ x,X[j]? = some x := ⟨_,List.getElem?_eq_getElem (by omega)⟩
    have h1 := (loaded_of hK ⟨by omega,by omega⟩ (hX.2 j x hx)).2
    have h2 := hw j _ (List.getElem?_eq_getElem hj)
    rw [h1] at h2
    rw [hx,List.getElem?_eq_getElem hj,Option.some.inj h2]
   ·rw [List.getElem?_eq_none (by omega),List.getElem?_eq_none (by omega)]
  rw [this]
theorem Hld.word {R : List Rw} {ws : List Int} {a kd ln : Int} {Wl : List Int} (hH : Hld R ws a kd ln Wl) (i : Nat) (y : Int) (hy : Wl[i]? = some y) {x e : Int} (hL : Loaded R ws a i x e) : x = y := by
 obtain ⟨hK,hl,hw⟩ := hH
 have hlt : i < Wl.length := (List.getElem?_eq_some_iff.1 hy).1
 have h1 := (loaded_of hK ⟨by omega,by omega⟩ hL).2
 rw [hw i y hy] at h1
 exact (Option.some.inj h1).symm
inductive Look (R : List Rw) (ws : List Int) (x0 x2 x3 x4 : Int) : LV → Prop
 | none (h : ¬ (0 < x0 ∧ Kept R ws x4 2 x0)) : Look R ws x0 x2 x3 x4 (.iface 190 (.agg []))
 | row (s k : Int) (h0 : 0 < x0) (h : Kept R ws x4 2 x0) (hs : s = (max x3 0) % x0) (hk : k = max x2 0) : Look R ws x0 x2 x3 x4 (.iface 115 (.agg [i6 x4,i6 x0,i6 s,i6 k]))
theorem ringLook_lx (R : List Rw) (ws C G : List Int) (N W ph sp cy : Int) (L D Q : List PV) (z : ByteArray) (ov : Bool) (h : HM R ws C G N W L D Q z) (x0 x1 x2 x3 x4 x5 x6 x7 x8 : Int) : CallF (fun _ => Tryz.prog) 76 [.ptr 0 (.lit 0),.agg [i6 x0,i6 x1,i6 x2,i6 x3,i6 x4,i6 x5,i6 x6,i6 x7,i6 x8]] [hpA 0 1 5 6 3 W ph sp cy,hpB 1 2 4 3 W,hpC 2 3 179 2 N,hpP 3 L,hpP 4 D,hpF 5 z ov,hpP 6 Q] 7 (fun r h n => Look R ws x0 x2 x3 x4 r ∧ h = [hpA 0 1 5 6 3 W ph sp cy,hpB 1 2 4 3 W,hpC 2 3 179 2 N,hpP 3 L,hpP 4 D,hpF 5 z ov,hpP 6 Q] ∧ n = 7) := by
 refine callF_of_body tok Tryz.func76 (by kernel_rfl) rfl rfl rfl ?_; conv => cbv
 refine drawn_sound tok (by kernel_rfl) [(5,[7,6]),(8,[]),(13,[18,17,15,14]),(16,[18,17])] [0,1,2,3,4,6,7,5,8,9,10,11,12,14,15,17,18,13,16,19,20] (by kernel_rfl) ?_; conv => cbv
 refine Br.mk (fun g0 => ?_) (fun g0 => ?_)
 ·have g0 : x0 ≤ 0 := g0
  conv => cbv
  refine RetF.mk [.iface 190 (.agg [])] [hpA 0 1 5 6 3 W ph sp cy,hpB 1 2 4 3 W,hpC 2 3 179 2 N,hpP 3 L,hpP 4 D,hpF 5 z ov,hpP 6 Q] 7 (Re.at [(0,0),(1,1),(2,2),(3,3),(4,4),(5,5),(6,6)] []) rfl ⟨.none (fun ⟨q1,q2⟩ => absurd q1 (by omega)),rfl,rfl⟩
 ·have g0 : ¬ x0 ≤ 0 := g0
  conv => cbv
  refine cfr (arena_lx R ws C G N W ph sp cy L D Q z ov) [(0,0),(1,1),(2,2),(3,3),(4,4),(5,5),(6,6)] (fun r h' n' ⟨e1,e2,e3⟩ => ?_)
  subst e1 e2 e3
  conv => cbv
  refine cfr (kind_lx R ws N x4 W L D h.l h.d h.n h.r h.a h.w) [(0,1),(1,2),(2,3),(3,4)] (fun r h' n' hrr => ?_)
  obtain ⟨v,e1,e2,e3,hv⟩ := hrr
  subst e1 e2 e3
  conv => cbv
  refine Br.mk (fun g1 => ?_) (fun g1 => ?_)
  ·have g1 : ¬ v = 2 := g1
   conv => cbv
   refine RetF.mk [.iface 190 (.agg [])] [hpA 0 1 5 6 3 W ph sp cy,hpB 1 2 4 3 W,hpC 2 3 179 2 N,hpP 3 L,hpP 4 D,hpF 5 z ov,hpP 6 Q] 7 (Re.at [(0,0),(1,1),(2,2),(3,3),(4,4),(5,5),(6,6)] []) rfl ⟨.none (fun ⟨q1,q2⟩ => g1 (kindR_of6 q2 hv)),rfl,rfl⟩
  ·have g1 : ¬ ¬ v = 2 := g1
   have g1 : v = 2 := Classical.not_not.1 g1
   conv => cbv
   refine cfr (arena_lx R ws C G N W ph sp cy L D Q z ov) [(0,0),(1,1),(2,2),(3,3),(4,4),(5,5),(6,6)] (fun r h' n' ⟨e1,e2,e3⟩ => ?_)
   subst e1 e2 e3
   conv => cbv
   refine cfr (len_lx R ws N x4 W L D h.l h.d h.n h.r h.a h.w) [(0,1),(1,2),(2,3),(3,4)] (fun r h' n' hrr => ?_)
   obtain ⟨l,e1,e2,e3,hl⟩ := hrr
   subst e1 e2 e3
   conv => cbv
   refine Br.mk (fun g2 => ?_) (fun g2 => ?_)
   ·have g2 : ¬ l = x0 := g2
    conv => cbv
    refine RetF.mk [.iface 190 (.agg [])] [hpA 0 1 5 6 3 W ph sp cy,hpB 1 2 4 3 W,hpC 2 3 179 2 N,hpP 3 L,hpP 4 D,hpF 5 z ov,hpP 6 Q] 7 (Re.at [(0,0),(1,1),(2,2),(3,3),(4,4),(5,5),(6,6)] []) rfl ⟨.none (fun ⟨q1,q2⟩ => g2 (lenR_of6 q2 hl)),rfl,rfl⟩
   ·have g2 : ¬ ¬ l = x0 := g2
    have g2 : l = x0 := Classical.not_not.1 g2
    conv => cbv
    have hK : Kept R ws x4 2 x0 := by
     cases hv with
     | no hn => exact absurd g1 (by decide)
     | is k l2 hK2 =>
      have := lenR_of6 hK2 hl
      rw [← g1,← g2,this]
      exact hK2
    refine drawn_sound tok (by kernel_rfl) [] [0,1,2,3,4,5,6,7,8,9,10,11,12,13,14,15] (by kernel_rfl) ?_; conv => cbv
    refine Br.mk (fun gA => ?_) (fun gA => ?_)
    ·have gA : x3 < 0 := gA
     conv => cbv
     refine Need.mk (show x0 ≠ 0 by omega) ?_
     conv => cbv
     refine Sum.mk fun sv hsv => ?_
     have hs : sv = (max x3 0) % x0 := (show sv = (0 : Int).tmod x0 from hsv).trans (by rw [Int.tmod_eq_emod_of_nonneg (by omega),show max x3 0 = (0 : Int) by omega])
     clear hsv
     conv => cbv
     refine Br.mk (fun gB => ?_) (fun gB => ?_)
     ·have gB : x2 < 0 := gB
      have hk : max x2 0 = (0 : Int) := by omega
      conv => cbv
      refine RetF.mk [.iface 115 (.agg [i6 x4,i6 x0,i6 sv,i6 (0 : Int)])] [hpA 0 1 5 6 3 W ph sp cy,hpB 1 2 4 3 W,hpC 2 3 179 2 N,hpP 3 L,hpP 4 D,hpF 5 z ov,hpP 6 Q] 7 (Re.at [(0,0),(1,1),(2,2),(3,3),(4,4),(5,5),(6,6)] []) rfl ⟨.row sv (0 : Int) (by omega) hK hs hk.symm,rfl,rfl⟩
     ·have gB : ¬ x2 < 0 := gB
      have hk : max x2 0 = x2 := by omega
      conv => cbv
      refine RetF.mk [.iface 115 (.agg [i6 x4,i6 x0,i6 sv,i6 x2])] [hpA 0 1 5 6 3 W ph sp cy,hpB 1 2 4 3 W,hpC 2 3 179 2 N,hpP 3 L,hpP 4 D,hpF 5 z ov,hpP 6 Q] 7 (Re.at [(0,0),(1,1),(2,2),(3,3),(4,4),(5,5),(6,6)] []) rfl ⟨.row sv x2 (by omega) hK hs hk.symm,rfl,rfl⟩
    ·have gA : ¬ x3 < 0 := gA
     conv => cbv
     refine Need.mk (show x0 ≠ 0 by omega) ?_
     conv => cbv
     refine Sum.mk fun sv hsv => ?_
     have hs : sv = (max x3 0) % x0 := (show sv = x3.tmod x0 from hsv).trans (by rw [Int.tmod_eq_emod_of_nonneg (by omega),show max x3 0 = x3 by omega])
     clear hsv
     conv => cbv
     refine Br.mk (fun gB => ?_) (fun gB => ?_)
     ·have gB : x2 < 0 := gB
      have hk : max x2 0 = (0 : Int) := by omega
      conv => cbv
      refine RetF.mk [.iface 115 (.agg [i6 x4,i6 x0,i6 sv,i6 (0 : Int)])] [hpA 0 1 5 6 3 W ph sp cy,hpB 1 2 4 3 W,hpC 2 3 179 2 N,hpP 3 L,hpP 4 D,hpF 5 z ov,hpP 6 Q] 7 (Re.at [(0,0),(1,1),(2,2),(3,3),(4,4),(5,5),(6,6)] []) rfl ⟨.row sv (0 : Int) (by omega) hK hs hk.symm,rfl,rfl⟩
     ·have gB : ¬ x2 < 0 := gB
      have hk : max x2 0 = x2 := by omega
      conv => cbv
      refine RetF.mk [.iface 115 (.agg [i6 x4,i6 x0,i6 sv,i6 x2])] [hpA 0 1 5 6 3 W ph sp cy,hpB 1 2 4 3 W,hpC 2 3 179 2 N,hpP 3 L,hpP 4 D,hpF 5 z ov,hpP 6 Q] 7 (Re.at [(0,0),(1,1),(2,2),(3,3),(4,4),(5,5),(6,6)] []) rfl ⟨.row sv x2 (by omega) hK hs hk.symm,rfl,rfl⟩
theorem ringPlace_lx (b n s k i : Int) (hn : 0 < n) (hs : 0 ≤ s ∧ s ≤ 1000000) (hi : 0 ≤ i ∧ i ≤ 4611686018427387903) : CallF (fun _ => Tryz.prog) 78 [.agg [i6 b,i6 n,i6 s,i6 k],i6 i] [] 0 (fun r h n' => (∃ v : Int,r = .p (.int .i64 (.sym v)) ∧ v = (s + i) % n) ∧ h = [] ∧ n' = 0) := by
 refine callF_of_body tok Tryz.func78 (by kernel_rfl) rfl rfl rfl ?_; conv => cbv
 refine Fit.mk (by show (-9223372036854775808 : Int) ≤ s + i; omega) (by show s + i ≤ 9223372036854775807; omega) fun u hu => ?_
 have hu : u = s + i := hu
 conv => cbv
 refine Need.mk (show n ≠ 0 by omega) ?_
 conv => cbv
 refine Sum.mk fun v hv => ?_
 have hv : v = (s + i) % n := (show v = u.tmod n from hv).trans (by rw [hu,Int.tmod_eq_emod_of_nonneg (by omega)])
 conv => cbv
 refine RetF.mk [i6 v] [] 0 (Re.at [] []) rfl ⟨⟨v,rfl,hv⟩,rfl,rfl⟩
theorem chanFs_b62 : ∀ {X : List Int} {y0 y1 y2 y3 y4 y5 y6 y7 y8 : Int},chanFs X = [y0,y1,y2,y3,y4,y5,y6,y7,y8] → (∀ x ∈ X,-9223372036854775808 ≤ x ∧ x ≤ 9223372036854775807) → ∀ x ∈ [y0,y1,y2,y3,y4,y5,y6,y7,y8],b62 x := by
 intro X y0 y1 y2 y3 y4 y5 y6 y7 y8 h hb
 match X,h with
 | [x0,x1,x2,x3,x4,x5,x6,x7,x8],h =>
  simp only [chanFs,List.cons.injEq,and_true] at h
  obtain ⟨rfl,rfl,rfl,rfl,rfl,rfl,rfl,rfl,rfl⟩ := h
  simp only [List.forall_mem_cons] at hb ⊢
  obtain ⟨q0,q1,q2,q3,q4,q5,q6,q7,q8,_⟩ := hb
  exact ⟨b62_num q0,b62_num q1,b62_num q2,b62_num q3,b62_at q4,b62_at q5,b62_at q6,b62_at q7,b62_at q8,fun x hx => by cases hx⟩
inductive RPut (R : List Rw) (ph a w : Int) (s : St4) : Int → St4 → Prop
 | no (h : ¬ Kept R s.1 a 1 9) : RPut R ph a w s 10 s
 | full (X : List Int) (y0 y1 y2 y3 y4 y5 y6 y7 y8 : Int) (h : Kept R s.1 a 1 9) (hX : Wrds R s.1 a X) (hy : [y0,y1,y2,y3,y4,y5,y6,y7,y8] = chanFs X) (hf : ¬ ((0 < y0 ∧ Kept R s.1 y4 2 y0) ∧ max y2 0 < y0)) : RPut R ph a w s 9 s
 | ok (X : List Int) (y0 y1 y2 y3 y4 y5 y6 y7 y8 : Int) (h : Kept R s.1 a 1 9) (hX : Wrds R s.1 a X) (hy : [y0,y1,y2,y3,y4,y5,y6,y7,y8] = chanFs X) (h0 : 0 < y0) (hK : Kept R s.1 y4 2 y0) (hf : max y2 0 < y0) (f e : Int) (ws1 : List Int) (c1 : List Int × List Int × Bool) (s' : St4) (hst : Stored R s.1 y4 ((max y3 0 % y0 + max y2 0) % y0) w f ws1) (hc : c1 = storeS R ph f w s.2) (hP : PT 1 9 (chanWs [y0,y1,max y2 0 + 1,y3,y4,y5,y6,y7,y8]) R ph a (ws1,c1) e s') : RPut R ph a w s e s'
theorem ringPut_lx (R : List Rw) (ws C G : List Int) (N W ph sp cy : Int) (L D Q : List PV) (z : ByteArray) (ov : Bool) (h : HM R ws C G N W L D Q z) (o : Unit → Obj) (ho : IsPow o) (a w : Int) (hw : -9223372036854775808 ≤ w ∧ w ≤ 9223372036854775807) : CallF (fun _ => Tryz.prog) 32 [.ptr 0 (.lit 0),i6 a,i6 w] [hpA 0 1 5 6 3 W ph sp cy,hpB 1 2 4 3 W,hpC 2 3 179 2 N,hpP 3 L,hpP 4 D,hpF 5 z ov,hpP 6 Q,(7,.fix 0 o)] 8 (fun r h n => ∃ (e : Int) (ws' C' G' : List Int) (ov' : Bool) (D' Q' : List PV) (z' : ByteArray),r = .p (.int .i64 (.sym e)) ∧ h = [hpA 0 1 5 6 3 W ph sp cy,hpB 1 2 4 3 W,hpC 2 3 179 2 N,hpP 3 L,hpP 4 D',hpF 5 z' ov',hpP 6 Q',(7,.fix 0 o)] ∧ n = 8 ∧ HM R ws' C' G' N W L D' Q' z' ∧ RPut R ph a w (ws,C,G,ov) e (ws',C',G',ov')) := by
 refine callF_of_body tok Tryz.func32 (by kernel_rfl) rfl rfl rfl ?_; conv => cbv
 refine cfr (chan_lx R ws C G N W ph sp cy L D Q z ov h a) [(0,0),(1,1),(2,2),(3,3),(4,4),(5,5),(6,6)] (fun r h' n' hrr => ?_)
 obtain ⟨⟨y0,y1,y2,y3,y4,y5,y6,y7,y8,e,e1,hT⟩,e2,e3⟩ := hrr
 subst e1 e2 e3
 conv => cbv
 refine Br.mk (fun ge => ?_) (fun ge => ?_)
 ·have ge : ¬ e = 0 := ge
  have hno : ¬ Kept R ws a 1 9 ∧ e = 10 := by
   rcases hT.two with ⟨q1,_⟩ | ⟨q1,q2⟩
   ·exact absurd q1 ge
   ·exact ⟨q2,q1⟩
  obtain ⟨hno,he⟩ := hno
  have hR : RPut R ph a w (ws,C,G,ov) e (ws,C,G,ov) := by rw [he]; exact .no hno
  conv => cbv
  refine RetF.mk [i6 e] [hpA 0 1 5 6 3 W ph sp cy,hpB 1 2 4 3 W,hpC 2 3 179 2 N,hpP 3 L,hpP 4 D,hpF 5 z ov,hpP 6 Q,(7,.fix 0 o)] 8 (Re.at [(0,0),(1,1),(2,2),(3,3),(4,4),(5,5),(6,6),(7,7)] []) rfl ⟨e,ws,C,G,ov,D,Q,z,rfl,rfl,rfl,h,hR⟩
 ·have ge : ¬ ¬ e = 0 := ge
  have ge : e = 0 := Classical.not_not.1 ge
  obtain ⟨X,hKa,hX,hy⟩ : ∃ X,Kept R ws a 1 9 ∧ Wrds R ws a X ∧ [y0,y1,y2,y3,y4,y5,y6,y7,y8] = chanFs X := by
   generalize hyy : [y0,y1,y2,y3,y4,y5,y6,y7,y8] = yy at hT
   cases hT with
   | ok X h hX => exact ⟨X,h,hX,rfl⟩
   | no h => exact absurd ge (by decide)
  clear hT
  have hyb := chanFs_b62 hy.symm (hX.bd h.a)
  conv => cbv
  refine cfr (ringLook_lx R ws C G N W ph sp cy L D Q z ov h y0 y1 y2 y3 y4 y5 y6 y7 y8) [(0,0),(1,1),(2,2),(3,3),(4,4),(5,5),(6,6)] (fun r h' n' hrr => ?_)
  obtain ⟨hL,e2,e3⟩ := hrr
  subst e2 e3
  cases hL with
  | none hn =>
   have hR : RPut R ph a w (ws,C,G,ov) 9 (ws,C,G,ov) := .full X y0 y1 y2 y3 y4 y5 y6 y7 y8 hKa hX hy (fun q => hn q.1)
   conv => cbv
   refine RetF.mk [i6 9] [hpA 0 1 5 6 3 W ph sp cy,hpB 1 2 4 3 W,hpC 2 3 179 2 N,hpP 3 L,hpP 4 D,hpF 5 z ov,hpP 6 Q,(7,.fix 0 o)] 8 (Re.at [(0,0),(1,1),(2,2),(3,3),(4,4),(5,5),(6,6),(7,7)] []) rfl ⟨9,ws,C,G,ov,D,Q,z,rfl,rfl,rfl,h,hR⟩
  | row s k h0 hK hs hk =>
   have hbd := hK.bounds h.a
   have hs0 : 0 ≤ s ∧ s ≤ 1000000 := by
    rw [hs]
    have q1 := Int.emod_nonneg (max y3 0) (show y0 ≠ 0 by omega)
    have q2 := Int.emod_lt_of_pos (max y3 0) h0
    omega
   have hk0 : 0 ≤ k := by omega
   conv => cbv
   refine Br.mk (fun gk => ?_) (fun gk => ?_)
   ·have gk : y0 ≤ k := gk
    have hR : RPut R ph a w (ws,C,G,ov) 9 (ws,C,G,ov) := .full X y0 y1 y2 y3 y4 y5 y6 y7 y8 hKa hX hy (fun q => by omega)
    conv => cbv
    refine RetF.mk [i6 9] [hpA 0 1 5 6 3 W ph sp cy,hpB 1 2 4 3 W,hpC 2 3 179 2 N,hpP 3 L,hpP 4 D,hpF 5 z ov,hpP 6 Q,(7,.fix 0 o)] 8 (Re.at [(0,0),(1,1),(2,2),(3,3),(4,4),(5,5),(6,6),(7,7)] []) rfl ⟨9,ws,C,G,ov,D,Q,z,rfl,rfl,rfl,h,hR⟩
   ·have gk : ¬ y0 ≤ k := gk
    conv => cbv
    refine drawn_sound tok (by kernel_rfl) [(6,[7,2,1,0]),(8,[])] [0,1,2,3,4,5,7,6,8] (by kernel_rfl) ?_; conv => cbv
    refine callF_frame (ringPlace_lx y4 y0 s k k h0 hs0 (by omega)) [] rfl trivial rfl rfl (fun r h' n' hrr => ?_)
    obtain ⟨⟨v,e1,hv⟩,e2,e3⟩ := hrr
    subst e1 e2 e3
    conv => cbv
    refine cfr (store9_lx R ws C G N W ph sp cy L D Q z ov h o ho y4 v w hw) [(0,0),(1,1),(2,2),(3,3),(4,4),(5,5),(6,6),(7,7)] (fun r h' n' hrr => ?_)
    obtain ⟨f,ws1,C1,G1,ov1,D1,Q1,z1,e1,e2,e3,h1,hst,hc⟩ := hrr
    subst e1 e2 e3
    conv => cbv
    refine Fit.mk (by show (-9223372036854775808 : Int) ≤ k + 1; omega) (by show k + 1 ≤ 9223372036854775807; omega) fun k1 hk1 => ?_
    have hk1 : k1 = k + 1 := hk1
    have hyb1 : ∀ x ∈ [y0,y1,k1,y3,y4,y5,y6,y7,y8],b62 x := by
     simp only [List.forall_mem_cons] at hyb ⊢
     obtain ⟨q0,q1,q2,q3,q4,q5,q6,q7,q8,_⟩ := hyb
     exact ⟨q0,q1,by unfold b62; omega,q3,q4,q5,q6,q7,q8,fun x hx => by cases hx⟩
    conv => cbv
    refine cfr (putChan_lx R ws1 C1 G1 N W ph sp cy L D1 Q1 z1 ov1 h1 o ho a y0 y1 k1 y3 y4 y5 y6 y7 y8 hyb1) [(0,0),(1,1),(2,2),(3,3),(4,4),(5,5),(6,6),(7,7)] (fun r h' n' hrr => ?_)
    obtain ⟨e',ws2,C2,G2,ov2,D2,Q2,z2,e1,e2,e3,h2,hP⟩ := hrr
    subst e1 e2 e3
    have hR : RPut R ph a w (ws,C,G,ov) e' (ws2,C2,G2,ov2) := by
     refine .ok X y0 y1 y2 y3 y4 y5 y6 y7 y8 hKa hX hy h0 hK (by omega) f e' ws1 (C1,G1,ov1) _ ?_ hc ?_
     ·rw [← hs,← hk,← hv]; exact hst
     ·rw [← hk,← hk1]; exact hP
    conv => cbv
    refine RetF.mk [i6 e'] [hpA 0 1 5 6 3 W ph sp cy,hpB 1 2 4 3 W,hpC 2 3 179 2 N,hpP 3 L,hpP 4 D2,hpF 5 z2 ov2,hpP 6 Q2,(7,.fix 0 o)] 8 (Re.at [(0,0),(1,1),(2,2),(3,3),(4,4),(5,5),(6,6),(7,7)] []) rfl ⟨e',ws2,C2,G2,ov2,D2,Q2,z2,rfl,rfl,rfl,h2,hR⟩
inductive RTake (R : List Rw) (ph a : Int) (s : St4) : Int → Int → St4 → Prop
 | no (h : ¬ Kept R s.1 a 1 9) : RTake R ph a s 0 10 s
 | none (X : List Int) (y0 y1 y2 y3 y4 y5 y6 y7 y8 : Int) (h : Kept R s.1 a 1 9) (hX : Wrds R s.1 a X) (hy : [y0,y1,y2,y3,y4,y5,y6,y7,y8] = chanFs X) (hf : ¬ ((0 < y0 ∧ Kept R s.1 y4 2 y0) ∧ 0 < y2)) : RTake R ph a s 0 8 s
 | ok (X : List Int) (y0 y1 y2 y3 y4 y5 y6 y7 y8 : Int) (h : Kept R s.1 a 1 9) (hX : Wrds R s.1 a X) (hy : [y0,y1,y2,y3,y4,y5,y6,y7,y8] = chanFs X) (h0 : 0 < y0) (hK : Kept R s.1 y4 2 y0) (hf : 0 < y2) (x g f e : Int) (ws1 : List Int) (c1 : List Int × List Int × Bool) (s' : St4) (hl : Loaded R s.1 y4 (max y3 0 % y0) x g) (hst : Stored R s.1 y4 (max y3 0 % y0) 0 f ws1) (hc : c1 = storeS R ph f 0 s.2) (hP : PT 1 9 (chanWs [y0,y1,y2 - 1,(max y3 0 % y0 + 1) % y0,y4,y5,y6,y7,y8]) R ph a (ws1,c1) e s') : RTake R ph a s x e s'
theorem ringTake_lx (R : List Rw) (ws C G : List Int) (N W ph sp cy : Int) (L D Q : List PV) (z : ByteArray) (ov : Bool) (h : HM R ws C G N W L D Q z) (o : Unit → Obj) (ho : IsPow o) (a : Int) : CallF (fun _ => Tryz.prog) 27 [.ptr 0 (.lit 0),i6 a] [hpA 0 1 5 6 3 W ph sp cy,hpB 1 2 4 3 W,hpC 2 3 179 2 N,hpP 3 L,hpP 4 D,hpF 5 z ov,hpP 6 Q,(7,.fix 0 o)] 8 (fun r h n => ∃ (x e : Int) (ws' C' G' : List Int) (ov' : Bool) (D' Q' : List PV) (z' : ByteArray),r = .tup [i6 x,i6 e] ∧ h = [hpA 0 1 5 6 3 W ph sp cy,hpB 1 2 4 3 W,hpC 2 3 179 2 N,hpP 3 L,hpP 4 D',hpF 5 z' ov',hpP 6 Q',(7,.fix 0 o)] ∧ n = 8 ∧ HM R ws' C' G' N W L D' Q' z' ∧ RTake R ph a (ws,C,G,ov) x e (ws',C',G',ov')) := by
 refine callF_of_body tok Tryz.func27 (by kernel_rfl) rfl rfl rfl ?_; conv => cbv
 refine cfr (chan_lx R ws C G N W ph sp cy L D Q z ov h a) [(0,0),(1,1),(2,2),(3,3),(4,4),(5,5),(6,6)] (fun r h' n' hrr => ?_)
 obtain ⟨⟨y0,y1,y2,y3,y4,y5,y6,y7,y8,e,e1,hT⟩,e2,e3⟩ := hrr
 subst e1 e2 e3
 conv => cbv
 refine Br.mk (fun ge => ?_) (fun ge => ?_)
 ·have ge : ¬ e = 0 := ge
  have hno : ¬ Kept R ws a 1 9 ∧ e = 10 := by
   rcases hT.two with ⟨q1,_⟩ | ⟨q1,q2⟩
   ·exact absurd q1 ge
   ·exact ⟨q2,q1⟩
  obtain ⟨hno,he⟩ := hno
  have hR : RTake R ph a (ws,C,G,ov) 0 e (ws,C,G,ov) := by rw [he]; exact .no hno
  conv => cbv
  refine RetF.mk [i6 0,i6 e] [hpA 0 1 5 6 3 W ph sp cy,hpB 1 2 4 3 W,hpC 2 3 179 2 N,hpP 3 L,hpP 4 D,hpF 5 z ov,hpP 6 Q,(7,.fix 0 o)] 8 (Re.at [(0,0),(1,1),(2,2),(3,3),(4,4),(5,5),(6,6),(7,7)] []) rfl ⟨0,e,ws,C,G,ov,D,Q,z,rfl,rfl,rfl,h,hR⟩
 ·have ge : ¬ ¬ e = 0 := ge
  have ge : e = 0 := Classical.not_not.1 ge
  obtain ⟨X,hKa,hX,hy⟩ : ∃ X,Kept R ws a 1 9 ∧ Wrds R ws a X ∧ [y0,y1,y2,y3,y4,y5,y6,y7,y8] = chanFs X := by
   generalize hyy : [y0,y1,y2,y3,y4,y5,y6,y7,y8] = yy at hT
   cases hT with
   | ok X h hX => exact ⟨X,h,hX,rfl⟩
   | no h => exact absurd ge (by decide)
  clear hT
  have hyb := chanFs_b62 hy.symm (hX.bd h.a)
  conv => cbv
  refine cfr (ringLook_lx R ws C G N W ph sp cy L D Q z ov h y0 y1 y2 y3 y4 y5 y6 y7 y8) [(0,0),(1,1),(2,2),(3,3),(4,4),(5,5),(6,6)] (fun r h' n' hrr => ?_)
  obtain ⟨hL,e2,e3⟩ := hrr
  subst e2 e3
  cases hL with
  | none hn =>
   have hR : RTake R ph a (ws,C,G,ov) 0 8 (ws,C,G,ov) := .none X y0 y1 y2 y3 y4 y5 y6 y7 y8 hKa hX hy (fun q => hn q.1)
   conv => cbv
   refine RetF.mk [i6 0,i6 8] [hpA 0 1 5 6 3 W ph sp cy,hpB 1 2 4 3 W,hpC 2 3 179 2 N,hpP 3 L,hpP 4 D,hpF 5 z ov,hpP 6 Q,(7,.fix 0 o)] 8 (Re.at [(0,0),(1,1),(2,2),(3,3),(4,4),(5,5),(6,6),(7,7)] []) rfl ⟨0,8,ws,C,G,ov,D,Q,z,rfl,rfl,rfl,h,hR⟩
  | row s k h0 hK hs hk =>
   have hbd := hK.bounds h.a
   have hs0 : 0 ≤ s ∧ s ≤ 1000000 := by
    rw [hs]
    have q1 := Int.emod_nonneg (max y3 0) (show y0 ≠ 0 by omega)
    have q2 := Int.emod_lt_of_pos (max y3 0) h0
    omega
   have hk0 : 0 ≤ k := by omega
   have hkb : k ≤ 4611686018427387903 := by have q := hyb y2 (by simp); unfold b62 at q; omega
   conv => cbv
   refine Br.mk (fun gk => ?_) (fun gk => ?_)
   ·have gk : k = 0 := gk
    have hR : RTake R ph a (ws,C,G,ov) 0 8 (ws,C,G,ov) := .none X y0 y1 y2 y3 y4 y5 y6 y7 y8 hKa hX hy (fun q => by omega)
    conv => cbv
    refine RetF.mk [i6 0,i6 8] [hpA 0 1 5 6 3 W ph sp cy,hpB 1 2 4 3 W,hpC 2 3 179 2 N,hpP 3 L,hpP 4 D,hpF 5 z ov,hpP 6 Q,(7,.fix 0 o)] 8 (Re.at [(0,0),(1,1),(2,2),(3,3),(4,4),(5,5),(6,6),(7,7)] []) rfl ⟨0,8,ws,C,G,ov,D,Q,z,rfl,rfl,rfl,h,hR⟩
   ·have gk : ¬ k = 0 := gk
    conv => cbv
    refine drawn_sound tok (by kernel_rfl) [(4,[2,1,0]),(5,[])] [0,1,2,3,4,5,6,7,8,9,10] (by kernel_rfl) ?_; conv => cbv
    refine CallF.le (args0 := [.agg [i6 y4,i6 y0,i6 s,i6 k],i6 0]) (callF_frame (ringPlace_lx y4 y0 s k 0 h0 hs0 (by omega)) [] rfl trivial rfl rfl (fun r h' n' hrr => ?_)) (by simp [ales,ale,pvle,I.val])
    obtain ⟨⟨v0,e1,hv0⟩,e2,e3⟩ := hrr
    subst e1 e2 e3
    conv => cbv
    have hv0s : v0 = s := by rw [hv0,hs,Int.add_zero,Int.emod_emod_of_dvd _ (Int.dvd_refl _)]
    refine cfr (load9_lx R ws C G N W ph sp cy L D Q z ov h y4 v0) [(0,0),(1,1),(2,2),(3,3),(4,4),(5,5),(6,6)] (fun r h' n' hrr => ?_)
    obtain ⟨x,g,e1,e2,e3,hl⟩ := hrr
    subst e1 e2 e3
    rw [hv0s,hs] at hl
    conv => cbv
    refine drawn_sound tok (by kernel_rfl) [(4,[2,1,0]),(5,[])] [0,1,2,3,4,5] (by kernel_rfl) ?_; conv => cbv
    refine CallF.le (args0 := [.agg [i6 y4,i6 y0,i6 s,i6 k],i6 0]) (callF_frame (ringPlace_lx y4 y0 s k 0 h0 hs0 (by omega)) [] rfl trivial rfl rfl (fun r h' n' hrr => ?_)) (by simp [ales,ale,pvle,I.val])
    obtain ⟨⟨v1,e1,hv1⟩,e2,e3⟩ := hrr
    subst e1 e2 e3
    conv => cbv
    have hv1s : v1 = s := by rw [hv1,hs,Int.add_zero,Int.emod_emod_of_dvd _ (Int.dvd_refl _)]
    refine CallF.le (args0 := [.ptr 0 (.lit 0),i6 y4,i6 v1,i6 0]) (cfr (store9_lx R ws C G N W ph sp cy L D Q z ov h o ho y4 v1 0 (by omega)) [(0,0),(1,1),(2,2),(3,3),(4,4),(5,5),(6,6),(7,7)] (fun r h' n' hrr => ?_)) (by simp [ales,ale,pvle,I.val])
    obtain ⟨f,ws1,C1,G1,ov1,D1,Q1,z1,e1,e2,e3,h1,hst,hc⟩ := hrr
    subst e1 e2 e3
    rw [hv1s,hs] at hst
    conv => cbv
    refine drawn_sound tok (by kernel_rfl) [(1,[4,3,2]),(6,[4,3,2]),(8,[])] [0,2,3,4,1,5,6,7,8] (by kernel_rfl) ?_; conv => cbv
    refine Fit.mk (by show (-9223372036854775808 : Int) ≤ k - 1; omega) (by show k - 1 ≤ 9223372036854775807; omega) fun k1 hk1 => ?_
    have hk1 : k1 = k - 1 := hk1
    conv => cbv
    refine CallF.le (args0 := [.agg [i6 y4,i6 y0,i6 s,i6 k],i6 1]) (callF_frame (ringPlace_lx y4 y0 s k 1 h0 hs0 (by omega)) [] rfl trivial rfl rfl (fun r h' n' hrr => ?_)) (by simp [ales,ale,pvle,I.val])
    obtain ⟨⟨v2,e1,hv2⟩,e2,e3⟩ := hrr
    subst e1 e2 e3
    conv => cbv
    have hy2 : k = y2 := by omega
    have hv2b : b62 v2 := by
     have q1 := Int.emod_nonneg (s + 1) (show y0 ≠ 0 by omega)
     have q2 := Int.emod_lt_of_pos (s + 1) h0
     rw [hv2]; unfold b62; omega
    have hyb1 : ∀ x ∈ [y0,y1,k1,v2,y4,y5,y6,y7,y8],b62 x := by
     simp only [List.forall_mem_cons] at hyb ⊢
     obtain ⟨q0,q1,q2,q3,q4,q5,q6,q7,q8,_⟩ := hyb
     exact ⟨q0,q1,by unfold b62; omega,hv2b,q4,q5,q6,q7,q8,fun x hx => by cases hx⟩
    conv => cbv
    refine cfr (putChan_lx R ws1 C1 G1 N W ph sp cy L D1 Q1 z1 ov1 h1 o ho a y0 y1 k1 v2 y4 y5 y6 y7 y8 hyb1) [(0,0),(1,1),(2,2),(3,3),(4,4),(5,5),(6,6),(7,7)] (fun r h' n' hrr => ?_)
    obtain ⟨e',ws2,C2,G2,ov2,D2,Q2,z2,e1,e2,e3,h2,hP⟩ := hrr
    subst e1 e2 e3
    have hR : RTake R ph a (ws,C,G,ov) x e' (ws2,C2,G2,ov2) := by
     refine .ok X y0 y1 y2 y3 y4 y5 y6 y7 y8 hKa hX hy h0 hK (by omega) x g f e' ws1 (C1,G1,ov1) _ hl hst hc ?_
     rw [← hs,← hv2,← hy2,← hk1]; exact hP
    conv => cbv
    refine RetF.mk [i6 x,i6 e'] [hpA 0 1 5 6 3 W ph sp cy,hpB 1 2 4 3 W,hpC 2 3 179 2 N,hpP 3 L,hpP 4 D2,hpF 5 z2 ov2,hpP 6 Q2,(7,.fix 0 o)] 8 (Re.at [(0,0),(1,1),(2,2),(3,3),(4,4),(5,5),(6,6),(7,7)] []) rfl ⟨x,e',ws2,C2,G2,ov2,D2,Q2,z2,rfl,rfl,rfl,h2,hR⟩
inductive RAll (R : List Rw) (ws : List Int) (a : Int) : List Int → Prop
 | no (h : ¬ Kept R ws a 1 9) : RAll R ws a []
 | none (X : List Int) (y0 y1 y2 y3 y4 y5 y6 y7 y8 : Int) (h : Kept R ws a 1 9) (hX : Wrds R ws a X) (hy : [y0,y1,y2,y3,y4,y5,y6,y7,y8] = chanFs X) (hf : ¬ (0 < y0 ∧ Kept R ws y4 2 y0)) : RAll R ws a []
 | ok (X : List Int) (y0 y1 y2 y3 y4 y5 y6 y7 y8 : Int) (h : Kept R ws a 1 9) (hX : Wrds R ws a X) (hy : [y0,y1,y2,y3,y4,y5,y6,y7,y8] = chanFs X) (h0 : 0 < y0) (hK : Kept R ws y4 2 y0) (l : List Int) (hl : (l.length : Int) = min (max y2 0) y0) (hw : ∀ (i : Nat) (x : Int),l[i]? = some x → Loaded R ws y4 ((max y3 0 % y0 + i) % y0) x 0) : RAll R ws a l
theorem ringAll_lx (R : List Rw) (ws C G : List Int) (N W ph sp cy : Int) (L D Q : List PV) (z : ByteArray) (ov : Bool) (h : HM R ws C G N W L D Q z) (a : Int) : CallF (fun _ => Tryz.prog) 36 [.ptr 0 (.lit 0),i6 a] [hpA 0 1 5 6 3 W ph sp cy,hpB 1 2 4 3 W,hpC 2 3 179 2 N,hpP 3 L,hpP 4 D,hpF 5 z ov,hpP 6 Q] 7 (fun r h n => ∃ (l : List Int) (m : Int) (cells : List PV),r = .sl 7 3 1 (.lit 0) (.sym m) ∧ h = [hpA 0 1 5 6 3 W ph sp cy,hpB 1 2 4 3 W,hpC 2 3 179 2 N,hpP 3 L,hpP 4 D,hpF 5 z ov,hpP 6 Q,hpP 7 cells] ∧ n = 8 ∧ m = l.length ∧ cells = ipv l ∧ RAll R ws a l) := by
 refine callF_of_body tok Tryz.func36 (by kernel_rfl) rfl rfl rfl ?_; conv => cbv
 refine cfr (chan_lx R ws C G N W ph sp cy L D Q z ov h a) [(0,0),(1,1),(2,2),(3,3),(4,4),(5,5),(6,6)] (fun r h' n' hrr => ?_)
 obtain ⟨⟨y0,y1,y2,y3,y4,y5,y6,y7,y8,e,e1,hT⟩,e2,e3⟩ := hrr
 subst e1 e2 e3
 conv => cbv
 refine Br.mk (fun ge => ?_) (fun ge => ?_)
 ·have ge : ¬ e = 0 := ge
  have hno : ¬ Kept R ws a 1 9 := by
   rcases hT.two with ⟨q1,_⟩ | ⟨q1,q2⟩
   ·exact absurd q1 ge
   ·exact q2
  have hR : RAll R ws a [] := .no hno
  conv => cbv
  refine RetF.mk [.sl 7 3 1 (.lit 0) (.sym 0)] [hpA 0 1 5 6 3 W ph sp cy,hpB 1 2 4 3 W,hpC 2 3 179 2 N,hpP 3 L,hpP 4 D,hpF 5 z ov,hpP 6 Q,(7,.pure true [])] 8 (Re.at [(0,0),(1,1),(2,2),(3,3),(4,4),(5,5),(6,6)] [7]) rfl ⟨[],0,[],rfl,rfl,rfl,rfl,rfl,hR⟩
 ·have ge : ¬ ¬ e = 0 := ge
  have ge : e = 0 := Classical.not_not.1 ge
  obtain ⟨X,hKa,hX,hy⟩ : ∃ X,Kept R ws a 1 9 ∧ Wrds R ws a X ∧ [y0,y1,y2,y3,y4,y5,y6,y7,y8] = chanFs X := by
   generalize hyy : [y0,y1,y2,y3,y4,y5,y6,y7,y8] = yy at hT
   cases hT with
   | ok X h hX => exact ⟨X,h,hX,rfl⟩
   | no h => exact absurd ge (by decide)
  clear hT
  have hyb := chanFs_b62 hy.symm (hX.bd h.a)
  conv => cbv
  refine cfr (ringLook_lx R ws C G N W ph sp cy L D Q z ov h y0 y1 y2 y3 y4 y5 y6 y7 y8) [(0,0),(1,1),(2,2),(3,3),(4,4),(5,5),(6,6)] (fun r h' n' hrr => ?_)
  obtain ⟨hL,e2,e3⟩ := hrr
  subst e2 e3
  cases hL with
  | none hn =>
   have hR : RAll R ws a [] := .none X y0 y1 y2 y3 y4 y5 y6 y7 y8 hKa hX hy hn
   conv => cbv
   refine RetF.mk [.sl 7 3 1 (.lit 0) (.sym 0)] [hpA 0 1 5 6 3 W ph sp cy,hpB 1 2 4 3 W,hpC 2 3 179 2 N,hpP 3 L,hpP 4 D,hpF 5 z ov,hpP 6 Q,(7,.pure true [])] 8 (Re.at [(0,0),(1,1),(2,2),(3,3),(4,4),(5,5),(6,6)] [7]) rfl ⟨[],0,[],rfl,rfl,rfl,rfl,rfl,hR⟩
  | row s k h0 hK hs hk =>
   have hbd := hK.bounds h.a
   have hs0 : 0 ≤ s ∧ s ≤ 1000000 := by
    rw [hs]
    have q1 := Int.emod_nonneg (max y3 0) (show y0 ≠ 0 by omega)
    have q2 := Int.emod_lt_of_pos (max y3 0) h0
    omega
   have hk0 : 0 ≤ k := by omega
   have hkb : k ≤ 4611686018427387903 := by have q := hyb y2 (by simp); unfold b62 at q; omega
   conv => cbv
   refine Br.mk (fun gk => ?_) (fun gk => ?_)
   ·have gk : y0 < k := gk
    conv => cbv
    have hM : y0 ≤ 31 ∧ 0 ≤ y0 ∧ y0 = min (max y2 0) y0 := by omega
    refine LoopF.mk (fun kk s' => ∃ (i : Int) (l : List Int) (cells : List PV),s' = ⟨.ptr 0 (.lit 0) :: (undefs 6 ++ .ptr 8 (.lit 0) :: .undef :: .sl 9 3 1 (.lit 0) (.sym i) :: (undefs 24 ++ .p (.int .i64 (.sym y0)) :: .p (.int .i64 (.sym i)) :: undefs 18)),[hpA 0 1 5 6 3 W ph sp cy,hpB 1 2 4 3 W,hpC 2 3 179 2 N,hpP 3 L,hpP 4 D,hpF 5 z ov,hpP 6 Q,(8,.pure false [.int .i64 (.sym y4),.int .i64 (.sym y0),.int .i64 (.sym s),.int .i64 (.sym k)]),hpP 9 cells],10⟩ ∧ i = l.length ∧ i ≤ y0 ∧ cells = ipv l ∧ (∀ (q : Nat) (x : Int),l[q]? = some x → Loaded R ws y4 ((s + (q : Int)) % y0) x 0) ∧ kk = (y0 - i).toNat) (y0).toNat _
     (Re.at [(0,0),(1,1),(2,2),(3,3),(4,4),(5,5),(6,6),(8,8)] [9]) ⟨0,[],[],rfl,rfl,by omega,rfl,(fun q x hq => by simp at hq),by omega⟩ ?_
    rintro kk s' ⟨i,l,cells,rfl,hil,hi1,hcs,hld,hkk⟩
    have hi0 : 0 ≤ i := by omega
    have hcl : (cells.length : Int) = i := by rw [hcs,ipv_length]; exact hil.symm
    conv => cbv
    refine Br.mk (fun gi => ?_) (fun gi => ?_)
    ·have gi : i < y0 := gi
     conv => cbv
     refine drawn_sound tok (by kernel_rfl) [(5,[2,1,0]),(6,[])] [0,1,2,3,4,5,6,7,8,9,10,11] (by kernel_rfl) ?_; conv => cbv
     refine callF_frame (ringPlace_lx y4 y0 s k i h0 hs0 (by omega)) [] rfl trivial rfl rfl (fun r h' n' hrr => ?_)
     obtain ⟨⟨v,e1,hv⟩,e2,e3⟩ := hrr
     subst e1 e2 e3
     conv => cbv
     refine cfr (load9_lx R ws C G N W ph sp cy L D Q z ov h y4 v) [(0,0),(1,1),(2,2),(3,3),(4,4),(5,5),(6,6)] (fun r h' n' hrr => ?_)
     obtain ⟨x,g,e1,e2,e3,hl⟩ := hrr
     subst e1 e2 e3
     have hv0 : 0 ≤ v ∧ v < y0 := by
      rw [hv]
      exact ⟨Int.emod_nonneg _ (by omega),Int.emod_lt_of_pos _ h0⟩
     have hg : g = 0 := (loaded_of hK hv0 hl).1
     rw [hv,hg] at hl
     conv => cbv
     refine Room.new rfl ?_
     conv => cbv
     refine Room.new ⟨?_,?_,?_⟩ ?_
     ·show (cells.length : Int) = i * 1; omega
     ·show (i + 1) * 8 ≤ 140737488355328; omega
     ·show i + 1 ≤ 9223372036854775807; omega
     conv => cbv
     refine Upd.mk fun c2 hc2 => ?_
     have hc2 : c2 = cells ++ [.int .i64 (.sym x)] := hc2
     have hc2 : c2 = ipv (l ++ [x]) := by rw [hc2,hcs,← ipv_app]; rfl
     conv => cbv
     refine Sum.mk fun i2 hi2 => ?_
     have hi2 : i2 = i + 1 := hi2
     conv => cbv
     refine Fit.mk (by show (-9223372036854775808 : Int) ≤ i + 1; omega) (by show i + 1 ≤ 9223372036854775807; omega) fun i3 hi3 => ?_
     have hi3 : i3 = i + 1 := hi3
     obtain rfl : i2 = i3 := by omega
     conv => cbv
     refine Again.mk (y0 - i2).toNat _ (by omega) (Re.at [(0,0),(1,1),(2,2),(3,3),(4,4),(5,5),(6,6),(8,8),(11,9)] []) ⟨i2,l ++ [x],c2,rfl,by rw [List.length_append,hi2,hil]; rfl,by omega,hc2,?_,rfl⟩
     intro q u hq
     rw [List.getElem?_append] at hq
     split at hq
     ·exact hld q u hq
     ·rename_i hql
      have hq0 : q = l.length := by
       have := (List.getElem?_eq_some_iff.1 hq).1
       simp at this
       omega
      subst hq0
      simp at hq
      rw [← hq]
      rw [hil] at hl
      exact hl
    ·have gi : ¬ i < y0 := gi
     have hR : RAll R ws a l := .ok X y0 y1 y2 y3 y4 y5 y6 y7 y8 hKa hX hy h0 hK l (by omega) (by rw [← hs]; exact hld)
     conv => cbv
     refine RetF.mk [.sl 7 3 1 (.lit 0) (.sym i)] [hpA 0 1 5 6 3 W ph sp cy,hpB 1 2 4 3 W,hpC 2 3 179 2 N,hpP 3 L,hpP 4 D,hpF 5 z ov,hpP 6 Q,hpP 7 cells] 8 (Re.at [(0,0),(1,1),(2,2),(3,3),(4,4),(5,5),(6,6),(9,7)] []) rfl ⟨l,i,cells,rfl,rfl,rfl,hil,hcs,hR⟩
   ·have gk : ¬ y0 < k := gk
    conv => cbv
    have hM : k ≤ 31 ∧ 0 ≤ k ∧ k = min (max y2 0) y0 := by omega
    refine LoopF.mk (fun kk s' => ∃ (i : Int) (l : List Int) (cells : List PV),s' = ⟨.ptr 0 (.lit 0) :: (undefs 6 ++ .ptr 8 (.lit 0) :: .undef :: .sl 9 3 1 (.lit 0) (.sym i) :: (undefs 24 ++ .p (.int .i64 (.sym k)) :: .p (.int .i64 (.sym i)) :: undefs 18)),[hpA 0 1 5 6 3 W ph sp cy,hpB 1 2 4 3 W,hpC 2 3 179 2 N,hpP 3 L,hpP 4 D,hpF 5 z ov,hpP 6 Q,(8,.pure false [.int .i64 (.sym y4),.int .i64 (.sym y0),.int .i64 (.sym s),.int .i64 (.sym k)]),hpP 9 cells],10⟩ ∧ i = l.length ∧ i ≤ k ∧ cells = ipv l ∧ (∀ (q : Nat) (x : Int),l[q]? = some x → Loaded R ws y4 ((s + (q : Int)) % y0) x 0) ∧ kk = (k - i).toNat) (k).toNat _
     (Re.at [(0,0),(1,1),(2,2),(3,3),(4,4),(5,5),(6,6),(8,8)] [9]) ⟨0,[],[],rfl,rfl,by omega,rfl,(fun q x hq => by simp at hq),by omega⟩ ?_
    rintro kk s' ⟨i,l,cells,rfl,hil,hi1,hcs,hld,hkk⟩
    have hi0 : 0 ≤ i := by omega
    have hcl : (cells.length : Int) = i := by rw [hcs,ipv_length]; exact hil.symm
    conv => cbv
    refine Br.mk (fun gi => ?_) (fun gi => ?_)
    ·have gi : i < k := gi
     conv => cbv
     refine drawn_sound tok (by kernel_rfl) [(5,[2,1,0]),(6,[])] [0,1,2,3,4,5,6,7,8,9,10,11] (by kernel_rfl) ?_; conv => cbv
     refine callF_frame (ringPlace_lx y4 y0 s k i h0 hs0 (by omega)) [] rfl trivial rfl rfl (fun r h' n' hrr => ?_)
     obtain ⟨⟨v,e1,hv⟩,e2,e3⟩ := hrr
     subst e1 e2 e3
     conv => cbv
     refine cfr (load9_lx R ws C G N W ph sp cy L D Q z ov h y4 v) [(0,0),(1,1),(2,2),(3,3),(4,4),(5,5),(6,6)] (fun r h' n' hrr => ?_)
     obtain ⟨x,g,e1,e2,e3,hl⟩ := hrr
     subst e1 e2 e3
     have hv0 : 0 ≤ v ∧ v < y0 := by
      rw [hv]
      exact ⟨Int.emod_nonneg _ (by omega),Int.emod_lt_of_pos _ h0⟩
     have hg : g = 0 := (loaded_of hK hv0 hl).1
     rw [hv,hg] at hl
     conv => cbv
     refine Room.new rfl ?_
     conv => cbv
     refine Room.new ⟨?_,?_,?_⟩ ?_
     ·show (cells.length : Int) = i * 1; omega
     ·show (i + 1) * 8 ≤ 140737488355328; omega
     ·show i + 1 ≤ 9223372036854775807; omega
     conv => cbv
     refine Upd.mk fun c2 hc2 => ?_
     have hc2 : c2 = cells ++ [.int .i64 (.sym x)] := hc2
     have hc2 : c2 = ipv (l ++ [x]) := by rw [hc2,hcs,← ipv_app]; rfl
     conv => cbv
     refine Sum.mk fun i2 hi2 => ?_
     have hi2 : i2 = i + 1 := hi2
     conv => cbv
     refine Fit.mk (by show (-9223372036854775808 : Int) ≤ i + 1; omega) (by show i + 1 ≤ 9223372036854775807; omega) fun i3 hi3 => ?_
     have hi3 : i3 = i + 1 := hi3
     obtain rfl : i2 = i3 := by omega
     conv => cbv
     refine Again.mk (k - i2).toNat _ (by omega) (Re.at [(0,0),(1,1),(2,2),(3,3),(4,4),(5,5),(6,6),(8,8),(11,9)] []) ⟨i2,l ++ [x],c2,rfl,by rw [List.length_append,hi2,hil]; rfl,by omega,hc2,?_,rfl⟩
     intro q u hq
     rw [List.getElem?_append] at hq
     split at hq
     ·exact hld q u hq
     ·rename_i hql
      have hq0 : q = l.length := by
       have := (List.getElem?_eq_some_iff.1 hq).1
       simp at this
       omega
      subst hq0
      simp at hq
      rw [← hq]
      rw [hil] at hl
      exact hl
    ·have gi : ¬ i < k := gi
     have hR : RAll R ws a l := .ok X y0 y1 y2 y3 y4 y5 y6 y7 y8 hKa hX hy h0 hK l (by omega) (by rw [← hs]; exact hld)
     conv => cbv
     refine RetF.mk [.sl 7 3 1 (.lit 0) (.sym i)] [hpA 0 1 5 6 3 W ph sp cy,hpB 1 2 4 3 W,hpC 2 3 179 2 N,hpP 3 L,hpP 4 D,hpF 5 z ov,hpP 6 Q,hpP 7 cells] 8 (Re.at [(0,0),(1,1),(2,2),(3,3),(4,4),(5,5),(6,6),(9,7)] []) rfl ⟨l,i,cells,rfl,rfl,rfl,hil,hcs,hR⟩
theorem rbuffer_lx (R : List Rw) (vs C G : List Int) (N W ph sp cy : Int) (P B V Q la : List PV) (m : Int) (ov : Bool) (h : RM R vs C G N W P B V Q la m) (x0 x1 x2 x3 x4 x5 x6 x7 x8 : Int) : CallF (fun _ => Tryz.prog) 80 [.ptr 0 (.lit 0),.agg [i6 x0,i6 x1,i6 x2,i6 x3,i6 x4,i6 x5,i6 x6,i6 x7,i6 x8]] [hpR 0 1 6 3 W 7 ph sp cy,hpB 1 2 5 3 W,hpD 2 3 3 1 N 4 254 8 N,hpP 3 P,hpP 4 B,hpP 5 V,hpP 6 Q,(7,.mix [.p (.vsl (.sym m) true la),.p (.bool ov)])] 8 (fun r h n => (∃ b : Bool,r = .p (.bool b) ∧ (b = true ↔ (0 < x0 ∧ Kept R vs x4 2 x0))) ∧ h = [hpR 0 1 6 3 W 7 ph sp cy,hpB 1 2 5 3 W,hpD 2 3 3 1 N 4 254 8 N,hpP 3 P,hpP 4 B,hpP 5 V,hpP 6 Q,(7,.mix [.p (.vsl (.sym m) true la),.p (.bool ov)])] ∧ n = 8) := by
 refine callF_of_body tok Tryz.func80 (by kernel_rfl) rfl rfl rfl ?_; conv => cbv
 refine drawn_sound tok (by kernel_rfl) [(10,[]),(20,[22,21])] [0,1,2,3,4,5,6,7,8,9,10,11,12,13,14,15,16,17,18,19,21,22,20,23,24,25] (by kernel_rfl) ?_; conv => cbv
 refine Br.mk (fun g0 => ?_) (fun g0 => ?_)
 ·have g0 : 0 < x0 := g0
  conv => cbv
  refine cfr (rkind_lx R vs N x4 W P B V h.p h.b h.v h.n h.r h.a h.w) [(0,1),(1,2),(2,3),(3,4),(4,5)] (fun r h' n' hrr => ?_)
  obtain ⟨v,e1,e2,e3,hv⟩ := hrr
  subst e1 e2 e3
  conv => cbv
  refine Br.mk (fun g1 => ?_) (fun g1 => ?_)
  ·have g1 : v = 2 := g1
   conv => cbv
   refine cfr (rlen_lx R vs N x4 W P B V h.p h.b h.v h.n h.r h.a h.w) [(0,1),(1,2),(2,3),(3,4),(4,5)] (fun r h' n' hrr => ?_)
   obtain ⟨l,e1,e2,e3,hl⟩ := hrr
   subst e1 e2 e3
   conv => cbv
   refine Br.mk (fun g2 => ?_) (fun g2 => ?_)
   ·have g2 : l = x0 := g2
    have hK : Kept R vs x4 2 x0 := by
     cases hv with
     | no hn => exact absurd g1 (by decide)
     | is k l2 hK2 =>
      have := lenR_of6 hK2 hl
      rw [← g1,← g2,this]
      exact hK2
    conv => cbv
    refine RetF.mk [.p (.bool true)] [hpR 0 1 6 3 W 7 ph sp cy,hpB 1 2 5 3 W,hpD 2 3 3 1 N 4 254 8 N,hpP 3 P,hpP 4 B,hpP 5 V,hpP 6 Q,(7,.mix [.p (.vsl (.sym m) true la),.p (.bool ov)])] 8 (Re.at [(0,0),(1,1),(2,2),(3,3),(4,4),(5,5),(6,6),(7,7)] []) rfl ⟨⟨true,rfl,⟨fun _ => ⟨g0,hK⟩,fun _ => rfl⟩⟩,rfl,rfl⟩
   ·have g2 : ¬ l = x0 := g2
    conv => cbv
    refine RetF.mk [.p (.bool false)] [hpR 0 1 6 3 W 7 ph sp cy,hpB 1 2 5 3 W,hpD 2 3 3 1 N 4 254 8 N,hpP 3 P,hpP 4 B,hpP 5 V,hpP 6 Q,(7,.mix [.p (.vsl (.sym m) true la),.p (.bool ov)])] 8 (Re.at [(0,0),(1,1),(2,2),(3,3),(4,4),(5,5),(6,6),(7,7)] []) rfl ⟨⟨false,rfl,⟨fun q => (by cases q),fun q => absurd (lenR_of6 q.2 hl) g2⟩⟩,rfl,rfl⟩
  ·have g1 : ¬ v = 2 := g1
   conv => cbv
   refine RetF.mk [.p (.bool false)] [hpR 0 1 6 3 W 7 ph sp cy,hpB 1 2 5 3 W,hpD 2 3 3 1 N 4 254 8 N,hpP 3 P,hpP 4 B,hpP 5 V,hpP 6 Q,(7,.mix [.p (.vsl (.sym m) true la),.p (.bool ov)])] 8 (Re.at [(0,0),(1,1),(2,2),(3,3),(4,4),(5,5),(6,6),(7,7)] []) rfl ⟨⟨false,rfl,⟨fun q => (by cases q),fun q => absurd (kindR_of6 q.2 hv) g1⟩⟩,rfl,rfl⟩
 ·have g0 : ¬ 0 < x0 := g0
  conv => cbv
  refine RetF.mk [.p (.bool false)] [hpR 0 1 6 3 W 7 ph sp cy,hpB 1 2 5 3 W,hpD 2 3 3 1 N 4 254 8 N,hpP 3 P,hpP 4 B,hpP 5 V,hpP 6 Q,(7,.mix [.p (.vsl (.sym m) true la),.p (.bool ov)])] 8 (Re.at [(0,0),(1,1),(2,2),(3,3),(4,4),(5,5),(6,6),(7,7)] []) rfl ⟨⟨false,rfl,⟨fun q => (by cases q),fun q => absurd q.1 g0⟩⟩,rfl,rfl⟩
theorem rTakeRing_lx (R : List Rw) (vs C G : List Int) (N W ph sp cy : Int) (P B V Q la : List PV) (m : Int) (ov : Bool) (h : RM R vs C G N W P B V Q la m) (a : Int) : CallF (fun _ => Tryz.prog) 28 [.ptr 0 (.lit 0),i6 a] [hpR 0 1 6 3 W 7 ph sp cy,hpB 1 2 5 3 W,hpD 2 3 3 1 N 4 254 8 N,hpP 3 P,hpP 4 B,hpP 5 V,hpP 6 Q,(7,.mix [.p (.vsl (.sym m) true la),.p (.bool ov)])] 8 (fun r h n => ∃ (x e : Int) (vs' C' G' : List Int) (ov' : Bool) (V' Q' la' : List PV) (m' : Int),r = .tup [i6 x,i6 e] ∧ h = [hpR 0 1 6 3 W 7 ph sp cy,hpB 1 2 5 3 W,hpD 2 3 3 1 N 4 254 8 N,hpP 3 P,hpP 4 B,hpP 5 V',hpP 6 Q',(7,.mix [.p (.vsl (.sym m') true la'),.p (.bool ov')])] ∧ n = 8 ∧ RM R vs' C' G' N W P B V' Q' la' m' ∧ RTake R ph a (vs,C,G,ov) x e (vs',C',G',ov')) := by
 refine callF_of_body tok Tryz.func28 (by kernel_rfl) rfl rfl rfl ?_; conv => cbv
 refine cfr (rchan_lx R vs C G N W ph sp cy P B V Q la m ov h a) [(0,0),(1,1),(2,2),(3,3),(4,4),(5,5),(6,6),(7,7)] (fun r h' n' hrr => ?_)
 obtain ⟨⟨y0,y1,y2,y3,y4,y5,y6,y7,y8,e,e1,hT⟩,e2,e3⟩ := hrr
 subst e1 e2 e3
 conv => cbv
 refine Br.mk (fun ge => ?_) (fun ge => ?_)
 ·have ge : ¬ e = 0 := ge
  obtain ⟨hno,he⟩ : ¬ Kept R vs a 1 9 ∧ e = 10 := by
   rcases hT.two with ⟨q1,_⟩ | ⟨q1,q2⟩
   ·exact absurd q1 ge
   ·exact ⟨q2,q1⟩
  have hR : RTake R ph a (vs,C,G,ov) 0 e (vs,C,G,ov) := by rw [he]; exact .no hno
  conv => cbv
  refine RetF.mk [i6 0,i6 e] [hpR 0 1 6 3 W 7 ph sp cy,hpB 1 2 5 3 W,hpD 2 3 3 1 N 4 254 8 N,hpP 3 P,hpP 4 B,hpP 5 V,hpP 6 Q,(7,.mix [.p (.vsl (.sym m) true la),.p (.bool ov)])] 8 (Re.at [(0,0),(1,1),(2,2),(3,3),(4,4),(5,5),(6,6),(7,7)] []) rfl ⟨0,e,vs,C,G,ov,V,Q,la,m,rfl,rfl,rfl,h,hR⟩
 ·have ge : ¬ ¬ e = 0 := ge
  have ge : e = 0 := Classical.not_not.1 ge
  obtain ⟨X,hKa,hX,hy⟩ : ∃ X,Kept R vs a 1 9 ∧ Wrds R vs a X ∧ [y0,y1,y2,y3,y4,y5,y6,y7,y8] = chanFs X := by
   generalize hyy : [y0,y1,y2,y3,y4,y5,y6,y7,y8] = yy at hT
   cases hT with
   | ok X h hX => exact ⟨X,h,hX,rfl⟩
   | no h => exact absurd ge (by decide)
  clear hT
  have hyb := chanFs_b62 hy.symm (hX.bd h.a)
  conv => cbv
  refine Br.mk (fun g3 => ?_) (fun g3 => ?_)
  ·have g3 : 0 < y3 := g3
   have hm3 : max y3 0 = y3 := by omega
   conv => cbv
   refine Br.mk (fun g2 => ?_) (fun g2 => ?_)
   ·have g2 : y2 ≤ 0 := g2
    have hR : RTake R ph a (vs,C,G,ov) 0 8 (vs,C,G,ov) := .none X y0 y1 y2 y3 y4 y5 y6 y7 y8 hKa hX hy (fun q => by omega)
    conv => cbv
    refine RetF.mk [i6 0,i6 8] [hpR 0 1 6 3 W 7 ph sp cy,hpB 1 2 5 3 W,hpD 2 3 3 1 N 4 254 8 N,hpP 3 P,hpP 4 B,hpP 5 V,hpP 6 Q,(7,.mix [.p (.vsl (.sym m) true la),.p (.bool ov)])] 8 (Re.at [(0,0),(1,1),(2,2),(3,3),(4,4),(5,5),(6,6),(7,7)] []) rfl ⟨0,8,vs,C,G,ov,V,Q,la,m,rfl,rfl,rfl,h,hR⟩
   ·have g2 : ¬ y2 ≤ 0 := g2
    conv => cbv
    refine CallF.le (args0 := [.ptr 0 (.lit 0),.agg [i6 y0,i6 y1,i6 y2,i6 y3,i6 y4,i6 y5,i6 y6,i6 y7,i6 y8]]) (cfr (rbuffer_lx R vs C G N W ph sp cy P B V Q la m ov h y0 y1 y2 (y3) y4 y5 y6 y7 y8) [(0,0),(1,1),(2,2),(3,3),(4,4),(5,5),(6,6),(7,7)] (fun r h' n' hrr => ?_)) (by simp [ales,ale,pvle,I.val])
    obtain ⟨⟨b,e1,hb⟩,e2,e3⟩ := hrr
    subst e1 e2 e3
    cases b with
    | false =>
     have hR : RTake R ph a (vs,C,G,ov) 0 8 (vs,C,G,ov) := .none X y0 y1 y2 y3 y4 y5 y6 y7 y8 hKa hX hy (fun q => by have := hb.2 q.1; cases this)
     conv => cbv
     refine RetF.mk [i6 0,i6 8] [hpR 0 1 6 3 W 7 ph sp cy,hpB 1 2 5 3 W,hpD 2 3 3 1 N 4 254 8 N,hpP 3 P,hpP 4 B,hpP 5 V,hpP 6 Q,(7,.mix [.p (.vsl (.sym m) true la),.p (.bool ov)])] 8 (Re.at [(0,0),(1,1),(2,2),(3,3),(4,4),(5,5),(6,6),(7,7)] []) rfl ⟨0,8,vs,C,G,ov,V,Q,la,m,rfl,rfl,rfl,h,hR⟩
    | true =>
     obtain ⟨h0,hK⟩ := hb.1 rfl
     have hbd := hK.bounds h.a
     conv => cbv
     refine Need.mk (show ¬ y0 = 0 by omega) ?_
     conv => cbv
     refine Sum.mk fun i hi => ?_
     have hi : i = (max y3 0) % y0 := by rw [hm3]; exact (show i = Int.tmod (y3) y0 from hi).trans (Int.tmod_eq_emod_of_nonneg (by omega))
     have hin : 0 ≤ i ∧ i < y0 := by rw [hi]; exact ⟨Int.emod_nonneg _ (by omega),Int.emod_lt_of_pos _ h0⟩
     have hy2b : y2 ≤ 4611686018427387903 := by have q := hyb y2 (by simp); unfold b62 at q; omega
     conv => cbv
     refine drawn_sound tok (by kernel_rfl) [(7,[])] [0,1,2,3,4,5,6,7,8,9,10,11,12] (by kernel_rfl) ?_; conv => cbv
     refine cfr (rload_lx i R vs N y4 W P B V h.p h.b h.v h.n h.r h.a h.w) [(0,1),(1,2),(2,3),(3,4),(4,5)] (fun r h' n' hrr => ?_)
     obtain ⟨x,g,e1,e2,e3,hl⟩ := hrr
     subst e1 e2 e3
     conv => cbv
     refine CallF.le (args0 := [.ptr 0 (.lit 0),i6 y4,i6 i,i6 0]) (cfr (rstore9_lx R vs C G N W ph sp cy P B V Q la m ov h y4 i 0 (by omega)) [(0,0),(1,1),(2,2),(3,3),(4,4),(5,5),(6,6),(7,7)] (fun r h' n' hrr => ?_)) (by simp [ales,ale,pvle,I.val])
     obtain ⟨f,vs1,C1,G1,ov1,V1,Q1,la1,m1,e1,e2,e3,h1,hst,hc⟩ := hrr
     subst e1 e2 e3
     conv => cbv
     refine drawn_sound tok (by kernel_rfl) [(9,[7]),(11,[])] [0,1,2,3,4,5,6,7,8,9,10,11] (by kernel_rfl) ?_; conv => cbv
     refine Fit.mk (by show (-9223372036854775808 : Int) ≤ i + 1; omega) (by show i + 1 ≤ 9223372036854775807; omega) fun i1 hi1 => ?_
     have hi1 : i1 = i + 1 := hi1
     conv => cbv
     refine Need.mk (show ¬ y0 = 0 by omega) ?_
     conv => cbv
     refine Sum.mk fun i2 hi2 => ?_
     have hi2 : i2 = (i + 1) % y0 := (show i2 = i1.tmod y0 from hi2).trans (by rw [hi1]; exact Int.tmod_eq_emod_of_nonneg (by omega))
     conv => cbv
     refine Fit.mk (by show (-9223372036854775808 : Int) ≤ y2 - 1; omega) (by show y2 - 1 ≤ 9223372036854775807; omega) fun k1 hk1 => ?_
     have hk1 : k1 = y2 - 1 := hk1
     conv => cbv
     have hyb1 : ∀ x ∈ [y0,y1,k1,i2,y4,y5,y6,y7,y8],b62 x := by
      simp only [List.forall_mem_cons] at hyb ⊢
      obtain ⟨q0,q1,q2,q3,q4,q5,q6,q7,q8,_⟩ := hyb
      refine ⟨q0,q1,by unfold b62; omega,?_,q4,q5,q6,q7,q8,fun x hx => by cases hx⟩
      have r1 := Int.emod_nonneg (i + 1) (show y0 ≠ 0 by omega)
      have r2 := Int.emod_lt_of_pos (i + 1) h0
      unfold b62; omega
     refine cfr (rPutChan_lx R vs1 C1 G1 N W ph sp cy P B V1 Q1 la1 m1 ov1 h1 a y0 y1 k1 i2 y4 y5 y6 y7 y8 hyb1) [(0,0),(1,1),(2,2),(3,3),(4,4),(5,5),(6,6),(7,7)] (fun r h' n' hrr => ?_)
     obtain ⟨e',vs2,C2,G2,ov2,V2,Q2,la2,m2,e1,e2,e3,h2,hP⟩ := hrr
     subst e1 e2 e3
     have hR : RTake R ph a (vs,C,G,ov) x e' (vs2,C2,G2,ov2) := by
      refine .ok X y0 y1 y2 y3 y4 y5 y6 y7 y8 hKa hX hy h0 hK (by omega) x g f e' vs1 (C1,G1,ov1) _ (hi ▸ hl) (hi ▸ hst) hc ?_
      rw [← hi,← hi2,← hk1]; exact hP
     conv => cbv
     refine RetF.mk [i6 x,i6 e'] [hpR 0 1 6 3 W 7 ph sp cy,hpB 1 2 5 3 W,hpD 2 3 3 1 N 4 254 8 N,hpP 3 P,hpP 4 B,hpP 5 V2,hpP 6 Q2,(7,.mix [.p (.vsl (.sym m2) true la2),.p (.bool ov2)])] 8 (Re.at [(0,0),(1,1),(2,2),(3,3),(4,4),(5,5),(6,6),(7,7)] []) rfl ⟨x,e',vs2,C2,G2,ov2,V2,Q2,la2,m2,rfl,rfl,rfl,h2,hR⟩
  ·have g3 : ¬ 0 < y3 := g3
   have hm3 : max y3 0 = 0 := by omega
   conv => cbv
   refine Br.mk (fun g2 => ?_) (fun g2 => ?_)
   ·have g2 : y2 ≤ 0 := g2
    have hR : RTake R ph a (vs,C,G,ov) 0 8 (vs,C,G,ov) := .none X y0 y1 y2 y3 y4 y5 y6 y7 y8 hKa hX hy (fun q => by omega)
    conv => cbv
    refine RetF.mk [i6 0,i6 8] [hpR 0 1 6 3 W 7 ph sp cy,hpB 1 2 5 3 W,hpD 2 3 3 1 N 4 254 8 N,hpP 3 P,hpP 4 B,hpP 5 V,hpP 6 Q,(7,.mix [.p (.vsl (.sym m) true la),.p (.bool ov)])] 8 (Re.at [(0,0),(1,1),(2,2),(3,3),(4,4),(5,5),(6,6),(7,7)] []) rfl ⟨0,8,vs,C,G,ov,V,Q,la,m,rfl,rfl,rfl,h,hR⟩
   ·have g2 : ¬ y2 ≤ 0 := g2
    conv => cbv
    refine CallF.le (args0 := [.ptr 0 (.lit 0),.agg [i6 y0,i6 y1,i6 y2,i6 0,i6 y4,i6 y5,i6 y6,i6 y7,i6 y8]]) (cfr (rbuffer_lx R vs C G N W ph sp cy P B V Q la m ov h y0 y1 y2 (0) y4 y5 y6 y7 y8) [(0,0),(1,1),(2,2),(3,3),(4,4),(5,5),(6,6),(7,7)] (fun r h' n' hrr => ?_)) (by simp [ales,ale,pvle,I.val])
    obtain ⟨⟨b,e1,hb⟩,e2,e3⟩ := hrr
    subst e1 e2 e3
    cases b with
    | false =>
     have hR : RTake R ph a (vs,C,G,ov) 0 8 (vs,C,G,ov) := .none X y0 y1 y2 y3 y4 y5 y6 y7 y8 hKa hX hy (fun q => by have := hb.2 q.1; cases this)
     conv => cbv
     refine RetF.mk [i6 0,i6 8] [hpR 0 1 6 3 W 7 ph sp cy,hpB 1 2 5 3 W,hpD 2 3 3 1 N 4 254 8 N,hpP 3 P,hpP 4 B,hpP 5 V,hpP 6 Q,(7,.mix [.p (.vsl (.sym m) true la),.p (.bool ov)])] 8 (Re.at [(0,0),(1,1),(2,2),(3,3),(4,4),(5,5),(6,6),(7,7)] []) rfl ⟨0,8,vs,C,G,ov,V,Q,la,m,rfl,rfl,rfl,h,hR⟩
    | true =>
     obtain ⟨h0,hK⟩ := hb.1 rfl
     have hbd := hK.bounds h.a
     conv => cbv
     refine Need.mk (show ¬ y0 = 0 by omega) ?_
     conv => cbv
     refine Sum.mk fun i hi => ?_
     have hi : i = (max y3 0) % y0 := by rw [hm3]; exact (show i = Int.tmod (0) y0 from hi).trans (Int.tmod_eq_emod_of_nonneg (by omega))
     have hin : 0 ≤ i ∧ i < y0 := by rw [hi]; exact ⟨Int.emod_nonneg _ (by omega),Int.emod_lt_of_pos _ h0⟩
     have hy2b : y2 ≤ 4611686018427387903 := by have q := hyb y2 (by simp); unfold b62 at q; omega
     conv => cbv
     refine drawn_sound tok (by kernel_rfl) [(7,[])] [0,1,2,3,4,5,6,7,8,9,10,11,12] (by kernel_rfl) ?_; conv => cbv
     refine cfr (rload_lx i R vs N y4 W P B V h.p h.b h.v h.n h.r h.a h.w) [(0,1),(1,2),(2,3),(3,4),(4,5)] (fun r h' n' hrr => ?_)
     obtain ⟨x,g,e1,e2,e3,hl⟩ := hrr
     subst e1 e2 e3
     conv => cbv
     refine CallF.le (args0 := [.ptr 0 (.lit 0),i6 y4,i6 i,i6 0]) (cfr (rstore9_lx R vs C G N W ph sp cy P B V Q la m ov h y4 i 0 (by omega)) [(0,0),(1,1),(2,2),(3,3),(4,4),(5,5),(6,6),(7,7)] (fun r h' n' hrr => ?_)) (by simp [ales,ale,pvle,I.val])
     obtain ⟨f,vs1,C1,G1,ov1,V1,Q1,la1,m1,e1,e2,e3,h1,hst,hc⟩ := hrr
     subst e1 e2 e3
     conv => cbv
     refine drawn_sound tok (by kernel_rfl) [(9,[7]),(11,[])] [0,1,2,3,4,5,6,7,8,9,10,11] (by kernel_rfl) ?_; conv => cbv
     refine Fit.mk (by show (-9223372036854775808 : Int) ≤ i + 1; omega) (by show i + 1 ≤ 9223372036854775807; omega) fun i1 hi1 => ?_
     have hi1 : i1 = i + 1 := hi1
     conv => cbv
     refine Need.mk (show ¬ y0 = 0 by omega) ?_
     conv => cbv
     refine Sum.mk fun i2 hi2 => ?_
     have hi2 : i2 = (i + 1) % y0 := (show i2 = i1.tmod y0 from hi2).trans (by rw [hi1]; exact Int.tmod_eq_emod_of_nonneg (by omega))
     conv => cbv
     refine Fit.mk (by show (-9223372036854775808 : Int) ≤ y2 - 1; omega) (by show y2 - 1 ≤ 9223372036854775807; omega) fun k1 hk1 => ?_
     have hk1 : k1 = y2 - 1 := hk1
     conv => cbv
     have hyb1 : ∀ x ∈ [y0,y1,k1,i2,y4,y5,y6,y7,y8],b62 x := by
      simp only [List.forall_mem_cons] at hyb ⊢
      obtain ⟨q0,q1,q2,q3,q4,q5,q6,q7,q8,_⟩ := hyb
      refine ⟨q0,q1,by unfold b62; omega,?_,q4,q5,q6,q7,q8,fun x hx => by cases hx⟩
      have r1 := Int.emod_nonneg (i + 1) (show y0 ≠ 0 by omega)
      have r2 := Int.emod_lt_of_pos (i + 1) h0
      unfold b62; omega
     refine cfr (rPutChan_lx R vs1 C1 G1 N W ph sp cy P B V1 Q1 la1 m1 ov1 h1 a y0 y1 k1 i2 y4 y5 y6 y7 y8 hyb1) [(0,0),(1,1),(2,2),(3,3),(4,4),(5,5),(6,6),(7,7)] (fun r h' n' hrr => ?_)
     obtain ⟨e',vs2,C2,G2,ov2,V2,Q2,la2,m2,e1,e2,e3,h2,hP⟩ := hrr
     subst e1 e2 e3
     have hR : RTake R ph a (vs,C,G,ov) x e' (vs2,C2,G2,ov2) := by
      refine .ok X y0 y1 y2 y3 y4 y5 y6 y7 y8 hKa hX hy h0 hK (by omega) x g f e' vs1 (C1,G1,ov1) _ (hi ▸ hl) (hi ▸ hst) hc ?_
      rw [← hi,← hi2,← hk1]; exact hP
     conv => cbv
     refine RetF.mk [i6 x,i6 e'] [hpR 0 1 6 3 W 7 ph sp cy,hpB 1 2 5 3 W,hpD 2 3 3 1 N 4 254 8 N,hpP 3 P,hpP 4 B,hpP 5 V2,hpP 6 Q2,(7,.mix [.p (.vsl (.sym m2) true la2),.p (.bool ov2)])] 8 (Re.at [(0,0),(1,1),(2,2),(3,3),(4,4),(5,5),(6,6),(7,7)] []) rfl ⟨x,e',vs2,C2,G2,ov2,V2,Q2,la2,m2,rfl,rfl,rfl,h2,hR⟩
inductive RPutR (R : List Rw) (ph a w : Int) (s : St4) : Int → St4 → Prop
 | no (h : ¬ Kept R s.1 a 1 9) : RPutR R ph a w s 10 s
 | full (X : List Int) (y0 y1 y2 y3 y4 y5 y6 y7 y8 : Int) (h : Kept R s.1 a 1 9) (hX : Wrds R s.1 a X) (hy : [y0,y1,y2,y3,y4,y5,y6,y7,y8] = chanFs X) (hf : ¬ ((0 < y0 ∧ Kept R s.1 y4 2 y0) ∧ max y2 0 < y0)) : RPutR R ph a w s 9 s
 | ok (X : List Int) (y0 y1 y2 y3 y4 y5 y6 y7 y8 : Int) (h : Kept R s.1 a 1 9) (hX : Wrds R s.1 a X) (hy : [y0,y1,y2,y3,y4,y5,y6,y7,y8] = chanFs X) (h0 : 0 < y0) (hK : Kept R s.1 y4 2 y0) (hf : max y2 0 < y0) (f e : Int) (ws1 : List Int) (c1 : List Int × List Int × Bool) (s' : St4) (hst : Stored R s.1 y4 ((max y3 0 % y0 + max y2 0) % y0) w f ws1) (hc : c1 = storeS R ph f w s.2) (hP : PT 1 9 (chanWs [y0,y1,max y2 0 + 1,max y3 0,y4,y5,y6,y7,y8]) R ph a (ws1,c1) e s') : RPutR R ph a w s e s'
theorem rPutRing_lx (R : List Rw) (vs C G : List Int) (N W ph sp cy : Int) (P B V Q la : List PV) (m : Int) (ov : Bool) (h : RM R vs C G N W P B V Q la m) (a w : Int) (hw : -9223372036854775808 ≤ w ∧ w ≤ 9223372036854775807) : CallF (fun _ => Tryz.prog) 33 [.ptr 0 (.lit 0),i6 a,i6 w] [hpR 0 1 6 3 W 7 ph sp cy,hpB 1 2 5 3 W,hpD 2 3 3 1 N 4 254 8 N,hpP 3 P,hpP 4 B,hpP 5 V,hpP 6 Q,(7,.mix [.p (.vsl (.sym m) true la),.p (.bool ov)])] 8 (fun r h n => ∃ (e : Int) (vs' C' G' : List Int) (ov' : Bool) (V' Q' la' : List PV) (m' : Int),r = .p (.int .i64 (.sym e)) ∧ h = [hpR 0 1 6 3 W 7 ph sp cy,hpB 1 2 5 3 W,hpD 2 3 3 1 N 4 254 8 N,hpP 3 P,hpP 4 B,hpP 5 V',hpP 6 Q',(7,.mix [.p (.vsl (.sym m') true la'),.p (.bool ov')])] ∧ n = 8 ∧ RM R vs' C' G' N W P B V' Q' la' m' ∧ RPutR R ph a w (vs,C,G,ov) e (vs',C',G',ov')) := by
 refine callF_of_body tok Tryz.func33 (by kernel_rfl) rfl rfl rfl ?_; conv => cbv
 refine cfr (rchan_lx R vs C G N W ph sp cy P B V Q la m ov h a) [(0,0),(1,1),(2,2),(3,3),(4,4),(5,5),(6,6),(7,7)] (fun r h' n' hrr => ?_)
 obtain ⟨⟨y0,y1,y2,y3,y4,y5,y6,y7,y8,e,e1,hT⟩,e2,e3⟩ := hrr
 subst e1 e2 e3
 conv => cbv
 refine Br.mk (fun ge => ?_) (fun ge => ?_)
 ·have ge : ¬ e = 0 := ge
  obtain ⟨hno,he⟩ : ¬ Kept R vs a 1 9 ∧ e = 10 := by
   rcases hT.two with ⟨q1,_⟩ | ⟨q1,q2⟩
   ·exact absurd q1 ge
   ·exact ⟨q2,q1⟩
  have hR : RPutR R ph a w (vs,C,G,ov) e (vs,C,G,ov) := by rw [he]; exact .no hno
  conv => cbv
  refine RetF.mk [i6 e] [hpR 0 1 6 3 W 7 ph sp cy,hpB 1 2 5 3 W,hpD 2 3 3 1 N 4 254 8 N,hpP 3 P,hpP 4 B,hpP 5 V,hpP 6 Q,(7,.mix [.p (.vsl (.sym m) true la),.p (.bool ov)])] 8 (Re.at [(0,0),(1,1),(2,2),(3,3),(4,4),(5,5),(6,6),(7,7)] []) rfl ⟨e,vs,C,G,ov,V,Q,la,m,rfl,rfl,rfl,h,hR⟩
 ·have ge : ¬ ¬ e = 0 := ge
  have ge : e = 0 := Classical.not_not.1 ge
  obtain ⟨X,hKa,hX,hy⟩ : ∃ X,Kept R vs a 1 9 ∧ Wrds R vs a X ∧ [y0,y1,y2,y3,y4,y5,y6,y7,y8] = chanFs X := by
   generalize hyy : [y0,y1,y2,y3,y4,y5,y6,y7,y8] = yy at hT
   cases hT with
   | ok X h hX => exact ⟨X,h,hX,rfl⟩
   | no h => exact absurd ge (by decide)
  clear hT
  have hyb := chanFs_b62 hy.symm (hX.bd h.a)
  conv => cbv
  refine Br.mk (fun g3 => ?_) (fun g3 => ?_)
  ·have g3 : 0 < y3 := g3
   have hm3 : max y3 0 = y3 := by omega
   conv => cbv
   refine Br.mk (fun g2 => ?_) (fun g2 => ?_)
   ·have g2 : 0 < y2 := g2
    have hm2 : max y2 0 = y2 := by omega
    conv => cbv
    refine Br.mk (fun g1 => ?_) (fun g1 => ?_)
    ·have g1 : y0 ≤ y2 := g1
     have hR : RPutR R ph a w (vs,C,G,ov) 9 (vs,C,G,ov) := .full X y0 y1 y2 y3 y4 y5 y6 y7 y8 hKa hX hy (fun q => by omega)
     conv => cbv
     refine RetF.mk [i6 9] [hpR 0 1 6 3 W 7 ph sp cy,hpB 1 2 5 3 W,hpD 2 3 3 1 N 4 254 8 N,hpP 3 P,hpP 4 B,hpP 5 V,hpP 6 Q,(7,.mix [.p (.vsl (.sym m) true la),.p (.bool ov)])] 8 (Re.at [(0,0),(1,1),(2,2),(3,3),(4,4),(5,5),(6,6),(7,7)] []) rfl ⟨9,vs,C,G,ov,V,Q,la,m,rfl,rfl,rfl,h,hR⟩
    ·have g1 : ¬ y0 ≤ y2 := g1
     conv => cbv
     refine CallF.le (args0 := [.ptr 0 (.lit 0),.agg [i6 y0,i6 y1,i6 (y2),i6 (y3),i6 y4,i6 y5,i6 y6,i6 y7,i6 y8]]) (cfr (rbuffer_lx R vs C G N W ph sp cy P B V Q la m ov h y0 y1 (y2) (y3) y4 y5 y6 y7 y8) [(0,0),(1,1),(2,2),(3,3),(4,4),(5,5),(6,6),(7,7)] (fun r h' n' hrr => ?_)) (by simp [ales,ale,pvle,I.val])
     obtain ⟨⟨b,e1,hb⟩,e2,e3⟩ := hrr
     subst e1 e2 e3
     cases b with
     | false =>
      have hR : RPutR R ph a w (vs,C,G,ov) 9 (vs,C,G,ov) := .full X y0 y1 y2 y3 y4 y5 y6 y7 y8 hKa hX hy (fun q => by have := hb.2 q.1; cases this)
      conv => cbv
      refine RetF.mk [i6 9] [hpR 0 1 6 3 W 7 ph sp cy,hpB 1 2 5 3 W,hpD 2 3 3 1 N 4 254 8 N,hpP 3 P,hpP 4 B,hpP 5 V,hpP 6 Q,(7,.mix [.p (.vsl (.sym m) true la),.p (.bool ov)])] 8 (Re.at [(0,0),(1,1),(2,2),(3,3),(4,4),(5,5),(6,6),(7,7)] []) rfl ⟨9,vs,C,G,ov,V,Q,la,m,rfl,rfl,rfl,h,hR⟩
     | true =>
      obtain ⟨h0,hK⟩ := hb.1 rfl
      have hbd := hK.bounds h.a
      conv => cbv
      refine drawn_sound tok (by kernel_rfl) [(15,[])] [0,1,2,3,4,5,6,7,8,9,10,11,12,13,14,15] (by kernel_rfl) ?_; conv => cbv
      refine Need.mk (show ¬ y0 = 0 by omega) ?_
      conv => cbv
      refine Sum.mk fun i0 hi0 => ?_
      have hi0 : i0 = (max y3 0) % y0 := by rw [hm3]; exact (show i0 = Int.tmod (y3) y0 from hi0).trans (Int.tmod_eq_emod_of_nonneg (by omega))
      have hin0 : 0 ≤ i0 ∧ i0 < y0 := by rw [hi0]; exact ⟨Int.emod_nonneg _ (by omega),Int.emod_lt_of_pos _ h0⟩
      conv => cbv
      refine Fit.mk (by show (-9223372036854775808 : Int) ≤ i0 + y2; omega) (by show i0 + y2 ≤ 9223372036854775807; omega) fun i1 hi1 => ?_
      have hi1 : i1 = i0 + max y2 0 := by rw [hm2]; exact hi1
      conv => cbv
      refine Need.mk (show ¬ y0 = 0 by omega) ?_
      conv => cbv
      refine Sum.mk fun i hi => ?_
      have hi : i = (max y3 0 % y0 + max y2 0) % y0 := by rw [← hi0,← hi1]; exact (show i = Int.tmod i1 y0 from hi).trans (Int.tmod_eq_emod_of_nonneg (by omega))
      conv => cbv
      refine cfr (rstore9_lx R vs C G N W ph sp cy P B V Q la m ov h y4 i w hw) [(0,0),(1,1),(2,2),(3,3),(4,4),(5,5),(6,6),(7,7)] (fun r h' n' hrr => ?_)
      obtain ⟨f,vs1,C1,G1,ov1,V1,Q1,la1,m1,e1,e2,e3,h1,hst,hc⟩ := hrr
      subst e1 e2 e3
      conv => cbv
      refine Fit.mk (by show (-9223372036854775808 : Int) ≤ y2 + 1; omega) (by show y2 + 1 ≤ 9223372036854775807; omega) fun k1 hk1 => ?_
      have hk1 : k1 = max y2 0 + 1 := by rw [hm2]; exact hk1
      have hyb1 : ∀ x ∈ [y0,y1,k1,(y3),y4,y5,y6,y7,y8],b62 x := by
       simp only [List.forall_mem_cons] at hyb ⊢
       obtain ⟨q0,q1,q2,q3,q4,q5,q6,q7,q8,_⟩ := hyb
       exact ⟨q0,q1,by unfold b62; omega,by first | exact q3 | (unfold b62; omega),q4,q5,q6,q7,q8,fun x hx => by cases hx⟩
      conv => cbv
      refine CallF.le (args0 := [.ptr 0 (.lit 0),i6 a,.agg [i6 y0,i6 y1,i6 (k1),i6 (y3),i6 y4,i6 y5,i6 y6,i6 y7,i6 y8]]) (cfr (rPutChan_lx R vs1 C1 G1 N W ph sp cy P B V1 Q1 la1 m1 ov1 h1 a y0 y1 k1 (y3) y4 y5 y6 y7 y8 hyb1) [(0,0),(1,1),(2,2),(3,3),(4,4),(5,5),(6,6),(7,7)] (fun r h' n' hrr => ?_)) (by simp [ales,ale,pvle,I.val])
      obtain ⟨e',vs2,C2,G2,ov2,V2,Q2,la2,m2,e1,e2,e3,h2,hP⟩ := hrr
      subst e1 e2 e3
      have hR : RPutR R ph a w (vs,C,G,ov) e' (vs2,C2,G2,ov2) := by
       refine .ok X y0 y1 y2 y3 y4 y5 y6 y7 y8 hKa hX hy h0 hK (by omega) f e' vs1 (C1,G1,ov1) _ (hi ▸ hst) hc ?_
       rw [← hk1,hm3]; exact hP
      conv => cbv
      refine RetF.mk [i6 e'] [hpR 0 1 6 3 W 7 ph sp cy,hpB 1 2 5 3 W,hpD 2 3 3 1 N 4 254 8 N,hpP 3 P,hpP 4 B,hpP 5 V2,hpP 6 Q2,(7,.mix [.p (.vsl (.sym m2) true la2),.p (.bool ov2)])] 8 (Re.at [(0,0),(1,1),(2,2),(3,3),(4,4),(5,5),(6,6),(7,7)] []) rfl ⟨e',vs2,C2,G2,ov2,V2,Q2,la2,m2,rfl,rfl,rfl,h2,hR⟩
   ·have g2 : ¬ 0 < y2 := g2
    have hm2 : max y2 0 = 0 := by omega
    conv => cbv
    refine Br.mk (fun g1 => ?_) (fun g1 => ?_)
    ·have g1 : y0 ≤ 0 := g1
     have hR : RPutR R ph a w (vs,C,G,ov) 9 (vs,C,G,ov) := .full X y0 y1 y2 y3 y4 y5 y6 y7 y8 hKa hX hy (fun q => by omega)
     conv => cbv
     refine RetF.mk [i6 9] [hpR 0 1 6 3 W 7 ph sp cy,hpB 1 2 5 3 W,hpD 2 3 3 1 N 4 254 8 N,hpP 3 P,hpP 4 B,hpP 5 V,hpP 6 Q,(7,.mix [.p (.vsl (.sym m) true la),.p (.bool ov)])] 8 (Re.at [(0,0),(1,1),(2,2),(3,3),(4,4),(5,5),(6,6),(7,7)] []) rfl ⟨9,vs,C,G,ov,V,Q,la,m,rfl,rfl,rfl,h,hR⟩
    ·have g1 : ¬ y0 ≤ 0 := g1
     conv => cbv
     refine CallF.le (args0 := [.ptr 0 (.lit 0),.agg [i6 y0,i6 y1,i6 (0),i6 (y3),i6 y4,i6 y5,i6 y6,i6 y7,i6 y8]]) (cfr (rbuffer_lx R vs C G N W ph sp cy P B V Q la m ov h y0 y1 (0) (y3) y4 y5 y6 y7 y8) [(0,0),(1,1),(2,2),(3,3),(4,4),(5,5),(6,6),(7,7)] (fun r h' n' hrr => ?_)) (by simp [ales,ale,pvle,I.val])
     obtain ⟨⟨b,e1,hb⟩,e2,e3⟩ := hrr
     subst e1 e2 e3
     cases b with
     | false =>
      have hR : RPutR R ph a w (vs,C,G,ov) 9 (vs,C,G,ov) := .full X y0 y1 y2 y3 y4 y5 y6 y7 y8 hKa hX hy (fun q => by have := hb.2 q.1; cases this)
      conv => cbv
      refine RetF.mk [i6 9] [hpR 0 1 6 3 W 7 ph sp cy,hpB 1 2 5 3 W,hpD 2 3 3 1 N 4 254 8 N,hpP 3 P,hpP 4 B,hpP 5 V,hpP 6 Q,(7,.mix [.p (.vsl (.sym m) true la),.p (.bool ov)])] 8 (Re.at [(0,0),(1,1),(2,2),(3,3),(4,4),(5,5),(6,6),(7,7)] []) rfl ⟨9,vs,C,G,ov,V,Q,la,m,rfl,rfl,rfl,h,hR⟩
     | true =>
      obtain ⟨h0,hK⟩ := hb.1 rfl
      have hbd := hK.bounds h.a
      conv => cbv
      refine drawn_sound tok (by kernel_rfl) [(15,[])] [0,1,2,3,4,5,6,7,8,9,10,11,12,13,14,15] (by kernel_rfl) ?_; conv => cbv
      refine Need.mk (show ¬ y0 = 0 by omega) ?_
      conv => cbv
      refine Sum.mk fun i0 hi0 => ?_
      have hi0 : i0 = (max y3 0) % y0 := by rw [hm3]; exact (show i0 = Int.tmod (y3) y0 from hi0).trans (Int.tmod_eq_emod_of_nonneg (by omega))
      have hin0 : 0 ≤ i0 ∧ i0 < y0 := by rw [hi0]; exact ⟨Int.emod_nonneg _ (by omega),Int.emod_lt_of_pos _ h0⟩
      conv => cbv
      refine Fit.mk (by show (-9223372036854775808 : Int) ≤ i0 + 0; omega) (by show i0 + 0 ≤ 9223372036854775807; omega) fun i1 hi1 => ?_
      have hi1 : i1 = i0 + max y2 0 := by rw [hm2]; exact hi1
      conv => cbv
      refine Need.mk (show ¬ y0 = 0 by omega) ?_
      conv => cbv
      refine Sum.mk fun i hi => ?_
      have hi : i = (max y3 0 % y0 + max y2 0) % y0 := by rw [← hi0,← hi1]; exact (show i = Int.tmod i1 y0 from hi).trans (Int.tmod_eq_emod_of_nonneg (by omega))
      conv => cbv
      refine cfr (rstore9_lx R vs C G N W ph sp cy P B V Q la m ov h y4 i w hw) [(0,0),(1,1),(2,2),(3,3),(4,4),(5,5),(6,6),(7,7)] (fun r h' n' hrr => ?_)
      obtain ⟨f,vs1,C1,G1,ov1,V1,Q1,la1,m1,e1,e2,e3,h1,hst,hc⟩ := hrr
      subst e1 e2 e3
      conv => cbv
      obtain ⟨k1,hk1,hk9⟩ : ∃ k1 : Int,k1 = max y2 0 + 1 ∧ k1 = 1 := ⟨1,by omega,rfl⟩
      have hyb1 : ∀ x ∈ [y0,y1,k1,(y3),y4,y5,y6,y7,y8],b62 x := by
       simp only [List.forall_mem_cons] at hyb ⊢
       obtain ⟨q0,q1,q2,q3,q4,q5,q6,q7,q8,_⟩ := hyb
       exact ⟨q0,q1,by unfold b62; omega,by first | exact q3 | (unfold b62; omega),q4,q5,q6,q7,q8,fun x hx => by cases hx⟩
      conv => cbv
      refine CallF.le (args0 := [.ptr 0 (.lit 0),i6 a,.agg [i6 y0,i6 y1,i6 (k1),i6 (y3),i6 y4,i6 y5,i6 y6,i6 y7,i6 y8]]) (cfr (rPutChan_lx R vs1 C1 G1 N W ph sp cy P B V1 Q1 la1 m1 ov1 h1 a y0 y1 k1 (y3) y4 y5 y6 y7 y8 hyb1) [(0,0),(1,1),(2,2),(3,3),(4,4),(5,5),(6,6),(7,7)] (fun r h' n' hrr => ?_)) (by simp [ales,ale,pvle,I.val,hk9])
      obtain ⟨e',vs2,C2,G2,ov2,V2,Q2,la2,m2,e1,e2,e3,h2,hP⟩ := hrr
      subst e1 e2 e3
      have hR : RPutR R ph a w (vs,C,G,ov) e' (vs2,C2,G2,ov2) := by
       refine .ok X y0 y1 y2 y3 y4 y5 y6 y7 y8 hKa hX hy h0 hK (by omega) f e' vs1 (C1,G1,ov1) _ (hi ▸ hst) hc ?_
       rw [← hk1,hm3]; exact hP
      conv => cbv
      refine RetF.mk [i6 e'] [hpR 0 1 6 3 W 7 ph sp cy,hpB 1 2 5 3 W,hpD 2 3 3 1 N 4 254 8 N,hpP 3 P,hpP 4 B,hpP 5 V2,hpP 6 Q2,(7,.mix [.p (.vsl (.sym m2) true la2),.p (.bool ov2)])] 8 (Re.at [(0,0),(1,1),(2,2),(3,3),(4,4),(5,5),(6,6),(7,7)] []) rfl ⟨e',vs2,C2,G2,ov2,V2,Q2,la2,m2,rfl,rfl,rfl,h2,hR⟩
  ·have g3 : ¬ 0 < y3 := g3
   have hm3 : max y3 0 = 0 := by omega
   conv => cbv
   refine Br.mk (fun g2 => ?_) (fun g2 => ?_)
   ·have g2 : 0 < y2 := g2
    have hm2 : max y2 0 = y2 := by omega
    conv => cbv
    refine Br.mk (fun g1 => ?_) (fun g1 => ?_)
    ·have g1 : y0 ≤ y2 := g1
     have hR : RPutR R ph a w (vs,C,G,ov) 9 (vs,C,G,ov) := .full X y0 y1 y2 y3 y4 y5 y6 y7 y8 hKa hX hy (fun q => by omega)
     conv => cbv
     refine RetF.mk [i6 9] [hpR 0 1 6 3 W 7 ph sp cy,hpB 1 2 5 3 W,hpD 2 3 3 1 N 4 254 8 N,hpP 3 P,hpP 4 B,hpP 5 V,hpP 6 Q,(7,.mix [.p (.vsl (.sym m) true la),.p (.bool ov)])] 8 (Re.at [(0,0),(1,1),(2,2),(3,3),(4,4),(5,5),(6,6),(7,7)] []) rfl ⟨9,vs,C,G,ov,V,Q,la,m,rfl,rfl,rfl,h,hR⟩
    ·have g1 : ¬ y0 ≤ y2 := g1
     conv => cbv
     refine CallF.le (args0 := [.ptr 0 (.lit 0),.agg [i6 y0,i6 y1,i6 (y2),i6 (0),i6 y4,i6 y5,i6 y6,i6 y7,i6 y8]]) (cfr (rbuffer_lx R vs C G N W ph sp cy P B V Q la m ov h y0 y1 (y2) (0) y4 y5 y6 y7 y8) [(0,0),(1,1),(2,2),(3,3),(4,4),(5,5),(6,6),(7,7)] (fun r h' n' hrr => ?_)) (by simp [ales,ale,pvle,I.val])
     obtain ⟨⟨b,e1,hb⟩,e2,e3⟩ := hrr
     subst e1 e2 e3
     cases b with
     | false =>
      have hR : RPutR R ph a w (vs,C,G,ov) 9 (vs,C,G,ov) := .full X y0 y1 y2 y3 y4 y5 y6 y7 y8 hKa hX hy (fun q => by have := hb.2 q.1; cases this)
      conv => cbv
      refine RetF.mk [i6 9] [hpR 0 1 6 3 W 7 ph sp cy,hpB 1 2 5 3 W,hpD 2 3 3 1 N 4 254 8 N,hpP 3 P,hpP 4 B,hpP 5 V,hpP 6 Q,(7,.mix [.p (.vsl (.sym m) true la),.p (.bool ov)])] 8 (Re.at [(0,0),(1,1),(2,2),(3,3),(4,4),(5,5),(6,6),(7,7)] []) rfl ⟨9,vs,C,G,ov,V,Q,la,m,rfl,rfl,rfl,h,hR⟩
     | true =>
      obtain ⟨h0,hK⟩ := hb.1 rfl
      have hbd := hK.bounds h.a
      conv => cbv
      refine drawn_sound tok (by kernel_rfl) [(15,[])] [0,1,2,3,4,5,6,7,8,9,10,11,12,13,14,15] (by kernel_rfl) ?_; conv => cbv
      refine Need.mk (show ¬ y0 = 0 by omega) ?_
      conv => cbv
      refine Sum.mk fun i0 hi0 => ?_
      have hi0 : i0 = (max y3 0) % y0 := by rw [hm3]; exact (show i0 = Int.tmod (0) y0 from hi0).trans (Int.tmod_eq_emod_of_nonneg (by omega))
      have hin0 : 0 ≤ i0 ∧ i0 < y0 := by rw [hi0]; exact ⟨Int.emod_nonneg _ (by omega),Int.emod_lt_of_pos _ h0⟩
      conv => cbv
      refine Fit.mk (by show (-9223372036854775808 : Int) ≤ i0 + y2; omega) (by show i0 + y2 ≤ 9223372036854775807; omega) fun i1 hi1 => ?_
      have hi1 : i1 = i0 + max y2 0 := by rw [hm2]; exact hi1
      conv => cbv
      refine Need.mk (show ¬ y0 = 0 by omega) ?_
      conv => cbv
      refine Sum.mk fun i hi => ?_
      have hi : i = (max y3 0 % y0 + max y2 0) % y0 := by rw [← hi0,← hi1]; exact (show i = Int.tmod i1 y0 from hi).trans (Int.tmod_eq_emod_of_nonneg (by omega))
      conv => cbv
      refine cfr (rstore9_lx R vs C G N W ph sp cy P B V Q la m ov h y4 i w hw) [(0,0),(1,1),(2,2),(3,3),(4,4),(5,5),(6,6),(7,7)] (fun r h' n' hrr => ?_)
      obtain ⟨f,vs1,C1,G1,ov1,V1,Q1,la1,m1,e1,e2,e3,h1,hst,hc⟩ := hrr
      subst e1 e2 e3
      conv => cbv
      refine Fit.mk (by show (-9223372036854775808 : Int) ≤ y2 + 1; omega) (by show y2 + 1 ≤ 9223372036854775807; omega) fun k1 hk1 => ?_
      have hk1 : k1 = max y2 0 + 1 := by rw [hm2]; exact hk1
      have hyb1 : ∀ x ∈ [y0,y1,k1,(0),y4,y5,y6,y7,y8],b62 x := by
       simp only [List.forall_mem_cons] at hyb ⊢
       obtain ⟨q0,q1,q2,q3,q4,q5,q6,q7,q8,_⟩ := hyb
       exact ⟨q0,q1,by unfold b62; omega,by first | exact q3 | (unfold b62; omega),q4,q5,q6,q7,q8,fun x hx => by cases hx⟩
      conv => cbv
      refine CallF.le (args0 := [.ptr 0 (.lit 0),i6 a,.agg [i6 y0,i6 y1,i6 (k1),i6 (0),i6 y4,i6 y5,i6 y6,i6 y7,i6 y8]]) (cfr (rPutChan_lx R vs1 C1 G1 N W ph sp cy P B V1 Q1 la1 m1 ov1 h1 a y0 y1 k1 (0) y4 y5 y6 y7 y8 hyb1) [(0,0),(1,1),(2,2),(3,3),(4,4),(5,5),(6,6),(7,7)] (fun r h' n' hrr => ?_)) (by simp [ales,ale,pvle,I.val])
      obtain ⟨e',vs2,C2,G2,ov2,V2,Q2,la2,m2,e1,e2,e3,h2,hP⟩ := hrr
      subst e1 e2 e3
      have hR : RPutR R ph a w (vs,C,G,ov) e' (vs2,C2,G2,ov2) := by
       refine .ok X y0 y1 y2 y3 y4 y5 y6 y7 y8 hKa hX hy h0 hK (by omega) f e' vs1 (C1,G1,ov1) _ (hi ▸ hst) hc ?_
       rw [← hk1,hm3]; exact hP
      conv => cbv
      refine RetF.mk [i6 e'] [hpR 0 1 6 3 W 7 ph sp cy,hpB 1 2 5 3 W,hpD 2 3 3 1 N 4 254 8 N,hpP 3 P,hpP 4 B,hpP 5 V2,hpP 6 Q2,(7,.mix [.p (.vsl (.sym m2) true la2),.p (.bool ov2)])] 8 (Re.at [(0,0),(1,1),(2,2),(3,3),(4,4),(5,5),(6,6),(7,7)] []) rfl ⟨e',vs2,C2,G2,ov2,V2,Q2,la2,m2,rfl,rfl,rfl,h2,hR⟩
   ·have g2 : ¬ 0 < y2 := g2
    have hm2 : max y2 0 = 0 := by omega
    conv => cbv
    refine Br.mk (fun g1 => ?_) (fun g1 => ?_)
    ·have g1 : y0 ≤ 0 := g1
     have hR : RPutR R ph a w (vs,C,G,ov) 9 (vs,C,G,ov) := .full X y0 y1 y2 y3 y4 y5 y6 y7 y8 hKa hX hy (fun q => by omega)
     conv => cbv
     refine RetF.mk [i6 9] [hpR 0 1 6 3 W 7 ph sp cy,hpB 1 2 5 3 W,hpD 2 3 3 1 N 4 254 8 N,hpP 3 P,hpP 4 B,hpP 5 V,hpP 6 Q,(7,.mix [.p (.vsl (.sym m) true la),.p (.bool ov)])] 8 (Re.at [(0,0),(1,1),(2,2),(3,3),(4,4),(5,5),(6,6),(7,7)] []) rfl ⟨9,vs,C,G,ov,V,Q,la,m,rfl,rfl,rfl,h,hR⟩
    ·have g1 : ¬ y0 ≤ 0 := g1
     conv => cbv
     refine CallF.le (args0 := [.ptr 0 (.lit 0),.agg [i6 y0,i6 y1,i6 (0),i6 (0),i6 y4,i6 y5,i6 y6,i6 y7,i6 y8]]) (cfr (rbuffer_lx R vs C G N W ph sp cy P B V Q la m ov h y0 y1 (0) (0) y4 y5 y6 y7 y8) [(0,0),(1,1),(2,2),(3,3),(4,4),(5,5),(6,6),(7,7)] (fun r h' n' hrr => ?_)) (by simp [ales,ale,pvle,I.val])
     obtain ⟨⟨b,e1,hb⟩,e2,e3⟩ := hrr
     subst e1 e2 e3
     cases b with
     | false =>
      have hR : RPutR R ph a w (vs,C,G,ov) 9 (vs,C,G,ov) := .full X y0 y1 y2 y3 y4 y5 y6 y7 y8 hKa hX hy (fun q => by have := hb.2 q.1; cases this)
      conv => cbv
      refine RetF.mk [i6 9] [hpR 0 1 6 3 W 7 ph sp cy,hpB 1 2 5 3 W,hpD 2 3 3 1 N 4 254 8 N,hpP 3 P,hpP 4 B,hpP 5 V,hpP 6 Q,(7,.mix [.p (.vsl (.sym m) true la),.p (.bool ov)])] 8 (Re.at [(0,0),(1,1),(2,2),(3,3),(4,4),(5,5),(6,6),(7,7)] []) rfl ⟨9,vs,C,G,ov,V,Q,la,m,rfl,rfl,rfl,h,hR⟩
     | true =>
      obtain ⟨h0,hK⟩ := hb.1 rfl
      have hbd := hK.bounds h.a
      conv => cbv
      refine drawn_sound tok (by kernel_rfl) [(15,[])] [0,1,2,3,4,5,6,7,8,9,10,11,12,13,14,15] (by kernel_rfl) ?_; conv => cbv
      refine Need.mk (show ¬ y0 = 0 by omega) ?_
      conv => cbv
      refine Sum.mk fun i0 hi0 => ?_
      have hi0 : i0 = (max y3 0) % y0 := by rw [hm3]; exact (show i0 = Int.tmod (0) y0 from hi0).trans (Int.tmod_eq_emod_of_nonneg (by omega))
      have hin0 : 0 ≤ i0 ∧ i0 < y0 := by rw [hi0]; exact ⟨Int.emod_nonneg _ (by omega),Int.emod_lt_of_pos _ h0⟩
      conv => cbv
      refine Fit.mk (by show (-9223372036854775808 : Int) ≤ i0 + 0; omega) (by show i0 + 0 ≤ 9223372036854775807; omega) fun i1 hi1 => ?_
      have hi1 : i1 = i0 + max y2 0 := by rw [hm2]; exact hi1
      conv => cbv
      refine Need.mk (show ¬ y0 = 0 by omega) ?_
      conv => cbv
      refine Sum.mk fun i hi => ?_
      have hi : i = (max y3 0 % y0 + max y2 0) % y0 := by rw [← hi0,← hi1]; exact (show i = Int.tmod i1 y0 from hi).trans (Int.tmod_eq_emod_of_nonneg (by omega))
      conv => cbv
      refine cfr (rstore9_lx R vs C G N W ph sp cy P B V Q la m ov h y4 i w hw) [(0,0),(1,1),(2,2),(3,3),(4,4),(5,5),(6,6),(7,7)] (fun r h' n' hrr => ?_)
      obtain ⟨f,vs1,C1,G1,ov1,V1,Q1,la1,m1,e1,e2,e3,h1,hst,hc⟩ := hrr
      subst e1 e2 e3
      conv => cbv
      obtain ⟨k1,hk1,hk9⟩ : ∃ k1 : Int,k1 = max y2 0 + 1 ∧ k1 = 1 := ⟨1,by omega,rfl⟩
      have hyb1 : ∀ x ∈ [y0,y1,k1,(0),y4,y5,y6,y7,y8],b62 x := by
       simp only [List.forall_mem_cons] at hyb ⊢
       obtain ⟨q0,q1,q2,q3,q4,q5,q6,q7,q8,_⟩ := hyb
       exact ⟨q0,q1,by unfold b62; omega,by first | exact q3 | (unfold b62; omega),q4,q5,q6,q7,q8,fun x hx => by cases hx⟩
      conv => cbv
      refine CallF.le (args0 := [.ptr 0 (.lit 0),i6 a,.agg [i6 y0,i6 y1,i6 (k1),i6 (0),i6 y4,i6 y5,i6 y6,i6 y7,i6 y8]]) (cfr (rPutChan_lx R vs1 C1 G1 N W ph sp cy P B V1 Q1 la1 m1 ov1 h1 a y0 y1 k1 (0) y4 y5 y6 y7 y8 hyb1) [(0,0),(1,1),(2,2),(3,3),(4,4),(5,5),(6,6),(7,7)] (fun r h' n' hrr => ?_)) (by simp [ales,ale,pvle,I.val,hk9])
      obtain ⟨e',vs2,C2,G2,ov2,V2,Q2,la2,m2,e1,e2,e3,h2,hP⟩ := hrr
      subst e1 e2 e3
      have hR : RPutR R ph a w (vs,C,G,ov) e' (vs2,C2,G2,ov2) := by
       refine .ok X y0 y1 y2 y3 y4 y5 y6 y7 y8 hKa hX hy h0 hK (by omega) f e' vs1 (C1,G1,ov1) _ (hi ▸ hst) hc ?_
       rw [← hk1,hm3]; exact hP
      conv => cbv
      refine RetF.mk [i6 e'] [hpR 0 1 6 3 W 7 ph sp cy,hpB 1 2 5 3 W,hpD 2 3 3 1 N 4 254 8 N,hpP 3 P,hpP 4 B,hpP 5 V2,hpP 6 Q2,(7,.mix [.p (.vsl (.sym m2) true la2),.p (.bool ov2)])] 8 (Re.at [(0,0),(1,1),(2,2),(3,3),(4,4),(5,5),(6,6),(7,7)] []) rfl ⟨e',vs2,C2,G2,ov2,V2,Q2,la2,m2,rfl,rfl,rfl,h2,hR⟩
end Go.Proofs.YtjfdfbpgckilpaaGreatDoor
