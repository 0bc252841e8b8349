/-
  The ground of the proof, part 9: the calculus and what is proved with it.
-/
import Derived.Test.YtjfdfbpgckilpaaGreatDoorBh
import Derived.Test.YtjfdfbpgckilpaaGreatDoorBg
import Derived.Test.YtjfdfbpgckilpaaGreatDoorBf
namespace Go.Proofs.YtjfdfbpgckilpaaGreatDoor
open Go Go.LX
set_option maxRecDepth 100000
set_option linter.unusedVariables false
set_option linter.unusedSimpArgs false
set_option maxHeartbeats 32000000
theorem rAllRing_lx (R : List Rw) (vs C G : List Int) (N W ph sp cy : Int) (P B V Q la : List PV) (m : Int) (ov : Bool) (h : RM R vs C G N W P B V Q la m) (a : Int) : CallF (fun _ => Tryz.prog) 37 [.ptr 0 (.lit 0),i6 a] [hpR 0 1 6 3 W 7 ph sp cy,hpB 1 2 5 3 W,hpD 2 3 3 1 N 4 254 8 N,hpP 3 P,hpP 4 B,hpP 5 V,hpP 6 Q,(7,.mix [.p (.vsl (.sym m) true la),.p (.bool ov)])] 8 (fun r h n => ∃ (l : List Int) (k : Int) (cells : List PV),r = .p (.vsl (.sym k) true cells) ∧ h = [hpR 0 1 6 3 W 7 ph sp cy,hpB 1 2 5 3 W,hpD 2 3 3 1 N 4 254 8 N,hpP 3 P,hpP 4 B,hpP 5 V,hpP 6 Q,(7,.mix [.p (.vsl (.sym m) true la),.p (.bool ov)])] ∧ n = 8 ∧ k = l.length ∧ cells = ipv l ∧ RAll R vs a l) := by
 refine callF_of_body tok Tryz.func37 (by kernel_rfl) rfl rfl rfl ?_; conv => cbv
 refine cfr (rchan_lx R vs C G N W ph sp cy P B V Q la m ov h a) [(0,0),(1,1),(2,2),(3,3),(4,4),(5,5),(6,6),(7,7)] (fun r h' n' hrr => ?_)
 obtain ⟨⟨y0,y1,y2,y3,y4,y5,y6,y7,y8,e,e1,hT⟩,e2,e3⟩ := hrr
 subst e1 e2 e3
 conv => cbv
 refine Br.mk (fun ge => ?_) (fun ge => ?_)
 ·have ge : ¬ e = 0 := ge
  obtain ⟨hno,he⟩ : ¬ Kept R vs a 1 9 ∧ e = 10 := by
   rcases hT.two with ⟨q1,_⟩ | ⟨q1,q2⟩
   ·exact absurd q1 ge
   ·exact ⟨q2,q1⟩
  have hR : RAll R vs a [] := .no hno
  conv => cbv
  refine RetF.mk [.p (.vsl (.sym 0) true [])] [hpR 0 1 6 3 W 7 ph sp cy,hpB 1 2 5 3 W,hpD 2 3 3 1 N 4 254 8 N,hpP 3 P,hpP 4 B,hpP 5 V,hpP 6 Q,(7,.mix [.p (.vsl (.sym m) true la),.p (.bool ov)])] 8 (Re.at [(0,0),(1,1),(2,2),(3,3),(4,4),(5,5),(6,6),(7,7)] []) rfl ⟨[],0,[],rfl,rfl,rfl,rfl,rfl,hR⟩
 ·have ge : ¬ ¬ e = 0 := ge
  have ge : e = 0 := Classical.not_not.1 ge
  obtain ⟨X,hKa,hX,hy⟩ : ∃ X,Kept R vs a 1 9 ∧ Wrds R vs a X ∧ [y0,y1,y2,y3,y4,y5,y6,y7,y8] = chanFs X := by
   generalize hyy : [y0,y1,y2,y3,y4,y5,y6,y7,y8] = yy at hT
   cases hT with
   | ok X h hX => exact ⟨X,h,hX,rfl⟩
   | no h => exact absurd ge (by decide)
  clear hT
  have hyb := chanFs_b62 hy.symm (hX.bd h.a)
  conv => cbv
  refine Br.mk (fun g2 => ?_) (fun g2 => ?_)
  ·have g2 : y2 ≤ 0 := g2
   by_cases hK0 : 0 < y0 ∧ Kept R vs y4 2 y0
   ·have hR : RAll R vs a [] := .ok X y0 y1 y2 y3 y4 y5 y6 y7 y8 hKa hX hy hK0.1 hK0.2 [] (by show (0 : Int) = _; omega) (fun i x hx => by cases hx)
    conv => cbv
    refine RetF.mk [.p (.vsl (.sym 0) true [])] [hpR 0 1 6 3 W 7 ph sp cy,hpB 1 2 5 3 W,hpD 2 3 3 1 N 4 254 8 N,hpP 3 P,hpP 4 B,hpP 5 V,hpP 6 Q,(7,.mix [.p (.vsl (.sym m) true la),.p (.bool ov)])] 8 (Re.at [(0,0),(1,1),(2,2),(3,3),(4,4),(5,5),(6,6),(7,7)] []) rfl ⟨[],0,[],rfl,rfl,rfl,rfl,rfl,hR⟩
   ·have hR : RAll R vs a [] := .none X y0 y1 y2 y3 y4 y5 y6 y7 y8 hKa hX hy hK0
    conv => cbv
    refine RetF.mk [.p (.vsl (.sym 0) true [])] [hpR 0 1 6 3 W 7 ph sp cy,hpB 1 2 5 3 W,hpD 2 3 3 1 N 4 254 8 N,hpP 3 P,hpP 4 B,hpP 5 V,hpP 6 Q,(7,.mix [.p (.vsl (.sym m) true la),.p (.bool ov)])] 8 (Re.at [(0,0),(1,1),(2,2),(3,3),(4,4),(5,5),(6,6),(7,7)] []) rfl ⟨[],0,[],rfl,rfl,rfl,rfl,rfl,hR⟩
  ·have g2 : ¬ y2 ≤ 0 := g2
   conv => cbv
   refine cfr (rbuffer_lx R vs C G N W ph sp cy P B V Q la m ov h y0 y1 y2 y3 y4 y5 y6 y7 y8) [(0,0),(1,1),(2,2),(3,3),(4,4),(5,5),(6,6),(7,7)] (fun r h' n' hrr => ?_)
   obtain ⟨⟨b,e1,hb⟩,e2,e3⟩ := hrr
   subst e1 e2 e3
   cases b with
   | false =>
    have hR : RAll R vs a [] := .none X y0 y1 y2 y3 y4 y5 y6 y7 y8 hKa hX hy (fun q => by have := hb.2 q; cases this)
    conv => cbv
    refine RetF.mk [.p (.vsl (.sym 0) true [])] [hpR 0 1 6 3 W 7 ph sp cy,hpB 1 2 5 3 W,hpD 2 3 3 1 N 4 254 8 N,hpP 3 P,hpP 4 B,hpP 5 V,hpP 6 Q,(7,.mix [.p (.vsl (.sym m) true la),.p (.bool ov)])] 8 (Re.at [(0,0),(1,1),(2,2),(3,3),(4,4),(5,5),(6,6),(7,7)] []) rfl ⟨[],0,[],rfl,rfl,rfl,rfl,rfl,hR⟩
   | true =>
    obtain ⟨h0,hK⟩ := hb.1 rfl
    have hbd := hK.bounds h.a
    have hy2b : y2 ≤ 4611686018427387903 := by have q := hyb y2 (by simp); unfold b62 at q; omega
    conv => cbv
    refine LoopF.mk (fun kk s => ∃ (i j : Int) (l : List Int) (cl : List PV),s = ⟨.ptr 0 (.lit 0) :: (undefs 4 ++ .ptr 8 (.lit 0) :: .undef :: .sl 9 3 1 (.lit 0) (.sym j) :: .p (.int .i64 (.sym i)) :: undefs 59),[hpR 0 1 6 3 W 7 ph sp cy,hpB 1 2 5 3 W,hpD 2 3 3 1 N 4 254 8 N,hpP 3 P,hpP 4 B,hpP 5 V,hpP 6 Q,(7,.mix [.p (.vsl (.sym m) true la),.p (.bool ov)]),(8,.pure false [.int .i64 (.sym y0),.int .i64 (.sym y1),.int .i64 (.sym y2),.int .i64 (.sym y3),.int .i64 (.sym y4),.int .i64 (.sym y5),.int .i64 (.sym y6),.int .i64 (.sym y7),.int .i64 (.sym y8)]),hpP 9 cl],10⟩ ∧ cl = ipv l ∧ j = l.length ∧ j = i ∧ 0 ≤ i ∧ i ≤ y2 ∧ i ≤ y0 ∧ kk = (y0 - i).toNat ∧ (∀ (k : Nat) (x : Int),l[k]? = some x → Loaded R vs y4 ((max y3 0 % y0 + k) % y0) x 0)) y0.toNat _
     (Re.at [(0,0),(1,1),(2,2),(3,3),(4,4),(5,5),(6,6),(7,7),(8,8)] [9]) ⟨0,0,[],[],rfl,rfl,rfl,rfl,by omega,by omega,by omega,by omega,fun k x hx => by cases hx⟩ ?_
    rintro kk s ⟨i,j,l,cl,rfl,hcl,hjl,hji,hi0,hi1,hi2,hkk,hld⟩
    have hcll : cl.length = l.length := by rw [hcl,ipv_length]
    conv => cbv
    refine Br.mk (fun q1 => ?_) (fun q1 => ?_)
    case refine_2 =>
     have q1 : ¬ i < y2 := q1
     conv => cbv
     refine RetF.mk [.p (.vsl (.sym j) true cl)] [hpR 0 1 6 3 W 7 ph sp cy,hpB 1 2 5 3 W,hpD 2 3 3 1 N 4 254 8 N,hpP 3 P,hpP 4 B,hpP 5 V,hpP 6 Q,(7,.mix [.p (.vsl (.sym m) true la),.p (.bool ov)])] 8 (Re.at [(0,0),(1,1),(2,2),(3,3),(4,4),(5,5),(6,6),(7,7)] []) rfl ⟨l,j,cl,rfl,rfl,rfl,hjl,hcl,.ok X y0 y1 y2 y3 y4 y5 y6 y7 y8 hKa hX hy h0 hK l (by omega) hld⟩
    have q1 : i < y2 := q1
    conv => cbv
    refine Br.mk (fun q2 => ?_) (fun q2 => ?_)
    case refine_2 =>
     have q2 : ¬ i < y0 := q2
     conv => cbv
     refine RetF.mk [.p (.vsl (.sym j) true cl)] [hpR 0 1 6 3 W 7 ph sp cy,hpB 1 2 5 3 W,hpD 2 3 3 1 N 4 254 8 N,hpP 3 P,hpP 4 B,hpP 5 V,hpP 6 Q,(7,.mix [.p (.vsl (.sym m) true la),.p (.bool ov)])] 8 (Re.at [(0,0),(1,1),(2,2),(3,3),(4,4),(5,5),(6,6),(7,7)] []) rfl ⟨l,j,cl,rfl,rfl,rfl,hjl,hcl,.ok X y0 y1 y2 y3 y4 y5 y6 y7 y8 hKa hX hy h0 hK l (by omega) hld⟩
    have q2 : i < y0 := q2
    conv => cbv
    refine drawn_sound tok (by kernel_rfl) [(17,[])] [0,1,2,3,4,5,6,7,8,9,10,11,12,13,14,15,16,17,18,19,20,21,22] (by kernel_rfl) ?_; conv => cbv
    refine Br.mk (fun g3 => ?_) (fun g3 => ?_)
    ·have g3 : 0 < y3 := g3
     have hm3 : max y3 0 = y3 := by omega
     conv => cbv
     refine Need.mk (show ¬ y0 = 0 by omega) ?_
     conv => cbv
     refine Sum.mk fun i0 h0i => ?_
     have h0i : i0 = (max y3 0) % y0 := by rw [hm3]; exact (show i0 = Int.tmod (y3) y0 from h0i).trans (Int.tmod_eq_emod_of_nonneg (by omega))
     have hin0 : 0 ≤ i0 ∧ i0 < y0 := by rw [h0i]; exact ⟨Int.emod_nonneg _ (by omega),Int.emod_lt_of_pos _ h0⟩
     conv => cbv
     refine Fit.mk (by show (-9223372036854775808 : Int) ≤ i0 + i; omega) (by show i0 + i ≤ 9223372036854775807; omega) fun i1 h1i => ?_
     have h1i : i1 = i0 + i := h1i
     conv => cbv
     refine Need.mk (show ¬ y0 = 0 by omega) ?_
     conv => cbv
     refine Sum.mk fun p hp => ?_
     have hp : p = (max y3 0 % y0 + i) % y0 := by rw [← h0i,← h1i]; exact (show p = Int.tmod i1 y0 from hp).trans (Int.tmod_eq_emod_of_nonneg (by omega))
     have hpb : 0 ≤ p ∧ p < y0 := by rw [hp]; exact ⟨Int.emod_nonneg _ (by omega),Int.emod_lt_of_pos _ h0⟩
     conv => cbv
     refine cfr (rload_lx p R vs N y4 W P B V h.p h.b h.v h.n h.r h.a h.w) [(0,1),(1,2),(2,3),(3,4),(4,5)] (fun r h' n' hrr => ?_)
     obtain ⟨x,g,e1,e2,e3,hl⟩ := hrr
     subst e1 e2 e3
     have hg : g = 0 := by
      cases hl with
      | none hn => exact absurd hK.obj6 hn
      | arg k3 l3 hK3 hi3 => exact absurd ⟨hpb.1,by have := (hK3.det9 hK).2; omega⟩ hi3
      | ok _ _ _ _ _ _ => rfl
     subst hg
     conv => cbv
     refine Room.new rfl ?_
     conv => cbv
     refine Room.new ⟨?_,?_,?_⟩ ?_
     ·show (cl.length : Int) = j * 1; omega
     ·show (j + 1) * 8 ≤ 140737488355328; omega
     ·show j + 1 ≤ 9223372036854775807; omega
     conv => cbv
     refine Upd.mk fun cl2 hcl2 => ?_
     have hcl2 : cl2 = ipv (l ++ [x]) := by rw [show cl2 = cl ++ [.int .i64 (.sym x)] from hcl2,hcl]; exact ipv_app l [x]
     conv => cbv
     refine Sum.mk fun j2 hj2 => ?_
     have hj2 : j2 = j + 1 := hj2
     conv => cbv
     refine Fit.mk (by show (-9223372036854775808 : Int) ≤ i + 1; omega) (by show i + 1 ≤ 9223372036854775807; omega) fun i2 hi2' => ?_
     have hi2' : i2 = i + 1 := hi2'
     conv => cbv
     refine Again.mk (y0 - i2).toNat _ (by omega) (Re.at [(0,0),(1,1),(2,2),(3,3),(4,4),(5,5),(6,6),(7,7),(8,8),(11,9)] []) ⟨i2,j2,l ++ [x],cl2,rfl,hcl2,by rw [List.length_append]; show j2 = ((l.length + 1 : Nat) : Int); omega,by omega,by omega,by omega,by omega,rfl,fun k z hz => ?_⟩
     by_cases hk : k < l.length
     ·rw [List.getElem?_append_left hk] at hz; exact hld k z hz
     ·have hk2 : k = l.length := by have := (List.getElem?_eq_some_iff.1 hz).1; rw [List.length_append] at this; simp at this; omega
      rw [hk2,List.getElem?_append_right (Nat.le_refl _),Nat.sub_self] at hz
      obtain rfl : x = z := Option.some.inj hz
      have e9 : ((l.length : Nat) : Int) = i := by omega
      rw [hk2]
      show Loaded R vs y4 ((max y3 0 % y0 + ((l.length : Nat) : Int)) % y0) x 0
      rw [e9,← hp]
      exact hl
    ·have g3 : ¬ 0 < y3 := g3
     have hm3 : max y3 0 = 0 := by omega
     conv => cbv
     refine Need.mk (show ¬ y0 = 0 by omega) ?_
     conv => cbv
     refine Sum.mk fun i0 h0i => ?_
     have h0i : i0 = (max y3 0) % y0 := by rw [hm3]; exact (show i0 = Int.tmod (0) y0 from h0i).trans (Int.tmod_eq_emod_of_nonneg (by omega))
     have hin0 : 0 ≤ i0 ∧ i0 < y0 := by rw [h0i]; exact ⟨Int.emod_nonneg _ (by omega),Int.emod_lt_of_pos _ h0⟩
     conv => cbv
     refine Fit.mk (by show (-9223372036854775808 : Int) ≤ i0 + i; omega) (by show i0 + i ≤ 9223372036854775807; omega) fun i1 h1i => ?_
     have h1i : i1 = i0 + i := h1i
     conv => cbv
     refine Need.mk (show ¬ y0 = 0 by omega) ?_
     conv => cbv
     refine Sum.mk fun p hp => ?_
     have hp : p = (max y3 0 % y0 + i) % y0 := by rw [← h0i,← h1i]; exact (show p = Int.tmod i1 y0 from hp).trans (Int.tmod_eq_emod_of_nonneg (by omega))
     have hpb : 0 ≤ p ∧ p < y0 := by rw [hp]; exact ⟨Int.emod_nonneg _ (by omega),Int.emod_lt_of_pos _ h0⟩
     conv => cbv
     refine cfr (rload_lx p R vs N y4 W P B V h.p h.b h.v h.n h.r h.a h.w) [(0,1),(1,2),(2,3),(3,4),(4,5)] (fun r h' n' hrr => ?_)
     obtain ⟨x,g,e1,e2,e3,hl⟩ := hrr
     subst e1 e2 e3
     have hg : g = 0 := by
      cases hl with
      | none hn => exact absurd hK.obj6 hn
      | arg k3 l3 hK3 hi3 => exact absurd ⟨hpb.1,by have := (hK3.det9 hK).2; omega⟩ hi3
      | ok _ _ _ _ _ _ => rfl
     subst hg
     conv => cbv
     refine Room.new rfl ?_
     conv => cbv
     refine Room.new ⟨?_,?_,?_⟩ ?_
     ·show (cl.length : Int) = j * 1; omega
     ·show (j + 1) * 8 ≤ 140737488355328; omega
     ·show j + 1 ≤ 9223372036854775807; omega
     conv => cbv
     refine Upd.mk fun cl2 hcl2 => ?_
     have hcl2 : cl2 = ipv (l ++ [x]) := by rw [show cl2 = cl ++ [.int .i64 (.sym x)] from hcl2,hcl]; exact ipv_app l [x]
     conv => cbv
     refine Sum.mk fun j2 hj2 => ?_
     have hj2 : j2 = j + 1 := hj2
     conv => cbv
     refine Fit.mk (by show (-9223372036854775808 : Int) ≤ i + 1; omega) (by show i + 1 ≤ 9223372036854775807; omega) fun i2 hi2' => ?_
     have hi2' : i2 = i + 1 := hi2'
     conv => cbv
     refine Again.mk (y0 - i2).toNat _ (by omega) (Re.at [(0,0),(1,1),(2,2),(3,3),(4,4),(5,5),(6,6),(7,7),(8,8),(11,9)] []) ⟨i2,j2,l ++ [x],cl2,rfl,hcl2,by rw [List.length_append]; show j2 = ((l.length + 1 : Nat) : Int); omega,by omega,by omega,by omega,by omega,rfl,fun k z hz => ?_⟩
     by_cases hk : k < l.length
     ·rw [List.getElem?_append_left hk] at hz; exact hld k z hz
     ·have hk2 : k = l.length := by have := (List.getElem?_eq_some_iff.1 hz).1; rw [List.length_append] at this; simp at this; omega
      rw [hk2,List.getElem?_append_right (Nat.le_refl _),Nat.sub_self] at hz
      obtain rfl : x = z := Option.some.inj hz
      have e9 : ((l.length : Nat) : Int) = i := by omega
      rw [hk2]
      show Loaded R vs y4 ((max y3 0 % y0 + ((l.length : Nat) : Int)) % y0) x 0
      rw [e9,← hp]
      exact hl
theorem nine_eq {y0 y1 y2 y3 y4 y5 y6 y7 y8 z0 z1 z2 z3 z4 z5 z6 z7 z8 : Int} (h : [y0,y1,y2,y3,y4,y5,y6,y7,y8] = [z0,z1,z2,z3,z4,z5,z6,z7,z8]) : y0 = z0 ∧ y1 = z1 ∧ y2 = z2 ∧ y3 = z3 ∧ y4 = z4 ∧ y5 = z5 ∧ y6 = z6 ∧ y7 = z7 ∧ y8 = z8 := by
 simpa using h
theorem RTake.sim {R : List Rw} {ph a x e x2 f : Int} {ws vs ws' vs' : List Int} {c c' d' : List Int × List Int × Bool} (hS : Sim R ws vs) (h1 : RTake R ph a (ws,c) x e (ws',c')) (h2 : RTake R ph a (vs,c) x2 f (vs',d')) : x = x2 ∧ e = f ∧ c' = d' ∧ Sim R ws' vs' := by
 cases h1 with
 | no h => cases h2 with
  | no h2 => exact ⟨rfl,rfl,rfl,hS⟩
  | none X z0 z1 z2 z3 z4 z5 z6 z7 z8 h2 hX hy hf => exact absurd (hS.back h2) h
  | ok X z0 z1 z2 z3 z4 z5 z6 z7 z8 h2 hX hy h0 hK hf x9 g f9 e9 ws1 c1 s' hl hst hc hP => exact absurd (hS.back h2) h
 | none X y0 y1 y2 y3 y4 y5 y6 y7 y8 h hX hy hf => cases h2 with
  | no h2 => exact absurd (hS.hdr _ _ _ h) h2
  | none _ z0 z1 z2 z3 z4 z5 z6 z7 z8 h2 hX2 hy2 hf2 => exact ⟨rfl,rfl,rfl,hS⟩
  | ok X2 z0 z1 z2 z3 z4 z5 z6 z7 z8 h2 hX2 hy2 h02 hK2 hf2 x9 g f9 e9 ws1 c1 s' hl hst hc hP =>
   obtain rfl := hS.wrds hX hX2
   obtain ⟨rfl,rfl,rfl,rfl,rfl,rfl,rfl,rfl,rfl⟩ := nine_eq (hy.trans hy2.symm)
   exact absurd ⟨⟨h02,hS.back hK2⟩,hf2⟩ hf
 | ok X y0 y1 y2 y3 y4 y5 y6 y7 y8 h hX hy h0 hK hf x9 g f9 e9 ws1 c1 s' hl hst hc hP => cases h2 with
  | no h2 => exact absurd (hS.hdr _ _ _ h) h2
  | none X2 z0 z1 z2 z3 z4 z5 z6 z7 z8 h2 hX2 hy2 hf2 =>
   obtain rfl := hS.wrds hX hX2
   obtain ⟨rfl,rfl,rfl,rfl,rfl,rfl,rfl,rfl,rfl⟩ := nine_eq (hy.trans hy2.symm)
   exact absurd ⟨⟨h0,hS.hdr _ _ _ hK⟩,hf⟩ hf2
  | ok X2 z0 z1 z2 z3 z4 z5 z6 z7 z8 h2 hX2 hy2 h02 hK2 hf2 xx gg ff ee vs1 d1 s2 hl2 hst2 hc2 hP2 =>
   obtain rfl := hS.wrds hX hX2
   obtain ⟨rfl,rfl,rfl,rfl,rfl,rfl,rfl,rfl,rfl⟩ := nine_eq (hy.trans hy2.symm)
   have hyb := chanFs_b62 hy.symm (hX.bd hS.a)
   have hbd := hK.bounds hS.a
   obtain ⟨rfl,_⟩ := hS.load hl hl2
   obtain ⟨rfl,hS1⟩ := hS.store (by omega) hst hst2
   have hcc : c1 = d1 := hc.trans hc2.symm
   subst hcc
   have hyb1 : ∀ x ∈ [y0,y1,y2 - 1,(max y3 0 % y0 + 1) % y0,y4,y5,y6,y7,y8],b62 x := by
    simp only [List.forall_mem_cons] at hyb ⊢
    obtain ⟨q0,q1,q2,q3,q4,q5,q6,q7,q8,_⟩ := hyb
    refine ⟨q0,q1,by unfold b62 at *; omega,?_,q4,q5,q6,q7,q8,fun x hx => by cases hx⟩
    have r1 := Int.emod_nonneg (max y3 0 % y0 + 1) (show y0 ≠ 0 by omega)
    have r2 := Int.emod_lt_of_pos (max y3 0 % y0 + 1) h0
    unfold b62; omega
   obtain ⟨k1,k2,k3⟩ := PT.sim hS1 rfl (chanWs_bd _ _ _ _ _ _ _ _ _ hyb1) hP hP2
   exact ⟨rfl,k1,k2,k3⟩
theorem RPut.sim {R : List Rw} {ph a w e f : Int} {ws vs ws' vs' : List Int} {c c' d' : List Int × List Int × Bool} (hS : Sim R ws vs) (hw : -9223372036854775808 ≤ w ∧ w ≤ 9223372036854775807) (hn : ∀ X y0 y1 y2 y3 y4 y5 y6 y7 y8,Kept R ws a 1 9 → Wrds R ws a X → [y0,y1,y2,y3,y4,y5,y6,y7,y8] = chanFs X → 0 ≤ y3) (h1 : RPut R ph a w (ws,c) e (ws',c')) (h2 : RPutR R ph a w (vs,c) f (vs',d')) : e = f ∧ c' = d' ∧ Sim R ws' vs' := by
 cases h1 with
 | no h => cases h2 with
  | no h2 => exact ⟨rfl,rfl,hS⟩
  | full X z0 z1 z2 z3 z4 z5 z6 z7 z8 h2 hX hy hf => exact absurd (hS.back h2) h
  | ok X z0 z1 z2 z3 z4 z5 z6 z7 z8 h2 hX hy h0 hK hf f9 e9 ws1 c1 s' hst hc hP => exact absurd (hS.back h2) h
 | full X y0 y1 y2 y3 y4 y5 y6 y7 y8 h hX hy hf => cases h2 with
  | no h2 => exact absurd (hS.hdr _ _ _ h) h2
  | full _ z0 z1 z2 z3 z4 z5 z6 z7 z8 h2 hX2 hy2 hf2 => exact ⟨rfl,rfl,hS⟩
  | ok X2 z0 z1 z2 z3 z4 z5 z6 z7 z8 h2 hX2 hy2 h02 hK2 hf2 f9 e9 ws1 c1 s' hst hc hP =>
   obtain rfl := hS.wrds hX hX2
   obtain ⟨rfl,rfl,rfl,rfl,rfl,rfl,rfl,rfl,rfl⟩ := nine_eq (hy.trans hy2.symm)
   exact absurd ⟨⟨h02,hS.back hK2⟩,hf2⟩ hf
 | ok X y0 y1 y2 y3 y4 y5 y6 y7 y8 h hX hy h0 hK hf f9 e9 ws1 c1 s' hst hc hP => cases h2 with
  | no h2 => exact absurd (hS.hdr _ _ _ h) h2
  | full X2 z0 z1 z2 z3 z4 z5 z6 z7 z8 h2 hX2 hy2 hf2 =>
   obtain rfl := hS.wrds hX hX2
   obtain ⟨rfl,rfl,rfl,rfl,rfl,rfl,rfl,rfl,rfl⟩ := nine_eq (hy.trans hy2.symm)
   exact absurd ⟨⟨h0,hS.hdr _ _ _ hK⟩,hf⟩ hf2
  | ok X2 z0 z1 z2 z3 z4 z5 z6 z7 z8 h2 hX2 hy2 h02 hK2 hf2 ff ee vs1 d1 s2 hst2 hc2 hP2 =>
   obtain rfl := hS.wrds hX hX2
   obtain ⟨rfl,rfl,rfl,rfl,rfl,rfl,rfl,rfl,rfl⟩ := nine_eq (hy.trans hy2.symm)
   have hyb := chanFs_b62 hy.symm (hX.bd hS.a)
   have hbd := hK.bounds hS.a
   have hn3 := hn _ _ _ _ _ _ _ _ _ _ h hX hy
   obtain ⟨rfl,hS1⟩ := hS.store hw hst hst2
   have hcc : c1 = d1 := hc.trans hc2.symm
   subst hcc
   have hyb1 : ∀ x ∈ [y0,y1,max y2 0 + 1,y3,y4,y5,y6,y7,y8],b62 x := by
    simp only [List.forall_mem_cons] at hyb ⊢
    obtain ⟨q0,q1,q2,q3,q4,q5,q6,q7,q8,_⟩ := hyb
    exact ⟨q0,q1,by unfold b62 at *; omega,q3,q4,q5,q6,q7,q8,fun x hx => by cases hx⟩
   rw [show max y3 0 = y3 by omega] at hP2
   exact PT.sim hS1 rfl (chanWs_bd _ _ _ _ _ _ _ _ _ hyb1) hP hP2
theorem RAll.sim {R : List Rw} {a : Int} {ws vs l m : List Int} (hS : Sim R ws vs) (h1 : RAll R ws a l) (h2 : RAll R vs a m) : l = m := by
 cases h1 with
 | no h => cases h2 with
  | no _ => rfl
  | none _ z0 z1 z2 z3 z4 z5 z6 z7 z8 h2 _ _ _ => rfl
  | ok _ z0 z1 z2 z3 z4 z5 z6 z7 z8 h2 _ _ _ _ _ _ _ => exact absurd (hS.back h2) h
 | none X y0 y1 y2 y3 y4 y5 y6 y7 y8 h hX hy hf => cases h2 with
  | no _ => rfl
  | none _ z0 z1 z2 z3 z4 z5 z6 z7 z8 h2 _ _ _ => rfl
  | ok X2 z0 z1 z2 z3 z4 z5 z6 z7 z8 h2 hX2 hy2 h02 hK2 _ hl2 hw2 =>
   obtain rfl := hS.wrds hX hX2
   obtain ⟨rfl,rfl,rfl,rfl,rfl,rfl,rfl,rfl,rfl⟩ := nine_eq (hy.trans hy2.symm)
   exact absurd ⟨h02,hS.back hK2⟩ hf
 | ok X y0 y1 y2 y3 y4 y5 y6 y7 y8 h hX hy h0 hK _ hl hw => cases h2 with
  | no h2 => exact absurd (hS.hdr _ _ _ h) h2
  | none X2 z0 z1 z2 z3 z4 z5 z6 z7 z8 h2 hX2 hy2 hf2 =>
   obtain rfl := hS.wrds hX hX2
   obtain ⟨rfl,rfl,rfl,rfl,rfl,rfl,rfl,rfl,rfl⟩ := nine_eq (hy.trans hy2.symm)
   exact absurd ⟨h0,hS.hdr _ _ _ hK⟩ hf2
  | ok X2 z0 z1 z2 z3 z4 z5 z6 z7 z8 h2 hX2 hy2 h02 hK2 _ hl2 hw2 =>
   obtain rfl := hS.wrds hX hX2
   obtain ⟨rfl,rfl,rfl,rfl,rfl,rfl,rfl,rfl,rfl⟩ := nine_eq (hy.trans hy2.symm)
   have hlen : l.length = m.length := by omega
   refine List.ext_getElem? fun i => ?_
   by_cases hi : i < l.length
   ·have e1 := List.getElem?_eq_getElem hi
    have e2 := List.getElem?_eq_getElem (l := m) (hlen ▸ hi)
    rw [e1,e2,(hS.load (hw i _ e1) (hw2 i _ e2)).1]
   ·rw [List.getElem?_eq_none (by omega),List.getElem?_eq_none (by omega)]
def wdsK (k : Int) (F : List Int) : List Int := if k = 1 then chanWs F else if k = 3 then sudogWs F else if k = 4 then gorWs F else F
def fdsK (k : Int) (F : List Int) : List Int := if k = 1 then chanFs F else if k = 3 then sudogFs F else if k = 4 then gorFs F else F
structure FOk (k : Int) (F : List Int) : Prop where
 back : fdsK k (wdsK k F) = F
 len : (wdsK k F).length = F.length
abbrev Hp := Int → Option (Int × List Int)
def upd (M : Hp) (a : Int) (v : Int × List Int) : Hp := fun b => if b = a then some v else M b
theorem upd_same (M : Hp) (a : Int) (v : Int × List Int) : upd M a v a = some v := if_pos rfl
theorem upd_ne {M : Hp} {a b : Int} {v : Int × List Int} (h : b ≠ a) : upd M a v b = M b := if_neg h
structure Cont (R : List Rw) (ws : List Int) (M : Hp) : Prop where
 up : ∀ a k F,M a = some (k,F) → FOk k F ∧ Hld R ws a k F.length (wdsK k F)
 dn : ∀ a k l,Kept R ws a k l → ∃ F,M a = some (k,F)
theorem Cont.kept {R : List Rw} {ws : List Int} {M : Hp} (h : Cont R ws M) {a k : Int} {F : List Int} (hM : M a = some (k,F)) : Kept R ws a k F.length := (h.up a k F hM).2.1
theorem Cont.put {kd ln : Int} {Wl F F' : List Int} {R : List Rw} {ph a e : Int} {s s' : St4} {M : Hp} (h : Cont R s.1 M) (hA : AOk R s.1) (hM : M a = some (kd,F)) (hln : (F.length : Int) = ln) (hW : Wl = wdsK kd F') (hF : FOk kd F') (hl : (F'.length : Int) = ln) (hb : ∀ x ∈ Wl,-9223372036854775808 ≤ x ∧ x ≤ 9223372036854775807) (hP : PT kd ln Wl R ph a s e s') : e = 0 ∧ Cont R s'.1 (upd M a (kd,F')) := by
 subst hW
 have hK := h.kept hM
 rw [hln] at hK
 obtain ⟨e1,h1,h2,h3⟩ := hP.hld hA hK (by rw [hF.len]; exact hl) hb
 refine ⟨e1,fun b k G hG => ?_,fun b k l hB => ?_⟩
 ·by_cases q : b = a
  ·subst q
   rw [upd_same] at hG
   cases hG
   exact ⟨hF,by rw [hl]; exact h1⟩
  ·rw [upd_ne q] at hG
   obtain ⟨g1,g2⟩ := h.up b k G hG
   exact ⟨g1,h2 b _ _ _ q g2⟩
 ·by_cases q : b = a
  ·subst q
   obtain ⟨rfl,rfl⟩ := hB.det9 h1.1
   exact ⟨F',upd_same _ _ _⟩
  ·rw [upd_ne q]
   rcases hP.two with ⟨_,_,q1⟩ | ⟨_,q1,_⟩
   ·have hF2 := putS_fact (ph := ph) (wdsK kd F') 0 s hA hK (by rw [hF.len]; omega) hb
    rw [← q1] at hF2
    by_cases hob : IsObj R b
    ·obtain ⟨k2,l2,hK2⟩ := Kept.of hA hob
     obtain ⟨rfl,rfl⟩ := hB.det9 (hF2.up _ _ _ hK2)
     exact h.dn b k l hK2
    ·exact absurd hB.obj6 hob
   ·exact absurd hK q1
theorem Cont.tr {kd ln f a : Int} {fs : List Int → List Int} {R : List Rw} {ws y F : List Int} {M : Hp} (h : Cont R ws M) (hM : M a = some (kd,F)) (hfs : fs (wdsK kd F) = fdsK kd (wdsK kd F)) (hln : (F.length : Int) = ln) (hT : TR kd ln fs R ws a f y) : f = 0 ∧ y = F := by
 obtain ⟨h1,h2⟩ := h.up a kd F hM
 rw [hln] at h2
 obtain ⟨e1,e2⟩ := hT.hld h2
 exact ⟨e1,by rw [e2,hfs,h1.back]⟩
def zerK (k : Int) (n : Nat) : List Int := if k = 1 then [0,0,0,0,-1,-1,-1,-1,-1] else if k = 3 then [-1,-1,0,-1,0,0,-1] else if k = 4 then [0,0,0,0,0,0,0,0,0,-1] else List.replicate n 0
def lenK (k : Int) (n : Nat) : Prop := (k = 1 → n = 9) ∧ (k = 3 → n = 7) ∧ (k = 4 → n = 10)
theorem zerK_wds {k : Int} {n : Nat} (h : lenK k n) : wdsK k (zerK k n) = List.replicate n 0 ∧ fdsK k (List.replicate n 0) = zerK k n ∧ (zerK k n).length = n := by
 obtain ⟨h1,h3,h4⟩ := h
 unfold wdsK fdsK zerK
 by_cases q1 : k = 1
 ·subst q1; rw [h1 rfl]; decide
 ·by_cases q3 : k = 3
  ·subst q3; rw [h3 rfl]; decide
  ·by_cases q4 : k = 4
   ·subst q4; rw [h4 rfl]; decide
   ·simp [q1,q3,q4]
theorem zerK_ok {k : Int} {n : Nat} (h : lenK k n) : FOk k (zerK k n) := by
 obtain ⟨h1,h2,h3⟩ := zerK_wds h
 exact ⟨by rw [h1,h2],by rw [h1,h3,List.length_replicate]⟩
theorem Cont.alloc {R R' : List Rw} {ws ws' : List Int} {kind n a e : Int} {M : Hp} (h : Cont R ws M) (hA : AOk R ws) (hr : objCount R < R.length) (hk : 0 ≤ n ∧ n ≤ 31 ∧ 1 ≤ kind ∧ kind ≤ 6) (hlen : lenK kind n.toNat) (hs : Alloct R ws kind n a e R' ws') : e = 0 ∧ Cont R' ws' (upd M a (kind,zerK kind n.toNat)) ∧ objCount R' = objCount R + 1 ∧ M a = none ∧ 0 ≤ a ∧ a < 32 * R.length ∧ R'.length = R.length := by
 have he : e = 0 := by have := alloct_err hA hs hr; rw [if_pos hk] at this; exact this
 obtain ⟨h1,h2,h3,h4,h5,h6,h7⟩ := alloct_ok hA hs he
 obtain ⟨hA',hlR⟩ := hA.alloct hs
 have hb := h1.bounds hA'
 obtain ⟨z1,z2,z3⟩ := zerK_wds hlen
 have hn : M a = Option.none := by
  cases q : M a with
  | none => rfl
  | some v => exact absurd (h.kept (k := v.1) (F := v.2) q).obj6 h2
 refine ⟨he,⟨fun b k G hG => ?_,fun b k l hB => ?_⟩,h3,hn,hb.1,by omega,hlR⟩
 ·by_cases q : b = a
  ·subst q
   rw [upd_same] at hG
   cases hG
   refine ⟨zerK_ok hlen,?_⟩
   rw [z1,z3]
   refine ⟨by rw [Int.toNat_of_nonneg hk.1]; exact h1,by rw [List.length_replicate],fun q x hq => ?_⟩
   obtain ⟨hq1,hq2⟩ := List.getElem?_eq_some_iff.1 hq
   rw [List.length_replicate] at hq1
   rw [List.getElem_replicate] at hq2
   rw [← hq2]
   exact h4 q (by omega) (by omega)
  ·rw [upd_ne q] at hG
   obtain ⟨g1,g2,g3,g4⟩ := h.up b k G hG
   refine ⟨g1,h5 _ _ _ g2,g3,fun j x hj => ?_⟩
   have hj1 : j < (wdsK k G).length := (List.getElem?_eq_some_iff.1 hj).1
   rw [h7 b k _ j g2 (by omega) (by omega)]
   exact g4 j x hj
 ·by_cases q : b = a
  ·subst q
   obtain ⟨rfl,_⟩ := hB.det9 h1
   exact ⟨_,upd_same _ _ _⟩
  ·rw [upd_ne q]
   rcases h6 b hB.obj6 with q1 | q1
   ·exact absurd q1 q
   ·obtain ⟨k2,l2,hK2⟩ := Kept.of hA q1
    obtain ⟨rfl,rfl⟩ := hB.det9 (h5 b k2 l2 hK2)
    exact h.dn b k l hK2
theorem Cont.new (n m : Nat) : Cont (List.replicate n ((0,[]) : Rw)) (List.replicate m 0) (fun _ => Option.none) :=
 ⟨fun a k F hF => (by cases hF),fun a k l hK => absurd hK.obj6 (new_none n a)⟩
theorem Cont.store {R : List Rw} {ws ws' : List Int} {a i x e k : Int} {F : List Int} {M : Hp} (h : Cont R ws M) (hA : AOk R ws) (hM : M a = some (k,F)) (hk : k ≠ 1 ∧ k ≠ 3 ∧ k ≠ 4) (hi : 0 ≤ i ∧ i < F.length) (hx : -9223372036854775808 ≤ x ∧ x ≤ 9223372036854775807) (hS : Stored R ws a i x e ws') : e = 0 ∧ Cont R ws' (upd M a (k,F.set i.toNat x)) := by
 have hK := h.kept hM
 have hw : ∀ G,wdsK k G = G := fun G => by unfold wdsK; rw [if_neg hk.1,if_neg hk.2.1,if_neg hk.2.2]
 have hf : ∀ G,fdsK k G = G := fun G => by unfold fdsK; rw [if_neg hk.1,if_neg hk.2.1,if_neg hk.2.2]
 have hbd := hK.bounds hA
 have hlw := hA.len
 obtain ⟨e0,hdef⟩ : e = 0 ∧ ws' = ws.set (a + 1 + i).toNat x := by
  cases hS with
  | none hn => exact absurd hK.obj6 hn
  | arg k2 l2 hK2 hi2 => obtain ⟨rfl,rfl⟩ := hK2.det9 hK; exact absurd hi hi2
  | ok k2 l2 hK2 hi2 => exact ⟨rfl,rfl⟩
 have hSt : Stored R ws a i x 0 ws' := by rw [hdef]; exact .ok k _ hK hi
 have hS2 := putS_fact (ph := 0) [x] i.toNat (ws,[],[],false) hA hK (by simp; omega) (by intro y hy; rw [List.mem_singleton.1 hy]; exact hx)
 have hpw : (putS R 0 a i.toNat [x] (ws,[],[],false)).1 = ws' := by
  rw [hdef]
  show (if ws[(a + 1 + (i.toNat : Nat)).toNat]? = some x then _ else _ : List Int × (List Int × List Int × Bool)).1 = _
  rw [show (a + 1 + ((i.toNat : Nat) : Int)) = a + 1 + i by omega]
  split
  ·rename_i q
   show ws = _
   obtain ⟨q1,q2⟩ := List.getElem?_eq_some_iff.1 q
   rw [← q2]
   exact (List.set_getElem_self q1).symm
  ·rfl
 rw [hpw] at hS2
 refine ⟨e0,fun b k' G hG => ?_,fun b k' l hB => ?_⟩
 ·by_cases q : b = a
  ·subst q
   rw [upd_same] at hG
   cases hG
   refine ⟨⟨by rw [hw,hf],by rw [hw]⟩,by rw [List.length_set]; exact hS2.up _ _ _ hK,by rw [hw],fun j y hj => ?_⟩
   rw [hw] at hj
   have hj1 := (List.getElem?_eq_some_iff.1 hj).1
   rw [List.length_set] at hj1
   obtain ⟨_,_,_,h4⟩ := h.up b k F hM
   rw [hw] at h4
   rw [hdef]
   by_cases qj : j = i.toNat
   ·subst qj
    rw [List.getElem?_set_self (by omega)] at hj
    rw [show (b + 1 + ((i.toNat : Nat) : Int)) = b + 1 + i by omega,List.getElem?_set_self (by omega)]
    exact hj
   ·rw [List.getElem?_set_ne (fun q => qj q.symm)] at hj
    rw [List.getElem?_set_ne (by omega)]
    exact h4 j y hj
  ·rw [upd_ne q] at hG
   obtain ⟨g1,g2,g3,g4⟩ := h.up b k' G hG
   refine ⟨g1,hS2.up _ _ _ g2,g3,fun j y hj => ?_⟩
   have hj1 : j < (wdsK k' G).length := (List.getElem?_eq_some_iff.1 hj).1
   exact (loaded_of (hS2.up _ _ _ g2) ⟨by omega,by omega⟩ (hS2.oth b j y q (.ok k' _ y g2 ⟨by omega,by omega⟩ (g4 j y hj)))).2
 ·have hob : IsObj R b := hB.obj6
  obtain ⟨k2,l2,hK2⟩ := Kept.of hA hob
  obtain ⟨rfl,rfl⟩ := hB.det9 (hS2.up _ _ _ hK2)
  by_cases q : b = a
  ·subst q
   obtain ⟨rfl,_⟩ := hK2.det9 hK
   exact ⟨_,upd_same _ _ _⟩
  ·rw [upd_ne q]
   exact h.dn b _ _ hK2
theorem Cont.load {R : List Rw} {ws : List Int} {a i x e k y : Int} {F : List Int} {M : Hp} (h : Cont R ws M) (hM : M a = some (k,F)) (hk : k ≠ 1 ∧ k ≠ 3 ∧ k ≠ 4) (hi : 0 ≤ i) (hy : F[i.toNat]? = some y) (hL : Loaded R ws a i x e) : x = y ∧ e = 0 := by
 have hw : wdsK k F = F := by unfold wdsK; rw [if_neg hk.1,if_neg hk.2.1,if_neg hk.2.2]
 obtain ⟨_,h1,h2,h3⟩ := h.up a k F hM
 rw [hw] at h3
 have hlt := (List.getElem?_eq_some_iff.1 hy).1
 obtain ⟨q1,q2⟩ := loaded_of h1 ⟨hi,by omega⟩ hL
 have := h3 i.toNat y hy
 rw [show ((i.toNat : Nat) : Int) = i by omega,q2] at this
 exact ⟨Option.some.inj this,q1⟩
theorem Cont.sim {R : List Rw} {ws vs : List Int} {M : Hp} (hS : Sim R ws vs) (h : Cont R ws M) : Cont R vs M := by
 refine ⟨fun a k F hF => ?_,fun a k l hK => h.dn a k l (hS.back hK)⟩
 obtain ⟨g1,g2,g3,g4⟩ := h.up a k F hF
 refine ⟨g1,hS.hdr _ _ _ g2,g3,fun q x hq => ?_⟩
 have hq1 : q < (wdsK k F).length := (List.getElem?_eq_some_iff.1 hq).1
 rw [hS.in_ a k _ q g2 (by omega) (by omega)]
 exact g4 q x hq
theorem Cont.len {R : List Rw} {ws : List Int} {M : Hp} (hA : AOk R ws) (h : Cont R ws M) {a k : Int} {F : List Int} (hM : M a = some (k,F)) : F.length < 32 ∧ 0 ≤ a ∧ a + 1 + F.length ≤ 32 * R.length := by
 have := (h.kept hM).bounds hA
 omega
theorem Cont.bd {R : List Rw} {ws : List Int} {M : Hp} (hA : AOk R ws) (h : Cont R ws M) {a k : Int} {F : List Int} (hM : M a = some (k,F)) : ∀ x ∈ wdsK k F,-9223372036854775808 ≤ x ∧ x ≤ 9223372036854775807 := fun x hx => by
 obtain ⟨_,_,_,g4⟩ := h.up a k F hM
 obtain ⟨q,hq⟩ := List.getElem?_of_mem hx
 exact hA.bd x (List.mem_of_getElem? (g4 q x hq))
theorem Cont.toSim {R : List Rw} {ws vs : List Int} {M : Hp} (ha : AOk R ws) (hb : AOk R vs) (h : Cont R ws M) (h' : Cont R vs M) : Sim R ws vs := by
 refine ⟨ha,hb,fun x k l hK => ?_,fun x k l i hK hi0 hi1 => ?_⟩
 ·obtain ⟨F,hF⟩ := h.dn x k l hK
  obtain ⟨_,q⟩ := hK.det9 (h.kept hF)
  rw [q]; exact h'.kept hF
 ·obtain ⟨F,hF⟩ := h.dn x k l hK
  obtain ⟨_,q⟩ := hK.det9 (h.kept hF)
  obtain ⟨g0,_,g1,g2⟩ := h.up x k F hF
  obtain ⟨_,_,_,g3⟩ := h'.up x k F hF
  obtain ⟨y,hy⟩ : ∃ y,(wdsK k F)[i.toNat]? = some y := ⟨_,List.getElem?_eq_getElem (by rw [g0.len]; omega)⟩
  have e1 := g2 _ _ hy
  have e2 := g3 _ _ hy
  rw [show ((i.toNat : Nat) : Int) = i by omega] at e1 e2
  rw [e1,e2]
theorem FOk.chan {x0 x1 x2 x3 x4 x5 x6 x7 x8 : Int} (h : ∀ x ∈ [x4,x5,x6,x7,x8],-1 ≤ x) : FOk 1 [x0,x1,x2,x3,x4,x5,x6,x7,x8] := ⟨chan_back x0 x1 x2 x3 x4 x5 x6 x7 x8 h,rfl⟩
theorem FOk.gor {x0 x1 x2 x3 x4 x5 x6 x7 x8 x9 : Int} (h : ∀ x ∈ [x9],-1 ≤ x) : FOk 4 [x0,x1,x2,x3,x4,x5,x6,x7,x8,x9] := ⟨gor_back x0 x1 x2 x3 x4 x5 x6 x7 x8 x9 h,rfl⟩
theorem shadeW_idle {R : List Rw} {ph w : Int} (h : ph = 0) (s : List Int × List Int × Bool) : shadeW R ph w s = s := by
 unfold shadeW shade
 split
 ·rw [if_neg (fun q => by have := q.1; omega)]
 ·rfl
theorem putS_idle {R : List Rw} {ph a : Int} (h : ph = 0) : ∀ (l : List Int) (i : Nat) (s : St4),(putS R ph a i l s).2 = s.2
 | [],_,_ => rfl
 | w :: l,i,s => by
  show (putS R ph a (i + 1) l _).2 = s.2
  rw [putS_idle h l]
  split
  ·rfl
  ·exact shadeW_idle h s.2
theorem PT.idle {kd ln : Int} {W : List Int} {R : List Rw} {ph a e : Int} {s s' : St4} (hp : ph = 0) (h : PT kd ln W R ph a s e s') : s'.2 = s.2 := by
 rcases h.two with ⟨_,_,q⟩ | ⟨_,_,q⟩
 ·rw [q,putS_idle hp]
 ·rw [q]
theorem storeS_idle {R : List Rw} {ph e w : Int} (h : ph = 0) (s : List Int × List Int × Bool) : storeS R ph e w s = s := by
 unfold storeS
 split
 ·exact shadeW_idle h s
 ·rfl
theorem HM.still {R R' : List Rw} {ws ws' C C' G G' : List Int} {N W : Int} {L L' D D' Q Q' : List PV} {z z' : ByteArray} {ov ov' : Bool} (h : HM R ws C G N W L D Q z) (h' : HM R' ws' C' G' N W L' D' Q' z') (e : (C',G',ov') = (C,G,ov)) : C' = C ∧ G' = G ∧ ov' = ov ∧ Q' = Q ∧ z' = z := by
 simp only [Prod.mk.injEq] at e
 obtain ⟨e1,e2,e3⟩ := e
 exact ⟨e1,e2,e3,by rw [h'.q,h.q,e1],by rw [h'.z,h.z,e2]⟩
theorem RM.still {R R' : List Rw} {vs vs' C C' G G' : List Int} {N W : Int} {P B V Q la P' B' V' Q' la' : List PV} {m m' : Int} {ov ov' : Bool} (h : RM R vs C G N W P B V Q la m) (h' : RM R' vs' C' G' N W P' B' V' Q' la' m') (e : (C',G',ov') = (C,G,ov)) : C' = C ∧ G' = G ∧ ov' = ov ∧ Q' = Q ∧ la' = la ∧ m' = m := by
 simp only [Prod.mk.injEq] at e
 obtain ⟨e1,e2,e3⟩ := e
 exact ⟨e1,e2,e3,by rw [h'.q,h.q,e1],by rw [h'.l,h.l,e2],by rw [h'.m,h.m,e2]⟩
theorem place_ge {a : Int} (h : atW (plW a) = a) : -1 ≤ a := by
 unfold atW plW at h
 split at h <;> split at h <;> omega
theorem place_b62 {a : Int} (h : -9223372036854775808 ≤ plW a ∧ plW a ≤ 9223372036854775807) (h1 : -1 ≤ a) : b62 a := by
 unfold plW at h
 unfold b62
 split at h <;> omega
theorem Cont.chan {R : List Rw} {ws : List Int} {M : Hp} (hA : AOk R ws) (h : Cont R ws M) {a y0 y1 y2 y3 y4 y5 y6 y7 y8 : Int} (hM : M a = some (1,[y0,y1,y2,y3,y4,y5,y6,y7,y8])) : (∀ x ∈ [y4,y5,y6,y7,y8],-1 ≤ x) ∧ (∀ x ∈ [y0,y1,y2,y3,y4,y5,y6,y7,y8],b62 x) := by
 obtain ⟨hF,_⟩ := h.up a _ _ hM
 have hb : ∀ x ∈ chanWs [y0,y1,y2,y3,y4,y5,y6,y7,y8],-9223372036854775808 ≤ x ∧ x ≤ 9223372036854775807 := h.bd hA hM
 have e : chanFs (chanWs [y0,y1,y2,y3,y4,y5,y6,y7,y8]) = [y0,y1,y2,y3,y4,y5,y6,y7,y8] := hF.back
 simp only [chanWs,chanFs,List.cons.injEq,and_true] at e hb
 simp only [List.forall_mem_cons] at hb
 obtain ⟨e0,e1,e2,e3,e4,e5,e6,e7,e8⟩ := e
 obtain ⟨b0,b1,b2,b3,b4,b5,b6,b7,b8,_⟩ := hb
 have p4 := place_ge e4
 have p5 := place_ge e5
 have p6 := place_ge e6
 have p7 := place_ge e7
 have p8 := place_ge e8
 have c0 : b62 y0 := by unfold b62; omega
 have c1 : b62 y1 := by unfold b62; omega
 have c2 : b62 y2 := by unfold b62; omega
 have c3 : b62 y3 := by unfold b62; omega
 have c4 : b62 y4 := place_b62 b4 p4
 have c5 : b62 y5 := place_b62 b5 p5
 have c6 : b62 y6 := place_b62 b6 p6
 have c7 : b62 y7 := place_b62 b7 p7
 have c8 : b62 y8 := place_b62 b8 p8
 simp only [List.forall_mem_cons]
 exact ⟨⟨p4,p5,p6,p7,p8,fun x hx => by cases hx⟩,⟨c0,c1,c2,c3,c4,c5,c6,c7,c8,fun x hx => by cases hx⟩⟩
theorem putChanM_lx (R : List Rw) (ws C G : List Int) (N W ph sp cy : Int) (L D Q : List PV) (z : ByteArray) (ov : Bool) (h : HM R ws C G N W L D Q z) (M : Hp) (hM : Cont R ws M) (o : Unit → Obj) (ho : IsPow o) (hph : ph = 0) (a x0 x1 x2 x3 x4 x5 x6 x7 x8 : Int) (F : List Int) (hMa : M a = some (1,F)) (hF : F.length = 9) (hb : ∀ x ∈ [x0,x1,x2,x3,x4,x5,x6,x7,x8],b62 x) (hp : ∀ x ∈ [x4,x5,x6,x7,x8],-1 ≤ x) : CallF (fun _ => Tryz.prog) 71 [.ptr 0 (.lit 0),i6 a,.agg [i6 x0,i6 x1,i6 x2,i6 x3,i6 x4,i6 x5,i6 x6,i6 x7,i6 x8]] [hpA 0 1 5 6 3 W ph sp cy,hpB 1 2 4 3 W,hpC 2 3 179 2 N,hpP 3 L,hpP 4 D,hpF 5 z ov,hpP 6 Q,(7,.fix 0 o)] 8 (fun r h n => ∃ (e : Int) (ws' : List Int) (D' : List PV),r = .p (.int .i64 (.sym e)) ∧ e = 0 ∧ h = [hpA 0 1 5 6 3 W ph sp cy,hpB 1 2 4 3 W,hpC 2 3 179 2 N,hpP 3 L,hpP 4 D',hpF 5 z ov,hpP 6 Q,(7,.fix 0 o)] ∧ n = 8 ∧ HM R ws' C G N W L D' Q z ∧ Cont R ws' (upd M a (1,[x0,x1,x2,x3,x4,x5,x6,x7,x8]))) :=
 (putChan_lx R ws C G N W ph sp cy L D Q z ov h o ho a x0 x1 x2 x3 x4 x5 x6 x7 x8 hb).mono fun r h' n hrr => by
  obtain ⟨e,ws',C',G',ov',D',Q',z',e1,e2,e3,h1,hP⟩ := hrr
  obtain ⟨he,hM'⟩ := hM.put (F' := [x0,x1,x2,x3,x4,x5,x6,x7,x8]) h.a hMa (by rw [hF]; rfl) rfl (FOk.chan hp) rfl (chanWs_bd x0 x1 x2 x3 x4 x5 x6 x7 x8 hb) hP
  obtain ⟨q1,q2,q3,q4,q5⟩ := h.still h1 (hP.idle hph)
  rw [q3,q4,q5] at e2
  rw [q1,q2,q4,q5] at h1
  exact ⟨e,ws',D',e1,he,e2,e3,h1,hM'⟩
theorem rPutChanM_lx (R : List Rw) (vs C G : List Int) (N W ph sp cy : Int) (P B V Q la : List PV) (m : Int) (ov : Bool) (h : RM R vs C G N W P B V Q la m) (M : Hp) (hM : Cont R vs M) (hph : ph = 0) (a x0 x1 x2 x3 x4 x5 x6 x7 x8 : Int) (F : List Int) (hMa : M a = some (1,F)) (hF : F.length = 9) (hb : ∀ x ∈ [x0,x1,x2,x3,x4,x5,x6,x7,x8],b62 x) (hp : ∀ x ∈ [x4,x5,x6,x7,x8],-1 ≤ x) : CallF (fun _ => Tryz.prog) 72 [.ptr 0 (.lit 0),i6 a,.agg [i6 x0,i6 x1,i6 x2,i6 x3,i6 x4,i6 x5,i6 x6,i6 x7,i6 x8]] [hpR 0 1 6 3 W 7 ph sp cy,hpB 1 2 5 3 W,hpD 2 3 3 1 N 4 254 8 N,hpP 3 P,hpP 4 B,hpP 5 V,hpP 6 Q,(7,.mix [.p (.vsl (.sym m) true la),.p (.bool ov)])] 8 (fun r h n => ∃ (e : Int) (vs' : List Int) (V' : List PV),r = .p (.int .i64 (.sym e)) ∧ e = 0 ∧ h = [hpR 0 1 6 3 W 7 ph sp cy,hpB 1 2 5 3 W,hpD 2 3 3 1 N 4 254 8 N,hpP 3 P,hpP 4 B,hpP 5 V',hpP 6 Q,(7,.mix [.p (.vsl (.sym m) true la),.p (.bool ov)])] ∧ n = 8 ∧ RM R vs' C G N W P B V' Q la m ∧ Cont R vs' (upd M a (1,[x0,x1,x2,x3,x4,x5,x6,x7,x8]))) :=
 (rPutChan_lx R vs C G N W ph sp cy P B V Q la m ov h a x0 x1 x2 x3 x4 x5 x6 x7 x8 hb).mono fun r h' n hrr => by
  obtain ⟨e,vs',C',G',ov',V',Q',la',m',e1,e2,e3,h1,hP⟩ := hrr
  obtain ⟨he,hM'⟩ := hM.put (F' := [x0,x1,x2,x3,x4,x5,x6,x7,x8]) h.a hMa (by rw [hF]; rfl) rfl (FOk.chan hp) rfl (chanWs_bd x0 x1 x2 x3 x4 x5 x6 x7 x8 hb) hP
  obtain ⟨q1,q2,q3,q4,q5,q6⟩ := h.still h1 (hP.idle hph)
  rw [q3,q4,q5,q6] at e2
  rw [q1,q2,q4,q5,q6] at h1
  exact ⟨e,vs',V',e1,he,e2,e3,h1,hM'⟩
theorem putGorM_lx (R : List Rw) (ws C G : List Int) (N W ph sp cy : Int) (L D Q : List PV) (z : ByteArray) (ov : Bool) (h : HM R ws C G N W L D Q z) (M : Hp) (hM : Cont R ws M) (o : Unit → Obj) (ho : IsPow o) (hph : ph = 0) (a x0 x1 x2 x3 x4 x5 x6 x7 x8 x9 : Int) (F : List Int) (hMa : M a = some (4,F)) (hF : F.length = 10) (hb : ∀ x ∈ [x0,x1,x2,x9],b62 x) (hw : ∀ x ∈ [x3,x4,x5,x6,x7,x8],-9223372036854775808 ≤ x ∧ x ≤ 9223372036854775807) (hp : ∀ x ∈ [x9],-1 ≤ x) : CallF (fun _ => Tryz.prog) 73 [.ptr 0 (.lit 0),i6 a,.agg [i6 x0,i6 x1,i6 x2,i6 x3,i6 x4,i6 x5,i6 x6,i6 x7,i6 x8,i6 x9]] [hpA 0 1 5 6 3 W ph sp cy,hpB 1 2 4 3 W,hpC 2 3 179 2 N,hpP 3 L,hpP 4 D,hpF 5 z ov,hpP 6 Q,(7,.fix 0 o)] 8 (fun r h n => ∃ (e : Int) (ws' : List Int) (D' : List PV),r = .p (.int .i64 (.sym e)) ∧ e = 0 ∧ h = [hpA 0 1 5 6 3 W ph sp cy,hpB 1 2 4 3 W,hpC 2 3 179 2 N,hpP 3 L,hpP 4 D',hpF 5 z ov,hpP 6 Q,(7,.fix 0 o)] ∧ n = 8 ∧ HM R ws' C G N W L D' Q z ∧ Cont R ws' (upd M a (4,[x0,x1,x2,x3,x4,x5,x6,x7,x8,x9]))) :=
 (putGor_lx R ws C G N W ph sp cy L D Q z ov h o ho a x0 x1 x2 x3 x4 x5 x6 x7 x8 x9 hb hw).mono fun r h' n hrr => by
  obtain ⟨e,ws',C',G',ov',D',Q',z',e1,e2,e3,h1,hP⟩ := hrr
  obtain ⟨he,hM'⟩ := hM.put (F' := [x0,x1,x2,x3,x4,x5,x6,x7,x8,x9]) h.a hMa (by rw [hF]; rfl) rfl (FOk.gor hp) rfl (gorWs_bd x0 x1 x2 x3 x4 x5 x6 x7 x8 x9 hb hw) hP
  obtain ⟨q1,q2,q3,q4,q5⟩ := h.still h1 (hP.idle hph)
  rw [q3,q4,q5] at e2
  rw [q1,q2,q4,q5] at h1
  exact ⟨e,ws',D',e1,he,e2,e3,h1,hM'⟩
theorem rPutGorM_lx (R : List Rw) (vs C G : List Int) (N W ph sp cy : Int) (P B V Q la : List PV) (m : Int) (ov : Bool) (h : RM R vs C G N W P B V Q la m) (M : Hp) (hM : Cont R vs M) (hph : ph = 0) (a x0 x1 x2 x3 x4 x5 x6 x7 x8 x9 : Int) (F : List Int) (hMa : M a = some (4,F)) (hF : F.length = 10) (hb : ∀ x ∈ [x0,x1,x2,x9],b62 x) (hw : ∀ x ∈ [x3,x4,x5,x6,x7,x8],-9223372036854775808 ≤ x ∧ x ≤ 9223372036854775807) (hp : ∀ x ∈ [x9],-1 ≤ x) : CallF (fun _ => Tryz.prog) 74 [.ptr 0 (.lit 0),i6 a,.agg [i6 x0,i6 x1,i6 x2,i6 x3,i6 x4,i6 x5,i6 x6,i6 x7,i6 x8,i6 x9]] [hpR 0 1 6 3 W 7 ph sp cy,hpB 1 2 5 3 W,hpD 2 3 3 1 N 4 254 8 N,hpP 3 P,hpP 4 B,hpP 5 V,hpP 6 Q,(7,.mix [.p (.vsl (.sym m) true la),.p (.bool ov)])] 8 (fun r h n => ∃ (e : Int) (vs' : List Int) (V' : List PV),r = .p (.int .i64 (.sym e)) ∧ e = 0 ∧ h = [hpR 0 1 6 3 W 7 ph sp cy,hpB 1 2 5 3 W,hpD 2 3 3 1 N 4 254 8 N,hpP 3 P,hpP 4 B,hpP 5 V',hpP 6 Q,(7,.mix [.p (.vsl (.sym m) true la),.p (.bool ov)])] ∧ n = 8 ∧ RM R vs' C G N W P B V' Q la m ∧ Cont R vs' (upd M a (4,[x0,x1,x2,x3,x4,x5,x6,x7,x8,x9]))) :=
 (rPutGor_lx R vs C G N W ph sp cy P B V Q la m ov h a x0 x1 x2 x3 x4 x5 x6 x7 x8 x9 hb hw).mono fun r h' n hrr => by
  obtain ⟨e,vs',C',G',ov',V',Q',la',m',e1,e2,e3,h1,hP⟩ := hrr
  obtain ⟨he,hM'⟩ := hM.put (F' := [x0,x1,x2,x3,x4,x5,x6,x7,x8,x9]) h.a hMa (by rw [hF]; rfl) rfl (FOk.gor hp) rfl (gorWs_bd x0 x1 x2 x3 x4 x5 x6 x7 x8 x9 hb hw) hP
  obtain ⟨q1,q2,q3,q4,q5,q6⟩ := h.still h1 (hP.idle hph)
  rw [q3,q4,q5,q6] at e2
  rw [q1,q2,q4,q5,q6] at h1
  exact ⟨e,vs',V',e1,he,e2,e3,h1,hM'⟩
def hdQ (l : List Int) : Int := l.head?.getD (-1)
def ltQ (l : List Int) : Int := l.getLast?.getD (-1)
def sucL : List Int → Int → Int
 | x :: y :: l,a => if a = x then y else sucL (y :: l) a
 | _,_ => -1
abbrev Qs := Int → Bool → List Int
def nxtQ (q : Qs) (c a : Int) : Int := if a ∈ q c false then sucL (q c false) a else sucL (q c true) a
def lnk (q : Qs) (a : Int) (v : Int × List Int) : Int × List Int :=
 if v.1 = 1 then (match v.2 with
  | [a0,a1,a2,a3,a4,_,_,_,_] => (1,[a0,a1,a2,a3,a4,hdQ (q a false),ltQ (q a false),hdQ (q a true),ltQ (q a true)])
  | F => (1,F))
 else if v.1 = 3 then (match v.2 with
  | [g,c,w,_,p,r,m] => (3,[g,c,w,nxtQ q c a,p,r,m])
  | F => (3,F))
 else v
theorem lnk_chan (q : Qs) (a a0 a1 a2 a3 a4 a5 a6 a7 a8 : Int) : lnk q a (1,[a0,a1,a2,a3,a4,a5,a6,a7,a8]) = (1,[a0,a1,a2,a3,a4,hdQ (q a false),ltQ (q a false),hdQ (q a true),ltQ (q a true)]) := rfl
theorem lnk_sudog (q : Qs) (a g c w n p r m : Int) : lnk q a (3,[g,c,w,n,p,r,m]) = (3,[g,c,w,nxtQ q c a,p,r,m]) := rfl
theorem lnk_other (q : Qs) (a : Int) (v : Int × List Int) (h : v.1 ≠ 1 ∧ v.1 ≠ 3) : lnk q a v = v := by unfold lnk; rw [if_neg h.1,if_neg h.2]
def relink (M : Hp) (q : Qs) : Hp := fun a => (M a).map (lnk q a)
theorem relink_upd (M : Hp) (q : Qs) (a : Int) (v : Int × List Int) : relink (upd M a v) q = upd (relink M q) a (lnk q a v) := by
 funext b
 unfold relink upd
 by_cases h : b = a
 ·rw [if_pos h,if_pos h,h]; rfl
 ·rw [if_neg h,if_neg h]
structure Sys (M : Hp) (q : Qs) : Prop where
 ch : ∀ c d s,s ∈ q c d → ∃ F,M c = some (1,F)
 sg : ∀ c d s,s ∈ q c d → ∃ g w n p r m,M s = some (3,[g,c,w,n,p,r,m])
 nd : ∀ c d,(q c d).Nodup
 dj : ∀ c s,s ∈ q c false → s ∉ q c true
 ln : relink M q = M
 sc : ∀ a F,M a = some (1,F) → F.length = 9
 ss : ∀ a F,M a = some (3,F) → F.length = 7
theorem Sys.new {M : Hp} (h1 : ∀ a F,M a = some (1,F) → ∃ a0 a1 a2 a3 a4,F = [a0,a1,a2,a3,a4,-1,-1,-1,-1]) (h3 : ∀ a F,M a = some (3,F) → ∃ g c w p r m,F = [g,c,w,-1,p,r,m]) : Sys M (fun _ _ => []) := by
 refine ⟨fun c d s hs => (by cases hs),fun c d s hs => (by cases hs),fun c d => List.nodup_nil,fun c s hs => (by cases hs),?_,fun a F e => (by obtain ⟨a0,a1,a2,a3,a4,q⟩ := h1 a F e; rw [q]; rfl),fun a F e => (by obtain ⟨g,c,w,p,r,m,q⟩ := h3 a F e; rw [q]; rfl)⟩
 funext a
 unfold relink
 cases hv : M a with
 | none => rfl
 | some v =>
  obtain ⟨k,F⟩ := v
  show some _ = some _
  congr 1
  by_cases e1 : k = 1
  ·subst e1
   obtain ⟨a0,a1,a2,a3,a4,rfl⟩ := h1 a F hv
   rfl
  ·by_cases e3 : k = 3
   ·subst e3
    obtain ⟨g,c,w,p,r,m,rfl⟩ := h3 a F hv
    rfl
   ·exact lnk_other _ _ _ ⟨e1,e3⟩
theorem sucL_not : ∀ {l : List Int} {x : Int},x ∉ l → sucL l x = -1
 | [],_,_ => rfl
 | [a],_,_ => rfl
 | a :: b :: l,x,h => by
  show (if x = a then b else sucL (b :: l) x) = _
  rw [if_neg (fun e : x = a => h (by rw [e]; exact List.mem_cons_self)),sucL_not (fun q => h (List.mem_cons_of_mem _ q))]
theorem nxtQ_not {q : Qs} {c s : Int} (h : ∀ d,s ∉ q c d) : nxtQ q c s = -1 := by
 unfold nxtQ
 rw [if_neg (h false),sucL_not (h true)]
theorem Sys.updv {M : Hp} {q : Qs} {a : Int} {v : Int × List Int} (h : Sys M q) (hv : Go.Proofs.YtjfdfbpgckilpaaGreatDoor.lnk q a v = v) (hk : ∀ F,M a = some (1,F) → v.1 = 1) (hs : ∀ c d,a ∈ q c d → ∃ g w n p r m,v = (3,[g,c,w,n,p,r,m])) (hl : (v.1 = 1 → v.2.length = 9) ∧ (v.1 = 3 → v.2.length = 7)) : Sys (upd M a v) q := by
 refine ⟨fun c d s k => ?_,fun c d s k => ?_,h.nd,h.dj,?_,fun b F e => ?_,fun b F e => ?_⟩
 ·obtain ⟨F,hF⟩ := h.ch c d s k
  by_cases e : c = a
  ·subst e
   exact ⟨v.2,by rw [upd_same,← hk F hF]⟩
  ·exact ⟨F,by rw [upd_ne e]; exact hF⟩
 ·by_cases e : s = a
  ·subst e
   obtain ⟨g,w,n,p,r,m,hv2⟩ := hs c d k
   exact ⟨g,w,n,p,r,m,by rw [upd_same,hv2]⟩
  ·rw [upd_ne e]; exact h.sg c d s k
 ·rw [relink_upd,h.ln,hv]
 ·by_cases q : b = a
  ·subst q; rw [upd_same] at e; cases e; exact hl.1 rfl
  ·rw [upd_ne q] at e; exact h.sc b F e
 ·by_cases q : b = a
  ·subst q; rw [upd_same] at e; cases e; exact hl.2 rfl
  ·rw [upd_ne q] at e; exact h.ss b F e
theorem Sys.fresh {M : Hp} {q : Qs} {a k : Int} {n : Nat} (h : Sys M q) (hM : M a = none) : Sys (upd M a (k,zerK k n)) q := by
 have hna : ∀ c d,a ∉ q c d := fun c d hs => by obtain ⟨g,w,n,p,r,m,e⟩ := h.sg c d a hs; rw [hM] at e; cases e
 have hqa : ∀ d,q a d = [] := fun d => by
  cases hq : q a d with
  | nil => rfl
  | cons x l => obtain ⟨F,e⟩ := h.ch a d x (by rw [hq]; exact List.mem_cons_self); rw [hM] at e; cases e
 refine h.updv ?_ (fun F e => by rw [hM] at e; cases e) (fun c d e => absurd e (hna c d)) ⟨fun e => by have e : k = 1 := e; subst e; rfl,fun e => by have e : k = 3 := e; subst e; rfl⟩
 by_cases e1 : k = 1
 ·subst e1
  show Go.Proofs.YtjfdfbpgckilpaaGreatDoor.lnk q a (1,[0,0,0,0,-1,-1,-1,-1,-1]) = _
  rw [lnk_chan,hqa,hqa]; rfl
 ·by_cases e3 : k = 3
  ·subst e3
   show Go.Proofs.YtjfdfbpgckilpaaGreatDoor.lnk q a (3,[-1,-1,0,-1,0,0,-1]) = _
   rw [lnk_sudog,nxtQ_not (fun d => hna _ d)]; rfl
  ·exact lnk_other _ _ _ ⟨e1,e3⟩
structure Bst (R : List Rw) (ws vs C : List Int) (N W ph : Int) (L D Q : List PV) (z : ByteArray) (P B V Qr la : List PV) (m : Int) (M : Hp) : Prop where
 h : HM R ws C [] N W L D Q z
 r : RM R vs C [] N W P B V Qr la m
 c : Cont R ws M
 d : Cont R vs M
 ph : ph = 0
 w : C = List.replicate W.toNat 0
theorem Bst.colour {R R' : List Rw} {ws vs ws' vs' C C' DC : List Int} {N W ph : Int} {L D Q L' D' Q' : List PV} {z : ByteArray} {P B V Qr la P' B' V' Qr' : List PV} {m : Int} {M : Hp} {x e : Int} (S : Bst R ws vs C N W ph L D Q z P B V Qr la m M) (he : e = 0) (h1 : HM R' ws' C' [] N W L' D' Q' z) (g1 : RM R' vs' DC [] N W P' B' V' Qr' la m) (hC : C' = allocC ph x e C) (hD : DC = allocC ph x e C) : C = C' ∧ C = DC ∧ Q = Q' ∧ Qr = Qr' := by
 have : allocC ph x e C = C := by rw [S.ph,he,S.w]; exact allocC_white x
 rw [this] at hC hD
 exact ⟨hC.symm,hD.symm,by rw [h1.q,S.h.q,hC],by rw [g1.q,S.r.q,hD]⟩
structure BCh (M : Hp) (c b cap : Int) : Prop where
 c : M c = some (1,[cap,0,0,0,b,-1,-1,-1,-1])
 b : (cap = 0 ∧ b = -1) ∨ (0 < cap ∧ cap < 4 ∧ M b = some (2,List.replicate cap.toNat 0))
def capW (x : Int) : Int := IntKind.u64.wrap x % 4
theorem capW_bd (x : Int) : 0 ≤ capW x ∧ capW x < 4 := by unfold capW; omega
def ngor (n : Int) : Int := 1 + IntKind.u64.wrap n % 6
theorem ngor_bd (n : Int) : 1 ≤ ngor n ∧ ngor n ≤ 6 := by unfold ngor; omega
structure Bn (caps : List Int) (M : Hp) (chs bufs gs : List Int) : Prop where
 len : bufs.length = chs.length
 lec : chs.length ≤ caps.length
 ch : ∀ (j : Nat) (c x : Int),chs[j]? = some c → caps[j]? = some x → ∃ b,bufs[j]? = some b ∧ BCh M c b (capW x)
 nd : chs.Nodup
 bnd : ∀ (i j : Nat) (b : Int),bufs[i]? = some b → bufs[j]? = some b → 0 ≤ b → i = j
 gnd : gs.Nodup
 gr : ∀ (j : Nat) (g : Int),gs[j]? = some g → M g = some (4,[(j : Int),0,0,0,0,0,0,0,0,-1])
theorem Bn.new (caps : List Int) (M : Hp) : Bn caps M [] [] [] := ⟨rfl,Nat.zero_le _,fun j c x h => by simp at h,List.nodup_nil,fun i j b h => by simp at h,List.nodup_nil,fun j g h => by simp at h⟩
theorem Bn.chAt {caps : List Int} {M : Hp} {chs bufs gs : List Int} (h : Bn caps M chs bufs gs) {c : Int} (hc : c ∈ chs) : ∃ (j : Nat) (b x : Int),chs[j]? = some c ∧ caps[j]? = some x ∧ bufs[j]? = some b ∧ BCh M c b (capW x) := by
 obtain ⟨j,hj⟩ := List.getElem?_of_mem hc
 have hl := (List.getElem?_eq_some_iff.1 hj).1
 obtain ⟨x,hx⟩ : ∃ x,caps[j]? = some x := ⟨_,List.getElem?_eq_getElem (by have := h.lec; omega)⟩
 obtain ⟨b,hb,hB⟩ := h.ch j c x hj hx
 exact ⟨j,b,x,hj,hx,hb,hB⟩
theorem Bn.bufAt {caps : List Int} {M : Hp} {chs bufs gs : List Int} (h : Bn caps M chs bufs gs) {b : Int} (hb : b ∈ bufs) : b = -1 ∨ ∃ F,M b = some (2,F) := by
 obtain ⟨j,hj⟩ := List.getElem?_of_mem hb
 have hl := (List.getElem?_eq_some_iff.1 hj).1
 obtain ⟨c,hc⟩ : ∃ c,chs[j]? = some c := ⟨_,List.getElem?_eq_getElem (by have := h.len; omega)⟩
 obtain ⟨x,hx⟩ : ∃ x,caps[j]? = some x := ⟨_,List.getElem?_eq_getElem (by have := h.lec; have := h.len; omega)⟩
 obtain ⟨b',hb',hB⟩ := h.ch j c x hc hx
 obtain rfl : b = b' := Option.some.inj (hj.symm.trans hb')
 rcases hB.b with q | q
 ·exact .inl q.2
 ·exact .inr ⟨_,q.2.2⟩
theorem Bn.weaken {caps : List Int} {M M' : Hp} {chs bufs gs : List Int} (h : Bn caps M chs bufs gs) (hM : ∀ a v,M a = some v → M' a = some v) : Bn caps M' chs bufs gs := by
 refine ⟨h.len,h.lec,fun j c x hc hx => ?_,h.nd,h.bnd,h.gnd,fun j g hg => hM _ _ (h.gr j g hg)⟩
 obtain ⟨b,hb,hB⟩ := h.ch j c x hc hx
 refine ⟨b,hb,hM _ _ hB.c,?_⟩
 rcases hB.b with q | ⟨q1,q2,q3⟩
 ·exact .inl q
 ·exact .inr ⟨q1,q2,hM _ _ q3⟩
theorem Bn.chan0 {caps : List Int} {M : Hp} {chs bufs : List Int} (h : Bn caps M chs bufs []) {c x : Int} (hx : caps[chs.length]? = some x) (h0 : capW x = 0) (hc : M c = none) (G : Int × List Int) : Bn caps (upd (upd M c G) c (1,[capW x,0,0,0,-1,-1,-1,-1,-1])) (chs ++ [c]) (bufs ++ [-1]) [] := by
 have hlx := (List.getElem?_eq_some_iff.1 hx).1
 have hnc : c ∉ chs := fun q => by
  obtain ⟨_,_,_,_,_,_,hB⟩ := h.chAt q
  have := hB.c; rw [hc] at this; cases this
 have hw := h.weaken (M' := upd (upd M c G) c (1,[capW x,0,0,0,-1,-1,-1,-1,-1])) fun a v ha => by
  have : a ≠ c := fun q => by rw [q,hc] at ha; cases ha
  rw [upd_ne this,upd_ne this]; exact ha
 refine ⟨by simp [h.len],by simp; omega,fun j c' x' hj hx' => ?_,?_,fun i j b hi hj hb => ?_,List.nodup_nil,fun j g hg => by simp at hg⟩
 ·rw [List.getElem?_append] at hj
  split at hj
  ·obtain ⟨b,hb,hB⟩ := hw.ch j c' x' hj hx'
   exact ⟨b,by rw [List.getElem?_append_left (by rw [h.len]; assumption)]; exact hb,hB⟩
  ·rename_i q
   have hj0 : j = chs.length := by have := (List.getElem?_eq_some_iff.1 hj).1; simp at this; omega
   subst hj0
   simp at hj
   subst hj
   obtain rfl : x = x' := Option.some.inj (hx.symm.trans hx')
   exact ⟨-1,by rw [← h.len]; simp,upd_same _ _ _,.inl ⟨h0,rfl⟩⟩
 ·rw [List.nodup_append]
  exact ⟨h.nd,by simp,fun a ha b hb => by simp at hb; subst hb; exact fun e => hnc (e ▸ ha)⟩
 ·rw [List.getElem?_append] at hi hj
  split at hi <;> split at hj
  ·exact h.bnd i j b hi hj hb
  ·have := (List.getElem?_eq_some_iff.1 hj).1; simp at this; simp [this] at hj; omega
  ·have := (List.getElem?_eq_some_iff.1 hi).1; simp at this; simp [this] at hi; omega
  ·have := (List.getElem?_eq_some_iff.1 hi).1; simp at this; simp [this] at hi; omega
theorem Bn.chan1 {caps : List Int} {M : Hp} {chs bufs : List Int} (h : Bn caps M chs bufs []) {c b x : Int} (hx : caps[chs.length]? = some x) (h0 : 0 < capW x) (hc : M c = none) (G : Int × List Int) (hb : upd M c G b = none) : Bn caps (upd (upd (upd M c G) b (2,List.replicate (capW x).toNat 0)) c (1,[capW x,0,0,0,b,-1,-1,-1,-1])) (chs ++ [c]) (bufs ++ [b]) [] := by
 have hlx := (List.getElem?_eq_some_iff.1 hx).1
 have hbc : b ≠ c := fun q => by rw [q,upd_same] at hb; cases hb
 rw [upd_ne hbc] at hb
 have hnc : c ∉ chs := fun q => by
  obtain ⟨_,_,_,_,_,_,hB⟩ := h.chAt q
  have := hB.c; rw [hc] at this; cases this
 have hnb : b ∈ bufs → b = -1 := fun q => by
  rcases h.bufAt q with q | ⟨F,q⟩
  ·exact q
  ·rw [hb] at q; cases q
 have hw := h.weaken (M' := upd (upd (upd M c G) b (2,List.replicate (capW x).toNat 0)) c (1,[capW x,0,0,0,b,-1,-1,-1,-1])) fun a v ha => by
  have q1 : a ≠ c := fun q => by rw [q,hc] at ha; cases ha
  have q2 : a ≠ b := fun q => by rw [q,hb] at ha; cases ha
  rw [upd_ne q1,upd_ne q2,upd_ne q1]; exact ha
 refine ⟨by simp [h.len],by simp; omega,fun j c' x' hj hx' => ?_,?_,fun i j b' hi hj hb' => ?_,List.nodup_nil,fun j g hg => by simp at hg⟩
 ·rw [List.getElem?_append] at hj
  split at hj
  ·obtain ⟨b,hb,hB⟩ := hw.ch j c' x' hj hx'
   exact ⟨b,by rw [List.getElem?_append_left (by rw [h.len]; assumption)]; exact hb,hB⟩
  ·rename_i q
   have hj0 : j = chs.length := by have := (List.getElem?_eq_some_iff.1 hj).1; simp at this; omega
   subst hj0
   simp at hj
   subst hj
   obtain rfl : x = x' := Option.some.inj (hx.symm.trans hx')
   exact ⟨b,by rw [← h.len]; simp,upd_same _ _ _,.inr ⟨h0,(capW_bd x).2,by rw [upd_ne hbc,upd_same]⟩⟩
 ·rw [List.nodup_append]
  exact ⟨h.nd,by simp,fun a ha b hb => by simp at hb; subst hb; exact fun e => hnc (e ▸ ha)⟩
 ·rw [List.getElem?_append] at hi hj
  split at hi <;> split at hj
  ·exact h.bnd i j b' hi hj hb'
  ·have := (List.getElem?_eq_some_iff.1 hj).1; simp at this; simp [this] at hj; subst hj
   have := hnb (List.mem_of_getElem? hi); omega
  ·have := (List.getElem?_eq_some_iff.1 hi).1; simp at this; simp [this] at hi; subst hi
   have := hnb (List.mem_of_getElem? hj); omega
  ·have q1 := (List.getElem?_eq_some_iff.1 hi).1; have q2 := (List.getElem?_eq_some_iff.1 hj).1; simp at q1 q2; omega
theorem Bn.gor {caps : List Int} {M : Hp} {chs bufs gs : List Int} (h : Bn caps M chs bufs gs) {g j : Int} (hj : j = gs.length) (hg : M g = none) (G : Int × List Int) : Bn caps (upd (upd M g G) g (4,[j,0,0,0,0,0,0,0,0,-1])) chs bufs (gs ++ [g]) := by
 have hng : g ∉ gs := fun q => by
  obtain ⟨j,hj⟩ := List.getElem?_of_mem q
  rw [h.gr j g hj] at hg; cases hg
 have hw := h.weaken (M' := upd (upd M g G) g (4,[j,0,0,0,0,0,0,0,0,-1])) fun a v ha => by
  have : a ≠ g := fun q => by rw [q,hg] at ha; cases ha
  rw [upd_ne this,upd_ne this]; exact ha
 refine ⟨h.len,h.lec,hw.ch,h.nd,h.bnd,?_,fun k x hk => ?_⟩
 ·rw [List.nodup_append]
  exact ⟨h.gnd,by simp,fun a ha b hb => by simp at hb; subst hb; exact fun e => hng (e ▸ ha)⟩
 ·rw [List.getElem?_append] at hk
  split at hk
  ·exact hw.gr k x hk
  ·have := (List.getElem?_eq_some_iff.1 hk).1; simp at this
   have hk0 : k = gs.length := by omega
   subst hk0
   simp at hk
   subst hk
   rw [upd_same,hj]
def Sg (chs : List Int) (R : List Rw) (ws : List Int) : Prop := ∀ a ∈ chs,∀ x,Kept R ws a 1 9 → Loaded R ws a 3 x 0 → 0 ≤ x
theorem Sg.use {chs : List Int} {R : List Rw} {ws : List Int} {a : Int} (h : Sg chs R ws) (ha : a ∈ chs) : ∀ X y0 y1 y2 y3 y4 y5 y6 y7 y8,Kept R ws a 1 9 → Wrds R ws a X → [y0,y1,y2,y3,y4,y5,y6,y7,y8] = chanFs X → 0 ≤ y3 := by
 intro X y0 y1 y2 y3 y4 y5 y6 y7 y8 hK hX hy
 unfold chanFs at hy
 split at hy
 ·rename_i x0 x1 x2 x3 x4 x5 x6 x7 x8
  have h3 := h a ha x3 hK (hX.2 3 x3 rfl)
  have e := (nine_eq hy).2.2.2.1
  rw [e]
  unfold numW
  split <;> omega
 ·cases hy
theorem Sg.init {caps : List Int} {M : Hp} {chs bufs gs : List Int} {R : List Rw} {ws : List Int} (hB : Bn caps M chs bufs gs) (hC : Cont R ws M) : Sg chs R ws := by
 intro a ha x hK hl
 obtain ⟨j,b,cx,_,_,_,hBC⟩ := hB.chAt ha
 obtain ⟨_,hH⟩ := hC.up _ _ _ hBC.c
 have := hH.word 3 0 rfl hl
 omega
theorem word_ex {R : List Rw} {ws : List Int} {a : Int} (hA : AOk R ws) (hK : Kept R ws a 1 9) : ∃ y,Loaded R ws a 3 y 0 := by
 have hb := hK.bounds hA
 have hl := hA.len
 obtain ⟨y,hy⟩ : ∃ y,ws[(a + 1 + 3).toNat]? = some y := ⟨_,List.getElem?_eq_getElem (by omega)⟩
 exact ⟨y,.ok 1 9 y hK ⟨by omega,by omega⟩ hy⟩
theorem sim_self {R : List Rw} {ws : List Int} (hA : AOk R ws) : Sim R ws ws := ⟨hA,hA,fun _ _ _ h => h,fun _ _ _ _ _ _ _ => rfl⟩
theorem Sg.pt {chs : List Int} {R : List Rw} {ph a e x0 x1 x2 x3 x4 x5 x6 x7 x8 : Int} {s s' : St4} (h : Sg chs R s.1) (hA : AOk R s.1) (hb : ∀ x ∈ [x0,x1,x2,x3,x4,x5,x6,x7,x8],b62 x) (h3 : 0 ≤ x3) (hP : PT 1 9 (chanWs [x0,x1,x2,x3,x4,x5,x6,x7,x8]) R ph a s e s') : Sg chs R s'.1 := by
 rcases hP.two with ⟨_,hK,rfl⟩ | ⟨_,_,rfl⟩
 ·have F := putS_fact (ph := ph) (chanWs [x0,x1,x2,x3,x4,x5,x6,x7,x8]) 0 s hA hK (by show (0 : Int) + 9 ≤ 9; omega) (chanWs_bd _ _ _ _ _ _ _ _ _ hb)
  intro c hc x hKc hl
  by_cases e : c = a
  ·subst e
   cases hl with
   | ok k l _ _ _ hx =>
    have h9 := F.in_ 3 (x3 * 2) rfl
    have e9 : x3 * 2 = x := Option.some.inj (h9.symm.trans hx)
    omega
  ·have hK1 := F.down _ _ _ hKc
   obtain ⟨z,hz⟩ := word_ex hA hK1
   rw [loaded_one hl (F.oth c 3 z e hz)]
   exact h c hc z hK1 hz
 ·exact h
theorem Sg.stored {chs : List Int} {R : List Rw} {ws ws' : List Int} {b i x e k l : Int} (h : Sg chs R ws) (hA : AOk R ws) (hs : Stored R ws b i x e ws') (hx : 0 ≤ x ∨ (Kept R ws b k l ∧ k ≠ 1)) : Sg chs R ws' := by
 intro c hc z hK hl
 have hK0 := stored_kept hA hs _ _ _ hK
 rcases hx with hx | ⟨hb,hk⟩
 ·rcases stored_loaded hA hs hl with ⟨_,e⟩ | q
  ·omega
  ·exact h c hc z hK0 q
 ·have hne : c ≠ b := Kept.ne9 hK0 hb (Ne.symm hk)
  obtain ⟨u,hu⟩ := word_ex hA hK0
  rw [loaded_one hl ((stored_to hA hs).2 c 3 u hne hu)]
  exact h c hc u hK0 hu
theorem RTake.sg {chs : List Int} {R : List Rw} {ph a x e : Int} {ws ws' : List Int} {c c' : List Int × List Int × Bool} (hA : AOk R ws) (h : Sg chs R ws) (h1 : RTake R ph a (ws,c) x e (ws',c')) : Sg chs R ws' := by
 cases h1 with
 | no _ => exact h
 | none _ y0 y1 y2 y3 y4 y5 y6 y7 y8 _ _ _ _ => exact h
 | ok X y0 y1 y2 y3 y4 y5 y6 y7 y8 hK0 hX hy h0 hK hf x9 g f9 e9 ws1 c1 s' hl hst hc hP =>
  have hyb := chanFs_b62 hy.symm (hX.bd hA)
  have hbd := hK.bounds hA
  have r1 := Int.emod_nonneg (max y3 0 % y0 + 1) (show y0 ≠ 0 by omega)
  have r2 := Int.emod_lt_of_pos (max y3 0 % y0 + 1) h0
  have hyb1 : ∀ x ∈ [y0,y1,y2 - 1,(max y3 0 % y0 + 1) % y0,y4,y5,y6,y7,y8],b62 x := by
   simp only [List.forall_mem_cons] at hyb ⊢
   obtain ⟨q0,q1,q2,q3,q4,q5,q6,q7,q8,_⟩ := hyb
   exact ⟨q0,q1,by unfold b62 at *; omega,by unfold b62; omega,q4,q5,q6,q7,q8,fun x hx => by cases hx⟩
  have hA1 := ((sim_self hA).store (by omega) hst hst).2.a
  exact (h.stored (k := 0) (l := 0) hA hst (.inl (by omega))).pt (s := (ws1,c1)) hA1 hyb1 r1 hP
theorem RPut.sg {chs : List Int} {R : List Rw} {ph a w e : Int} {ws ws' : List Int} {c c' : List Int × List Int × Bool} (hA : AOk R ws) (hn : ∀ X y0 y1 y2 y3 y4 y5 y6 y7 y8,Kept R ws a 1 9 → Wrds R ws a X → [y0,y1,y2,y3,y4,y5,y6,y7,y8] = chanFs X → 0 ≤ y3) (h : Sg chs R ws) (hw : -9223372036854775808 ≤ w ∧ w ≤ 9223372036854775807) (h1 : RPut R ph a w (ws,c) e (ws',c')) : Sg chs R ws' := by
 cases h1 with
 | no _ => exact h
 | full _ y0 y1 y2 y3 y4 y5 y6 y7 y8 _ _ _ _ => exact h
 | ok X y0 y1 y2 y3 y4 y5 y6 y7 y8 hK0 hX hy h0 hK hf f9 e9 ws1 c1 s' hst hc hP =>
  have hn3 := hn _ _ _ _ _ _ _ _ _ _ hK0 hX hy
  have hyb := chanFs_b62 hy.symm (hX.bd hA)
  have hbd := hK.bounds hA
  have hyb1 : ∀ x ∈ [y0,y1,max y2 0 + 1,y3,y4,y5,y6,y7,y8],b62 x := by
   simp only [List.forall_mem_cons] at hyb ⊢
   obtain ⟨q0,q1,q2,q3,q4,q5,q6,q7,q8,_⟩ := hyb
   exact ⟨q0,q1,by unfold b62 at *; omega,q3,q4,q5,q6,q7,q8,fun x hx => by cases hx⟩
  have hA1 := ((sim_self hA).store hw hst hst).2.a
  exact (h.stored hA hst (.inr ⟨hK,by decide⟩)).pt (s := (ws1,c1)) hA1 hyb1 hn3 hP
theorem Sg.step {chs : List Int} {R R' : List Rw} {ws ws' C C' G G' : List Int} {ov ov' : Bool} {ph sp cy W p s y : Int} {out : List Gn} (h : Sg chs R ws) (hA : AOk R ws) (hp : ph = 1) (hs : Stepd R ws C G ov ph sp cy W out R' ws' C' G' ov' p s y) : Sg chs R' ws' := by
 cases hs with
 | mark _ _ _ _ _ _ _ _ hm =>
  cases hm with
  | scan _ _ _ _ _ _ _ _ _ _ => exact h
  | keep _ _ _ _ _ _ _ _ _ _ _ hst _ => exact h.stored (k := 0) (l := 0) hA hst (.inl (by omega))
  | sweep _ _ _ _ => exact h
 | sweep _ _ hq _ => omega
 | idle hq _ => exact absurd hp hq
end Go.Proofs.YtjfdfbpgckilpaaGreatDoor
