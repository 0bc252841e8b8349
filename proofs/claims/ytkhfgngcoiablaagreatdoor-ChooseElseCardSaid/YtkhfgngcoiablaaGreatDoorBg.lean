/-
  The ground of the proof, part 7: the calculus and what is proved with it.
-/
import Derived.Test.YtkhfgngcoiablaaGreatDoorBf
import Derived.Test.YtkhfgngcoiablaaGreatDoorBd
import Derived.Test.YtkhfgngcoiablaaGreatDoorBc
namespace Go.Proofs.YtkhfgngcoiablaaGreatDoor
open Go Go.LX
set_option maxRecDepth 100000
set_option linter.unusedVariables false
set_option linter.unusedSimpArgs false
set_option maxHeartbeats 32000000
inductive Look (R : List Rw) (ws : List Int) (x0 x2 x3 x4 : Int) : LV → Prop
 | none (h : ¬ (0 < x0 ∧ Kept R ws x4 2 x0)) : Look R ws x0 x2 x3 x4 (.iface 208 (.agg []))
 | row (s k : Int) (h0 : 0 < x0) (h : Kept R ws x4 2 x0) (hs : s = (max x3 0) % x0) (hk : k = max x2 0) : Look R ws x0 x2 x3 x4 (.iface 155 (.agg [i6 x4,i6 x0,i6 s,i6 k]))
theorem ringLook_lx (R : List Rw) (ws C G : List Int) (N W ph sp cy : Int) (L D Q : List PV) (z : ByteArray) (ov : Bool) (h : HM R ws C G N W L D Q z) (x0 x1 x2 x3 x4 x5 x6 x7 x8 : Int) : CallF (fun _ => Tryz.prog) 112 [.ptr 0 (.lit 0),.agg [i6 x0,i6 x1,i6 x2,i6 x3,i6 x4,i6 x5,i6 x6,i6 x7,i6 x8]] [hpA 0 1 5 6 3 W ph sp cy,hpB 1 2 4 3 W,hpC 2 3 233 2 N,hpP 3 L,hpP 4 D,hpF 5 z ov,hpP 6 Q] 7 (fun r h n => Look R ws x0 x2 x3 x4 r ∧ h = [hpA 0 1 5 6 3 W ph sp cy,hpB 1 2 4 3 W,hpC 2 3 233 2 N,hpP 3 L,hpP 4 D,hpF 5 z ov,hpP 6 Q] ∧ n = 7) := by
 refine callF_of_body tok Tryz.func112 (by kernel_rfl) rfl rfl rfl ?_; conv => cbv
 refine drawn_sound tok (by kernel_rfl) [(5,[7,6]),(8,[]),(13,[18,17,15,14]),(16,[18,17])] [0,1,2,3,4,6,7,5,8,9,10,11,12,14,15,17,18,13,16,19,20] (by kernel_rfl) ?_; conv => cbv
 refine Br.mk (fun g0 => ?_) (fun g0 => ?_)
 ·have g0 : x0 ≤ 0 := g0
  conv => cbv
  refine RetF.mk [.iface 208 (.agg [])] [hpA 0 1 5 6 3 W ph sp cy,hpB 1 2 4 3 W,hpC 2 3 233 2 N,hpP 3 L,hpP 4 D,hpF 5 z ov,hpP 6 Q] 7 (Re.at [(0,0),(1,1),(2,2),(3,3),(4,4),(5,5),(6,6)] []) rfl ⟨.none (fun ⟨q1,q2⟩ => absurd q1 (by omega)),rfl,rfl⟩
 ·have g0 : ¬ x0 ≤ 0 := g0
  conv => cbv
  refine cfr (arena_lx R ws C G N W ph sp cy L D Q z ov) [(0,0),(1,1),(2,2),(3,3),(4,4),(5,5),(6,6)] (fun r h' n' ⟨e1,e2,e3⟩ => ?_)
  subst e1 e2 e3
  conv => cbv
  refine cfr (kind_lx R ws N x4 W L D h.l h.d h.n h.r h.a h.w) [(0,1),(1,2),(2,3),(3,4)] (fun r h' n' hrr => ?_)
  obtain ⟨v,e1,e2,e3,hv⟩ := hrr
  subst e1 e2 e3
  conv => cbv
  refine Br.mk (fun g1 => ?_) (fun g1 => ?_)
  ·have g1 : ¬ v = 2 := g1
   conv => cbv
   refine RetF.mk [.iface 208 (.agg [])] [hpA 0 1 5 6 3 W ph sp cy,hpB 1 2 4 3 W,hpC 2 3 233 2 N,hpP 3 L,hpP 4 D,hpF 5 z ov,hpP 6 Q] 7 (Re.at [(0,0),(1,1),(2,2),(3,3),(4,4),(5,5),(6,6)] []) rfl ⟨.none (fun ⟨q1,q2⟩ => g1 (kindR_of6 q2 hv)),rfl,rfl⟩
  ·have g1 : ¬ ¬ v = 2 := g1
   have g1 : v = 2 := Classical.not_not.1 g1
   conv => cbv
   refine cfr (arena_lx R ws C G N W ph sp cy L D Q z ov) [(0,0),(1,1),(2,2),(3,3),(4,4),(5,5),(6,6)] (fun r h' n' ⟨e1,e2,e3⟩ => ?_)
   subst e1 e2 e3
   conv => cbv
   refine cfr (len_lx R ws N x4 W L D h.l h.d h.n h.r h.a h.w) [(0,1),(1,2),(2,3),(3,4)] (fun r h' n' hrr => ?_)
   obtain ⟨l,e1,e2,e3,hl⟩ := hrr
   subst e1 e2 e3
   conv => cbv
   refine Br.mk (fun g2 => ?_) (fun g2 => ?_)
   ·have g2 : ¬ l = x0 := g2
    conv => cbv
    refine RetF.mk [.iface 208 (.agg [])] [hpA 0 1 5 6 3 W ph sp cy,hpB 1 2 4 3 W,hpC 2 3 233 2 N,hpP 3 L,hpP 4 D,hpF 5 z ov,hpP 6 Q] 7 (Re.at [(0,0),(1,1),(2,2),(3,3),(4,4),(5,5),(6,6)] []) rfl ⟨.none (fun ⟨q1,q2⟩ => g2 (lenR_of6 q2 hl)),rfl,rfl⟩
   ·have g2 : ¬ ¬ l = x0 := g2
    have g2 : l = x0 := Classical.not_not.1 g2
    conv => cbv
    have hK : Kept R ws x4 2 x0 := by
     cases hv with
     | no hn => exact absurd g1 (by decide)
     | is k l2 hK2 =>
      have := lenR_of6 hK2 hl
      rw [← g1,← g2,this]
      exact hK2
    refine drawn_sound tok (by kernel_rfl) [] [0,1,2,3,4,5,6,7,8,9,10,11,12,13,14,15] (by kernel_rfl) ?_; conv => cbv
    refine Br.mk (fun gA => ?_) (fun gA => ?_)
    ·have gA : x3 < 0 := gA
     conv => cbv
     refine Need.mk (show x0 ≠ 0 by omega) ?_
     conv => cbv
     refine Sum.mk fun sv hsv => ?_
     have hs : sv = (max x3 0) % x0 := (show sv = (0 : Int).tmod x0 from hsv).trans (by rw [Int.tmod_eq_emod_of_nonneg (by omega),show max x3 0 = (0 : Int) by omega])
     clear hsv
     conv => cbv
     refine Br.mk (fun gB => ?_) (fun gB => ?_)
     ·have gB : x2 < 0 := gB
      have hk : max x2 0 = (0 : Int) := by omega
      conv => cbv
      refine RetF.mk [.iface 155 (.agg [i6 x4,i6 x0,i6 sv,i6 (0 : Int)])] [hpA 0 1 5 6 3 W ph sp cy,hpB 1 2 4 3 W,hpC 2 3 233 2 N,hpP 3 L,hpP 4 D,hpF 5 z ov,hpP 6 Q] 7 (Re.at [(0,0),(1,1),(2,2),(3,3),(4,4),(5,5),(6,6)] []) rfl ⟨.row sv (0 : Int) (by omega) hK hs hk.symm,rfl,rfl⟩
     ·have gB : ¬ x2 < 0 := gB
      have hk : max x2 0 = x2 := by omega
      conv => cbv
      refine RetF.mk [.iface 155 (.agg [i6 x4,i6 x0,i6 sv,i6 x2])] [hpA 0 1 5 6 3 W ph sp cy,hpB 1 2 4 3 W,hpC 2 3 233 2 N,hpP 3 L,hpP 4 D,hpF 5 z ov,hpP 6 Q] 7 (Re.at [(0,0),(1,1),(2,2),(3,3),(4,4),(5,5),(6,6)] []) rfl ⟨.row sv x2 (by omega) hK hs hk.symm,rfl,rfl⟩
    ·have gA : ¬ x3 < 0 := gA
     conv => cbv
     refine Need.mk (show x0 ≠ 0 by omega) ?_
     conv => cbv
     refine Sum.mk fun sv hsv => ?_
     have hs : sv = (max x3 0) % x0 := (show sv = x3.tmod x0 from hsv).trans (by rw [Int.tmod_eq_emod_of_nonneg (by omega),show max x3 0 = x3 by omega])
     clear hsv
     conv => cbv
     refine Br.mk (fun gB => ?_) (fun gB => ?_)
     ·have gB : x2 < 0 := gB
      have hk : max x2 0 = (0 : Int) := by omega
      conv => cbv
      refine RetF.mk [.iface 155 (.agg [i6 x4,i6 x0,i6 sv,i6 (0 : Int)])] [hpA 0 1 5 6 3 W ph sp cy,hpB 1 2 4 3 W,hpC 2 3 233 2 N,hpP 3 L,hpP 4 D,hpF 5 z ov,hpP 6 Q] 7 (Re.at [(0,0),(1,1),(2,2),(3,3),(4,4),(5,5),(6,6)] []) rfl ⟨.row sv (0 : Int) (by omega) hK hs hk.symm,rfl,rfl⟩
     ·have gB : ¬ x2 < 0 := gB
      have hk : max x2 0 = x2 := by omega
      conv => cbv
      refine RetF.mk [.iface 155 (.agg [i6 x4,i6 x0,i6 sv,i6 x2])] [hpA 0 1 5 6 3 W ph sp cy,hpB 1 2 4 3 W,hpC 2 3 233 2 N,hpP 3 L,hpP 4 D,hpF 5 z ov,hpP 6 Q] 7 (Re.at [(0,0),(1,1),(2,2),(3,3),(4,4),(5,5),(6,6)] []) rfl ⟨.row sv x2 (by omega) hK hs hk.symm,rfl,rfl⟩
end Go.Proofs.YtkhfgngcoiablaaGreatDoor
namespace Go.Proofs.YtkhfgngcoiablaaGreatDoor
open Go Go.LX
set_option maxRecDepth 100000
set_option linter.unusedVariables false
set_option linter.unusedSimpArgs false
set_option maxHeartbeats 32000000
theorem ringPlace_lx (b n s k i : Int) (hn : 0 < n) (hs : 0 ≤ s ∧ s ≤ 1000000) (hi : 0 ≤ i ∧ i ≤ 4611686018427387903) : CallF (fun _ => Tryz.prog) 113 [.agg [i6 b,i6 n,i6 s,i6 k],i6 i] [] 0 (fun r h n' => (∃ v : Int,r = .p (.int .i64 (.sym v)) ∧ v = (s + i) % n) ∧ h = [] ∧ n' = 0) := by
 refine callF_of_body tok Tryz.func113 (by kernel_rfl) rfl rfl rfl ?_; conv => cbv
 refine Fit.mk (by show (-9223372036854775808 : Int) ≤ s + i; omega) (by show s + i ≤ 9223372036854775807; omega) fun u hu => ?_
 have hu : u = s + i := hu
 conv => cbv
 refine Need.mk (show n ≠ 0 by omega) ?_
 conv => cbv
 refine Sum.mk fun v hv => ?_
 have hv : v = (s + i) % n := (show v = u.tmod n from hv).trans (by rw [hu,Int.tmod_eq_emod_of_nonneg (by omega)])
 conv => cbv
 refine RetF.mk [i6 v] [] 0 (Re.at [] []) rfl ⟨⟨v,rfl,hv⟩,rfl,rfl⟩
theorem chanFs_b62 : ∀ {X : List Int} {y0 y1 y2 y3 y4 y5 y6 y7 y8 : Int},chanFs X = [y0,y1,y2,y3,y4,y5,y6,y7,y8] → (∀ x ∈ X,-9223372036854775808 ≤ x ∧ x ≤ 9223372036854775807) → ∀ x ∈ [y0,y1,y2,y3,y4,y5,y6,y7,y8],b62 x := by
 intro X y0 y1 y2 y3 y4 y5 y6 y7 y8 h hb
 match X,h with
 | [x0,x1,x2,x3,x4,x5,x6,x7,x8],h =>
  simp only [chanFs,List.cons.injEq,and_true] at h
  obtain ⟨rfl,rfl,rfl,rfl,rfl,rfl,rfl,rfl,rfl⟩ := h
  simp only [List.forall_mem_cons] at hb ⊢
  obtain ⟨q0,q1,q2,q3,q4,q5,q6,q7,q8,_⟩ := hb
  exact ⟨b62_num q0,b62_num q1,b62_num q2,b62_num q3,b62_at q4,b62_at q5,b62_at q6,b62_at q7,b62_at q8,fun x hx => by cases hx⟩
end Go.Proofs.YtkhfgngcoiablaaGreatDoor
namespace Go.Proofs.YtkhfgngcoiablaaGreatDoor
open Go Go.LX
set_option maxRecDepth 100000
set_option linter.unusedVariables false
set_option linter.unusedSimpArgs false
set_option maxHeartbeats 32000000
inductive RAll (R : List Rw) (ws : List Int) (a : Int) : List Int → Prop
 | no (h : ¬ Kept R ws a 1 9) : RAll R ws a []
 | none (X : List Int) (y0 y1 y2 y3 y4 y5 y6 y7 y8 : Int) (h : Kept R ws a 1 9) (hX : Wrds R ws a X) (hy : [y0,y1,y2,y3,y4,y5,y6,y7,y8] = chanFs X) (hf : ¬ (0 < y0 ∧ Kept R ws y4 2 y0)) : RAll R ws a []
 | ok (X : List Int) (y0 y1 y2 y3 y4 y5 y6 y7 y8 : Int) (h : Kept R ws a 1 9) (hX : Wrds R ws a X) (hy : [y0,y1,y2,y3,y4,y5,y6,y7,y8] = chanFs X) (h0 : 0 < y0) (hK : Kept R ws y4 2 y0) (l : List Int) (hl : (l.length : Int) = min (max y2 0) y0) (hw : ∀ (i : Nat) (x : Int),l[i]? = some x → Loaded R ws y4 ((max y3 0 % y0 + i) % y0) x 0) : RAll R ws a l
theorem ringAll_lx (R : List Rw) (ws C G : List Int) (N W ph sp cy : Int) (L D Q : List PV) (z : ByteArray) (ov : Bool) (h : HM R ws C G N W L D Q z) (a : Int) : CallF (fun _ => Tryz.prog) 55 [.ptr 0 (.lit 0),i6 a] [hpA 0 1 5 6 3 W ph sp cy,hpB 1 2 4 3 W,hpC 2 3 233 2 N,hpP 3 L,hpP 4 D,hpF 5 z ov,hpP 6 Q] 7 (fun r h n => ∃ (l : List Int) (m : Int) (cells : List PV),r = .sl 7 3 1 (.lit 0) (.sym m) ∧ h = [hpA 0 1 5 6 3 W ph sp cy,hpB 1 2 4 3 W,hpC 2 3 233 2 N,hpP 3 L,hpP 4 D,hpF 5 z ov,hpP 6 Q,hpP 7 cells] ∧ n = 8 ∧ m = l.length ∧ cells = ipv l ∧ RAll R ws a l) := by
 refine callF_of_body tok Tryz.func55 (by kernel_rfl) rfl rfl rfl ?_; conv => cbv
 refine cfr (chan_lx R ws C G N W ph sp cy L D Q z ov h a) [(0,0),(1,1),(2,2),(3,3),(4,4),(5,5),(6,6)] (fun r h' n' hrr => ?_)
 obtain ⟨⟨y0,y1,y2,y3,y4,y5,y6,y7,y8,e,e1,hT⟩,e2,e3⟩ := hrr
 subst e1 e2 e3
 conv => cbv
 refine Br.mk (fun ge => ?_) (fun ge => ?_)
 ·have ge : ¬ e = 0 := ge
  have hno : ¬ Kept R ws a 1 9 := by
   rcases hT.two with ⟨q1,_⟩ | ⟨q1,q2⟩
   ·exact absurd q1 ge
   ·exact q2
  have hR : RAll R ws a [] := .no hno
  conv => cbv
  refine RetF.mk [.sl 7 3 1 (.lit 0) (.sym 0)] [hpA 0 1 5 6 3 W ph sp cy,hpB 1 2 4 3 W,hpC 2 3 233 2 N,hpP 3 L,hpP 4 D,hpF 5 z ov,hpP 6 Q,(7,.pure true [])] 8 (Re.at [(0,0),(1,1),(2,2),(3,3),(4,4),(5,5),(6,6)] [7]) rfl ⟨[],0,[],rfl,rfl,rfl,rfl,rfl,hR⟩
 ·have ge : ¬ ¬ e = 0 := ge
  have ge : e = 0 := Classical.not_not.1 ge
  obtain ⟨X,hKa,hX,hy⟩ : ∃ X,Kept R ws a 1 9 ∧ Wrds R ws a X ∧ [y0,y1,y2,y3,y4,y5,y6,y7,y8] = chanFs X := by
   generalize hyy : [y0,y1,y2,y3,y4,y5,y6,y7,y8] = yy at hT
   cases hT with
   | ok X h hX => exact ⟨X,h,hX,rfl⟩
   | no h => exact absurd ge (by decide)
  clear hT
  have hyb := chanFs_b62 hy.symm (hX.bd h.a)
  conv => cbv
  refine cfr (ringLook_lx R ws C G N W ph sp cy L D Q z ov h y0 y1 y2 y3 y4 y5 y6 y7 y8) [(0,0),(1,1),(2,2),(3,3),(4,4),(5,5),(6,6)] (fun r h' n' hrr => ?_)
  obtain ⟨hL,e2,e3⟩ := hrr
  subst e2 e3
  cases hL with
  | none hn =>
   have hR : RAll R ws a [] := .none X y0 y1 y2 y3 y4 y5 y6 y7 y8 hKa hX hy hn
   conv => cbv
   refine RetF.mk [.sl 7 3 1 (.lit 0) (.sym 0)] [hpA 0 1 5 6 3 W ph sp cy,hpB 1 2 4 3 W,hpC 2 3 233 2 N,hpP 3 L,hpP 4 D,hpF 5 z ov,hpP 6 Q,(7,.pure true [])] 8 (Re.at [(0,0),(1,1),(2,2),(3,3),(4,4),(5,5),(6,6)] [7]) rfl ⟨[],0,[],rfl,rfl,rfl,rfl,rfl,hR⟩
  | row s k h0 hK hs hk =>
   have hbd := hK.bounds h.a
   have hs0 : 0 ≤ s ∧ s ≤ 1000000 := by
    rw [hs]
    have q1 := Int.emod_nonneg (max y3 0) (show y0 ≠ 0 by omega)
    have q2 := Int.emod_lt_of_pos (max y3 0) h0
    omega
   have hk0 : 0 ≤ k := by omega
   have hkb : k ≤ 4611686018427387903 := by have q := hyb y2 (by simp); unfold b62 at q; omega
   conv => cbv
   refine Br.mk (fun gk => ?_) (fun gk => ?_)
   ·have gk : y0 < k := gk
    conv => cbv
    have hM : y0 ≤ 31 ∧ 0 ≤ y0 ∧ y0 = min (max y2 0) y0 := by omega
    refine LoopF.mk (fun kk s' => ∃ (i : Int) (l : List Int) (cells : List PV),s' = ⟨.ptr 0 (.lit 0) :: (undefs 6 ++ .ptr 8 (.lit 0) :: .undef :: .sl 9 3 1 (.lit 0) (.sym i) :: (undefs 24 ++ .p (.int .i64 (.sym y0)) :: .p (.int .i64 (.sym i)) :: undefs 18)),[hpA 0 1 5 6 3 W ph sp cy,hpB 1 2 4 3 W,hpC 2 3 233 2 N,hpP 3 L,hpP 4 D,hpF 5 z ov,hpP 6 Q,(8,.pure false [.int .i64 (.sym y4),.int .i64 (.sym y0),.int .i64 (.sym s),.int .i64 (.sym k)]),hpP 9 cells],10⟩ ∧ i = l.length ∧ i ≤ y0 ∧ cells = ipv l ∧ (∀ (q : Nat) (x : Int),l[q]? = some x → Loaded R ws y4 ((s + (q : Int)) % y0) x 0) ∧ kk = (y0 - i).toNat) (y0).toNat _
     (Re.at [(0,0),(1,1),(2,2),(3,3),(4,4),(5,5),(6,6),(8,8)] [9]) ⟨0,[],[],rfl,rfl,by omega,rfl,(fun q x hq => by simp at hq),by omega⟩ ?_
    rintro kk s' ⟨i,l,cells,rfl,hil,hi1,hcs,hld,hkk⟩
    have hi0 : 0 ≤ i := by omega
    have hcl : (cells.length : Int) = i := by rw [hcs,ipv_length]; exact hil.symm
    conv => cbv
    refine Br.mk (fun gi => ?_) (fun gi => ?_)
    ·have gi : i < y0 := gi
     conv => cbv
     refine drawn_sound tok (by kernel_rfl) [(5,[2,1,0]),(6,[])] [0,1,2,3,4,5,6,7,8,9,10,11] (by kernel_rfl) ?_; conv => cbv
     refine callF_frame (ringPlace_lx y4 y0 s k i h0 hs0 (by omega)) [] rfl trivial rfl rfl (fun r h' n' hrr => ?_)
     obtain ⟨⟨v,e1,hv⟩,e2,e3⟩ := hrr
     subst e1 e2 e3
     conv => cbv
     refine cfr (load9_lx R ws C G N W ph sp cy L D Q z ov h y4 v) [(0,0),(1,1),(2,2),(3,3),(4,4),(5,5),(6,6)] (fun r h' n' hrr => ?_)
     obtain ⟨x,g,e1,e2,e3,hl⟩ := hrr
     subst e1 e2 e3
     have hv0 : 0 ≤ v ∧ v < y0 := by
      rw [hv]
      exact ⟨Int.emod_nonneg _ (by omega),Int.emod_lt_of_pos _ h0⟩
     have hg : g = 0 := (loaded_of hK hv0 hl).1
     rw [hv,hg] at hl
     conv => cbv
     refine Room.new rfl ?_
     conv => cbv
     refine Room.new ⟨?_,?_,?_⟩ ?_
     ·show (cells.length : Int) = i * 1; omega
     ·show (i + 1) * 8 ≤ 140737488355328; omega
     ·show i + 1 ≤ 9223372036854775807; omega
     conv => cbv
     refine Upd.mk fun c2 hc2 => ?_
     have hc2 : c2 = cells ++ [.int .i64 (.sym x)] := hc2
     have hc2 : c2 = ipv (l ++ [x]) := by rw [hc2,hcs,← ipv_app]; rfl
     conv => cbv
     refine Sum.mk fun i2 hi2 => ?_
     have hi2 : i2 = i + 1 := hi2
     conv => cbv
     refine Fit.mk (by show (-9223372036854775808 : Int) ≤ i + 1; omega) (by show i + 1 ≤ 9223372036854775807; omega) fun i3 hi3 => ?_
     have hi3 : i3 = i + 1 := hi3
     obtain rfl : i2 = i3 := by omega
     conv => cbv
     refine Again.mk (y0 - i2).toNat _ (by omega) (Re.at [(0,0),(1,1),(2,2),(3,3),(4,4),(5,5),(6,6),(8,8),(11,9)] []) ⟨i2,l ++ [x],c2,rfl,by rw [List.length_append,hi2,hil]; rfl,by omega,hc2,?_,rfl⟩
     intro q u hq
     rw [List.getElem?_append] at hq
     split at hq
     ·exact hld q u hq
     ·rename_i hql
      have hq0 : q = l.length := by
       have := (List.getElem?_eq_some_iff.1 hq).1
       simp at this
       omega
      subst hq0
      simp at hq
      rw [← hq]
      rw [hil] at hl
      exact hl
    ·have gi : ¬ i < y0 := gi
     have hR : RAll R ws a l := .ok X y0 y1 y2 y3 y4 y5 y6 y7 y8 hKa hX hy h0 hK l (by omega) (by rw [← hs]; exact hld)
     conv => cbv
     refine RetF.mk [.sl 7 3 1 (.lit 0) (.sym i)] [hpA 0 1 5 6 3 W ph sp cy,hpB 1 2 4 3 W,hpC 2 3 233 2 N,hpP 3 L,hpP 4 D,hpF 5 z ov,hpP 6 Q,hpP 7 cells] 8 (Re.at [(0,0),(1,1),(2,2),(3,3),(4,4),(5,5),(6,6),(9,7)] []) rfl ⟨l,i,cells,rfl,rfl,rfl,hil,hcs,hR⟩
   ·have gk : ¬ y0 < k := gk
    conv => cbv
    have hM : k ≤ 31 ∧ 0 ≤ k ∧ k = min (max y2 0) y0 := by omega
    refine LoopF.mk (fun kk s' => ∃ (i : Int) (l : List Int) (cells : List PV),s' = ⟨.ptr 0 (.lit 0) :: (undefs 6 ++ .ptr 8 (.lit 0) :: .undef :: .sl 9 3 1 (.lit 0) (.sym i) :: (undefs 24 ++ .p (.int .i64 (.sym k)) :: .p (.int .i64 (.sym i)) :: undefs 18)),[hpA 0 1 5 6 3 W ph sp cy,hpB 1 2 4 3 W,hpC 2 3 233 2 N,hpP 3 L,hpP 4 D,hpF 5 z ov,hpP 6 Q,(8,.pure false [.int .i64 (.sym y4),.int .i64 (.sym y0),.int .i64 (.sym s),.int .i64 (.sym k)]),hpP 9 cells],10⟩ ∧ i = l.length ∧ i ≤ k ∧ cells = ipv l ∧ (∀ (q : Nat) (x : Int),l[q]? = some x → Loaded R ws y4 ((s + (q : Int)) % y0) x 0) ∧ kk = (k - i).toNat) (k).toNat _
     (Re.at [(0,0),(1,1),(2,2),(3,3),(4,4),(5,5),(6,6),(8,8)] [9]) ⟨0,[],[],rfl,rfl,by omega,rfl,(fun q x hq => by simp at hq),by omega⟩ ?_
    rintro kk s' ⟨i,l,cells,rfl,hil,hi1,hcs,hld,hkk⟩
    have hi0 : 0 ≤ i := by omega
    have hcl : (cells.length : Int) = i := by rw [hcs,ipv_length]; exact hil.symm
    conv => cbv
    refine Br.mk (fun gi => ?_) (fun gi => ?_)
    ·have gi : i < k := gi
     conv => cbv
     refine drawn_sound tok (by kernel_rfl) [(5,[2,1,0]),(6,[])] [0,1,2,3,4,5,6,7,8,9,10,11] (by kernel_rfl) ?_; conv => cbv
     refine callF_frame (ringPlace_lx y4 y0 s k i h0 hs0 (by omega)) [] rfl trivial rfl rfl (fun r h' n' hrr => ?_)
     obtain ⟨⟨v,e1,hv⟩,e2,e3⟩ := hrr
     subst e1 e2 e3
     conv => cbv
     refine cfr (load9_lx R ws C G N W ph sp cy L D Q z ov h y4 v) [(0,0),(1,1),(2,2),(3,3),(4,4),(5,5),(6,6)] (fun r h' n' hrr => ?_)
     obtain ⟨x,g,e1,e2,e3,hl⟩ := hrr
     subst e1 e2 e3
     have hv0 : 0 ≤ v ∧ v < y0 := by
      rw [hv]
      exact ⟨Int.emod_nonneg _ (by omega),Int.emod_lt_of_pos _ h0⟩
     have hg : g = 0 := (loaded_of hK hv0 hl).1
     rw [hv,hg] at hl
     conv => cbv
     refine Room.new rfl ?_
     conv => cbv
     refine Room.new ⟨?_,?_,?_⟩ ?_
     ·show (cells.length : Int) = i * 1; omega
     ·show (i + 1) * 8 ≤ 140737488355328; omega
     ·show i + 1 ≤ 9223372036854775807; omega
     conv => cbv
     refine Upd.mk fun c2 hc2 => ?_
     have hc2 : c2 = cells ++ [.int .i64 (.sym x)] := hc2
     have hc2 : c2 = ipv (l ++ [x]) := by rw [hc2,hcs,← ipv_app]; rfl
     conv => cbv
     refine Sum.mk fun i2 hi2 => ?_
     have hi2 : i2 = i + 1 := hi2
     conv => cbv
     refine Fit.mk (by show (-9223372036854775808 : Int) ≤ i + 1; omega) (by show i + 1 ≤ 9223372036854775807; omega) fun i3 hi3 => ?_
     have hi3 : i3 = i + 1 := hi3
     obtain rfl : i2 = i3 := by omega
     conv => cbv
     refine Again.mk (k - i2).toNat _ (by omega) (Re.at [(0,0),(1,1),(2,2),(3,3),(4,4),(5,5),(6,6),(8,8),(11,9)] []) ⟨i2,l ++ [x],c2,rfl,by rw [List.length_append,hi2,hil]; rfl,by omega,hc2,?_,rfl⟩
     intro q u hq
     rw [List.getElem?_append] at hq
     split at hq
     ·exact hld q u hq
     ·rename_i hql
      have hq0 : q = l.length := by
       have := (List.getElem?_eq_some_iff.1 hq).1
       simp at this
       omega
      subst hq0
      simp at hq
      rw [← hq]
      rw [hil] at hl
      exact hl
    ·have gi : ¬ i < k := gi
     have hR : RAll R ws a l := .ok X y0 y1 y2 y3 y4 y5 y6 y7 y8 hKa hX hy h0 hK l (by omega) (by rw [← hs]; exact hld)
     conv => cbv
     refine RetF.mk [.sl 7 3 1 (.lit 0) (.sym i)] [hpA 0 1 5 6 3 W ph sp cy,hpB 1 2 4 3 W,hpC 2 3 233 2 N,hpP 3 L,hpP 4 D,hpF 5 z ov,hpP 6 Q,hpP 7 cells] 8 (Re.at [(0,0),(1,1),(2,2),(3,3),(4,4),(5,5),(6,6),(9,7)] []) rfl ⟨l,i,cells,rfl,rfl,rfl,hil,hcs,hR⟩
end Go.Proofs.YtkhfgngcoiablaaGreatDoor
namespace Go.Proofs.YtkhfgngcoiablaaGreatDoor
open Go Go.LX
set_option maxRecDepth 100000
set_option linter.unusedVariables false
set_option linter.unusedSimpArgs false
set_option maxHeartbeats 32000000
def wdsK (k : Int) (F : List Int) : List Int := if k = 1 then chanWs F else if k = 3 then sudogWs F else if k = 4 then gorWs F else F
def fdsK (k : Int) (F : List Int) : List Int := if k = 1 then chanFs F else if k = 3 then sudogFs F else if k = 4 then gorFs F else F
structure FOk (k : Int) (F : List Int) : Prop where
 back : fdsK k (wdsK k F) = F
 len : (wdsK k F).length = F.length
abbrev Hp := Int → Option (Int × List Int)
def upd (M : Hp) (a : Int) (v : Int × List Int) : Hp := fun b => if b = a then some v else M b
theorem upd_same (M : Hp) (a : Int) (v : Int × List Int) : upd M a v a = some v := if_pos rfl
theorem upd_ne {M : Hp} {a b : Int} {v : Int × List Int} (h : b ≠ a) : upd M a v b = M b := if_neg h
structure Cont (R : List Rw) (ws : List Int) (M : Hp) : Prop where
 up : ∀ a k F,M a = some (k,F) → FOk k F ∧ Hld R ws a k F.length (wdsK k F)
 dn : ∀ a k l,Kept R ws a k l → ∃ F,M a = some (k,F)
theorem Cont.kept {R : List Rw} {ws : List Int} {M : Hp} (h : Cont R ws M) {a k : Int} {F : List Int} (hM : M a = some (k,F)) : Kept R ws a k F.length := (h.up a k F hM).2.1
theorem Cont.not {R : List Rw} {ws : List Int} {M : Hp} (h : Cont R ws M) {a k l : Int} (hM : ∀ F,M a ≠ some (k,F)) : ¬ Kept R ws a k l := fun hK => by
 obtain ⟨F,hF⟩ := h.dn a k l hK
 exact hM F hF
theorem Cont.put {kd ln : Int} {Wl F F' : List Int} {R : List Rw} {ph a e : Int} {s s' : St4} {M : Hp} (h : Cont R s.1 M) (hA : AOk R s.1) (hM : M a = some (kd,F)) (hln : (F.length : Int) = ln) (hW : Wl = wdsK kd F') (hF : FOk kd F') (hl : (F'.length : Int) = ln) (hb : ∀ x ∈ Wl,-9223372036854775808 ≤ x ∧ x ≤ 9223372036854775807) (hP : PT kd ln Wl R ph a s e s') : e = 0 ∧ Cont R s'.1 (upd M a (kd,F')) := by
 subst hW
 have hK := h.kept hM
 rw [hln] at hK
 obtain ⟨e1,h1,h2,h3⟩ := hP.hld hA hK (by rw [hF.len]; exact hl) hb
 refine ⟨e1,fun b k G hG => ?_,fun b k l hB => ?_⟩
 ·by_cases q : b = a
  ·subst q
   rw [upd_same] at hG
   cases hG
   exact ⟨hF,by rw [hl]; exact h1⟩
  ·rw [upd_ne q] at hG
   obtain ⟨g1,g2⟩ := h.up b k G hG
   exact ⟨g1,h2 b _ _ _ q g2⟩
 ·by_cases q : b = a
  ·subst q
   obtain ⟨rfl,rfl⟩ := hB.det9 h1.1
   exact ⟨F',upd_same _ _ _⟩
  ·rw [upd_ne q]
   rcases hP.two with ⟨_,_,q1⟩ | ⟨_,q1,_⟩
   ·have hF2 := putS_fact (ph := ph) (wdsK kd F') 0 s hA hK (by rw [hF.len]; omega) hb
    rw [← q1] at hF2
    by_cases hob : IsObj R b
    ·obtain ⟨k2,l2,hK2⟩ := Kept.of hA hob
     obtain ⟨rfl,rfl⟩ := hB.det9 (hF2.up _ _ _ hK2)
     exact h.dn b k l hK2
    ·exact absurd hB.obj6 hob
   ·exact absurd hK q1
theorem Cont.tr {kd ln f a : Int} {fs : List Int → List Int} {R : List Rw} {ws y F : List Int} {M : Hp} (h : Cont R ws M) (hM : M a = some (kd,F)) (hfs : fs (wdsK kd F) = fdsK kd (wdsK kd F)) (hln : (F.length : Int) = ln) (hT : TR kd ln fs R ws a f y) : f = 0 ∧ y = F := by
 obtain ⟨h1,h2⟩ := h.up a kd F hM
 rw [hln] at h2
 obtain ⟨e1,e2⟩ := hT.hld h2
 exact ⟨e1,by rw [e2,hfs,h1.back]⟩
theorem Cont.tr_no {kd ln f a : Int} {fs : List Int → List Int} {R : List Rw} {ws y : List Int} {M : Hp} (h : Cont R ws M) (hM : ∀ F,M a ≠ some (kd,F)) (hT : TR kd ln fs R ws a f y) : f = 10 ∧ y = List.replicate ln.toNat 0 := by
 cases hT with
 | ok X hK _ => exact absurd hK (h.not hM)
 | no _ => exact ⟨rfl,rfl⟩
def zerK (k : Int) (n : Nat) : List Int := if k = 1 then [0,0,0,0,-1,-1,-1,-1,-1] else if k = 3 then [-1,-1,0,-1,0,0,-1] else if k = 4 then [0,0,0,0,0,0,0,0,0,-1] else List.replicate n 0
def lenK (k : Int) (n : Nat) : Prop := (k = 1 → n = 9) ∧ (k = 3 → n = 7) ∧ (k = 4 → n = 10)
theorem zerK_wds {k : Int} {n : Nat} (h : lenK k n) : wdsK k (zerK k n) = List.replicate n 0 ∧ fdsK k (List.replicate n 0) = zerK k n ∧ (zerK k n).length = n := by
 obtain ⟨h1,h3,h4⟩ := h
 unfold wdsK fdsK zerK
 by_cases q1 : k = 1
 ·subst q1; rw [h1 rfl]; decide
 ·by_cases q3 : k = 3
  ·subst q3; rw [h3 rfl]; decide
  ·by_cases q4 : k = 4
   ·subst q4; rw [h4 rfl]; decide
   ·simp [q1,q3,q4]
theorem zerK_ok {k : Int} {n : Nat} (h : lenK k n) : FOk k (zerK k n) := by
 obtain ⟨h1,h2,h3⟩ := zerK_wds h
 exact ⟨by rw [h1,h2],by rw [h1,h3,List.length_replicate]⟩
theorem Cont.alloc {R R' : List Rw} {ws ws' : List Int} {kind n a e : Int} {M : Hp} (h : Cont R ws M) (hA : AOk R ws) (hr : objCount R < R.length) (hk : 0 ≤ n ∧ n ≤ 31 ∧ 1 ≤ kind ∧ kind ≤ 6) (hlen : lenK kind n.toNat) (hs : Alloct R ws kind n a e R' ws') : e = 0 ∧ Cont R' ws' (upd M a (kind,zerK kind n.toNat)) ∧ objCount R' = objCount R + 1 ∧ M a = none ∧ 0 ≤ a ∧ a < 32 * R.length ∧ R'.length = R.length := by
 have he : e = 0 := by have := alloct_err hA hs hr; rw [if_pos hk] at this; exact this
 obtain ⟨h1,h2,h3,h4,h5,h6,h7⟩ := alloct_ok hA hs he
 obtain ⟨hA',hlR⟩ := hA.alloct hs
 have hb := h1.bounds hA'
 obtain ⟨z1,z2,z3⟩ := zerK_wds hlen
 have hn : M a = Option.none := by
  cases q : M a with
  | none => rfl
  | some v => exact absurd (h.kept (k := v.1) (F := v.2) q).obj6 h2
 refine ⟨he,⟨fun b k G hG => ?_,fun b k l hB => ?_⟩,h3,hn,hb.1,by omega,hlR⟩
 ·by_cases q : b = a
  ·subst q
   rw [upd_same] at hG
   cases hG
   refine ⟨zerK_ok hlen,?_⟩
   rw [z1,z3]
   refine ⟨by rw [Int.toNat_of_nonneg hk.1]; exact h1,by rw [List.length_replicate],fun q x hq => ?_⟩
   obtain ⟨hq1,hq2⟩ := List.getElem?_eq_some_iff.1 hq
   rw [List.length_replicate] at hq1
   rw [List.getElem_replicate] at hq2
   rw [← hq2]
   exact h4 q (by omega) (by omega)
  ·rw [upd_ne q] at hG
   obtain ⟨g1,g2,g3,g4⟩ := h.up b k G hG
   refine ⟨g1,h5 _ _ _ g2,g3,fun j x hj => ?_⟩
   have hj1 : j < (wdsK k G).length := (List.getElem?_eq_some_iff.1 hj).1
   rw [h7 b k _ j g2 (by omega) (by omega)]
   exact g4 j x hj
 ·by_cases q : b = a
  ·subst q
   obtain ⟨rfl,_⟩ := hB.det9 h1
   exact ⟨_,upd_same _ _ _⟩
  ·rw [upd_ne q]
   rcases h6 b hB.obj6 with q1 | q1
   ·exact absurd q1 q
   ·obtain ⟨k2,l2,hK2⟩ := Kept.of hA q1
    obtain ⟨rfl,rfl⟩ := hB.det9 (h5 b k2 l2 hK2)
    exact h.dn b k l hK2
theorem Cont.new (n m : Nat) : Cont (List.replicate n ((0,[]) : Rw)) (List.replicate m 0) (fun _ => Option.none) :=
 ⟨fun a k F hF => (by cases hF),fun a k l hK => absurd hK.obj6 (new_none n a)⟩
theorem Cont.load {R : List Rw} {ws : List Int} {a i x e k y : Int} {F : List Int} {M : Hp} (h : Cont R ws M) (hM : M a = some (k,F)) (hk : k ≠ 1 ∧ k ≠ 3 ∧ k ≠ 4) (hi : 0 ≤ i) (hy : F[i.toNat]? = some y) (hL : Loaded R ws a i x e) : x = y ∧ e = 0 := by
 have hw : wdsK k F = F := by unfold wdsK; rw [if_neg hk.1,if_neg hk.2.1,if_neg hk.2.2]
 obtain ⟨_,h1,h2,h3⟩ := h.up a k F hM
 rw [hw] at h3
 have hlt := (List.getElem?_eq_some_iff.1 hy).1
 obtain ⟨q1,q2⟩ := loaded_of h1 ⟨hi,by omega⟩ hL
 have := h3 i.toNat y hy
 rw [show ((i.toNat : Nat) : Int) = i by omega,q2] at this
 exact ⟨Option.some.inj this,q1⟩
theorem Cont.sim {R : List Rw} {ws vs : List Int} {M : Hp} (hS : Sim R ws vs) (h : Cont R ws M) : Cont R vs M := by
 refine ⟨fun a k F hF => ?_,fun a k l hK => h.dn a k l (hS.back hK)⟩
 obtain ⟨g1,g2,g3,g4⟩ := h.up a k F hF
 refine ⟨g1,hS.hdr _ _ _ g2,g3,fun q x hq => ?_⟩
 have hq1 : q < (wdsK k F).length := (List.getElem?_eq_some_iff.1 hq).1
 rw [hS.in_ a k _ q g2 (by omega) (by omega)]
 exact g4 q x hq
theorem Cont.len {R : List Rw} {ws : List Int} {M : Hp} (hA : AOk R ws) (h : Cont R ws M) {a k : Int} {F : List Int} (hM : M a = some (k,F)) : F.length < 32 ∧ 0 ≤ a ∧ a + 1 + F.length ≤ 32 * R.length := by
 have := (h.kept hM).bounds hA
 omega
theorem Cont.toSim {R : List Rw} {ws vs : List Int} {M : Hp} (ha : AOk R ws) (hb : AOk R vs) (h : Cont R ws M) (h' : Cont R vs M) : Sim R ws vs := by
 refine ⟨ha,hb,fun x k l hK => ?_,fun x k l i hK hi0 hi1 => ?_⟩
 ·obtain ⟨F,hF⟩ := h.dn x k l hK
  obtain ⟨_,q⟩ := hK.det9 (h.kept hF)
  rw [q]; exact h'.kept hF
 ·obtain ⟨F,hF⟩ := h.dn x k l hK
  obtain ⟨_,q⟩ := hK.det9 (h.kept hF)
  obtain ⟨g0,_,g1,g2⟩ := h.up x k F hF
  obtain ⟨_,_,_,g3⟩ := h'.up x k F hF
  obtain ⟨y,hy⟩ : ∃ y,(wdsK k F)[i.toNat]? = some y := ⟨_,List.getElem?_eq_getElem (by rw [g0.len]; omega)⟩
  have e1 := g2 _ _ hy
  have e2 := g3 _ _ hy
  rw [show ((i.toNat : Nat) : Int) = i by omega] at e1 e2
  rw [e1,e2]
theorem FOk.chan {x0 x1 x2 x3 x4 x5 x6 x7 x8 : Int} (h : ∀ x ∈ [x4,x5,x6,x7,x8],-1 ≤ x) : FOk 1 [x0,x1,x2,x3,x4,x5,x6,x7,x8] := ⟨chan_back x0 x1 x2 x3 x4 x5 x6 x7 x8 h,rfl⟩
theorem FOk.gor {x0 x1 x2 x3 x4 x5 x6 x7 x8 x9 : Int} (h : ∀ x ∈ [x9],-1 ≤ x) : FOk 4 [x0,x1,x2,x3,x4,x5,x6,x7,x8,x9] := ⟨gor_back x0 x1 x2 x3 x4 x5 x6 x7 x8 x9 h,rfl⟩
end Go.Proofs.YtkhfgngcoiablaaGreatDoor
namespace Go.Proofs.YtkhfgngcoiablaaGreatDoor
open Go Go.LX
set_option maxRecDepth 100000
set_option linter.unusedVariables false
set_option linter.unusedSimpArgs false
set_option maxHeartbeats 32000000
theorem shadeW_idle {R : List Rw} {ph w : Int} (h : ph = 0) (s : List Int × List Int × Bool) : shadeW R ph w s = s := by
 unfold shadeW shade
 split
 ·rw [if_neg (fun q => by have := q.1; omega)]
 ·rfl
theorem putS_idle {R : List Rw} {ph a : Int} (h : ph = 0) : ∀ (l : List Int) (i : Nat) (s : St4),(putS R ph a i l s).2 = s.2
 | [],_,_ => rfl
 | w :: l,i,s => by
  show (putS R ph a (i + 1) l _).2 = s.2
  rw [putS_idle h l]
  split
  ·rfl
  ·exact shadeW_idle h s.2
theorem PT.idle {kd ln : Int} {W : List Int} {R : List Rw} {ph a e : Int} {s s' : St4} (hp : ph = 0) (h : PT kd ln W R ph a s e s') : s'.2 = s.2 := by
 rcases h.two with ⟨_,_,q⟩ | ⟨_,_,q⟩
 ·rw [q,putS_idle hp]
 ·rw [q]
theorem HM.still {R R' : List Rw} {ws ws' C C' G G' : List Int} {N W : Int} {L L' D D' Q Q' : List PV} {z z' : ByteArray} {ov ov' : Bool} (h : HM R ws C G N W L D Q z) (h' : HM R' ws' C' G' N W L' D' Q' z') (e : (C',G',ov') = (C,G,ov)) : C' = C ∧ G' = G ∧ ov' = ov ∧ Q' = Q ∧ z' = z := by
 simp only [Prod.mk.injEq] at e
 obtain ⟨e1,e2,e3⟩ := e
 exact ⟨e1,e2,e3,by rw [h'.q,h.q,e1],by rw [h'.z,h.z,e2]⟩
theorem RM.still {R R' : List Rw} {vs vs' C C' G G' : List Int} {N W : Int} {P B V Q la P' B' V' Q' la' : List PV} {m m' : Int} {ov ov' : Bool} (h : RM R vs C G N W P B V Q la m) (h' : RM R' vs' C' G' N W P' B' V' Q' la' m') (e : (C',G',ov') = (C,G,ov)) : C' = C ∧ G' = G ∧ ov' = ov ∧ Q' = Q ∧ la' = la ∧ m' = m := by
 simp only [Prod.mk.injEq] at e
 obtain ⟨e1,e2,e3⟩ := e
 exact ⟨e1,e2,e3,by rw [h'.q,h.q,e1],by rw [h'.l,h.l,e2],by rw [h'.m,h.m,e2]⟩
theorem chanM_lx (R : List Rw) (ws C G : List Int) (N W ph sp cy : Int) (L D Q : List PV) (z : ByteArray) (ov : Bool) (h : HM R ws C G N W L D Q z) (M : Hp) (hM : Cont R ws M) (a y0 y1 y2 y3 y4 y5 y6 y7 y8 : Int) (hMa : M a = some (1,[y0,y1,y2,y3,y4,y5,y6,y7,y8])) : CallF (fun _ => Tryz.prog) 37 [.ptr 0 (.lit 0),i6 a] [hpA 0 1 5 6 3 W ph sp cy,hpB 1 2 4 3 W,hpC 2 3 233 2 N,hpP 3 L,hpP 4 D,hpF 5 z ov,hpP 6 Q] 7 (fun r h n => (∃ e : Int,r = .tup [.agg [i6 y0,i6 y1,i6 y2,i6 y3,i6 y4,i6 y5,i6 y6,i6 y7,i6 y8],i6 e] ∧ e = 0) ∧ h = [hpA 0 1 5 6 3 W ph sp cy,hpB 1 2 4 3 W,hpC 2 3 233 2 N,hpP 3 L,hpP 4 D,hpF 5 z ov,hpP 6 Q] ∧ n = 7) :=
 (chan_lx R ws C G N W ph sp cy L D Q z ov h a).mono fun r h' n hrr => by
  obtain ⟨⟨x0,x1,x2,x3,x4,x5,x6,x7,x8,e,e1,hT⟩,e2,e3⟩ := hrr
  obtain ⟨he,hy⟩ := hM.tr hMa rfl rfl hT
  simp only [List.cons.injEq,and_true] at hy
  obtain ⟨rfl,rfl,rfl,rfl,rfl,rfl,rfl,rfl,rfl⟩ := hy
  exact ⟨⟨e,e1,he⟩,e2,e3⟩
theorem chanNoM_lx (R : List Rw) (ws C G : List Int) (N W ph sp cy : Int) (L D Q : List PV) (z : ByteArray) (ov : Bool) (h : HM R ws C G N W L D Q z) (M : Hp) (hM : Cont R ws M) (a : Int) (hMa : ∀ F,M a ≠ some (1,F)) : CallF (fun _ => Tryz.prog) 37 [.ptr 0 (.lit 0),i6 a] [hpA 0 1 5 6 3 W ph sp cy,hpB 1 2 4 3 W,hpC 2 3 233 2 N,hpP 3 L,hpP 4 D,hpF 5 z ov,hpP 6 Q] 7 (fun r h n => (∃ y0 y1 y2 y3 y4 y5 y6 y7 y8 e : Int,r = .tup [.agg [i6 y0,i6 y1,i6 y2,i6 y3,i6 y4,i6 y5,i6 y6,i6 y7,i6 y8],i6 e] ∧ e = 10 ∧ y0 = 0 ∧ y1 = 0 ∧ y2 = 0 ∧ y3 = 0 ∧ y4 = 0 ∧ y5 = 0 ∧ y6 = 0 ∧ y7 = 0 ∧ y8 = 0) ∧ h = [hpA 0 1 5 6 3 W ph sp cy,hpB 1 2 4 3 W,hpC 2 3 233 2 N,hpP 3 L,hpP 4 D,hpF 5 z ov,hpP 6 Q] ∧ n = 7) :=
 (chan_lx R ws C G N W ph sp cy L D Q z ov h a).mono fun r h' n hrr => by
  obtain ⟨⟨x0,x1,x2,x3,x4,x5,x6,x7,x8,e,e1,hT⟩,e2,e3⟩ := hrr
  obtain ⟨he,hy⟩ := hM.tr_no hMa hT
  have hy : [x0,x1,x2,x3,x4,x5,x6,x7,x8] = [0,0,0,0,0,0,0,0,0] := hy
  simp only [List.cons.injEq,and_true] at hy
  exact ⟨⟨x0,x1,x2,x3,x4,x5,x6,x7,x8,e,e1,he,hy⟩,e2,e3⟩
theorem putChanM_lx (R : List Rw) (ws C G : List Int) (N W ph sp cy : Int) (L D Q : List PV) (z : ByteArray) (ov : Bool) (h : HM R ws C G N W L D Q z) (M : Hp) (hM : Cont R ws M) (o : Unit → Obj) (ho : IsPow o) (hph : ph = 0) (a x0 x1 x2 x3 x4 x5 x6 x7 x8 : Int) (F : List Int) (hMa : M a = some (1,F)) (hF : F.length = 9) (hb : ∀ x ∈ [x0,x1,x2,x3,x4,x5,x6,x7,x8],b62 x) (hp : ∀ x ∈ [x4,x5,x6,x7,x8],-1 ≤ x) : CallF (fun _ => Tryz.prog) 33 [.ptr 0 (.lit 0),i6 a,.agg [i6 x0,i6 x1,i6 x2,i6 x3,i6 x4,i6 x5,i6 x6,i6 x7,i6 x8]] [hpA 0 1 5 6 3 W ph sp cy,hpB 1 2 4 3 W,hpC 2 3 233 2 N,hpP 3 L,hpP 4 D,hpF 5 z ov,hpP 6 Q,(7,.fix 0 o)] 8 (fun r h n => ∃ (e : Int) (ws' : List Int) (D' : List PV),r = .p (.int .i64 (.sym e)) ∧ e = 0 ∧ h = [hpA 0 1 5 6 3 W ph sp cy,hpB 1 2 4 3 W,hpC 2 3 233 2 N,hpP 3 L,hpP 4 D',hpF 5 z ov,hpP 6 Q,(7,.fix 0 o)] ∧ n = 8 ∧ HM R ws' C G N W L D' Q z ∧ Cont R ws' (upd M a (1,[x0,x1,x2,x3,x4,x5,x6,x7,x8]))) :=
 (putChan_lx R ws C G N W ph sp cy L D Q z ov h o ho a x0 x1 x2 x3 x4 x5 x6 x7 x8 hb).mono fun r h' n hrr => by
  obtain ⟨e,ws',C',G',ov',D',Q',z',e1,e2,e3,h1,hP⟩ := hrr
  obtain ⟨he,hM'⟩ := hM.put (F' := [x0,x1,x2,x3,x4,x5,x6,x7,x8]) h.a hMa (by rw [hF]; rfl) rfl (FOk.chan hp) rfl (chanWs_bd x0 x1 x2 x3 x4 x5 x6 x7 x8 hb) hP
  obtain ⟨q1,q2,q3,q4,q5⟩ := h.still h1 (hP.idle hph)
  rw [q3,q4,q5] at e2
  rw [q1,q2,q4,q5] at h1
  exact ⟨e,ws',D',e1,he,e2,e3,h1,hM'⟩
theorem rPutChanM_lx (R : List Rw) (vs C G : List Int) (N W ph sp cy : Int) (P B V Q la : List PV) (m : Int) (ov : Bool) (h : RM R vs C G N W P B V Q la m) (M : Hp) (hM : Cont R vs M) (hph : ph = 0) (a x0 x1 x2 x3 x4 x5 x6 x7 x8 : Int) (F : List Int) (hMa : M a = some (1,F)) (hF : F.length = 9) (hb : ∀ x ∈ [x0,x1,x2,x3,x4,x5,x6,x7,x8],b62 x) (hp : ∀ x ∈ [x4,x5,x6,x7,x8],-1 ≤ x) : CallF (fun _ => Tryz.prog) 59 [.ptr 0 (.lit 0),i6 a,.agg [i6 x0,i6 x1,i6 x2,i6 x3,i6 x4,i6 x5,i6 x6,i6 x7,i6 x8]] [hpR 0 1 6 3 W 7 ph sp cy,hpB 1 2 5 3 W,hpD 2 3 3 1 N 4 231 8 N,hpP 3 P,hpP 4 B,hpP 5 V,hpP 6 Q,(7,.mix [.p (.vsl (.sym m) true la),.p (.bool ov)])] 8 (fun r h n => ∃ (e : Int) (vs' : List Int) (V' : List PV),r = .p (.int .i64 (.sym e)) ∧ e = 0 ∧ h = [hpR 0 1 6 3 W 7 ph sp cy,hpB 1 2 5 3 W,hpD 2 3 3 1 N 4 231 8 N,hpP 3 P,hpP 4 B,hpP 5 V',hpP 6 Q,(7,.mix [.p (.vsl (.sym m) true la),.p (.bool ov)])] ∧ n = 8 ∧ RM R vs' C G N W P B V' Q la m ∧ Cont R vs' (upd M a (1,[x0,x1,x2,x3,x4,x5,x6,x7,x8]))) :=
 (rPutChan_lx R vs C G N W ph sp cy P B V Q la m ov h a x0 x1 x2 x3 x4 x5 x6 x7 x8 hb).mono fun r h' n hrr => by
  obtain ⟨e,vs',C',G',ov',V',Q',la',m',e1,e2,e3,h1,hP⟩ := hrr
  obtain ⟨he,hM'⟩ := hM.put (F' := [x0,x1,x2,x3,x4,x5,x6,x7,x8]) h.a hMa (by rw [hF]; rfl) rfl (FOk.chan hp) rfl (chanWs_bd x0 x1 x2 x3 x4 x5 x6 x7 x8 hb) hP
  obtain ⟨q1,q2,q3,q4,q5,q6⟩ := h.still h1 (hP.idle hph)
  rw [q3,q4,q5,q6] at e2
  rw [q1,q2,q4,q5,q6] at h1
  exact ⟨e,vs',V',e1,he,e2,e3,h1,hM'⟩
theorem sudogM_lx (R : List Rw) (ws C G : List Int) (N W ph sp cy : Int) (L D Q : List PV) (z : ByteArray) (ov : Bool) (h : HM R ws C G N W L D Q z) (M : Hp) (hM : Cont R ws M) (a y0 y1 y2 y3 y4 y5 y6 : Int) (hMa : M a = some (3,[y0,y1,y2,y3,y4,y5,y6])) : CallF (fun _ => Tryz.prog) 19 [.ptr 0 (.lit 0),i6 a] [hpA 0 1 5 6 3 W ph sp cy,hpB 1 2 4 3 W,hpC 2 3 233 2 N,hpP 3 L,hpP 4 D,hpF 5 z ov,hpP 6 Q] 7 (fun r h n => (∃ e : Int,r = .tup [.agg [i6 y0,i6 y1,i6 y2,i6 y3,i6 y4,i6 y5,i6 y6],i6 e] ∧ e = 0) ∧ h = [hpA 0 1 5 6 3 W ph sp cy,hpB 1 2 4 3 W,hpC 2 3 233 2 N,hpP 3 L,hpP 4 D,hpF 5 z ov,hpP 6 Q] ∧ n = 7) :=
 (sudog_lx R ws C G N W ph sp cy L D Q z ov h a).mono fun r h' n hrr => by
  obtain ⟨⟨x0,x1,x2,x3,x4,x5,x6,e,e1,hT⟩,e2,e3⟩ := hrr
  obtain ⟨he,hy⟩ := hM.tr hMa rfl rfl hT
  simp only [List.cons.injEq,and_true] at hy
  obtain ⟨rfl,rfl,rfl,rfl,rfl,rfl,rfl⟩ := hy
  exact ⟨⟨e,e1,he⟩,e2,e3⟩
theorem sudogNoM_lx (R : List Rw) (ws C G : List Int) (N W ph sp cy : Int) (L D Q : List PV) (z : ByteArray) (ov : Bool) (h : HM R ws C G N W L D Q z) (M : Hp) (hM : Cont R ws M) (a : Int) (hMa : ∀ F,M a ≠ some (3,F)) : CallF (fun _ => Tryz.prog) 19 [.ptr 0 (.lit 0),i6 a] [hpA 0 1 5 6 3 W ph sp cy,hpB 1 2 4 3 W,hpC 2 3 233 2 N,hpP 3 L,hpP 4 D,hpF 5 z ov,hpP 6 Q] 7 (fun r h n => (∃ y0 y1 y2 y3 y4 y5 y6 e : Int,r = .tup [.agg [i6 y0,i6 y1,i6 y2,i6 y3,i6 y4,i6 y5,i6 y6],i6 e] ∧ e = 10 ∧ y0 = 0 ∧ y1 = 0 ∧ y2 = 0 ∧ y3 = 0 ∧ y4 = 0 ∧ y5 = 0 ∧ y6 = 0) ∧ h = [hpA 0 1 5 6 3 W ph sp cy,hpB 1 2 4 3 W,hpC 2 3 233 2 N,hpP 3 L,hpP 4 D,hpF 5 z ov,hpP 6 Q] ∧ n = 7) :=
 (sudog_lx R ws C G N W ph sp cy L D Q z ov h a).mono fun r h' n hrr => by
  obtain ⟨⟨x0,x1,x2,x3,x4,x5,x6,e,e1,hT⟩,e2,e3⟩ := hrr
  obtain ⟨he,hy⟩ := hM.tr_no hMa hT
  have hy : [x0,x1,x2,x3,x4,x5,x6] = [0,0,0,0,0,0,0] := hy
  simp only [List.cons.injEq,and_true] at hy
  exact ⟨⟨x0,x1,x2,x3,x4,x5,x6,e,e1,he,hy⟩,e2,e3⟩
theorem putGorM_lx (R : List Rw) (ws C G : List Int) (N W ph sp cy : Int) (L D Q : List PV) (z : ByteArray) (ov : Bool) (h : HM R ws C G N W L D Q z) (M : Hp) (hM : Cont R ws M) (o : Unit → Obj) (ho : IsPow o) (hph : ph = 0) (a x0 x1 x2 x3 x4 x5 x6 x7 x8 x9 : Int) (F : List Int) (hMa : M a = some (4,F)) (hF : F.length = 10) (hb : ∀ x ∈ [x0,x1,x2,x9],b62 x) (hw : ∀ x ∈ [x3,x4,x5,x6,x7,x8],-9223372036854775808 ≤ x ∧ x ≤ 9223372036854775807) (hp : ∀ x ∈ [x9],-1 ≤ x) : CallF (fun _ => Tryz.prog) 60 [.ptr 0 (.lit 0),i6 a,.agg [i6 x0,i6 x1,i6 x2,i6 x3,i6 x4,i6 x5,i6 x6,i6 x7,i6 x8,i6 x9]] [hpA 0 1 5 6 3 W ph sp cy,hpB 1 2 4 3 W,hpC 2 3 233 2 N,hpP 3 L,hpP 4 D,hpF 5 z ov,hpP 6 Q,(7,.fix 0 o)] 8 (fun r h n => ∃ (e : Int) (ws' : List Int) (D' : List PV),r = .p (.int .i64 (.sym e)) ∧ e = 0 ∧ h = [hpA 0 1 5 6 3 W ph sp cy,hpB 1 2 4 3 W,hpC 2 3 233 2 N,hpP 3 L,hpP 4 D',hpF 5 z ov,hpP 6 Q,(7,.fix 0 o)] ∧ n = 8 ∧ HM R ws' C G N W L D' Q z ∧ Cont R ws' (upd M a (4,[x0,x1,x2,x3,x4,x5,x6,x7,x8,x9]))) :=
 (putGor_lx R ws C G N W ph sp cy L D Q z ov h o ho a x0 x1 x2 x3 x4 x5 x6 x7 x8 x9 hb hw).mono fun r h' n hrr => by
  obtain ⟨e,ws',C',G',ov',D',Q',z',e1,e2,e3,h1,hP⟩ := hrr
  obtain ⟨he,hM'⟩ := hM.put (F' := [x0,x1,x2,x3,x4,x5,x6,x7,x8,x9]) h.a hMa (by rw [hF]; rfl) rfl (FOk.gor hp) rfl (gorWs_bd x0 x1 x2 x3 x4 x5 x6 x7 x8 x9 hb hw) hP
  obtain ⟨q1,q2,q3,q4,q5⟩ := h.still h1 (hP.idle hph)
  rw [q3,q4,q5] at e2
  rw [q1,q2,q4,q5] at h1
  exact ⟨e,ws',D',e1,he,e2,e3,h1,hM'⟩
theorem rPutGorM_lx (R : List Rw) (vs C G : List Int) (N W ph sp cy : Int) (P B V Q la : List PV) (m : Int) (ov : Bool) (h : RM R vs C G N W P B V Q la m) (M : Hp) (hM : Cont R vs M) (hph : ph = 0) (a x0 x1 x2 x3 x4 x5 x6 x7 x8 x9 : Int) (F : List Int) (hMa : M a = some (4,F)) (hF : F.length = 10) (hb : ∀ x ∈ [x0,x1,x2,x9],b62 x) (hw : ∀ x ∈ [x3,x4,x5,x6,x7,x8],-9223372036854775808 ≤ x ∧ x ≤ 9223372036854775807) (hp : ∀ x ∈ [x9],-1 ≤ x) : CallF (fun _ => Tryz.prog) 61 [.ptr 0 (.lit 0),i6 a,.agg [i6 x0,i6 x1,i6 x2,i6 x3,i6 x4,i6 x5,i6 x6,i6 x7,i6 x8,i6 x9]] [hpR 0 1 6 3 W 7 ph sp cy,hpB 1 2 5 3 W,hpD 2 3 3 1 N 4 231 8 N,hpP 3 P,hpP 4 B,hpP 5 V,hpP 6 Q,(7,.mix [.p (.vsl (.sym m) true la),.p (.bool ov)])] 8 (fun r h n => ∃ (e : Int) (vs' : List Int) (V' : List PV),r = .p (.int .i64 (.sym e)) ∧ e = 0 ∧ h = [hpR 0 1 6 3 W 7 ph sp cy,hpB 1 2 5 3 W,hpD 2 3 3 1 N 4 231 8 N,hpP 3 P,hpP 4 B,hpP 5 V',hpP 6 Q,(7,.mix [.p (.vsl (.sym m) true la),.p (.bool ov)])] ∧ n = 8 ∧ RM R vs' C G N W P B V' Q la m ∧ Cont R vs' (upd M a (4,[x0,x1,x2,x3,x4,x5,x6,x7,x8,x9]))) :=
 (rPutGor_lx R vs C G N W ph sp cy P B V Q la m ov h a x0 x1 x2 x3 x4 x5 x6 x7 x8 x9 hb hw).mono fun r h' n hrr => by
  obtain ⟨e,vs',C',G',ov',V',Q',la',m',e1,e2,e3,h1,hP⟩ := hrr
  obtain ⟨he,hM'⟩ := hM.put (F' := [x0,x1,x2,x3,x4,x5,x6,x7,x8,x9]) h.a hMa (by rw [hF]; rfl) rfl (FOk.gor hp) rfl (gorWs_bd x0 x1 x2 x3 x4 x5 x6 x7 x8 x9 hb hw) hP
  obtain ⟨q1,q2,q3,q4,q5,q6⟩ := h.still h1 (hP.idle hph)
  rw [q3,q4,q5,q6] at e2
  rw [q1,q2,q4,q5,q6] at h1
  exact ⟨e,vs',V',e1,he,e2,e3,h1,hM'⟩
end Go.Proofs.YtkhfgngcoiablaaGreatDoor
namespace Go.Proofs.YtkhfgngcoiablaaGreatDoor
open Go Go.LX
set_option maxRecDepth 100000
set_option linter.unusedVariables false
set_option linter.unusedSimpArgs false
set_option maxHeartbeats 32000000
def hdQ (l : List Int) : Int := l.head?.getD (-1)
def ltQ (l : List Int) : Int := l.getLast?.getD (-1)
def sucL : List Int → Int → Int
 | x :: y :: l,a => if a = x then y else sucL (y :: l) a
 | _,_ => -1
abbrev Qs := Int → Bool → List Int
def nxtQ (q : Qs) (c a : Int) : Int := if a ∈ q c false then sucL (q c false) a else sucL (q c true) a
def lnk (q : Qs) (a : Int) (v : Int × List Int) : Int × List Int :=
 if v.1 = 1 then (match v.2 with
  | [a0,a1,a2,a3,a4,_,_,_,_] => (1,[a0,a1,a2,a3,a4,hdQ (q a false),ltQ (q a false),hdQ (q a true),ltQ (q a true)])
  | F => (1,F))
 else if v.1 = 3 then (match v.2 with
  | [g,c,w,_,p,r,m] => (3,[g,c,w,nxtQ q c a,p,r,m])
  | F => (3,F))
 else v
theorem lnk_chan (q : Qs) (a a0 a1 a2 a3 a4 a5 a6 a7 a8 : Int) : lnk q a (1,[a0,a1,a2,a3,a4,a5,a6,a7,a8]) = (1,[a0,a1,a2,a3,a4,hdQ (q a false),ltQ (q a false),hdQ (q a true),ltQ (q a true)]) := rfl
theorem lnk_sudog (q : Qs) (a g c w n p r m : Int) : lnk q a (3,[g,c,w,n,p,r,m]) = (3,[g,c,w,nxtQ q c a,p,r,m]) := rfl
theorem lnk_other (q : Qs) (a : Int) (v : Int × List Int) (h : v.1 ≠ 1 ∧ v.1 ≠ 3) : lnk q a v = v := by unfold lnk; rw [if_neg h.1,if_neg h.2]
def relink (M : Hp) (q : Qs) : Hp := fun a => (M a).map (lnk q a)
theorem relink_upd (M : Hp) (q : Qs) (a : Int) (v : Int × List Int) : relink (upd M a v) q = upd (relink M q) a (lnk q a v) := by
 funext b
 unfold relink upd
 by_cases h : b = a
 ·rw [if_pos h,if_pos h,h]; rfl
 ·rw [if_neg h,if_neg h]
structure Sys (M : Hp) (q : Qs) : Prop where
 ch : ∀ c d s,s ∈ q c d → ∃ F,M c = some (1,F)
 sg : ∀ c d s,s ∈ q c d → ∃ g w n p r m,M s = some (3,[g,c,w,n,p,r,m])
 nd : ∀ c d,(q c d).Nodup
 dj : ∀ c s,s ∈ q c false → s ∉ q c true
 ln : relink M q = M
 sc : ∀ a F,M a = some (1,F) → F.length = 9
 ss : ∀ a F,M a = some (3,F) → F.length = 7
theorem Sys.lnk {M : Hp} {q : Qs} (h : Sys M q) {a : Int} {v : Int × List Int} (hv : M a = some v) : lnk q a v = v := by
 have := congrFun h.ln a
 unfold relink at this
 rw [hv] at this
 exact Option.some.inj this
theorem Sys.new {M : Hp} (h1 : ∀ a F,M a = some (1,F) → ∃ a0 a1 a2 a3 a4,F = [a0,a1,a2,a3,a4,-1,-1,-1,-1]) (h3 : ∀ a F,M a = some (3,F) → ∃ g c w p r m,F = [g,c,w,-1,p,r,m]) : Sys M (fun _ _ => []) := by
 refine ⟨fun c d s hs => (by cases hs),fun c d s hs => (by cases hs),fun c d => List.nodup_nil,fun c s hs => (by cases hs),?_,fun a F e => (by obtain ⟨a0,a1,a2,a3,a4,q⟩ := h1 a F e; rw [q]; rfl),fun a F e => (by obtain ⟨g,c,w,p,r,m,q⟩ := h3 a F e; rw [q]; rfl)⟩
 funext a
 unfold relink
 cases hv : M a with
 | none => rfl
 | some v =>
  obtain ⟨k,F⟩ := v
  show some _ = some _
  congr 1
  by_cases e1 : k = 1
  ·subst e1
   obtain ⟨a0,a1,a2,a3,a4,rfl⟩ := h1 a F hv
   rfl
  ·by_cases e3 : k = 3
   ·subst e3
    obtain ⟨g,c,w,p,r,m,rfl⟩ := h3 a F hv
    rfl
   ·exact lnk_other _ _ _ ⟨e1,e3⟩
theorem sucL_get : ∀ {l : List Int} (i : Nat) (x : Int),l.Nodup → l[i]? = some x → sucL l x = (l[i + 1]?).getD (-1)
 | [],i,x,_,h => by simp at h
 | [a],0,x,_,h => rfl
 | [a],i + 1,x,_,h => by simp at h
 | a :: b :: l,0,x,_,h => by
  simp at h
  subst h
  simp [sucL]
 | a :: b :: l,i + 1,x,hn,h => by
  have hx : x ∈ b :: l := List.mem_of_getElem? (by simpa using h)
  have hne : x ≠ a := fun e => by
   subst e
   exact (List.nodup_cons.1 hn).1 hx
  show (if x = a then b else sucL (b :: l) x) = _
  rw [if_neg hne,sucL_get i x (List.nodup_cons.1 hn).2 (by simpa using h)]
  simp
theorem sucL_not : ∀ {l : List Int} {x : Int},x ∉ l → sucL l x = -1
 | [],_,_ => rfl
 | [a],_,_ => rfl
 | a :: b :: l,x,h => by
  show (if x = a then b else sucL (b :: l) x) = _
  rw [if_neg (fun e : x = a => h (by rw [e]; exact List.mem_cons_self)),sucL_not (fun q => h (List.mem_cons_of_mem _ q))]
theorem Sys.nxt {M : Hp} {q : Qs} (h : Sys M q) {c s : Int} {d : Bool} (hs : s ∈ q c d) : nxtQ q c s = sucL (q c d) s := by
 unfold nxtQ
 cases d with
 | false => rw [if_pos hs]
 | true => rw [if_neg (fun k => h.dj c s k hs)]
theorem nxtQ_not {q : Qs} {c s : Int} (h : ∀ d,s ∉ q c d) : nxtQ q c s = -1 := by
 unfold nxtQ
 rw [if_neg (h false),sucL_not (h true)]
theorem Sys.updv {M : Hp} {q : Qs} {a : Int} {v : Int × List Int} (h : Sys M q) (hv : Go.Proofs.YtkhfgngcoiablaaGreatDoor.lnk q a v = v) (hk : ∀ F,M a = some (1,F) → v.1 = 1) (hs : ∀ c d,a ∈ q c d → ∃ g w n p r m,v = (3,[g,c,w,n,p,r,m])) (hl : (v.1 = 1 → v.2.length = 9) ∧ (v.1 = 3 → v.2.length = 7)) : Sys (upd M a v) q := by
 refine ⟨fun c d s k => ?_,fun c d s k => ?_,h.nd,h.dj,?_,fun b F e => ?_,fun b F e => ?_⟩
 ·obtain ⟨F,hF⟩ := h.ch c d s k
  by_cases e : c = a
  ·subst e
   exact ⟨v.2,by rw [upd_same,← hk F hF]⟩
  ·exact ⟨F,by rw [upd_ne e]; exact hF⟩
 ·by_cases e : s = a
  ·subst e
   obtain ⟨g,w,n,p,r,m,hv2⟩ := hs c d k
   exact ⟨g,w,n,p,r,m,by rw [upd_same,hv2]⟩
  ·rw [upd_ne e]; exact h.sg c d s k
 ·rw [relink_upd,h.ln,hv]
 ·by_cases q : b = a
  ·subst q; rw [upd_same] at e; cases e; exact hl.1 rfl
  ·rw [upd_ne q] at e; exact h.sc b F e
 ·by_cases q : b = a
  ·subst q; rw [upd_same] at e; cases e; exact hl.2 rfl
  ·rw [upd_ne q] at e; exact h.ss b F e
theorem Sys.fresh {M : Hp} {q : Qs} {a k : Int} {n : Nat} (h : Sys M q) (hM : M a = none) : Sys (upd M a (k,zerK k n)) q := by
 have hna : ∀ c d,a ∉ q c d := fun c d hs => by obtain ⟨g,w,n,p,r,m,e⟩ := h.sg c d a hs; rw [hM] at e; cases e
 have hqa : ∀ d,q a d = [] := fun d => by
  cases hq : q a d with
  | nil => rfl
  | cons x l => obtain ⟨F,e⟩ := h.ch a d x (by rw [hq]; exact List.mem_cons_self); rw [hM] at e; cases e
 refine h.updv ?_ (fun F e => by rw [hM] at e; cases e) (fun c d e => absurd e (hna c d)) ⟨fun e => by have e : k = 1 := e; subst e; rfl,fun e => by have e : k = 3 := e; subst e; rfl⟩
 by_cases e1 : k = 1
 ·subst e1
  show Go.Proofs.YtkhfgngcoiablaaGreatDoor.lnk q a (1,[0,0,0,0,-1,-1,-1,-1,-1]) = _
  rw [lnk_chan,hqa,hqa]; rfl
 ·by_cases e3 : k = 3
  ·subst e3
   show Go.Proofs.YtkhfgngcoiablaaGreatDoor.lnk q a (3,[-1,-1,0,-1,0,0,-1]) = _
   rw [lnk_sudog,nxtQ_not (fun d => hna _ d)]; rfl
  ·exact lnk_other _ _ _ ⟨e1,e3⟩
theorem Sys.none {M : Hp} {q : Qs} {a : Int} (h : Sys M q) (hM : ∀ F,M a ≠ some (1,F)) (d : Bool) : q a d = [] := by
 cases hq : q a d with
 | nil => rfl
 | cons x l => obtain ⟨F,e⟩ := h.ch a d x (by rw [hq]; exact List.mem_cons_self); exact absurd e (hM F)
end Go.Proofs.YtkhfgngcoiablaaGreatDoor
namespace Go.Proofs.YtkhfgngcoiablaaGreatDoor
open Go Go.LX
set_option maxRecDepth 100000
set_option linter.unusedVariables false
set_option linter.unusedSimpArgs false
set_option maxHeartbeats 32000000
structure Bst (R : List Rw) (ws vs C : List Int) (N W ph : Int) (L D Q : List PV) (z : ByteArray) (P B V Qr la : List PV) (m : Int) (M : Hp) : Prop where
 h : HM R ws C [] N W L D Q z
 r : RM R vs C [] N W P B V Qr la m
 c : Cont R ws M
 d : Cont R vs M
 ph : ph = 0
 w : C = List.replicate W.toNat 0
theorem Bst.colour {R R' : List Rw} {ws vs ws' vs' C C' DC : List Int} {N W ph : Int} {L D Q L' D' Q' : List PV} {z : ByteArray} {P B V Qr la P' B' V' Qr' : List PV} {m : Int} {M : Hp} {x e : Int} (S : Bst R ws vs C N W ph L D Q z P B V Qr la m M) (he : e = 0) (h1 : HM R' ws' C' [] N W L' D' Q' z) (g1 : RM R' vs' DC [] N W P' B' V' Qr' la m) (hC : C' = allocC ph x e C) (hD : DC = allocC ph x e C) : C = C' ∧ C = DC ∧ Q = Q' ∧ Qr = Qr' := by
 have : allocC ph x e C = C := by rw [S.ph,he,S.w]; exact allocC_white x
 rw [this] at hC hD
 exact ⟨hC.symm,hD.symm,by rw [h1.q,S.h.q,hC],by rw [g1.q,S.r.q,hD]⟩
structure BCh (M : Hp) (c b cap : Int) : Prop where
 c : M c = some (1,[cap,0,0,0,b,-1,-1,-1,-1])
 b : (cap = 0 ∧ b = -1) ∨ (0 < cap ∧ cap < 4 ∧ M b = some (2,List.replicate cap.toNat 0))
def capW (x : Int) : Int := IntKind.u64.wrap x % 4
theorem capW_bd (x : Int) : 0 ≤ capW x ∧ capW x < 4 := by unfold capW; omega
def ngor (n : Int) : Int := 1 + IntKind.u64.wrap n % 6
theorem ngor_bd (n : Int) : 1 ≤ ngor n ∧ ngor n ≤ 6 := by unfold ngor; omega
structure Bn (caps : List Int) (M : Hp) (chs bufs gs : List Int) : Prop where
 len : bufs.length = chs.length
 lec : chs.length ≤ caps.length
 ch : ∀ (j : Nat) (c x : Int),chs[j]? = some c → caps[j]? = some x → ∃ b,bufs[j]? = some b ∧ BCh M c b (capW x)
 nd : chs.Nodup
 bnd : ∀ (i j : Nat) (b : Int),bufs[i]? = some b → bufs[j]? = some b → 0 ≤ b → i = j
 gnd : gs.Nodup
 gr : ∀ (j : Nat) (g : Int),gs[j]? = some g → M g = some (4,[(j : Int),0,0,0,0,0,0,0,0,-1])
theorem Bn.new (caps : List Int) (M : Hp) : Bn caps M [] [] [] := ⟨rfl,Nat.zero_le _,fun j c x h => by simp at h,List.nodup_nil,fun i j b h => by simp at h,List.nodup_nil,fun j g h => by simp at h⟩
theorem Bn.chAt {caps : List Int} {M : Hp} {chs bufs gs : List Int} (h : Bn caps M chs bufs gs) {c : Int} (hc : c ∈ chs) : ∃ (j : Nat) (b x : Int),chs[j]? = some c ∧ caps[j]? = some x ∧ bufs[j]? = some b ∧ BCh M c b (capW x) := by
 obtain ⟨j,hj⟩ := List.getElem?_of_mem hc
 have hl := (List.getElem?_eq_some_iff.1 hj).1
 obtain ⟨x,hx⟩ : ∃ x,caps[j]? = some x := ⟨_,List.getElem?_eq_getElem (by have := h.lec; omega)⟩
 obtain ⟨b,hb,hB⟩ := h.ch j c x hj hx
 exact ⟨j,b,x,hj,hx,hb,hB⟩
theorem Bn.bufAt {caps : List Int} {M : Hp} {chs bufs gs : List Int} (h : Bn caps M chs bufs gs) {b : Int} (hb : b ∈ bufs) : b = -1 ∨ ∃ F,M b = some (2,F) := by
 obtain ⟨j,hj⟩ := List.getElem?_of_mem hb
 have hl := (List.getElem?_eq_some_iff.1 hj).1
 obtain ⟨c,hc⟩ : ∃ c,chs[j]? = some c := ⟨_,List.getElem?_eq_getElem (by have := h.len; omega)⟩
 obtain ⟨x,hx⟩ : ∃ x,caps[j]? = some x := ⟨_,List.getElem?_eq_getElem (by have := h.lec; have := h.len; omega)⟩
 obtain ⟨b',hb',hB⟩ := h.ch j c x hc hx
 obtain rfl : b = b' := Option.some.inj (hj.symm.trans hb')
 rcases hB.b with q | q
 ·exact .inl q.2
 ·exact .inr ⟨_,q.2.2⟩
theorem Bn.weaken {caps : List Int} {M M' : Hp} {chs bufs gs : List Int} (h : Bn caps M chs bufs gs) (hM : ∀ a v,M a = some v → M' a = some v) : Bn caps M' chs bufs gs := by
 refine ⟨h.len,h.lec,fun j c x hc hx => ?_,h.nd,h.bnd,h.gnd,fun j g hg => hM _ _ (h.gr j g hg)⟩
 obtain ⟨b,hb,hB⟩ := h.ch j c x hc hx
 refine ⟨b,hb,hM _ _ hB.c,?_⟩
 rcases hB.b with q | ⟨q1,q2,q3⟩
 ·exact .inl q
 ·exact .inr ⟨q1,q2,hM _ _ q3⟩
theorem Bn.chan0 {caps : List Int} {M : Hp} {chs bufs : List Int} (h : Bn caps M chs bufs []) {c x : Int} (hx : caps[chs.length]? = some x) (h0 : capW x = 0) (hc : M c = none) (G : Int × List Int) : Bn caps (upd (upd M c G) c (1,[capW x,0,0,0,-1,-1,-1,-1,-1])) (chs ++ [c]) (bufs ++ [-1]) [] := by
 have hlx := (List.getElem?_eq_some_iff.1 hx).1
 have hnc : c ∉ chs := fun q => by
  obtain ⟨_,_,_,_,_,_,hB⟩ := h.chAt q
  have := hB.c; rw [hc] at this; cases this
 have hw := h.weaken (M' := upd (upd M c G) c (1,[capW x,0,0,0,-1,-1,-1,-1,-1])) fun a v ha => by
  have : a ≠ c := fun q => by rw [q,hc] at ha; cases ha
  rw [upd_ne this,upd_ne this]; exact ha
 refine ⟨by simp [h.len],by simp; omega,fun j c' x' hj hx' => ?_,?_,fun i j b hi hj hb => ?_,List.nodup_nil,fun j g hg => by simp at hg⟩
 ·rw [List.getElem?_append] at hj
  split at hj
  ·obtain ⟨b,hb,hB⟩ := hw.ch j c' x' hj hx'
   exact ⟨b,by rw [List.getElem?_append_left (by rw [h.len]; assumption)]; exact hb,hB⟩
  ·rename_i q
   have hj0 : j = chs.length := by have := (List.getElem?_eq_some_iff.1 hj).1; simp at this; omega
   subst hj0
   simp at hj
   subst hj
   obtain rfl : x = x' := Option.some.inj (hx.symm.trans hx')
   exact ⟨-1,by rw [← h.len]; simp,upd_same _ _ _,.inl ⟨h0,rfl⟩⟩
 ·rw [List.nodup_append]
  exact ⟨h.nd,by simp,fun a ha b hb => by simp at hb; subst hb; exact fun e => hnc (e ▸ ha)⟩
 ·rw [List.getElem?_append] at hi hj
  split at hi <;> split at hj
  ·exact h.bnd i j b hi hj hb
  ·have := (List.getElem?_eq_some_iff.1 hj).1; simp at this; simp [this] at hj; omega
  ·have := (List.getElem?_eq_some_iff.1 hi).1; simp at this; simp [this] at hi; omega
  ·have := (List.getElem?_eq_some_iff.1 hi).1; simp at this; simp [this] at hi; omega
theorem Bn.chan1 {caps : List Int} {M : Hp} {chs bufs : List Int} (h : Bn caps M chs bufs []) {c b x : Int} (hx : caps[chs.length]? = some x) (h0 : 0 < capW x) (hc : M c = none) (G : Int × List Int) (hb : upd M c G b = none) : Bn caps (upd (upd (upd M c G) b (2,List.replicate (capW x).toNat 0)) c (1,[capW x,0,0,0,b,-1,-1,-1,-1])) (chs ++ [c]) (bufs ++ [b]) [] := by
 have hlx := (List.getElem?_eq_some_iff.1 hx).1
 have hbc : b ≠ c := fun q => by rw [q,upd_same] at hb; cases hb
 rw [upd_ne hbc] at hb
 have hnc : c ∉ chs := fun q => by
  obtain ⟨_,_,_,_,_,_,hB⟩ := h.chAt q
  have := hB.c; rw [hc] at this; cases this
 have hnb : b ∈ bufs → b = -1 := fun q => by
  rcases h.bufAt q with q | ⟨F,q⟩
  ·exact q
  ·rw [hb] at q; cases q
 have hw := h.weaken (M' := upd (upd (upd M c G) b (2,List.replicate (capW x).toNat 0)) c (1,[capW x,0,0,0,b,-1,-1,-1,-1])) fun a v ha => by
  have q1 : a ≠ c := fun q => by rw [q,hc] at ha; cases ha
  have q2 : a ≠ b := fun q => by rw [q,hb] at ha; cases ha
  rw [upd_ne q1,upd_ne q2,upd_ne q1]; exact ha
 refine ⟨by simp [h.len],by simp; omega,fun j c' x' hj hx' => ?_,?_,fun i j b' hi hj hb' => ?_,List.nodup_nil,fun j g hg => by simp at hg⟩
 ·rw [List.getElem?_append] at hj
  split at hj
  ·obtain ⟨b,hb,hB⟩ := hw.ch j c' x' hj hx'
   exact ⟨b,by rw [List.getElem?_append_left (by rw [h.len]; assumption)]; exact hb,hB⟩
  ·rename_i q
   have hj0 : j = chs.length := by have := (List.getElem?_eq_some_iff.1 hj).1; simp at this; omega
   subst hj0
   simp at hj
   subst hj
   obtain rfl : x = x' := Option.some.inj (hx.symm.trans hx')
   exact ⟨b,by rw [← h.len]; simp,upd_same _ _ _,.inr ⟨h0,(capW_bd x).2,by rw [upd_ne hbc,upd_same]⟩⟩
 ·rw [List.nodup_append]
  exact ⟨h.nd,by simp,fun a ha b hb => by simp at hb; subst hb; exact fun e => hnc (e ▸ ha)⟩
 ·rw [List.getElem?_append] at hi hj
  split at hi <;> split at hj
  ·exact h.bnd i j b' hi hj hb'
  ·have := (List.getElem?_eq_some_iff.1 hj).1; simp at this; simp [this] at hj; subst hj
   have := hnb (List.mem_of_getElem? hi); omega
  ·have := (List.getElem?_eq_some_iff.1 hi).1; simp at this; simp [this] at hi; subst hi
   have := hnb (List.mem_of_getElem? hj); omega
  ·have q1 := (List.getElem?_eq_some_iff.1 hi).1; have q2 := (List.getElem?_eq_some_iff.1 hj).1; simp at q1 q2; omega
theorem Bn.gor {caps : List Int} {M : Hp} {chs bufs gs : List Int} (h : Bn caps M chs bufs gs) {g j : Int} (hj : j = gs.length) (hg : M g = none) (G : Int × List Int) : Bn caps (upd (upd M g G) g (4,[j,0,0,0,0,0,0,0,0,-1])) chs bufs (gs ++ [g]) := by
 have hng : g ∉ gs := fun q => by
  obtain ⟨j,hj⟩ := List.getElem?_of_mem q
  rw [h.gr j g hj] at hg; cases hg
 have hw := h.weaken (M' := upd (upd M g G) g (4,[j,0,0,0,0,0,0,0,0,-1])) fun a v ha => by
  have : a ≠ g := fun q => by rw [q,hg] at ha; cases ha
  rw [upd_ne this,upd_ne this]; exact ha
 refine ⟨h.len,h.lec,hw.ch,h.nd,h.bnd,?_,fun k x hk => ?_⟩
 ·rw [List.nodup_append]
  exact ⟨h.gnd,by simp,fun a ha b hb => by simp at hb; subst hb; exact fun e => hng (e ▸ ha)⟩
 ·rw [List.getElem?_append] at hk
  split at hk
  ·exact hw.gr k x hk
  ·have := (List.getElem?_eq_some_iff.1 hk).1; simp at this
   have hk0 : k = gs.length := by omega
   subst hk0
   simp at hk
   subst hk
   rw [upd_same,hj]
end Go.Proofs.YtkhfgngcoiablaaGreatDoor
namespace Go.Proofs.YtkhfgngcoiablaaGreatDoor
open Go Go.LX
set_option maxRecDepth 100000
set_option linter.unusedVariables false
set_option linter.unusedSimpArgs false
set_option maxHeartbeats 32000000
theorem alloc18_lx (R : List Rw) (ws vs C : List Int) (N W ph sp cy : Int) (L D Q : List PV) (z : ByteArray) (ov : Bool) (P B V Qr la : List PV) (m : Int) (M : Hp) (nc ng : Int) (cs gs : List PV) (o : Unit → Obj) (S : Bst R ws vs C N W ph L D Q z P B V Qr la m M) (kd n : Int) (hk : 0 ≤ n ∧ n ≤ 31 ∧ 1 ≤ kd ∧ kd ≤ 6) (hlen : lenK kd n.toNat) (hroom : objCount R < R.length) : CallF (fun _ => Tryz.prog) 106 [.ptr 16 (.lit 0),i6 kd,i6 n] [hpA 0 1 5 6 3 W ph sp cy,hpB 1 2 4 3 W,hpC 2 3 233 2 N,hpP 3 L,hpP 4 D,hpF 5 z ov,hpP 6 Q,hpR 7 8 13 3 W 14 ph sp cy,hpB 8 9 12 3 W,hpD 9 10 3 1 N 11 231 8 N,hpP 10 P,hpP 11 B,hpP 12 V,hpP 13 Qr,(14,.mix [.p (.vsl (.sym m) true la),.p (.bool ov)]),(15,.fix 0 o),(16,.mix [.ptr 0 (.lit 0),.ptr 7 (.lit 0),.sl 17 3 1 (.lit 0) (.sym nc),.sl 18 3 1 (.lit 0) (.sym ng)]),hpP 17 cs,hpP 18 gs] 19 (fun r h n' => ∃ (x : Int) (R' : List Rw) (ws' vs' : List Int) (L' D' P' B' V' : List PV),r = .p (.int .i64 (.sym x)) ∧ h = [hpA 0 1 5 6 3 W ph sp cy,hpB 1 2 4 3 W,hpC 2 3 233 2 N,hpP 3 L',hpP 4 D',hpF 5 z ov,hpP 6 Q,hpR 7 8 13 3 W 14 ph sp cy,hpB 8 9 12 3 W,hpD 9 10 3 1 N 11 231 8 N,hpP 10 P',hpP 11 B',hpP 12 V',hpP 13 Qr,(14,.mix [.p (.vsl (.sym m) true la),.p (.bool ov)]),(15,.fix 0 o),(16,.mix [.ptr 0 (.lit 0),.ptr 7 (.lit 0),.sl 17 3 1 (.lit 0) (.sym nc),.sl 18 3 1 (.lit 0) (.sym ng)]),hpP 17 cs,hpP 18 gs] ∧ n' = 19 ∧ Bst R' ws' vs' C N W ph L' D' Q z P' B' V' Qr la m (upd M x (kd,zerK kd n.toNat)) ∧ objCount R' = objCount R + 1 ∧ M x = Option.none ∧ 0 ≤ x ∧ x < W ∧ R'.length = R.length) := by
 refine callF_of_body tok Tryz.func106 (by kernel_rfl) rfl rfl rfl ?_; conv => cbv
 refine cfr (alloc9_lx R ws C [] N W ph sp cy L D Q z ov S.h kd n) [(0,0),(1,1),(2,2),(3,3),(4,4),(5,5),(6,6)] (fun r h' n' hrr => ?_)
 obtain ⟨x,e,R',ws',C',L',D',Q',e1,e2,e3,h1,hT,hC⟩ := hrr
 subst e1 e2 e3
 conv => cbv
 refine cfr (ralloc9_lx R vs C [] N W ph sp cy P B V Qr la m ov S.r kd n) [(0,7),(1,8),(2,9),(3,10),(4,11),(5,12),(6,13),(7,14)] (fun r h' n' hrr => ?_)
 obtain ⟨y,f,Y,vs',DC,P',B',V',Qr',e1,e2,e3,g1,hU,hD⟩ := hrr
 subst e1 e2 e3
 obtain ⟨q1,q2,q3,hS1,hl1⟩ := (S.c.toSim S.h.a S.r.a S.d).alloc hT hU
 subst q1 q2 q3
 obtain ⟨he,hM1,hc1,hx0,hx1,hx2,hx3⟩ := S.c.alloc S.h.a hroom hk hlen hT
 obtain ⟨q4,q5,q6,q7⟩ := Bst.colour S he h1 g1 hC hD
 subst q4 q5 q6 q7
 conv => cbv
 refine Br.no (show ¬ ¬ (x = x) from fun q => q rfl) ?_
 conv => cbv
 refine Br.no (show ¬ ¬ (e = 0) from fun q => q he) ?_
 conv => cbv
 refine Br.no (show ¬ ¬ (e = 0) from fun q => q he) ?_
 conv => cbv
 refine RetF.mk [i6 x] [hpA 0 1 5 6 3 W ph sp cy,hpB 1 2 4 3 W,hpC 2 3 233 2 N,hpP 3 L',hpP 4 D',hpF 5 z ov,hpP 6 Q,hpR 7 8 13 3 W 14 ph sp cy,hpB 8 9 12 3 W,hpD 9 10 3 1 N 11 231 8 N,hpP 10 P',hpP 11 B',hpP 12 V',hpP 13 Qr,(14,.mix [.p (.vsl (.sym m) true la),.p (.bool ov)]),(15,.fix 0 o),(16,.mix [.ptr 0 (.lit 0),.ptr 7 (.lit 0),.sl 17 3 1 (.lit 0) (.sym nc),.sl 18 3 1 (.lit 0) (.sym ng)]),hpP 17 cs,hpP 18 gs] 19 (Re.at [(0,0),(1,1),(2,2),(3,3),(4,4),(5,5),(6,6),(7,7),(8,8),(9,9),(10,10),(11,11),(12,12),(13,13),(14,14),(15,15),(16,16),(17,17),(18,18)] []) rfl ⟨x,R',ws',vs',L',D',P',B',V',rfl,rfl,rfl,⟨h1,g1,hM1,hM1.sim hS1,S.ph,S.w⟩,hc1,hx0,hx1,by rw [S.h.w,S.h.n]; exact hx2,hx3⟩
theorem made18_lx (o : Unit → Obj) (ho : IsPow o) (caps : List Int) (mc n : Int) (CL : List PV) (hCL : CL = ipv caps) (hmc : mc = caps.length) : CallF (fun _ => Tryz.prog) 44 [.p (.vsl (.sym mc) true CL),i6 n] [(0,.fix 0 o)] 1 (fun r h n' => ∃ (N W : Int) (C : List Int) (R : List Rw) (ws vs : List Int) (L D Q : List PV) (z : ByteArray) (P B V Qr : List PV) (M : Hp) (CS GS : List PV) (chs bufs grs : List Int) (nc ng : Int),r = .ptr 16 (.lit 0) ∧ h = [hpA 1 2 6 7 3 W 0 0 0,hpB 2 3 5 3 W,hpC 3 4 233 2 N,hpP 4 L,hpP 5 D,hpF 6 z false,hpP 7 Q,hpR 8 9 14 3 W 15 0 0 0,hpB 9 10 13 3 W,hpD 10 11 3 1 N 12 231 8 N,hpP 11 P,hpP 12 B,hpP 13 V,hpP 14 Qr,(15,.mix [.p (.vsl (.sym 0) true []),.p (.bool false)]),(0,.fix 0 o),(16,.mix [.ptr 1 (.lit 0),.ptr 8 (.lit 0),.sl 17 3 1 (.lit 0) (.sym nc),.sl 18 3 1 (.lit 0) (.sym ng)]),hpP 17 CS,hpP 18 GS] ∧ n' = 19 ∧ Bst R ws vs C N W 0 L D Q z P B V Qr [] 0 M ∧ Bn caps M chs bufs grs ∧ Sys M (fun _ _ => []) ∧ CS = ipv chs ∧ GS = ipv grs ∧ nc = (chs.length : Int) ∧ ng = (grs.length : Int) ∧ (nc = mc ∨ nc = 4) ∧ nc ≤ mc ∧ nc ≤ 4 ∧ ng = ngor n ∧ (objCount R : Int) ≤ 2 * nc + ng ∧ R.length = 60 ∧ W = 1920) := by
 refine callF_of_bodyB tok Tryz.func44 (by kernel_rfl) rfl rfl rfl [6] ?_; conv => cbv
 obtain ⟨N,hN⟩ : ∃ N : Int,N = 60 := ⟨_,rfl⟩
 obtain ⟨W,hW⟩ : ∃ W,W = 32 * N := ⟨_,rfl⟩
 obtain ⟨Rz,hRz⟩ : ∃ Rz,Rz = List.replicate N.toNat ((0,[]) : Rw) := ⟨_,rfl⟩
 obtain ⟨wz,hwz⟩ : ∃ wz,wz = List.replicate W.toNat (0 : Int) := ⟨_,rfl⟩
 obtain ⟨L0,hL0⟩ : ∃ L0,L0 = rpv Rz := ⟨_,rfl⟩
 obtain ⟨D0,hD0⟩ : ∃ D0,D0 = ipv wz := ⟨_,rfl⟩
 obtain ⟨z0,hz0⟩ : ∃ z0 : ByteArray,z0 = ⟨(enc []).toArray⟩ := ⟨_,rfl⟩
 have h0 : HM Rz wz wz [] N W L0 D0 D0 z0 := by rw [hRz,hwz] at *; exact HM.new (by omega) (by omega) hW hL0 hD0 hD0 hz0
 refine CallF.le (args0 := [i6 N]) (callF_frame (newH_lx N W (by omega) (by omega) hW L0 D0 D0 z0 (by rw [hL0,hRz]) (by rw [hD0,hwz]) (by rw [hD0,hwz]) hz0) [] rfl trivial rfl rfl (fun r h' n' ⟨e1,e2,e3⟩ => ?_)) (by simp [ales,ale,pvle,I.val,hN])
 subst e1 e2 e3
 conv => cbv
 refine CallF.le (args0 := [i6 N]) (callF_frame (rnewH_lx N W (by omega) (by omega) hW) [] rfl trivial rfl rfl (fun r h' n' hrr => ?_)) (by simp [ales,ale,pvle,I.val,hN])
 obtain ⟨P0,B0,V0,Qr0,e1,e2,e3,g0⟩ := hrr
 subst e1 e2 e3
 rw [← hRz,← hwz] at g0
 have hC0 : Cont Rz wz (fun _ => Option.none) := by rw [hRz,hwz]; exact Cont.new _ _
 have hlz : Rz.length = 60 := by rw [hRz,List.length_replicate]; omega
 have hcz : objCount Rz = 0 := by rw [hRz]; exact new_count _
 have hwz' : wz = List.replicate W.toNat 0 := hwz
 conv => cbv
 refine cfr (arena_lx Rz wz wz [] N W 0 0 0 L0 D0 D0 z0 false) [(0,1),(1,2),(2,3),(3,4),(4,5),(5,6),(6,7)] (fun r h' n' ⟨e1,e2,e3⟩ => ?_)
 subst e1 e2 e3
 conv => cbv
 refine JoinF.mk (fun s => ∃ (i : Int) (R : List Rw) (ws vs : List Int) (L D P B V : List PV) (M : Hp) (CS : List PV) (chs bufs : List Int),s = ⟨.p (.vsl (.sym mc) true CL) :: .p (.int .i64 (.sym n)) :: (undefs 3 ++ .ptr 1 (.lit 0) :: .undef :: .ptr 8 (.lit 0) :: .undef :: .ptr 16 (.lit 0) :: .undef :: undefs 108),[hpA 1 2 6 7 3 W 0 0 0,hpB 2 3 5 3 W,hpC 3 4 233 2 N,hpP 4 L,hpP 5 D,hpF 6 z0 false,hpP 7 D0,hpR 8 9 14 3 W 15 0 0 0,hpB 9 10 13 3 W,hpD 10 11 3 1 N 12 231 8 N,hpP 11 P,hpP 12 B,hpP 13 V,hpP 14 Qr0,(15,.mix [.p (.vsl (.sym 0) true []),.p (.bool false)]),(0,.fix 0 o),(16,.mix [.ptr 1 (.lit 0),.ptr 8 (.lit 0),.sl 17 3 1 (.lit 0) (.sym i),.sl 18 3 1 (.lit 0) (.sym 0)]),hpP 17 CS,(18,.pure true [])],19⟩ ∧ 0 ≤ i ∧ (i = mc ∨ i = 4) ∧ i ≤ mc ∧ i ≤ 4 ∧ Bst R ws vs wz N W 0 L D D0 z0 P B V Qr0 [] 0 M ∧ Bn caps M chs bufs [] ∧ Sys M (fun _ _ => []) ∧ CS = ipv chs ∧ i = chs.length ∧ objCount R ≤ 2 * i ∧ R.length = 60) ?_ ?_
 ·refine LoopF.mk (fun kk s => ∃ (i : Int) (R : List Rw) (ws vs : List Int) (L D P B V : List PV) (M : Hp) (CS : List PV) (chs bufs : List Int),s = ⟨.p (.vsl (.sym mc) true CL) :: .p (.int .i64 (.sym n)) :: (undefs 3 ++ .ptr 1 (.lit 0) :: .undef :: .ptr 8 (.lit 0) :: .undef :: .ptr 16 (.lit 0) :: .p (.int .i64 (.sym i)) :: undefs 108),[hpA 1 2 6 7 3 W 0 0 0,hpB 2 3 5 3 W,hpC 3 4 233 2 N,hpP 4 L,hpP 5 D,hpF 6 z0 false,hpP 7 D0,hpR 8 9 14 3 W 15 0 0 0,hpB 9 10 13 3 W,hpD 10 11 3 1 N 12 231 8 N,hpP 11 P,hpP 12 B,hpP 13 V,hpP 14 Qr0,(15,.mix [.p (.vsl (.sym 0) true []),.p (.bool false)]),(0,.fix 0 o),(16,.mix [.ptr 1 (.lit 0),.ptr 8 (.lit 0),.sl 17 3 1 (.lit 0) (.sym i),.sl 18 3 1 (.lit 0) (.sym 0)]),hpP 17 CS,(18,.pure true [])],19⟩ ∧ 0 ≤ i ∧ i ≤ mc ∧ i ≤ 4 ∧ kk = (4 - i).toNat ∧ Bst R ws vs wz N W 0 L D D0 z0 P B V Qr0 [] 0 M ∧ Bn caps M chs bufs [] ∧ Sys M (fun _ _ => []) ∧ CS = ipv chs ∧ i = chs.length ∧ objCount R ≤ 2 * i ∧ R.length = 60) 4 _
   (Re.at [(0,0),(1,1),(2,2),(3,3),(4,4),(5,5),(6,6),(7,7),(8,8),(9,9),(10,10),(11,11),(12,12),(13,13),(14,14),(15,15),(16,16)] [17,18]) ⟨0,Rz,wz,wz,L0,D0,P0,B0,V0,(fun _ => Option.none),[],[],[],rfl,by omega,by omega,by omega,by omega,⟨h0,g0,hC0,hC0,rfl,hwz'⟩,Bn.new _ _,Sys.new (fun a F e => by cases e) (fun a F e => by cases e),rfl,rfl,by omega,hlz⟩ ?_
  rintro kk s ⟨i,R,ws,vs,L,D,P,B,V,M,CS,chs,bufs,rfl,hi0,hi1,hi2,hkk,S,hB,hY,hcs,hil,hcnt,hR⟩
  have hil : i = (chs.length : Int) := hil
  have hcnt : (objCount R : Int) ≤ 2 * i := hcnt
  conv => cbv
  refine Br.mk (fun gi => ?_) (fun gi => ?_)
  ·have gi : i < mc := gi
   conv => cbv
   refine Br.mk (fun g4 => ?_) (fun g4 => ?_)
   ·have g4 : i < 4 := g4
    obtain ⟨cx,hcx⟩ : ∃ a,caps[i.toNat]? = some a := ⟨_,List.getElem?_eq_getElem (by omega)⟩
    have hcell : CL[i.toNat]? = some (.int .i64 (.sym cx)) := by rw [hCL]; exact ipv_get hcx
    conv => cbv
    refine Need.mk (show 0 ≤ i ∧ i < mc from ⟨hi0,gi⟩) ?_
    conv => cbv
    refine Cell.at i _ hcell (by simp [I.val]) rfl ?_
    conv => cbv
    refine Fit.wrap fun xn hxn => ?_
    have hxn : xn = IntKind.u64.wrap cx := hxn
    have hyn : 0 ≤ xn := by rw [hxn]; simp [IntKind.wrap,IntKind.bits,IntKind.signed]; omega
    conv => cbv
    refine Sum.mk fun tn htn => ?_
    have htn : tn = xn % 4 := (show tn = xn.tmod 4 from htn).trans (Int.tmod_eq_emod_of_nonneg hyn)
    conv => cbv
    refine Fit.mk (by show (-9223372036854775808 : Int) ≤ tn; omega) (by show tn ≤ 9223372036854775807; omega) fun cp hcp => ?_
    have hcp : cp = capW cx := by unfold capW; rw [← hxn,← htn]; exact hcp
    have hcb := capW_bd cx
    clear htn hyn
    conv => cbv
    refine CallF.le (args0 := [.ptr 16 (.lit 0),i6 1,i6 9]) (cfr (alloc18_lx R ws vs wz N W 0 0 0 L D D0 z0 false P B V Qr0 [] 0 M i 0 CS [] o S 1 9 (by decide) ⟨fun _ => rfl,fun q => absurd q (by decide),fun q => absurd q (by decide)⟩ (by rw [hR]; omega)) [(0,1),(1,2),(2,3),(3,4),(4,5),(5,6),(6,7),(7,8),(8,9),(9,10),(10,11),(11,12),(12,13),(13,14),(14,15),(15,0),(16,16),(17,17),(18,18)] (fun r h' n' hrr => ?_)) (by simp [ales,ale,pvle,I.val])
    obtain ⟨at_,R1,ws1,vs1,L1,D1,P1,B1,V1,e1,e2,e3,S1,hk1,hx1,hp1,hq1,hl1⟩ := hrr
    subst e1 e2 e3
    have hR1 : R1.length = 60 := hl1.trans hR
    conv => cbv
    refine Br.mk (fun g0 => ?_) (fun g0 => ?_)
    ·have g0 : 0 < cp := g0
     conv => cbv
     refine CallF.le (args0 := [.ptr 16 (.lit 0),i6 2,i6 cp]) (cfr (alloc18_lx R1 ws1 vs1 wz N W 0 0 0 L1 D1 D0 z0 false P1 B1 V1 Qr0 [] 0 _ i 0 CS [] o S1 2 cp (by omega) ⟨fun q => absurd q (by decide),fun q => absurd q (by decide),fun q => absurd q (by decide)⟩ (by rw [hR1]; omega)) [(0,1),(1,2),(2,3),(3,4),(4,5),(5,6),(6,7),(7,8),(8,9),(9,10),(10,11),(11,12),(12,13),(13,14),(14,15),(15,0),(16,16),(17,17),(18,18)] (fun r h' n' hrr => ?_)) (by simp [ales,ale,pvle,I.val])
     obtain ⟨bf,R2,ws2,vs2,L2,D2,P2,B2,V2,e1,e2,e3,S2,hk2,hx2,hp2,hq2,hl2⟩ := hrr
     subst e1 e2 e3
     have hR2 : R2.length = 60 := hl2.trans hR1
     conv => cbv
     have hab : at_ ≠ bf := fun q => by
      rw [← q,upd_same] at hx2
      cases hx2
     have hbfW : bf ≤ 5000 := by omega
     have hbb : ∀ x ∈ [cp,0,0,0,bf,-1,-1,-1,-1],b62 x := by
      simp only [List.forall_mem_cons]
      unfold b62
      exact ⟨by omega,by omega,by omega,by omega,by omega,by omega,by omega,by omega,by omega,fun x hx => by cases hx⟩
     have hpp : ∀ x ∈ [bf,-1,-1,-1,-1],-1 ≤ x := by
      simp only [List.forall_mem_cons]
      exact ⟨by omega,by omega,by omega,by omega,by omega,fun x hx => by cases hx⟩
     refine drawn_sound tok (by kernel_rfl) [(3,[6,5,4]),(7,[])] [0,1,2,4,5,6,3,7,8] (by kernel_rfl) ?_; conv => cbv
     refine CallF.le (args0 := [.ptr 1 (.lit 0),i6 at_,.agg [i6 cp,i6 0,i6 0,i6 0,i6 bf,i6 (-1),i6 (-1),i6 (-1),i6 (-1)]]) (cfr (putChanM_lx R2 ws2 wz [] N W 0 0 0 L2 D2 D0 z0 false S2.h _ S2.c o ho rfl at_ cp 0 0 0 bf (-1) (-1) (-1) (-1) (zerK 1 9) ((upd_ne hab).trans (upd_same _ _ _)) rfl hbb hpp) [(0,1),(1,2),(2,3),(3,4),(4,5),(5,6),(6,7),(7,0)] (fun r h' n' hrr => ?_)) (by simp [ales,ale,pvle,I.val])
     obtain ⟨e8,ws8,D8,e1,he8,e2,e3,h8,c8⟩ := hrr
     subst e1 e2 e3
     conv => cbv
     refine CallF.le (args0 := [.ptr 8 (.lit 0),i6 at_,.agg [i6 cp,i6 0,i6 0,i6 0,i6 bf,i6 (-1),i6 (-1),i6 (-1),i6 (-1)]]) (cfr (rPutChanM_lx R2 vs2 wz [] N W 0 0 0 P2 B2 V2 Qr0 [] 0 false S2.r _ S2.d rfl at_ cp 0 0 0 bf (-1) (-1) (-1) (-1) (zerK 1 9) ((upd_ne hab).trans (upd_same _ _ _)) rfl hbb hpp) [(0,8),(1,9),(2,10),(3,11),(4,12),(5,13),(6,14),(7,15)] (fun r h' n' hrr => ?_)) (by simp [ales,ale,pvle,I.val])
     obtain ⟨e9,vs9,V9,e1,he9,e2,e3,h9,c9⟩ := hrr
     subst e1 e2 e3
     conv => cbv
     refine Br.no (show ¬ ¬ (e8 = e9) from fun q => q (he8.trans he9.symm)) ?_
     conv => cbv
     have hcl : CS.length = chs.length := by rw [hcs,ipv_length]
     refine Room.new rfl ?_
     conv => cbv
     refine Room.new ⟨?_,?_,?_⟩ ?_
     ·show (CS.length : Int) = i * 1; omega
     ·show (i + 1) * 8 ≤ 140737488355328; omega
     ·show i + 1 ≤ 9223372036854775807; omega
     conv => cbv
     refine Upd.mk fun cells2 hcs2 => ?_
     have hcs2 : cells2 = CS ++ [.int .i64 (.sym at_)] := hcs2
     have hcs3 : cells2 = ipv (chs ++ [at_]) := by rw [hcs2,hcs,← ipv_app]; rfl
     conv => cbv
     refine Sum.mk fun j2 hj2 => ?_
     have hj2 : j2 = i + 1 := hj2
     conv => cbv
     refine Fit.mk (by show (-9223372036854775808 : Int) ≤ i + 1; omega) (by show i + 1 ≤ 9223372036854775807; omega) fun i2 hiq => ?_
     have hiq : i2 = i + 1 := hiq
     obtain rfl : j2 = i2 := hj2.trans hiq.symm
     conv => cbv
     refine Again.mk (4 - j2).toNat _ (by omega) (Re.at [(0,0),(1,1),(2,2),(3,3),(4,4),(5,5),(6,6),(7,7),(8,8),(9,9),(10,10),(11,11),(12,12),(13,13),(14,14),(15,15),(16,16),(18,18),(21,17)] []) ⟨j2,R2,ws8,vs9,L2,D8,P2,B2,V9,_,cells2,chs ++ [at_],bufs ++ [_],rfl,by omega,by omega,by omega,rfl,⟨h8,h9,c8,c9,rfl,hwz'⟩,by have := hB.chan1 (x := cx) (c := at_) (b := bf) (by rw [show chs.length = i.toNat by omega]; exact hcx) (by rw [← hcp]; exact g0) hx1 _ hx2; rw [← hcp] at this; exact this,((hY.fresh hx1).fresh hx2).updv rfl (fun F _ => rfl) (fun c d h => (by cases h)) ⟨fun _ => rfl,fun q => absurd (show (1 : Int) = 3 from q) (by decide)⟩,hcs3,by rw [List.length_append]; show j2 = ((chs.length + 1 : Nat) : Int); omega,(show (objCount R2 : Int) ≤ 2 * j2 by omega),hR2⟩
    ·have g0 : ¬ 0 < cp := g0
     conv => cbv
     have hbb : ∀ x ∈ [cp,0,0,0,(-1),-1,-1,-1,-1],b62 x := by
      simp only [List.forall_mem_cons]
      unfold b62
      exact ⟨by omega,by omega,by omega,by omega,by omega,by omega,by omega,by omega,by omega,fun x hx => by cases hx⟩
     have hpp : ∀ x ∈ [(-1),-1,-1,-1,-1],-1 ≤ x := by
      simp only [List.forall_mem_cons]
      exact ⟨by omega,by omega,by omega,by omega,by omega,fun x hx => by cases hx⟩
     refine drawn_sound tok (by kernel_rfl) [(3,[6,5,4]),(7,[])] [0,1,2,4,5,6,3,7,8] (by kernel_rfl) ?_; conv => cbv
     refine CallF.le (args0 := [.ptr 1 (.lit 0),i6 at_,.agg [i6 cp,i6 0,i6 0,i6 0,i6 (-1),i6 (-1),i6 (-1),i6 (-1),i6 (-1)]]) (cfr (putChanM_lx R1 ws1 wz [] N W 0 0 0 L1 D1 D0 z0 false S1.h _ S1.c o ho rfl at_ cp 0 0 0 (-1) (-1) (-1) (-1) (-1) (zerK 1 9) (upd_same _ _ _) rfl hbb hpp) [(0,1),(1,2),(2,3),(3,4),(4,5),(5,6),(6,7),(7,0)] (fun r h' n' hrr => ?_)) (by simp [ales,ale,pvle,I.val])
     obtain ⟨e8,ws8,D8,e1,he8,e2,e3,h8,c8⟩ := hrr
     subst e1 e2 e3
     conv => cbv
     refine CallF.le (args0 := [.ptr 8 (.lit 0),i6 at_,.agg [i6 cp,i6 0,i6 0,i6 0,i6 (-1),i6 (-1),i6 (-1),i6 (-1),i6 (-1)]]) (cfr (rPutChanM_lx R1 vs1 wz [] N W 0 0 0 P1 B1 V1 Qr0 [] 0 false S1.r _ S1.d rfl at_ cp 0 0 0 (-1) (-1) (-1) (-1) (-1) (zerK 1 9) (upd_same _ _ _) rfl hbb hpp) [(0,8),(1,9),(2,10),(3,11),(4,12),(5,13),(6,14),(7,15)] (fun r h' n' hrr => ?_)) (by simp [ales,ale,pvle,I.val])
     obtain ⟨e9,vs9,V9,e1,he9,e2,e3,h9,c9⟩ := hrr
     subst e1 e2 e3
     conv => cbv
     refine Br.no (show ¬ ¬ (e8 = e9) from fun q => q (he8.trans he9.symm)) ?_
     conv => cbv
     have hcl : CS.length = chs.length := by rw [hcs,ipv_length]
     refine Room.new rfl ?_
     conv => cbv
     refine Room.new ⟨?_,?_,?_⟩ ?_
     ·show (CS.length : Int) = i * 1; omega
     ·show (i + 1) * 8 ≤ 140737488355328; omega
     ·show i + 1 ≤ 9223372036854775807; omega
     conv => cbv
     refine Upd.mk fun cells2 hcs2 => ?_
     have hcs2 : cells2 = CS ++ [.int .i64 (.sym at_)] := hcs2
     have hcs3 : cells2 = ipv (chs ++ [at_]) := by rw [hcs2,hcs,← ipv_app]; rfl
     conv => cbv
     refine Sum.mk fun j2 hj2 => ?_
     have hj2 : j2 = i + 1 := hj2
     conv => cbv
     refine Fit.mk (by show (-9223372036854775808 : Int) ≤ i + 1; omega) (by show i + 1 ≤ 9223372036854775807; omega) fun i2 hiq => ?_
     have hiq : i2 = i + 1 := hiq
     obtain rfl : j2 = i2 := hj2.trans hiq.symm
     conv => cbv
     refine Again.mk (4 - j2).toNat _ (by omega) (Re.at [(0,0),(1,1),(2,2),(3,3),(4,4),(5,5),(6,6),(7,7),(8,8),(9,9),(10,10),(11,11),(12,12),(13,13),(14,14),(15,15),(16,16),(18,18),(21,17)] []) ⟨j2,R1,ws8,vs9,L1,D8,P1,B1,V9,_,cells2,chs ++ [at_],bufs ++ [_],rfl,by omega,by omega,by omega,rfl,⟨h8,h9,c8,c9,rfl,hwz'⟩,by have := hB.chan0 (x := cx) (c := at_) (by rw [show chs.length = i.toNat by omega]; exact hcx) (by rw [← hcp]; omega) hx1 (1,zerK 1 (9 : Int).toNat); rw [← hcp] at this; exact this,(hY.fresh hx1).updv rfl (fun F _ => rfl) (fun c d h => (by cases h)) ⟨fun _ => rfl,fun q => absurd (show (1 : Int) = 3 from q) (by decide)⟩,hcs3,by rw [List.length_append]; show j2 = ((chs.length + 1 : Nat) : Int); omega,(show (objCount R1 : Int) ≤ 2 * j2 by omega),hR1⟩
   ·have g4 : ¬ i < 4 := g4
    conv => cbv
    refine Joined.mk _ (Re.at [(0,0),(1,1),(2,2),(3,3),(4,4),(5,5),(6,6),(7,7),(8,8),(9,9),(10,10),(11,11),(12,12),(13,13),(14,14),(15,15),(16,16),(17,17),(18,18)] []) ⟨i,R,ws,vs,L,D,P,B,V,M,CS,chs,bufs,rfl,hi0,by omega,hi1,hi2,S,hB,hY,hcs,hil,hcnt,hR⟩
  ·have gi : ¬ i < mc := gi
   conv => cbv
   refine Joined.mk _ (Re.at [(0,0),(1,1),(2,2),(3,3),(4,4),(5,5),(6,6),(7,7),(8,8),(9,9),(10,10),(11,11),(12,12),(13,13),(14,14),(15,15),(16,16),(17,17),(18,18)] []) ⟨i,R,ws,vs,L,D,P,B,V,M,CS,chs,bufs,rfl,hi0,by omega,hi1,hi2,S,hB,hY,hcs,hil,hcnt,hR⟩
 ·rintro s ⟨i,R,ws,vs,L,D,P,B,V,M,CS,chs,bufs,rfl,hi0,him,hi1,hi2,S,hB,hY,hcs,hil,hcnt,hR⟩
  have hil : i = (chs.length : Int) := hil
  have hcnt : (objCount R : Int) ≤ 2 * i := hcnt
  conv => cbv
  obtain ⟨ng,hng⟩ : ∃ ng,ng = ngor n := ⟨_,rfl⟩
  have hngb := ngor_bd n
  rw [← hng] at hngb
  refine LoopF.mk (fun kk s => ∃ (j : Int) (R : List Rw) (ws vs : List Int) (L D P B V : List PV) (M : Hp) (GS : List PV) (grs : List Int),s = ⟨.p (.vsl (.sym mc) true CL) :: .p (.int .i64 (.sym n)) :: (undefs 3 ++ .ptr 1 (.lit 0) :: .undef :: .ptr 8 (.lit 0) :: .undef :: .ptr 16 (.lit 0) :: (undefs 3 ++ .p (.int .i64 (.sym j)) :: undefs 105)),[hpA 1 2 6 7 3 W 0 0 0,hpB 2 3 5 3 W,hpC 3 4 233 2 N,hpP 4 L,hpP 5 D,hpF 6 z0 false,hpP 7 D0,hpR 8 9 14 3 W 15 0 0 0,hpB 9 10 13 3 W,hpD 10 11 3 1 N 12 231 8 N,hpP 11 P,hpP 12 B,hpP 13 V,hpP 14 Qr0,(15,.mix [.p (.vsl (.sym 0) true []),.p (.bool false)]),(0,.fix 0 o),(16,.mix [.ptr 1 (.lit 0),.ptr 8 (.lit 0),.sl 17 3 1 (.lit 0) (.sym i),.sl 18 3 1 (.lit 0) (.sym j)]),hpP 17 CS,hpP 18 GS],19⟩ ∧ 0 ≤ j ∧ j ≤ ng ∧ kk = (ng - j).toNat ∧ Bst R ws vs wz N W 0 L D D0 z0 P B V Qr0 [] 0 M ∧ Bn caps M chs bufs grs ∧ Sys M (fun _ _ => []) ∧ GS = ipv grs ∧ j = grs.length ∧ objCount R ≤ 2 * i + j ∧ R.length = 60) ng.toNat _
   (Re.at [(0,0),(1,1),(2,2),(3,3),(4,4),(5,5),(6,6),(7,7),(8,8),(9,9),(10,10),(11,11),(12,12),(13,13),(14,14),(15,15),(16,16),(17,17),(18,18)] []) ⟨0,R,ws,vs,L,D,P,B,V,M,[],[],rfl,by omega,by omega,by omega,S,hB,hY,rfl,rfl,(show (objCount R : Int) ≤ 2 * i + 0 by omega),hR⟩ ?_
  clear S hB hY hcnt hR
  rintro kk s ⟨j,R,ws,vs,L,D,P,B,V,M,GS,grs,rfl,hj0,hj1,hkk,S,hB,hY,hgs,hjl,hcnt,hR⟩
  have hjl : j = (grs.length : Int) := hjl
  have hcnt : (objCount R : Int) ≤ 2 * i + j := hcnt
  conv => cbv
  refine Fit.wrap fun xn hxn => ?_
  have hxn : xn = IntKind.u64.wrap n := hxn
  have hyn : 0 ≤ xn := by rw [hxn]; simp [IntKind.wrap,IntKind.bits,IntKind.signed]; omega
  conv => cbv
  refine Sum.mk fun tn htn => ?_
  have htn : tn = xn % 6 := (show tn = xn.tmod 6 from htn).trans (Int.tmod_eq_emod_of_nonneg hyn)
  conv => cbv
  refine Fit.mk (by show (-9223372036854775808 : Int) ≤ tn; omega) (by show tn ≤ 9223372036854775807; omega) fun un hun => ?_
  have hun : un = tn := hun
  conv => cbv
  refine Fit.mk (by show (-9223372036854775808 : Int) ≤ 1 + un; omega) (by show 1 + un ≤ 9223372036854775807; omega) fun ng2 hng2 => ?_
  have hng2 : ng2 = 1 + un := hng2
  obtain rfl : ng = ng2 := by rw [hng,hng2,hun,htn,hxn]; rfl
  clear hng2 hun htn hyn hxn
  conv => cbv
  refine Br.mk (fun gj => ?_) (fun gj => ?_)
  ·have gj : j < ng := gj
   conv => cbv
   refine CallF.le (args0 := [.ptr 16 (.lit 0),i6 4,i6 10]) (cfr (alloc18_lx R ws vs wz N W 0 0 0 L D D0 z0 false P B V Qr0 [] 0 M i j CS GS o S 4 10 (by decide) ⟨fun q => absurd q (by decide),fun q => absurd q (by decide),fun _ => rfl⟩ (by rw [hR]; omega)) [(0,1),(1,2),(2,3),(3,4),(4,5),(5,6),(6,7),(7,8),(8,9),(9,10),(10,11),(11,12),(12,13),(13,14),(14,15),(15,0),(16,16),(17,17),(18,18)] (fun r h' n' hrr => ?_)) (by simp [ales,ale,pvle,I.val])
   obtain ⟨at_,R1,ws1,vs1,L1,D1,P1,B1,V1,e1,e2,e3,S1,hk1,hx1,hp1,hq1,hl1⟩ := hrr
   subst e1 e2 e3
   have hR1 : R1.length = 60 := hl1.trans hR
   conv => cbv
   have hbb : ∀ x ∈ [j,0,0,-1],b62 x := by
    simp only [List.forall_mem_cons]
    unfold b62
    exact ⟨by omega,by omega,by omega,by omega,fun x hx => by cases hx⟩
   have hw0 : ∀ x ∈ [0,0,0,0,0,(0 : Int)],-9223372036854775808 ≤ x ∧ x ≤ 9223372036854775807 := by decide
   have hpp : ∀ x ∈ [(-1 : Int)],-1 ≤ x := by decide
   refine drawn_sound tok (by kernel_rfl) [(3,[6,5,4]),(7,[])] [0,1,2,4,5,6,3,7,8] (by kernel_rfl) ?_; conv => cbv
   refine CallF.le (args0 := [.ptr 1 (.lit 0),i6 at_,.agg [i6 j,i6 0,i6 0,i6 0,i6 0,i6 0,i6 0,i6 0,i6 0,i6 (-1)]]) (cfr (putGorM_lx R1 ws1 wz [] N W 0 0 0 L1 D1 D0 z0 false S1.h _ S1.c o ho rfl at_ j 0 0 0 0 0 0 0 0 (-1) (zerK 4 10) (upd_same _ _ _) rfl hbb hw0 hpp) [(0,1),(1,2),(2,3),(3,4),(4,5),(5,6),(6,7),(7,0)] (fun r h' n' hrr => ?_)) (by simp [ales,ale,pvle,I.val])
   obtain ⟨e8,ws8,D8,e1,he8,e2,e3,h8,c8⟩ := hrr
   subst e1 e2 e3
   conv => cbv
   refine CallF.le (args0 := [.ptr 8 (.lit 0),i6 at_,.agg [i6 j,i6 0,i6 0,i6 0,i6 0,i6 0,i6 0,i6 0,i6 0,i6 (-1)]]) (cfr (rPutGorM_lx R1 vs1 wz [] N W 0 0 0 P1 B1 V1 Qr0 [] 0 false S1.r _ S1.d rfl at_ j 0 0 0 0 0 0 0 0 (-1) (zerK 4 10) (upd_same _ _ _) rfl hbb hw0 hpp) [(0,8),(1,9),(2,10),(3,11),(4,12),(5,13),(6,14),(7,15)] (fun r h' n' hrr => ?_)) (by simp [ales,ale,pvle,I.val])
   obtain ⟨e9,vs9,V9,e1,he9,e2,e3,h9,c9⟩ := hrr
   subst e1 e2 e3
   conv => cbv
   refine Br.no (show ¬ ¬ (e8 = e9) from fun q => q (he8.trans he9.symm)) ?_
   conv => cbv
   have hcl : GS.length = grs.length := by rw [hgs,ipv_length]
   refine Room.new rfl ?_
   conv => cbv
   refine Room.new ⟨?_,?_,?_⟩ ?_
   ·show (GS.length : Int) = j * 1; omega
   ·show (j + 1) * 8 ≤ 140737488355328; omega
   ·show j + 1 ≤ 9223372036854775807; omega
   conv => cbv
   refine Upd.mk fun cells2 hcs2 => ?_
   have hcs2 : cells2 = GS ++ [.int .i64 (.sym at_)] := hcs2
   have hcs3 : cells2 = ipv (grs ++ [at_]) := by rw [hcs2,hgs,← ipv_app]; rfl
   conv => cbv
   refine Sum.mk fun j2 hj2 => ?_
   have hj2 : j2 = j + 1 := hj2
   conv => cbv
   refine Fit.mk (by show (-9223372036854775808 : Int) ≤ j + 1; omega) (by show j + 1 ≤ 9223372036854775807; omega) fun i2 hiq => ?_
   have hiq : i2 = j + 1 := hiq
   obtain rfl : j2 = i2 := hj2.trans hiq.symm
   conv => cbv
   refine Again.mk (ng - j2).toNat _ (by omega) (Re.at [(0,0),(1,1),(2,2),(3,3),(4,4),(5,5),(6,6),(7,7),(8,8),(9,9),(10,10),(11,11),(12,12),(13,13),(14,14),(15,15),(16,16),(17,17),(21,18)] []) ⟨j2,R1,ws8,vs9,L1,D8,P1,B1,V9,_,cells2,grs ++ [at_],rfl,by omega,by omega,rfl,⟨h8,h9,c8,c9,rfl,hwz'⟩,hB.gor hjl hx1 _,(hY.fresh hx1).updv rfl (fun F e => absurd (Option.some.inj ((upd_same _ _ _).symm.trans e)) (fun q => by cases q)) (fun c d h => (by cases h)) ⟨fun q => absurd (show (4 : Int) = 1 from q) (by decide),fun q => absurd (show (4 : Int) = 3 from q) (by decide)⟩,hcs3,by rw [List.length_append]; show j2 = ((grs.length + 1 : Nat) : Int); omega,(show (objCount R1 : Int) ≤ 2 * i + j2 by omega),hR1⟩
  ·have gj : ¬ j < ng := gj
   conv => cbv
   refine RetF.mk [.ptr 16 (.lit 0)] [hpA 1 2 6 7 3 W 0 0 0,hpB 2 3 5 3 W,hpC 3 4 233 2 N,hpP 4 L,hpP 5 D,hpF 6 z0 false,hpP 7 D0,hpR 8 9 14 3 W 15 0 0 0,hpB 9 10 13 3 W,hpD 10 11 3 1 N 12 231 8 N,hpP 11 P,hpP 12 B,hpP 13 V,hpP 14 Qr0,(15,.mix [.p (.vsl (.sym 0) true []),.p (.bool false)]),(0,.fix 0 o),(16,.mix [.ptr 1 (.lit 0),.ptr 8 (.lit 0),.sl 17 3 1 (.lit 0) (.sym i),.sl 18 3 1 (.lit 0) (.sym j)]),hpP 17 CS,hpP 18 GS] 19 (Re.at [(0,0),(1,1),(2,2),(3,3),(4,4),(5,5),(6,6),(7,7),(8,8),(9,9),(10,10),(11,11),(12,12),(13,13),(14,14),(15,15),(16,16),(17,17),(18,18)] []) rfl ⟨N,W,wz,R,ws,vs,L,D,D0,z0,P,B,V,Qr0,M,CS,GS,chs,bufs,grs,i,j,rfl,rfl,rfl,S,hB,hY,hcs,hgs,hil,hjl,him,hi1,hi2,by omega,by omega,hR,by omega⟩
end Go.Proofs.YtkhfgngcoiablaaGreatDoor
namespace Go.Proofs.YtkhfgngcoiablaaGreatDoor
open Go Go.LX
set_option maxRecDepth 100000
set_option linter.unusedVariables false
set_option linter.unusedSimpArgs false
set_option maxHeartbeats 32000000
theorem ch18_lx (R : List Rw) (ws vs C : List Int) (N W ph sp cy : Int) (L D Q : List PV) (z : ByteArray) (ov : Bool) (P B V Qr la : List PV) (m : Int) (M : Hp) (nc ng : Int) (cs gs : List PV) (o : Unit → Obj) (n : Int) (l : List Int) (hl : cs = ipv l) (hn : nc = l.length) (h0 : 0 < nc) (hb : nc ≤ 100) : CallF (fun _ => Tryz.prog) 46 [.ptr 16 (.lit 0),i6 n] [hpA 0 1 5 6 3 W ph sp cy,hpB 1 2 4 3 W,hpC 2 3 233 2 N,hpP 3 L,hpP 4 D,hpF 5 z ov,hpP 6 Q,hpR 7 8 13 3 W 14 ph sp cy,hpB 8 9 12 3 W,hpD 9 10 3 1 N 11 231 8 N,hpP 10 P,hpP 11 B,hpP 12 V,hpP 13 Qr,(14,.mix [.p (.vsl (.sym m) true la),.p (.bool ov)]),(15,.fix 0 o),(16,.mix [.ptr 0 (.lit 0),.ptr 7 (.lit 0),.sl 17 3 1 (.lit 0) (.sym nc),.sl 18 3 1 (.lit 0) (.sym ng)]),hpP 17 cs,hpP 18 gs] 19 (fun r h n' => (∃ x : Int,r = .p (.int .i64 (.sym x)) ∧ l[(IntKind.u64.wrap n % nc).toNat]? = some x) ∧ h = [hpA 0 1 5 6 3 W ph sp cy,hpB 1 2 4 3 W,hpC 2 3 233 2 N,hpP 3 L,hpP 4 D,hpF 5 z ov,hpP 6 Q,hpR 7 8 13 3 W 14 ph sp cy,hpB 8 9 12 3 W,hpD 9 10 3 1 N 11 231 8 N,hpP 10 P,hpP 11 B,hpP 12 V,hpP 13 Qr,(14,.mix [.p (.vsl (.sym m) true la),.p (.bool ov)]),(15,.fix 0 o),(16,.mix [.ptr 0 (.lit 0),.ptr 7 (.lit 0),.sl 17 3 1 (.lit 0) (.sym nc),.sl 18 3 1 (.lit 0) (.sym ng)]),hpP 17 cs,hpP 18 gs] ∧ n' = 19) := by
 refine callF_of_body tok Tryz.func46 (by kernel_rfl) rfl rfl rfl ?_; conv => cbv
 refine Br.no (show ¬ nc = 0 by omega) ?_
 conv => cbv
 refine drawn_sound tok (by kernel_rfl) [] [0,1,2,3,4,5,6,7,8,9,10,11,12,13,14,15,16] (by kernel_rfl) ?_; conv => cbv
 refine Fit.wrap fun xn hxn => ?_
 have hxn : xn = IntKind.u64.wrap n := hxn
 have hyn : 0 ≤ xn := by rw [hxn]; simp [IntKind.wrap,IntKind.bits,IntKind.signed]; omega
 conv => cbv
 refine Fit.mk (by show (0 : Int) ≤ nc; omega) (by show nc ≤ 18446744073709551615; omega) fun c2 hc2 => ?_
 have hc2 : c2 = nc := hc2
 conv => cbv
 refine Need.mk (show ¬ c2 = 0 by omega) ?_
 conv => cbv
 refine Sum.mk fun tn htn => ?_
 have htn : tn = xn % nc := (show tn = xn.tmod c2 from htn).trans (by rw [hc2]; exact Int.tmod_eq_emod_of_nonneg hyn)
 have ht0 := Int.emod_nonneg xn (show nc ≠ 0 by omega)
 have ht1 := Int.emod_lt_of_pos xn h0
 conv => cbv
 refine Fit.mk (by show (-9223372036854775808 : Int) ≤ tn; omega) (by show tn ≤ 9223372036854775807; omega) fun i hi => ?_
 have hi : i = tn := hi
 obtain ⟨x,hx⟩ : ∃ x,l[i.toNat]? = some x := ⟨_,List.getElem?_eq_getElem (by omega)⟩
 have hcell : cs[i.toNat]? = some (.int .i64 (.sym x)) := by rw [hl]; exact ipv_get hx
 conv => cbv
 refine Need.mk (show 0 ≤ i ∧ i < nc by omega) ?_
 conv => cbv
 refine Cell.at i _ hcell (by simp [I.val]) rfl ?_
 conv => cbv
 refine RetF.mk [i6 x] [hpA 0 1 5 6 3 W ph sp cy,hpB 1 2 4 3 W,hpC 2 3 233 2 N,hpP 3 L,hpP 4 D,hpF 5 z ov,hpP 6 Q,hpR 7 8 13 3 W 14 ph sp cy,hpB 8 9 12 3 W,hpD 9 10 3 1 N 11 231 8 N,hpP 10 P,hpP 11 B,hpP 12 V,hpP 13 Qr,(14,.mix [.p (.vsl (.sym m) true la),.p (.bool ov)]),(15,.fix 0 o),(16,.mix [.ptr 0 (.lit 0),.ptr 7 (.lit 0),.sl 17 3 1 (.lit 0) (.sym nc),.sl 18 3 1 (.lit 0) (.sym ng)]),hpP 17 cs,hpP 18 gs] 19 (Re.at [(0,0),(1,1),(2,2),(3,3),(4,4),(5,5),(6,6),(7,7),(8,8),(9,9),(10,10),(11,11),(12,12),(13,13),(14,14),(15,15),(16,16),(17,17),(18,18)] []) rfl ⟨⟨x,rfl,by rw [← hxn,← htn,← hi]; exact hx⟩,rfl,rfl⟩
theorem gor18_lx (R : List Rw) (ws vs C : List Int) (N W ph sp cy : Int) (L D Q : List PV) (z : ByteArray) (ov : Bool) (P B V Qr la : List PV) (m : Int) (M : Hp) (nc ng : Int) (cs gs : List PV) (o : Unit → Obj) (n : Int) (l : List Int) (hl : gs = ipv l) (hn : ng = l.length) (h0 : 0 < ng) (hb : ng ≤ 100) : CallF (fun _ => Tryz.prog) 47 [.ptr 16 (.lit 0),i6 n] [hpA 0 1 5 6 3 W ph sp cy,hpB 1 2 4 3 W,hpC 2 3 233 2 N,hpP 3 L,hpP 4 D,hpF 5 z ov,hpP 6 Q,hpR 7 8 13 3 W 14 ph sp cy,hpB 8 9 12 3 W,hpD 9 10 3 1 N 11 231 8 N,hpP 10 P,hpP 11 B,hpP 12 V,hpP 13 Qr,(14,.mix [.p (.vsl (.sym m) true la),.p (.bool ov)]),(15,.fix 0 o),(16,.mix [.ptr 0 (.lit 0),.ptr 7 (.lit 0),.sl 17 3 1 (.lit 0) (.sym nc),.sl 18 3 1 (.lit 0) (.sym ng)]),hpP 17 cs,hpP 18 gs] 19 (fun r h n' => (∃ x : Int,r = .p (.int .i64 (.sym x)) ∧ l[(IntKind.u64.wrap n % ng).toNat]? = some x) ∧ h = [hpA 0 1 5 6 3 W ph sp cy,hpB 1 2 4 3 W,hpC 2 3 233 2 N,hpP 3 L,hpP 4 D,hpF 5 z ov,hpP 6 Q,hpR 7 8 13 3 W 14 ph sp cy,hpB 8 9 12 3 W,hpD 9 10 3 1 N 11 231 8 N,hpP 10 P,hpP 11 B,hpP 12 V,hpP 13 Qr,(14,.mix [.p (.vsl (.sym m) true la),.p (.bool ov)]),(15,.fix 0 o),(16,.mix [.ptr 0 (.lit 0),.ptr 7 (.lit 0),.sl 17 3 1 (.lit 0) (.sym nc),.sl 18 3 1 (.lit 0) (.sym ng)]),hpP 17 cs,hpP 18 gs] ∧ n' = 19) := by
 refine callF_of_body tok Tryz.func47 (by kernel_rfl) rfl rfl rfl ?_; conv => cbv
 refine drawn_sound tok (by kernel_rfl) [] [0,1,2,3,4,5,6,7,8,9,10,11,12,13,14,15,16] (by kernel_rfl) ?_; conv => cbv
 refine Fit.wrap fun xn hxn => ?_
 have hxn : xn = IntKind.u64.wrap n := hxn
 have hyn : 0 ≤ xn := by rw [hxn]; simp [IntKind.wrap,IntKind.bits,IntKind.signed]; omega
 conv => cbv
 refine Fit.mk (by show (0 : Int) ≤ ng; omega) (by show ng ≤ 18446744073709551615; omega) fun c2 hc2 => ?_
 have hc2 : c2 = ng := hc2
 conv => cbv
 refine Need.mk (show ¬ c2 = 0 by omega) ?_
 conv => cbv
 refine Sum.mk fun tn htn => ?_
 have htn : tn = xn % ng := (show tn = xn.tmod c2 from htn).trans (by rw [hc2]; exact Int.tmod_eq_emod_of_nonneg hyn)
 have ht0 := Int.emod_nonneg xn (show ng ≠ 0 by omega)
 have ht1 := Int.emod_lt_of_pos xn h0
 conv => cbv
 refine Fit.mk (by show (-9223372036854775808 : Int) ≤ tn; omega) (by show tn ≤ 9223372036854775807; omega) fun i hi => ?_
 have hi : i = tn := hi
 obtain ⟨x,hx⟩ : ∃ x,l[i.toNat]? = some x := ⟨_,List.getElem?_eq_getElem (by omega)⟩
 have hcell : gs[i.toNat]? = some (.int .i64 (.sym x)) := by rw [hl]; exact ipv_get hx
 conv => cbv
 refine Need.mk (show 0 ≤ i ∧ i < ng by omega) ?_
 conv => cbv
 refine Cell.at i _ hcell (by simp [I.val]) rfl ?_
 conv => cbv
 refine RetF.mk [i6 x] [hpA 0 1 5 6 3 W ph sp cy,hpB 1 2 4 3 W,hpC 2 3 233 2 N,hpP 3 L,hpP 4 D,hpF 5 z ov,hpP 6 Q,hpR 7 8 13 3 W 14 ph sp cy,hpB 8 9 12 3 W,hpD 9 10 3 1 N 11 231 8 N,hpP 10 P,hpP 11 B,hpP 12 V,hpP 13 Qr,(14,.mix [.p (.vsl (.sym m) true la),.p (.bool ov)]),(15,.fix 0 o),(16,.mix [.ptr 0 (.lit 0),.ptr 7 (.lit 0),.sl 17 3 1 (.lit 0) (.sym nc),.sl 18 3 1 (.lit 0) (.sym ng)]),hpP 17 cs,hpP 18 gs] 19 (Re.at [(0,0),(1,1),(2,2),(3,3),(4,4),(5,5),(6,6),(7,7),(8,8),(9,9),(10,10),(11,11),(12,12),(13,13),(14,14),(15,15),(16,16),(17,17),(18,18)] []) rfl ⟨⟨x,rfl,by rw [← hxn,← htn,← hi]; exact hx⟩,rfl,rfl⟩
end Go.Proofs.YtkhfgngcoiablaaGreatDoor
namespace Go.LX
open Go
set_option linter.unusedVariables false
set_option maxHeartbeats 32000000
inductive ReadF (P : Unit → Program) (f : Nat) (args : List LV) (bs : List Nat) (h : LH) (n : Nat) (K : LV → Prop) : Prop
 | mk (u : LV) (hq : ∀ h' n',(∀ b ∈ bs,hget h' b = hget h b) → n ≤ n' → CallF P f args h' n' fun r h2 n2 => r = u ∧ h2 = h' ∧ n2 = n') (hk : K u)
section
variable {P : Unit → Program} {T : Unit → TT} {o : Oper} {s : LS}
def rowL (T : Unit → TT) (o : Oper) (s : LS) : Option LV :=
 match o.op with
 | .buildSlice t len parts => match lget (T ()) t with
  | some ti => match ti.kind with
   | .slice e => match lget (T ()) e with
    | some te => match Nat.ble (len * te.size) 10000,Nat.beq (llen (pvs te.zero)) te.size,Nat.ble 1 te.size with
     | true,true,true => match fillL (T ()) ti.kind (reps te.zero len) (evs s parts.toList) with
      | some cs => match allP cs with
       | some ps => some (.p (.vsl (.lit len) false ps))
       | none => none
      | none => none
     | _,_,_ => none
    | none => none
   | _ => none
  | none => none
 | _ => none
def readL (P : Unit → Program) (T : Unit → TT) (all : List Oper) (bs : List Nat) (o : Oper) (s : LS) (L : LS → Prop) : Prop :=
 match yes s all o.guard with
 | some c => match c with
  | true => match o.op with
   | .call c => match c.callee with
    | .value (.func f) => ReadF P f (eva s c.args.toList) bs s.h s.n fun u => L (s.put o.dst u)
    | _ => False
   | .buildSlice _ _ _ => match rowL T o s with
    | some u => L (s.put o.dst u)
    | none => False
   | _ => False
  | false => L (s.put o.dst .nul)
 | none => False
theorem rowL_agree {T : Unit → TT} {o : Oper} {s s' : LS} {ops : Array Oper} (h : ∀ t ∈ o.looksAt ops,tget s'.t t = tget s.t t) : rowL T o s' = rowL T o s := by
 unfold rowL
 split
 ·rename_i t len parts ho
  have hev : evs s' parts.toList = evs s parts.toList := evs_agree _ fun x hx => by
   have hx2 : x.2 ∈ o.op.operands := by
    rw [ho]
    simp only [Op.operands]
    simpa using ⟨x.1,(by simpa using hx)⟩
   cases hx3 : x.2 with
   | tmp t =>
    rw [hx3] at hx2
    refine h t ?_
    simp only [Oper.looksAt,List.mem_append,List.mem_filterMap]
    exact .inl ⟨.tmp t,by simpa using hx2,rfl⟩
   | const v => rfl
   | global g => rfl
   | func f => rfl
  rw [hev]
 ·rfl
theorem Ext.mute {c : Ctx} {w : World} {h : LH} (hr : HR c w h) (o : Obj) : Ext c w c (w.alloc o) := by
 refine ⟨rfl,rfl,rfl,by simp,rfl,Nat.le_refl _,fun b hb => .inl rfl,fun b r hb h => ?_,fun r hr _ => heap_alloc_old w o hr,fun b r hb h => ?_⟩
 ·rw [hr.fresh b hb] at h; cases h
 ·simp only [World.shape?,heap_alloc_old w o (hr.lt b r h)]
theorem row_sound {P : Program} {T : TT} {o : Oper} {s : LS} {u : LV} {c : Ctx} {a : Act} {w : World} {Q : Exit → Act → World → Prop} (hT : TOK P T) (hs : St c s a w) (h : rowL (fun _ => T) o s = some u) : o.wp P a w (Post (fun s1 => s1 = s.put o.dst u) c w) Q := by
 unfold rowL at h
 split at h
 ·rename_i t len parts ho
  split at h
  ·rename_i ti ht
   split at h
   ·rename_i e hk
    split at h
    ·rename_i te hte
     split at h
     ·rename_i hlen hzl h1
      split at h
      ·rename_i cs hf
       split at h
       ·rename_i ps hps
        cases h
        have hlen := Nat.le_of_ble_eq_true hlen
        have h1 := Nat.le_of_ble_eq_true h1
        obtain ⟨z,hz,hzc,hzr⟩ := zero_cells (hT e te hte)
        obtain ⟨hl,hq⟩ := evs_rel hs parts.toList
        obtain ⟨⟨i,z',d,hi,hsz,_,hz',_,hu,hkd,_⟩,_⟩ := hT t ti ht
        rw [hk] at hkd hf
        cases d <;> try exact hkd.elim
        rename_i e'
        have hkd : e = e' := hkd
        subst hkd
        have hse := tok_size (w := w) (hT e te hte)
        have hzs : z.cells.size = te.size := by
         have h2 := Nat.eq_of_beq_eq_true hzl
         rw [llen_eq,pvs_length] at h2
         have : z.cells.toList.length = te.zero.length := by rw [hzc,List.length_map]
         rw [Array.length_toList] at this; omega
        have hpl2 : ∀ i off sz,place T (.slice e) i = some (off,sz) → (fun i => some (i * te.size,te.size)) i = some (off,sz) := by
         intro i off sz hp
         simp only [place,hte] at hp
         exact hp
        have hrel0 := reps_rel c w (hzr c w) (by omega) len
        rw [hzs] at hrel0
        obtain ⟨arr',h3,h4,h5⟩ := fill_sound (c := c) (w := w) hpl2 _ _ _ _ hl hq hrel0 hf
        have hlens : arr'.size = len * te.size := by rw [h5]; simp
        have hmap : (parts.map fun (i,x) => (i,a.eval x)).toList = parts.toList.map fun (i,x) => (i,a.eval x) := by simp
        have hrun : (execOp a.eval o).run P w = .ok (.value (.slice (some ⟨w.heap.size,0,none⟩) len len)) (w.alloc (.cells arr' e)) := by
         unfold execOp; rw [ho]
         refine runv ?_
         have hbig : ¬ len * te.size > 2 ^ 24 := by omega
         by_cases h0 : len * te.size = 0
         ·have e0 : (Array.range (len * te.size)).map (fun j => z.cells[j % te.size]!) = (#[] : Array Value) := by rw [h0]; simp
          rw [e0] at h3
          have e1 : (Array.map (fun _ => (default : Value)) (Array.range 0)) = (#[] : Array Value) := by simp
          have hmap2 : (List.map (fun x : Nat × Operand => (x.fst,a.eval x.snd)) parts.toList) = parts.toList.map fun (i,x) => (i,a.eval x) := rfl
          simp [Instr.buildSlice,run_underlying hu,hse,h0,newRow]
          rw [e1,hmap2,h3]
          simp
         ·simp only at h3
          simp [Instr.buildSlice,run_underlying hu,hse,hbig,h0,hz,hzs,h3,newRow]
        have he := Ext.mute hs.hr (.cells arr' e)
        have hr' : HR c (w.alloc (.cells arr' e)) s.h := hs.hr.step he (.inl rfl) hs.hr.fresh (fun b => .inl rfl) (fun b B hb => .inl ⟨hb,rfl,fun r hm => heap_alloc_old w _ (hs.hr.lt b r hm)⟩)
        have hs1 : St c s a (w.alloc (.cells arr' e)) := ⟨hs.tl,fun i u hu => (hs.tr i u hu).ext hs.hr.fresh he,hs.df,hr',hs.nn⟩
        have hps := allP_eq _ hps
        subst hps
        have hcell : ∀ (j : Nat) (u : PV),ps[j]? = some u → ∃ x,arr'.toList[j]? = some x ∧ PR c.mut w u x := by
         intro j u hj
         obtain ⟨x,hx,hxr⟩ := h4.2 j (.p u) (by rw [pvs_get,hj]; rfl)
         cases hxr with
         | p _ _ hxr => exact ⟨x,hx,hxr⟩
        have hnew : LR c (w.alloc (.cells arr' e)) (.p (.vsl (.lit len) false ps)) (.slice (some ⟨w.heap.size,0,none⟩) len len) := by
         refine .p _ _ (.vsl _ _ _ _ len len (fun j => arr'.toList.getD j Go.undef) rfl rfl ?_ ?_ (Nat.le_refl _) ?_ ?_ ?_)
         ·rintro (hx | ⟨b,hb⟩)
          ·exact Nat.lt_irrefl _ (hs.hr.ltX _ hx)
          ·exact Nat.lt_irrefl _ (hs.hr.lt _ _ hb)
         ·simp
         ·unfold maxLen
          have : len ≤ len * te.size := Nat.le_mul_of_pos_right _ h1
          omega
         ·intro j u hj
          obtain ⟨x,hx,_⟩ := hcell j u hj
          have hx2 : arr'[j]? = some x := by simpa using hx
          have hg2 : (w.alloc (.cells arr' e)).heap[w.heap.size]? = some (.cells arr' e (0,0)) := by rw [heap_alloc_new]
          rw [add_lit]
          simp only [World.cell?,hg2]
          rw [List.getD_eq_getElem?_getD,hx]
          simpa using hx2
         ·intro j u hj
          obtain ⟨x,hx,hxr⟩ := hcell j u hj
          rw [List.getD_eq_getElem?_getD,hx]
          exact hxr.ext hs.hr.fresh he
        unfold Oper.wp
        rw [hrun,Oper.upon_value]
        exact ⟨c,_,rfl,hs1.put hnew _,he⟩
       ·cases h
      ·cases h
     ·cases h
    ·cases h
   ·cases h
  ·cases h
 ·cases h
def rdsR (ops : Array Oper) (bs : List Nat) (p : Nat) (s : LS) : List Nat := match isA (opAt ops p) with
 | true => rds (opAt ops p) s
 | false => bs
def AgreeR (ops : Array Oper) (bs : List Nat) (p : Nat) (s s' : LS) : Prop := (∀ b ∈ rdsR ops bs p s,hget s'.h b = hget s.h b) ∧ (∀ t ∈ (opAt ops p).looksAt ops,tget s'.t t = tget s.t t) ∧ s.n ≤ s'.n
theorem rdsR_put {ops : Array Oper} {bs : List Nat} {p : Nat} {d : Option Nat} {u : LV} (hd : ∀ t,d = some t → t ∉ (opAt ops p).looksAt ops) : rdsR ops bs p (s.put d u) = rdsR ops bs p s := by
 unfold rdsR
 cases isA (opAt ops p) with
 | true => exact rds_put hd
 | false => rfl
def keptR (ops : Array Oper) (bs : List Nat) : List Nat → LS → LS → Prop
 | [],s,s1 => Nat.ble s.n s1.n = true
 | p :: fl,s,s1 => keptL (rdsR ops bs p s) s s1 ∧ keptR ops bs fl s s1
theorem keptR_get {ops : Array Oper} {bs : List Nat} : ∀ {fl : List Nat} {s s1 : LS},keptR ops bs fl s s1 → s.n ≤ s1.n ∧ ∀ p ∈ fl,keptL (rdsR ops bs p s) s s1
 | [],_,_,h => ⟨Nat.le_of_ble_eq_true h,fun p hp => by cases hp⟩
 | x :: l,s,s1,h => ⟨(keptR_get h.2).1,fun p hp => by
  rcases List.mem_cons.1 hp with rfl | hp
  ·exact h.1
  ·exact (keptR_get h.2).2 p hp⟩
theorem yes_agree {ops : Array Oper} {s s' : LS} (h : ∀ t ∈ o.looksAt ops,tget s'.t t = tget s.t t) : yes s' ops.toList o.guard = yes s ops.toList o.guard := by
 cases hg : o.guard with
 | none => rfl
 | some p =>
  obtain ⟨j,want⟩ := p
  simp only [yes,onth_eq]
  have hj : ops.toList[j]? = ops[j]? := by simp
  rw [hj]
  cases e : ops[j]? with
  | none => rfl
  | some q =>
   dsimp only
   cases e2 : q.dst with
   | none => rfl
   | some d =>
    dsimp only
    rw [h d (by simp [Oper.looksAt,hg,e,e2])]
def headR (P : Unit → Program) (T : Unit → TT) (ops : Array Oper) (bs : List Nat) (i : Nat) (s : LS) (L : LS → Prop) : Prop :=
 match isA (opAt ops i) with
 | true => stepL P T ops.toList (opAt ops i) s L
 | false => readL P T ops.toList bs (opAt ops i) s L
theorem AgreeR.toS {ops : Array Oper} {bs : List Nat} {i : Nat} {s s' : LS} (hA : isA (opAt ops i) = true) (h : AgreeR ops bs i s s') : AgreeS ops (opAt ops i) s s' := by
 refine ⟨?_,h.2.1⟩
 have := h.1
 unfold rdsR at this
 rw [hA] at this
 exact this
theorem headR_x {ops : Array Oper} {bs : List Nat} {i : Nat} {L : LS → Prop} (h : headR P T ops bs i s L) : ∃ u,L (s.put (opAt ops i).dst u) ∧ (∀ s',AgreeR ops bs i s s' → ∀ L' : LS → Prop,L' (s'.put (opAt ops i).dst u) → headR P T ops bs i s' L') ∧ (∀ s',AgreeR ops bs i s s' → (∀ L' : LS → Prop,L' (s'.put (opAt ops i).dst u) → stepL P T ops.toList (opAt ops i) s' L') ∨ (yes s' ops.toList (opAt ops i).guard = some true ∧ rowL T (opAt ops i) s' = some u)) := by
 unfold headR at h
 split at h
 ·rename_i hA
  obtain ⟨u,h1,h2⟩ := step_x hA h
  refine ⟨u,h1,fun s' ha L' hL => ?_,fun s' ha => .inl (h2 s' (ha.toS hA))⟩
  unfold headR
  rw [hA]
  exact h2 s' (ha.toS hA) L' hL
 ·rename_i hA
  have hbs : ∀ s',AgreeR ops bs i s s' → ∀ b ∈ bs,hget s'.h b = hget s.h b := fun s' ha => by
   have := ha.1
   unfold rdsR at this
   rw [hA] at this
   exact this
  have hlk : ∀ s',AgreeR ops bs i s s' → ∀ t ∈ (opAt ops i).looksAt ops,tget s'.t t = tget s.t t := fun s' ha => ha.2.1
  have hn : ∀ s',AgreeR ops bs i s s' → s.n ≤ s'.n := fun s' ha => ha.2.2
  generalize hoo : opAt ops i = o at *
  unfold readL at h
  split at h
  ·rename_i cb hy
   have hy' : ∀ s',AgreeR ops bs i s s' → yes s' ops.toList o.guard = some cb := fun s' ha => (yes_agree (hlk s' ha)).trans hy
   split at h
   ·split at h
    ·rename_i c ho
     split at h
     ·rename_i f hc
      cases h with
      | mk u hq hk =>
       have hev : ∀ s',AgreeR ops bs i s s' → eva s' c.args.toList = eva s c.args.toList := fun s' ha => eva_agree _ fun x hx => by
        have hx : x ∈ c.args := by simpa using hx
        have hx2 : x ∈ o.op.operands := by rw [ho]; simp [Op.operands,Call.operands,hc,hx]
        cases x with
        | tmp t =>
         refine hlk s' ha t ?_
         simp only [Oper.looksAt,List.mem_append,List.mem_filterMap]
         exact .inl ⟨.tmp t,by simpa using hx2,rfl⟩
        | const v => rfl
        | global g => rfl
        | func f => rfl
       refine ⟨u,hk,fun s' ha L' hL => ?_,fun s' ha => .inl fun L' hL => ?_⟩
       ·unfold headR
        rw [hoo,hA]
        dsimp only
        unfold readL
        rw [hy' s' ha]
        dsimp only
        rw [ho]
        dsimp only
        rw [hc]
        dsimp only
        rw [hev s' ha]
        exact .mk u (fun h' n' hb hn' => hq h' n' (fun b hbm => (hb b hbm).trans (hbs s' ha b hbm)) (Nat.le_trans (hn s' ha) hn')) hL
       ·unfold stepL
        rw [hy' s' ha]
        dsimp only
        unfold lop
        rw [ho]
        dsimp only
        rw [hc]
        dsimp only [ev]
        rw [hev s' ha]
        refine (hq s'.h s'.n (hbs s' ha) (hn s' ha)).mono fun r h' n' ⟨e1,e2,e3⟩ => ?_
        subst e1 e2 e3
        exact hL
     ·exact h.elim
    ·rename_i t0 len0 parts0 ho
     split at h
     ·rename_i u hu
      refine ⟨u,h,fun s' ha L' hL => ?_,fun s' ha => .inr ⟨hy' s' ha,(rowL_agree (hlk s' ha)).trans hu⟩⟩
      unfold headR
      rw [hoo,hA]
      dsimp only
      unfold readL
      rw [hy' s' ha]
      dsimp only
      rw [ho]
      dsimp only
      rw [rowL_agree (hlk s' ha),hu]
      exact hL
     ·exact h.elim
    ·exact h.elim
   ·refine ⟨.nul,h,fun s' ha L' hL => ?_,fun s' ha => .inl fun L' hL => ?_⟩
    ·unfold headR
     rw [hoo,hA]
     dsimp only
     unfold readL
     rw [hy' s' ha]
     exact hL
    ·unfold stepL
     rw [hy' s' ha]
     exact hL
  ·exact h.elim
def lopsR (P : Unit → Program) (T : Unit → TT) (ops : Array Oper) (bs : List Nat) (qs : List Nat) (F : List (Nat × List Nat)) : List Nat → LS → (LS → Prop) → Prop
 | [],s,K => K s
 | i :: l,s,K => match cA ops qs i with
  | true => headR P T ops bs i s fun s1 => lopsR P T ops bs qs F l s1 K
  | false => stepL P T ops.toList (opAt ops i) s fun s1 => keptR ops bs (look F i) s s1 ∧ lopsR P T ops bs qs F l s1 K
def pairR (ops : Array Oper) (qs : List Nat) (F : List (Nat × List Nat)) (p q : Nat) : Bool :=
 p != q && (reach ops ops.size p q || (cA ops qs p && (opAt ops p).apart ops (opAt ops q) && (cA ops qs q || (look F q).contains p))) && (!(F.any fun e => e.2.contains p && e.2.contains q) || match (opAt ops q).dst with
  | some d => !cA ops qs p || !cA ops qs q || !((opAt ops p).looksAt ops).contains d
  | none => true)
def PairR (ops : Array Oper) (qs : List Nat) (F : List (Nat × List Nat)) (p q : Nat) : Prop := p ≠ q ∧ (reach ops ops.size p q = true ∨ (cA ops qs p = true ∧ (opAt ops p).apart ops (opAt ops q) = true ∧ (cA ops qs q = true ∨ p ∈ look F q))) ∧ (∀ i,p ∈ look F i → q ∈ look F i → cA ops qs p = true → cA ops qs q = true → ∀ d,(opAt ops q).dst = some d → d ∉ (opAt ops p).looksAt ops)
theorem pairR_spec {ops : Array Oper} {qs : List Nat} {F : List (Nat × List Nat)} {p q : Nat} (h : pairR ops qs F p q = true) : PairR ops qs F p q := by
 simp only [pairR,Bool.and_eq_true,Bool.or_eq_true,bne_iff_ne,ne_eq] at h
 obtain ⟨⟨h1,h2⟩,h3⟩ := h
 refine ⟨h1,h2.imp id (fun h => ⟨h.1.1,h.1.2,h.2.imp id (fun h => by simpa using h)⟩),fun i hpi hqi hp hq d hd => ?_⟩
 rw [look_any hpi hqi,hd,hp,hq] at h3
 simpa using h3
theorem frontR {ops : Array Oper} {bs : List Nat} {qs : List Nat} {F : List (Nat × List Nat)} {i : Nat} {l2 : List Nat} {K : LS → Prop} (hki : known ops i) :
  ∀ (l1 gh : List Nat) {s : LS},(∀ p ∈ l1,known ops p ∧ (∀ d,(opAt ops p).dst = some d → d ∉ (opAt ops p).looksAt ops)) → (∀ p ∈ l1,PairR ops qs F p i ∧ reach ops ops.size p i = false) → l1.Pairwise (PairR ops qs F) → (∀ p ∈ gh,p ∈ look F i ∧ cA ops qs p = true ∧ ∀ q ∈ l1,PairR ops qs F p q) →
   lopsR P T ops bs qs F (l1 ++ i :: l2) s K → (cA ops qs i = true → headR P T ops bs i s fun s1 => lopsR P T ops bs qs F (l1 ++ l2) s1 K) ∧ (cA ops qs i = false → stepL P T ops.toList (opAt ops i) s fun s1 => (s.n ≤ s1.n ∧ ∀ p ∈ gh,keptL (rdsR ops bs p s) s s1) ∧ lopsR P T ops bs qs F (l1 ++ l2) s1 K)
 | [],gh,s,_,_,_,hgh,h => by
  rw [List.nil_append,lopsR] at h
  split at h
  ·rename_i hA
   exact ⟨fun _ => h,fun e => (by rw [hA] at e; cases e)⟩
  ·rename_i hA
   exact ⟨fun e => (by rw [hA] at e; cases e),fun _ => stepL_m hki h fun s1 h1 => ⟨⟨(keptR_get h1.1).1,fun p hp => (keptR_get h1.1).2 p (hgh p hp).1⟩,h1.2⟩⟩
 | p :: l1,gh,s,hk,hi,hpw,hdn,h => by
  obtain ⟨hkp,hself⟩ := hk p List.mem_cons_self
  obtain ⟨⟨hpi1,hpi2,hpi3⟩,hnr⟩ := hi p List.mem_cons_self
  rw [List.pairwise_cons] at hpw
  obtain ⟨hA,hap,hfl⟩ : cA ops qs p = true ∧ (opAt ops p).apart ops (opAt ops i) = true ∧ (cA ops qs i = true ∨ p ∈ look F i) := by
   rcases hpi2 with e | e
   ·rw [hnr] at e; cases e
   ·exact e
  obtain ⟨a1,a2,a3⟩ := Oper.apart_spec hap
  rw [List.cons_append,lopsR] at h
  rw [hA] at h
  dsimp only at h
  obtain ⟨u,h1,hg,_⟩ := headR_x h
  have next : ∀ {s1 : LS},AgreeR ops bs p s s1 → lopsR P T ops bs qs F (l1 ++ l2) (s1.put (opAt ops p).dst u) K → lopsR P T ops bs qs F (p :: l1 ++ l2) s1 K := by
   intro s1 hag h2
   rw [List.cons_append,lopsR,hA]
   exact hg s1 hag _ h2
  have hkl : ∀ q ∈ l1,known ops q ∧ (∀ d,(opAt ops q).dst = some d → d ∉ (opAt ops q).looksAt ops) := fun q hq => hk q (List.mem_cons_of_mem _ hq)
  have hil : ∀ q ∈ l1,PairR ops qs F q i ∧ reach ops ops.size q i = false := fun q hq => hi q (List.mem_cons_of_mem _ hq)
  refine ⟨fun hAi => ?_,fun hnA => ?_⟩
  ·have ih := (frontR hki l1 [] hkl hil hpw.2 (fun q hq => (by cases hq)) h1).1 hAi
   obtain ⟨v,h4,h5,_⟩ := headR_x ih
   refine h5 s ⟨fun _ _ => by rw [put_h],fun t ht => (tget_put _ _ _ (fun e => a1 t e ht)).symm,by rw [put_n]; exact Nat.le_refl _⟩ _ ?_
   refine next ⟨fun _ _ => by rw [put_h],fun t ht => tget_put _ _ _ (fun e => a3 t e ht),by rw [put_n]; exact Nat.le_refl _⟩ ?_
   rw [← put_comm _ _ _ _ a2]
   exact h4
  ·have hX : isX (opAt ops i) = true := hki.resolve_right (fun e => by unfold cA at hnA; rw [e] at hnA; cases hnA)
   have hpf : p ∈ look F i := hfl.resolve_left (fun e => by rw [hnA] at e; cases e)
   have ih := (frontR hki l1 (p :: gh) hkl hil hpw.2 (fun q hq => by
    rcases List.mem_cons.1 hq with rfl | hq
    ·exact ⟨hpf,hA,hpw.1⟩
    ·exact ⟨(hdn q hq).1,(hdn q hq).2.1,fun r hr => (hdn q hq).2.2 r (List.mem_cons_of_mem _ hr)⟩) h1).2 hnA
   have h3 := step_slot hX a1 a2 ih
   refine stepL_m (.inl hX) h3 fun s1 ⟨h4,⟨hn5,h5⟩,h6⟩ => ?_
   simp only [put_n] at hn5
   have hkp2 := h5 p List.mem_cons_self
   rw [rdsR_put hself] at hkp2
   refine ⟨⟨hn5,fun q hq => ?_⟩,next ⟨fun b hb => ?_,(fun t ht => h4 t fun e => a3 t e ht),hn5⟩ h6⟩
   ·have e := h5 q (List.mem_cons_of_mem _ hq)
    rw [rdsR_put (((hdn q hq).2.2 p List.mem_cons_self).2.2 i (hdn q hq).1 hpf (hdn q hq).2.1 hA)] at e
    refine keptL_mk fun b hb => ?_
    have := keptL_get e b hb
    rwa [put_h,put_h] at this
   ·have := keptL_get hkp2 b hb
    rwa [put_h,put_h] at this
end
def orderR (ops : Array Oper) (qs : List Nat) (F : List (Nat × List Nat)) : List Nat → List Nat → Bool
 | _,[] => true
 | pre,q :: l => edgesOK ops pre q && selfOK ops q && l.all (fun r => pairR ops qs F q r) && orderR ops qs F (q :: pre) l
def drawnR (ops : Array Oper) (qs : List Nat) (F : List (Nat × List Nat)) (order : List Nat) : Bool := orderR ops qs F [] order && (List.range ops.size).all (fun j => order.contains j)
section
variable {P : Program} {T : TT} {K : LS → Prop}
theorem orderR_spec {ops : Array Oper} {qs : List Nat} {F : List (Nat × List Nat)} : ∀ {l pre : List Nat},orderR ops qs F pre l = true → l.Pairwise (PairR ops qs F) ∧ (∀ q ∈ l,known ops q ∧ (∀ d,(opAt ops q).dst = some d → d ∉ (opAt ops q).looksAt ops)) ∧
  ∀ l1 q l2,l = l1 ++ q :: l2 → ∃ o,ops[q]? = some o ∧ ∀ e ∈ o.after,Region.binds .any e = true → e.on ∈ pre ∨ e.on ∈ l1
 | [],pre,_ => ⟨.nil,fun q hq => (by cases hq),fun l1 q l2 h => (by cases l1 <;> cases h)⟩
 | r :: l,pre,h => by
  simp only [orderR,Bool.and_eq_true] at h
  obtain ⟨⟨⟨h1,h2⟩,h3⟩,h4⟩ := h
  obtain ⟨k1,k2,k3⟩ := orderR_spec h4
  refine ⟨List.pairwise_cons.2 ⟨fun q hq => pairR_spec (List.all_eq_true.1 h3 q hq),k1⟩,fun q hq => ?_,fun l1 q l2 e => ?_⟩
  ·rcases List.mem_cons.1 hq with rfl | hq
   ·exact selfOK_spec h2
   ·exact k2 q hq
  ·cases l1 with
   | nil =>
    cases e
    unfold edgesOK at h1
    split at h1
    ·rename_i o ho
     refine ⟨o,ho,fun e he hb => .inl ?_⟩
     have := Array.all_eq_true_iff_forall_mem.1 h1 e he
     simpa [hb] using this
    ·cases h1
   | cons x l1 =>
    cases e
    obtain ⟨o,ho,h5⟩ := k3 l1 q l2 rfl
    refine ⟨o,ho,fun e he hb => ?_⟩
    rcases h5 e he hb with h | h
    ·rcases List.mem_cons.1 h with h | h
     ·exact .inr (by rw [h]; exact List.mem_cons_self)
     ·exact .inl h
    ·exact .inr (List.mem_cons_of_mem _ h)
theorem anyR_sound (hT : TOK P T) {ops : Array Oper} {bs : List Nat} {qs : List Nat} {F : List (Nat × List Nat)} {order : List Nat} (hd : drawnR ops qs F order = true) {c0 : Ctx} {w0 : World} {Q : Exit → Act → World → Prop} (hQ : ∀ a' w',Post K c0 w0 a' w' → Q .normal a' w') :
  ∀ (fuel : Nat) (listed : Array Bool) {s : LS} {c : Ctx} {a : Act} {w : World},listed.size = ops.size → Closed ops listed → (unlO order listed).length = fuel → Ext c0 w0 c w → St c s a w →
  lopsR (fun _ => P) (fun _ => T) ops bs qs F (unlO order listed) s K → wpAny P .any ops Q fuel listed a w := by
 simp only [drawnR,Bool.and_eq_true,List.all_eq_true,List.mem_range] at hd
 obtain ⟨hpw,hkn,hed⟩ := orderR_spec hd.1
 have hall : ∀ j,j < ops.size → j ∈ order := fun j hj => by simpa using hd.2 j hj
 have mem_unl : ∀ {listed : Array Bool} {j : Nat},j ∈ unlO order listed ↔ j ∈ order ∧ listed.getD j true = false := by
  intro listed j
  simp [unlO,List.mem_filter]
 have at_ : ∀ {j o},ops[j]? = some o → opAt ops j = o := by
  intro j o ho
  simp [opAt,ho]
 have hlt_ : ∀ {listed : Array Bool} {j : Nat},listed.size = ops.size → listed.getD j true = false → j < ops.size := by
  intro listed j hsz h
  rcases Nat.lt_or_ge j ops.size with h1 | h1
  ·exact h1
  ·rw [Array.getD_eq_getD_getElem?,Array.getElem?_eq_none (by omega)] at h; cases h
 intro fuel
 induction fuel with
 | zero =>
  intro listed s c a w hsz hcl hlen he hs h
  have h0 : unlO order listed = [] := List.eq_nil_of_length_eq_zero hlen
  refine ⟨List.eq_nil_iff_forall_not_mem.2 fun j hj => ?_,?_⟩
  ·obtain ⟨h1,o,h2,_⟩ := mem_ready.1 hj
   have : j ∈ unlO order listed := mem_unl.2 ⟨hall j (Array.getElem?_eq_some_iff.1 h2).1,h1⟩
   rw [h0] at this; cases this
  ·rw [h0] at h
   exact hQ _ _ ⟨c,s,h,hs,he⟩
 | succ fuel ih =>
  intro listed s c a w hsz hcl hlen he hs h
  refine ⟨fun hr => ?_,fun i hi => ?_⟩
  ·exfalso
   cases hu : unlO order listed with
   | nil => rw [hu] at hlen; cases hlen
   | cons i0 rest =>
    obtain ⟨l1,l2,e1,e2,e3,e4⟩ := List.filter_eq_cons_iff.1 hu
    have hun : listed.getD i0 true = false := by simpa using e3
    obtain ⟨o,ho,h5⟩ := hed l1 i0 l2 e1
    have : i0 ∈ Region.ready .any ops listed := by
     refine mem_ready.2 ⟨hun,o,ho,fun e hee hb => ?_⟩
     rcases h5 e hee hb with h6 | h6
     ·cases h6
     ·have h7 := e2 _ h6
      have h8 : listed.getD e.on true = true := by simpa using h7
      rcases Nat.lt_or_ge e.on listed.size with h9 | h9
      ·rw [getD_tf h9 false true]; exact h8
      ·exfalso
       obtain ⟨m1,m2,hm⟩ := List.append_of_mem h6
       obtain ⟨o2,ho2,_⟩ := hed m1 e.on (m2 ++ i0 :: l2) (by rw [e1,hm]; simp)
       have := (Array.getElem?_eq_some_iff.1 ho2).1
       omega
    rw [hr] at this; cases this
  ·obtain ⟨hun,o,ho,haft⟩ := mem_ready.1 hi
   have hlt : i < ops.size := (Array.getElem?_eq_some_iff.1 ho).1
   have hiu : i ∈ unlO order listed := mem_unl.2 ⟨hall i hlt,hun⟩
   obtain ⟨l1,l2,hl⟩ := List.append_of_mem hiu
   have hpu : (unlO order listed).Pairwise (PairR ops qs F) := hpw.filter _
   have hku : ∀ q ∈ unlO order listed,known ops q ∧ (∀ d,(opAt ops q).dst = some d → d ∉ (opAt ops q).looksAt ops) := fun q hq => hkn q (mem_unl.1 hq).1
   rw [hl] at hpu hku h
   rw [List.pairwise_append] at hpu
   obtain ⟨hp1,hp2,hp3⟩ := hpu
   rw [List.pairwise_cons] at hp2
   have hrest : unlO order (listed.setIfInBounds i true) = l1 ++ l2 := by
    have e1 : unlO order (listed.setIfInBounds i true) = (unlO order listed).filter (· != i) := by
     unfold unlO
     rw [List.filter_filter]
     refine List.filter_congr fun j hj => ?_
     by_cases e : i = j
     ·subst e
      rw [Array.getD_eq_getD_getElem?,Array.getElem?_setIfInBounds_self_of_lt (by omega)]
      simp
     ·rw [getD_set_ne _ e]
      have : (j != i) = true := by simp; omega
      rw [this]; simp
    rw [e1,hl,List.filter_append,List.filter_cons_of_neg (by simp)]
    congr 1
    ·rw [List.filter_eq_self]
     intro p hp
     have := (hp3 p hp i List.mem_cons_self).1
     simpa using this
    ·rw [List.filter_eq_self]
     intro p hp
     have := (hp2.1 p hp).1
     have : p ≠ i := fun e => this e.symm
     simpa using this
   have hf := frontR (ops := ops) (bs := bs) (F := F) (i := i) (l2 := l2) (hku i (by simp)).1 l1 [] (fun p hp => hku p (by simp [hp])) (fun p hp => ⟨hp3 p hp i List.mem_cons_self,by
    cases e : reach ops ops.size p i with
    | false => rfl
    | true =>
     exfalso
     have h1 := reach_listed hcl _ i o ho e haft
     have hpm : p ∈ unlO order listed := by rw [hl]; simp [hp]
     have h2 := (mem_unl.1 hpm).2
     rw [getD_tf (by rw [hsz]; exact hlt_ hsz h2) true false,h1] at h2; cases h2⟩) hp1 (fun p hp => (by cases hp)) h
   rw [← hrest] at hf
   have hsz' : (listed.setIfInBounds i true).size = ops.size := by simp [hsz]
   have hcl' : Closed ops (listed.setIfInBounds i true) := by
    intro q oq hoq hq e hee hb
    by_cases hqi : i = q
    ·subst hqi
     rw [ho] at hoq; cases hoq
     exact getD_set_true (haft e hee hb)
    ·rw [getD_set_ne _ hqi] at hq
     exact getD_set_true (hcl q oq hoq hq e hee hb)
   have hlen' : (unlO order (listed.setIfInBounds i true)).length = fuel := by
    rw [hrest]
    rw [hl] at hlen
    simp at hlen ⊢; omega
   have hgo : ∀ (R : LS → Prop),stepL (fun _ => P) (fun _ => T) ops.toList o s R → (∀ s1,R s1 → lopsR (fun _ => P) (fun _ => T) ops bs qs F (unlO order (listed.setIfInBounds i true)) s1 K) → wpOp P ops Q i (fun a' w' => wpAny P .any ops Q fuel (listed.setIfInBounds i true) a' w') a w := by
    intro R hf hR
    unfold wpOp
    rw [ho]
    dsimp only
    unfold stepL at hf
    split at hf
    ·rename_i cb hy
     have hw := yes_sound hs hy
     cases cb with
     | true =>
      rw [if_pos hw]
      left
      refine Oper.wp_mono (fun a' w' hp => ?_) (lop_sound (Q := Q) hT hs hf)
      obtain ⟨c',s',hK,hs',he'⟩ := hp
      exact ih _ hsz' hcl' hlen' (he.trans he') hs' (hR _ hK)
     | false =>
      rw [if_neg (by rw [hw]; simp)]
      exact ih _ hsz' hcl' hlen' he (hs.put .nul _) (hR _ hf)
    ·exact hf.elim
   cases hcA : cA ops qs i with
   | true =>
    obtain ⟨u,h1,_,h3⟩ := headR_x (hf.1 hcA)
    rw [at_ ho] at h1 h3
    rcases h3 s ⟨fun _ _ => rfl,fun _ _ => rfl,Nat.le_refl _⟩ with h3 | h3
    ·refine hgo _ (h3 (fun s1 => s1 = s.put o.dst u) rfl) fun s1 e => ?_
     rw [e]; exact h1
    ·unfold wpOp
     rw [ho]
     dsimp only
     rw [if_pos (yes_sound hs h3.1)]
     left
     refine Oper.wp_mono (fun a' w' hp => ?_) (row_sound (Q := Q) hT hs h3.2)
     obtain ⟨c',s',hK,hs',he'⟩ := hp
     subst hK
     exact ih _ hsz' hcl' hlen' (he.trans he') hs' h1
   | false =>
    have h3 := hf.2 hcA
    rw [at_ ho] at h3
    exact hgo _ h3 fun s1 h => h.2
theorem read_sound (hT : TOK P T) (hm : P.follows .mixedOrders = true) (bs : List Nat) (qs : List Nat) (F : List (Nat × List Nat)) (order : List Nat) {ops : Unit → Array Oper} {s : LS} (hd : drawnR (ops ()) qs F order = true) (h : lopsR (fun _ => P) (fun _ => T) (ops ()) bs qs F order s K) : DrawF (fun _ => P) ops s K := by
 refine .mk fun c a w t Q hs hQ => ?_
 generalize ops () = ops at *
 simp only [Region.schedule,hm,Bool.true_or,if_true]
 have hget : ∀ i,(Array.replicate ops.size false).getD i false = false := by
  intro i
  rw [Array.getD_eq_getD_getElem?,Array.getElem?_replicate]
  split <;> rfl
 have hd' := hd
 simp only [drawnR,Bool.and_eq_true] at hd'
 obtain ⟨hpw,_,hed⟩ := orderR_spec hd'.1
 have hlt : ∀ j ∈ order,j < ops.size := fun j hj => by
  obtain ⟨l1,l2,e⟩ := List.append_of_mem hj
  obtain ⟨o,ho,_⟩ := hed l1 j l2 e
  exact (Array.getElem?_eq_some_iff.1 ho).1
 have hun : unlO order (Array.replicate ops.size false) = order := by
  unfold unlO
  rw [List.filter_eq_self]
  intro j hj
  have := hlt j hj
  rw [Array.getD_eq_getD_getElem?,Array.getElem?_replicate,if_pos this]; rfl
 have hnd : order.Nodup := hpw.imp fun h => h.1
 have hlen : order.length = ops.size := by
  have h1 : order.Perm (List.range ops.size) := by
   rw [List.perm_ext_iff_of_nodup hnd List.nodup_range]
   intro j
   rw [List.mem_range]
   exact ⟨hlt j,fun hj => by have := List.all_eq_true.1 hd'.2 j (List.mem_range.2 hj); simpa using this⟩
  simpa using h1.length_eq
 refine wpAny_sound ops.size t _ a w (anyR_sound (K := K) (bs := bs) hT hd (c0 := c) (w0 := w) (fun a' w' hp => hQ a' w' ?_) ops.size _ (by simp) ?_ (by rw [hun]; exact hlen) (Ext.refl hs.hr) hs ?_)
 ·obtain ⟨c',s',hK,hs',he⟩ := hp
  exact ⟨c',s',hK,hs',he⟩
 ·intro q o _ hq
  rw [hget] at hq; cases hq
 ·rw [hun]; exact h
end
def pairRF (ops : Array Oper) (qs : List Nat) (F : List (Nat × List Nat)) (M : List Nat) (p q : Nat) : Bool :=
 p != q && ((cA ops qs p && (opAt ops p).apart ops (opAt ops q) && (cA ops qs q || (look F q).contains p)) || (M.getD q 0).testBit p) && (!(F.any fun e => e.2.contains p && e.2.contains q) || match (opAt ops q).dst with
  | some d => !cA ops qs p || !cA ops qs q || !((opAt ops p).looksAt ops).contains d
  | none => true)
def orderRF (ops : Array Oper) (qs : List Nat) (F : List (Nat × List Nat)) (M : List Nat) : List Nat → List Nat → Bool
 | _,[] => true
 | pre,q :: l => edgesOK ops pre q && selfOK ops q && l.all (fun r => pairRF ops qs F M q r) && orderRF ops qs F M (q :: pre) l
def drawnRF (ops : Array Oper) (qs : List Nat) (F : List (Nat × List Nat)) (order : List Nat) : Bool := orderRF ops qs F (masksL ops.toList []) [] order && (List.range ops.size).all (fun j => order.contains j)
theorem pairRF_ok {ops : Array Oper} {qs : List Nat} {F : List (Nat × List Nat)} {M : List Nat} (hM : MasksOk ops M) (hl : M.length = ops.size) {p q : Nat} (h : pairRF ops qs F M p q = true) : pairR ops qs F p q = true := by
 unfold pairRF at h
 unfold pairR
 rw [Bool.and_eq_true,Bool.and_eq_true] at h ⊢
 refine ⟨⟨h.1.1,?_⟩,h.2⟩
 have h2 := h.1.2
 rw [Bool.or_eq_true] at h2 ⊢
 rcases h2 with h2 | h2
 ·exact .inr h2
 ·obtain ⟨g1,g2⟩ := hM _ _ h2
  exact .inl (reach_mono g2 (by omega))
theorem orderRF_ok {ops : Array Oper} {qs : List Nat} {F : List (Nat × List Nat)} {M : List Nat} (hM : MasksOk ops M) (hl : M.length = ops.size) : ∀ {l pre : List Nat},orderRF ops qs F M pre l = true → orderR ops qs F pre l = true
 | [],pre,_ => rfl
 | q :: l,pre,h => by
  rw [orderRF,Bool.and_eq_true,Bool.and_eq_true] at h
  rw [orderR,Bool.and_eq_true,Bool.and_eq_true]
  refine ⟨⟨h.1.1,?_⟩,orderRF_ok hM hl h.2⟩
  rw [List.all_eq_true] at *
  exact fun r hr => pairRF_ok hM hl (h.1.2 r hr)
theorem drawnRF_ok {ops : Array Oper} {qs : List Nat} {F : List (Nat × List Nat)} {order : List Nat} (h : drawnRF ops qs F order = true) : drawnR ops qs F order = true := by
 unfold drawnRF at h
 unfold drawnR
 rw [Bool.and_eq_true] at h ⊢
 obtain ⟨g1,g2⟩ := masksL_ok (ops := ops) ops.toList [] [] rfl rfl (fun q p h => by simp at h)
 exact ⟨orderRF_ok g1 g2 h.1,h.2⟩
theorem readF_sound {P : Program} {T : TT} {K : LS → Prop} (hT : TOK P T) (hm : P.follows .mixedOrders = true) (bs : List Nat) (qs : List Nat) (F : List (Nat × List Nat)) (order : List Nat) {ops : Unit → Array Oper} {s : LS} (hd : drawnRF (ops ()) qs F order = true) (h : lopsR (fun _ => P) (fun _ => T) (ops ()) bs qs F order s K) : DrawF (fun _ => P) ops s K :=
 read_sound hT hm bs qs F order (drawnRF_ok hd) h
theorem re_same {n : Nat} {t : List LV} {h1 h : LH} (he : ∀ b B,hget h b = some B → hget h1 b = some B) : Re n ⟨t,h1,n⟩ ⟨t,h,n⟩ := by
 refine .mk fun c w c2 a w' hN hx hs => ⟨c2,hx,⟨hs.tl,hs.tr,hs.df,⟨fun b B hb => hs.hr.live b B (he b B hb),hs.hr.fresh,hs.hr.inj,hs.hr.noX,hs.hr.ltX,hs.hr.lt⟩,hs.nn⟩⟩
theorem renH_some {ρ : List (Nat × Nat)} {n0 n : Nat} : ∀ {h0 : LH} {a b : Nat} {A : LB},hget h0 a = some A → rn ρ n0 n a = some b → ∃ B,hget (renH ρ n0 n h0) b = some B
 | [],_,_,_,h,_ => by cases h
 | (d,D) :: h0,a,b,A,h,hr => by
  rw [hget_cons] at h
  rw [renH]
  by_cases e : d = a
  ·subst e
   rw [hr]
   exact ⟨_,by rw [hget_cons,if_pos rfl]⟩
  ·rw [if_neg e] at h
   obtain ⟨B,hB⟩ := renH_some h hr
   cases hd : rn ρ n0 n d with
   | none => exact ⟨B,hB⟩
   | some d' =>
    dsimp only
    rw [hget_cons]
    by_cases e2 : d' = b
    ·rw [if_pos e2]; exact ⟨_,rfl⟩
    ·rw [if_neg e2]; exact ⟨B,hB⟩
theorem hdels_not : ∀ (ρ : List (Nat × Nat)) (h : LH) (b : Nat),nback ρ b = none → hget (hdels ρ h) b = hget h b
 | [],_,_,_ => rfl
 | (x,y) :: ρ,h,b,hn => by
  rw [nback_cons] at hn
  split at hn
  ·cases hn
  ·rename_i e
   rw [hdels,hget_del,if_neg (fun q => e q.symm)]
   exact hdels_not ρ h b hn
theorem nback_mem : ∀ {ρ : List (Nat × Nat)} {a b : Nat},nback ρ b = some a → (a,b) ∈ ρ
 | [],_,_,h => by cases h
 | (x,y) :: ρ,a,b,h => by
  rw [nback_cons] at h
  split at h
  ·rename_i e
   cases h
   subst e
   exact List.mem_cons_self
  ·exact List.mem_cons_of_mem _ (nback_mem h)
theorem frameH_same {ρ : List (Nat × Nat)} {n0 n : Nat} {h h0 : LH} (hF : fok n0 n ρ = true) (hm : hmapOk ρ n0 n h h0) (hall : ρ.all (fun p => (hget h0 p.1).isSome) = true) : ∀ b B,hget h b = some B → hget (frameH ρ n0 n h h0) b = some B := by
 intro b B hb
 have hF' := fok_ok hF
 unfold frameH
 rw [hget_happ]
 cases e : hget (renH ρ n0 n h0) b with
 | some B' =>
  dsimp only
  obtain ⟨a,A,k1,k2,k3⟩ := hget_renH hF' h0 b B' e
  obtain ⟨b',g1,g2,_⟩ := hmapOk_get hm a A k2
  have : rn ρ n0 n a = some b' := by unfold rn; rw [g1]
  obtain rfl : b' = b := Option.some.inj (this.symm.trans k1)
  rw [k3]
  exact g2.symm.trans hb
 | none =>
  dsimp only
  cases en : nback ρ b with
  | none => rw [hdels_not ρ h b en]; exact hb
  | some a =>
   have hab := nback_mem en
   have := List.all_eq_true.1 hall _ hab
   obtain ⟨A,hA⟩ := Option.isSome_iff_exists.1 this
   obtain ⟨b',g1,_,_⟩ := hmapOk_get hm a A hA
   have hr : rn ρ n0 n a = some b := by
    unfold rn
    rw [(hF'.iff a b).2 en]
   obtain ⟨B',hB'⟩ := renH_some hA hr
   rw [e] at hB'; cases hB'
theorem callF_read {P : Unit → Program} {f : Nat} {args0 args : List LV} {h0 h : LH} {n0 n : Nat} {u0 u : LV} (hc : CallF P f args0 h0 n0 fun r h1 n1 => r = u0 ∧ h1 = h0 ∧ n1 = n0) (ρ : List (Nat × Nat)) (hF : fok n0 n ρ = true) (hm : hmapOk ρ n0 n h h0) (ha : args = renVs ρ n0 n args0) (hok : okVs ρ args0 = true) (hu : u = renV ρ n0 n u0) (hall : ρ.all (fun p => (hget h0 p.1).isSome) = true) : CallF P f args h n fun r h2 n2 => r = u ∧ h2 = h ∧ n2 = n := by
 refine CallF.ret (callF_frame (K := fun r h1 n1 => r = u ∧ h1 = frameH ρ n0 n h h0 ∧ n1 = n) hc ρ hF hm ha hok (fun r h' n' ⟨e1,e2,e3⟩ => ?_)) (fun r h' n' ⟨e1,e2,e3⟩ => ?_)
 ·subst e1 e2 e3
  exact ⟨hu.symm,rfl,by omega⟩
 ·subst e1 e2 e3
  exact .mk [r] h n' (re_same (frameH_same hF hm hall)) rfl ⟨rfl,rfl,rfl⟩
end Go.LX
namespace Go.Proofs.YtkhfgngcoiablaaGreatDoor
open Go Go.LX
set_option maxRecDepth 100000
set_option linter.unusedVariables false
set_option linter.unusedSimpArgs false
set_option maxHeartbeats 32000000
theorem lends_lx (y0 y1 y2 y3 y4 y5 y6 y7 y8 : Int) (d : Bool) : CallF (fun _ => Tryz.prog) 98 [.agg [i6 y0,i6 y1,i6 y2,i6 y3,i6 y4,i6 y5,i6 y6,i6 y7,i6 y8],.p (.bool d)] [] 0 (fun r h n => (∃ a b : Int,r = .tup [i6 a,i6 b] ∧ a = (if d then y7 else y5) ∧ b = (if d then y8 else y6)) ∧ h = [] ∧ n = 0) := by
 cases d with
 | false =>
  refine callF_of_body tok Tryz.func98 (by kernel_rfl) rfl rfl rfl ?_; conv => cbv
  refine drawn_sound tok (by kernel_rfl) [] [0,1,2,3,4,5] (by kernel_rfl) ?_; conv => cbv
  refine RetF.mk [i6 y5,i6 y6] [] 0 (Re.at [] []) rfl ⟨⟨y5,y6,rfl,rfl,rfl⟩,rfl,rfl⟩
 | true =>
  refine callF_of_body tok Tryz.func98 (by kernel_rfl) rfl rfl rfl ?_; conv => cbv
  refine drawn_sound tok (by kernel_rfl) [] [0,1,2,3,4,5] (by kernel_rfl) ?_; conv => cbv
  refine RetF.mk [i6 y7,i6 y8] [] 0 (Re.at [] []) rfl ⟨⟨y7,y8,rfl,rfl,rfl⟩,rfl,rfl⟩
inductive Wtg (M : Hp) (a : Int) : LV → Prop
 | is (y0 y1 y2 y3 y4 y5 y6 : Int) (h : M a = some (3,[y0,y1,y2,y3,y4,y5,y6])) : Wtg M a (.iface 36 (.agg [i6 y0,i6 y1,i6 y2,i6 y3,i6 y4,i6 y5,i6 y6]))
 | no (h : ∀ F,M a ≠ some (3,F)) : Wtg M a (.iface 193 (.agg []))
theorem waiting_lx (R : List Rw) (ws C G : List Int) (N W ph sp cy : Int) (L D Q : List PV) (z : ByteArray) (ov : Bool) (h : HM R ws C G N W L D Q z) (M : Hp) (hM : Cont R ws M) (a : Int) (hs : ∀ F,M a = some (3,F) → ∃ y0 y1 y2 y3 y4 y5 y6,F = [y0,y1,y2,y3,y4,y5,y6]) : CallF (fun _ => Tryz.prog) 99 [.ptr 0 (.lit 0),i6 a] [hpA 0 1 5 6 3 W ph sp cy,hpB 1 2 4 3 W,hpC 2 3 233 2 N,hpP 3 L,hpP 4 D,hpF 5 z ov,hpP 6 Q] 7 (fun r h n => Wtg M a r ∧ h = [hpA 0 1 5 6 3 W ph sp cy,hpB 1 2 4 3 W,hpC 2 3 233 2 N,hpP 3 L,hpP 4 D,hpF 5 z ov,hpP 6 Q] ∧ n = 7) := by
 by_cases hq : ∃ F,M a = some (3,F)
 ·obtain ⟨F,hF⟩ := hq
  obtain ⟨y0,y1,y2,y3,y4,y5,y6,rfl⟩ := hs F hF
  refine callF_of_body tok Tryz.func99 (by kernel_rfl) rfl rfl rfl ?_; conv => cbv
  refine cfr (sudogM_lx R ws C G N W ph sp cy L D Q z ov h M hM a y0 y1 y2 y3 y4 y5 y6 hF) [(0,0),(1,1),(2,2),(3,3),(4,4),(5,5),(6,6)] (fun r h' n' hrr => ?_)
  obtain ⟨⟨e,e1,he⟩,e2,e3⟩ := hrr
  subst e1 e2 e3
  conv => cbv
  refine Br.no (show ¬ ¬ (e = 0) from fun q => q he) ?_
  conv => cbv
  refine RetF.mk [.iface 36 (.agg [i6 y0,i6 y1,i6 y2,i6 y3,i6 y4,i6 y5,i6 y6])] [hpA 0 1 5 6 3 W ph sp cy,hpB 1 2 4 3 W,hpC 2 3 233 2 N,hpP 3 L,hpP 4 D,hpF 5 z ov,hpP 6 Q] 7 (Re.at [(0,0),(1,1),(2,2),(3,3),(4,4),(5,5),(6,6)] []) rfl ⟨.is y0 y1 y2 y3 y4 y5 y6 hF,rfl,rfl⟩
 ·have hno : ∀ F,M a ≠ some (3,F) := fun F e => hq ⟨F,e⟩
  refine callF_of_body tok Tryz.func99 (by kernel_rfl) rfl rfl rfl ?_; conv => cbv
  refine cfr (sudogNoM_lx R ws C G N W ph sp cy L D Q z ov h M hM a hno) [(0,0),(1,1),(2,2),(3,3),(4,4),(5,5),(6,6)] (fun r h' n' hrr => ?_)
  obtain ⟨⟨y0,y1,y2,y3,y4,y5,y6,e,e1,he,hz⟩,e2,e3⟩ := hrr
  subst e1 e2 e3
  conv => cbv
  refine Br.yes (show ¬ (e = 0) by omega) ?_
  conv => cbv
  refine RetF.mk [.iface 193 (.agg [])] [hpA 0 1 5 6 3 W ph sp cy,hpB 1 2 4 3 W,hpC 2 3 233 2 N,hpP 3 L,hpP 4 D,hpF 5 z ov,hpP 6 Q] 7 (Re.at [(0,0),(1,1),(2,2),(3,3),(4,4),(5,5),(6,6)] []) rfl ⟨.no hno,rfl,rfl⟩
theorem nodup_len {l : List Int} {n : Nat} (hn : l.Nodup) (hb : ∀ x ∈ l,0 ≤ x ∧ x < n) : l.length ≤ n := by
 have := nodup_le (l := l) (m := (List.range n).map fun (i : Nat) => (i : Int)) hn fun x hx => by
  obtain ⟨h0,h1⟩ := hb x hx
  exact List.mem_map.2 ⟨x.toNat,List.mem_range.2 (by omega),by omega⟩
 simpa using this
theorem Sys.len {M : Hp} {q : Qs} {R : List Rw} {ws : List Int} (hA : AOk R ws) (hM : Cont R ws M) (hY : Sys M q) (c : Int) (d : Bool) : (q c d).length ≤ 32 * R.length := by
 refine nodup_len (hY.nd c d) fun x hx => ?_
 obtain ⟨g,w,n,p,r,m,e⟩ := hY.sg c d x hx
 have := hM.len hA e
 simp at this
 omega
theorem neg_none {M : Hp} {R : List Rw} {ws : List Int} (hA : AOk R ws) (hM : Cont R ws M) : M (-1) = none := by
 cases h : M (-1) with
 | none => rfl
 | some v => have := hM.len hA (k := v.1) (F := v.2) h; omega
theorem listAll_lx (R : List Rw) (ws C G : List Int) (N W ph sp cy : Int) (L D Q : List PV) (z : ByteArray) (ov : Bool) (h : HM R ws C G N W L D Q z) (M : Hp) (hM : Cont R ws M) (q : Qs) (hY : Sys M q) (c : Int) (d : Bool) (hch : ∀ F,M c = some (1,F) → ∃ y0 y1 y2 y3 y4 y5 y6 y7 y8,F = [y0,y1,y2,y3,y4,y5,y6,y7,y8]) (hsu : ∀ a F,M a = some (3,F) → ∃ y0 y1 y2 y3 y4 y5 y6,F = [y0,y1,y2,y3,y4,y5,y6]) : CallF (fun _ => Tryz.prog) 38 [.ptr 0 (.lit 0),i6 c,.p (.bool d)] [hpA 0 1 5 6 3 W ph sp cy,hpB 1 2 4 3 W,hpC 2 3 233 2 N,hpP 3 L,hpP 4 D,hpF 5 z ov,hpP 6 Q] 7 (fun r h n => ∃ (m : Int) (cells : List PV),r = .sl 7 3 1 (.lit 0) (.sym m) ∧ h = [hpA 0 1 5 6 3 W ph sp cy,hpB 1 2 4 3 W,hpC 2 3 233 2 N,hpP 3 L,hpP 4 D,hpF 5 z ov,hpP 6 Q,hpP 7 cells] ∧ n = 8 ∧ m = (q c d).length ∧ cells = ipv (q c d)) := by
 have hlen := hY.len h.a hM c d
 have hNR := h.n; have hRr := h.r
 by_cases hq : ∃ F,M c = some (1,F)
 ·obtain ⟨F,hF⟩ := hq
  obtain ⟨y0,y1,y2,y3,y4,y5,y6,y7,y8,rfl⟩ := hch F hF
  refine callF_of_body tok Tryz.func38 (by kernel_rfl) rfl rfl rfl ?_; conv => cbv
  refine cfr (chanM_lx R ws C G N W ph sp cy L D Q z ov h M hM c y0 y1 y2 y3 y4 y5 y6 y7 y8 hF) [(0,0),(1,1),(2,2),(3,3),(4,4),(5,5),(6,6)] (fun r h' n' hrr => ?_)
  obtain ⟨⟨e,e1,he⟩,e2,e3⟩ := hrr
  subst e1 e2 e3
  conv => cbv
  refine Br.no (show ¬ ¬ (e = 0) from fun q => q he) ?_
  conv => cbv
  refine callF_frame (lends_lx y0 y1 y2 y3 y4 y5 y6 y7 y8 d) [] rfl trivial rfl rfl (fun r h' n' hrr => ?_)
  obtain ⟨⟨at0,at1,e1,hat0,hat1⟩,e2,e3⟩ := hrr
  subst e1 e2 e3
  conv => cbv
  have hlk := hY.lnk hF
  rw [lnk_chan] at hlk
  simp only [Prod.mk.injEq,List.cons.injEq,true_and,and_true] at hlk
  obtain ⟨hl5,hl6,hl7,hl8⟩ := hlk
  obtain ⟨l0,hl0⟩ : ∃ l0,l0 = q c d := ⟨_,rfl⟩
  have hat : at0 = (l0[0]?).getD (-1) := by
   have hh : hdQ l0 = (l0[0]?).getD (-1) := by unfold hdQ; rw [List.head?_eq_getElem?]
   rw [hat0,← hh,hl0]
   cases d with
   | false => exact hl5.symm
   | true => exact hl7.symm
  rw [← hl0] at hlen ⊢
  have hnd : l0.Nodup := hl0 ▸ hY.nd c d
  have hneg := neg_none h.a hM
  refine LoopF.mk (fun kk s => ∃ (i at_ : Int) (dn : List Int) (cells : List PV),s = ⟨.ptr 0 (.lit 0) :: (undefs 8 ++ .sl 9 3 1 (.lit 0) (.sym i) :: .mp 8 :: .p (.int .i64 (.sym at_)) :: undefs 48),[hpA 0 1 5 6 3 W ph sp cy,hpB 1 2 4 3 W,hpC 2 3 233 2 N,hpP 3 L,hpP 4 D,hpF 5 z ov,hpP 6 Q,(8,.set dn),hpP 9 cells],10⟩ ∧ 0 ≤ i ∧ i ≤ l0.length ∧ kk = ((l0.length : Int) - i).toNat ∧ dn = l0.take i.toNat ∧ cells = ipv dn ∧ at_ = (l0[i.toNat]?).getD (-1)) l0.length _
   (Re.at [(0,0),(1,1),(2,2),(3,3),(4,4),(5,5),(6,6),(8,8)] [9]) ⟨0,at0,[],[],rfl,by omega,by omega,by omega,rfl,rfl,hat⟩ ?_
  rintro kk s ⟨i,at_,dn,cells,rfl,hi0,hi1,hkk,hdn,hcs,hat_⟩
  have hi1 : i ≤ (l0.length : Int) := hi1
  have hkk : kk = ((l0.length : Int) - i).toNat := hkk
  have hdl : dn.length = i.toNat := by rw [hdn,List.length_take]; omega
  conv => cbv
  refine cfr (waiting_lx R ws C G N W ph sp cy L D Q z ov h M hM at_ (hsu at_)) [(0,0),(1,1),(2,2),(3,3),(4,4),(5,5),(6,6)] (fun r h' n' hrr => ?_)
  obtain ⟨hW,e2,e3⟩ := hrr
  subst e2 e3
  cases hW with
  | is z0 z1 z2 z3 z4 z5 z6 hz =>
   have hil : i < (l0.length : Int) := by
    rcases Int.lt_or_le i l0.length with h1 | h1
    ·exact h1
    ·rw [List.getElem?_eq_none (by omega)] at hat_
     rw [show at_ = -1 from hat_,hneg] at hz
     cases hz
   obtain ⟨x,hx⟩ : ∃ x,l0[i.toNat]? = some x := ⟨_,List.getElem?_eq_getElem (by omega)⟩
   obtain rfl : at_ = x := by rw [hat_,hx]; rfl
   have hni : at_ ∉ dn := by
    rw [hdn]
    intro hm
    obtain ⟨k,hk⟩ := List.getElem?_of_mem hm
    rw [List.getElem?_take] at hk
    split at hk
    ·rename_i hkl
     have := (List.getElem?_inj (by have := (List.getElem?_eq_some_iff.1 hk).1; omega) hnd).1 (hk.trans hx.symm)
     omega
    ·cases hk
   conv => cbv
   refine Br.no (show ¬ (at_ ∈ dn) from hni) ?_
   conv => cbv
   have hcl : cells.length = dn.length := by rw [hcs,ipv_length]
   refine Room.new rfl ?_
   conv => cbv
   refine Room.new ⟨?_,?_,?_⟩ ?_
   ·show (cells.length : Int) = i * 1; omega
   ·show (i + 1) * 8 ≤ 140737488355328; omega
   ·show i + 1 ≤ 9223372036854775807; omega
   conv => cbv
   refine Upd.mk fun cells2 hcs2 => ?_
   have hcs2 : cells2 = cells ++ [.int .i64 (.sym at_)] := hcs2
   have hcs3 : cells2 = ipv (dn ++ [at_]) := by rw [hcs2,hcs,← ipv_app]; rfl
   conv => cbv
   refine Sum.mk fun j2 hj2 => ?_
   have hj2 : j2 = i + 1 := hj2
   conv => cbv
   refine Need.mk (show ¬ (at_ ∈ dn) from hni) ?_
   conv => cbv
   refine UpdI.mk fun dn2 hdn2 => ?_
   have hdn2 : dn2 = dn ++ [at_] := hdn2
   have hdn3 : dn2 = l0.take j2.toNat := by rw [hdn2,hdn,show j2.toNat = i.toNat + 1 by omega,List.take_add_one,hx]; rfl
   have hnx : z3 = (l0[j2.toNat]?).getD (-1) := by
    have h1 := hY.lnk hz
    have hsm : at_ ∈ q c d := hl0 ▸ List.mem_of_getElem? hx
    obtain ⟨g,w,n,p,r,m,e⟩ := hY.sg c d at_ hsm
    rw [hz] at e
    simp only [Option.some.injEq,Prod.mk.injEq,List.cons.injEq,true_and,and_true] at e
    obtain ⟨_,ec,_⟩ := e
    rw [lnk_sudog,ec,hY.nxt hsm,sucL_get _ _ (hY.nd c d) (hl0 ▸ hx)] at h1
    simp only [Prod.mk.injEq,List.cons.injEq,true_and,and_true] at h1
    rw [show j2.toNat = i.toNat + 1 by omega,hl0]
    exact h1.symm
   conv => cbv
   refine Again.mk ((l0.length : Int) - j2).toNat _ (by omega) (Re.at [(0,0),(1,1),(2,2),(3,3),(4,4),(5,5),(6,6),(8,8),(13,9)] []) ⟨j2,z3,dn2,cells2,rfl,(show (0 : Int) ≤ j2 by omega),(show j2 ≤ (l0.length : Int) by omega),rfl,hdn3,by rw [hcs3,hdn2],hnx⟩
  | no hz =>
   have hil : i = (l0.length : Int) := by
    rcases Int.lt_or_le i l0.length with h1 | h1
    ·obtain ⟨x,hx⟩ : ∃ x,l0[i.toNat]? = some x := ⟨_,List.getElem?_eq_getElem (by omega)⟩
     obtain ⟨g,w,n,p,r,m,e⟩ := hY.sg c d x (hl0 ▸ List.mem_of_getElem? hx)
     rw [hat_,hx] at hz
     exact absurd e (hz _)
    ·omega
   have hdn2 : dn = l0 := by rw [hdn,hil]; simp
   conv => cbv
   refine Br.mk (fun gq => ?_) (fun gq => ?_)
   ·conv => cbv
    refine RetF.mk [.sl 7 3 1 (.lit 0) (.sym i)] [hpA 0 1 5 6 3 W ph sp cy,hpB 1 2 4 3 W,hpC 2 3 233 2 N,hpP 3 L,hpP 4 D,hpF 5 z ov,hpP 6 Q,hpP 7 cells] 8 (Re.at [(0,0),(1,1),(2,2),(3,3),(4,4),(5,5),(6,6),(9,7)] []) rfl ⟨i,cells,rfl,rfl,rfl,hil,by rw [hcs,hdn2]⟩
   ·conv => cbv
    refine RetF.mk [.sl 7 3 1 (.lit 0) (.sym i)] [hpA 0 1 5 6 3 W ph sp cy,hpB 1 2 4 3 W,hpC 2 3 233 2 N,hpP 3 L,hpP 4 D,hpF 5 z ov,hpP 6 Q,hpP 7 cells] 8 (Re.at [(0,0),(1,1),(2,2),(3,3),(4,4),(5,5),(6,6),(9,7)] []) rfl ⟨i,cells,rfl,rfl,rfl,hil,by rw [hcs,hdn2]⟩
 ·have hno : ∀ F,M c ≠ some (1,F) := fun F e => hq ⟨F,e⟩
  have hqe : q c d = [] := hY.none hno d
  refine callF_of_body tok Tryz.func38 (by kernel_rfl) rfl rfl rfl ?_; conv => cbv
  refine cfr (chanNoM_lx R ws C G N W ph sp cy L D Q z ov h M hM c hno) [(0,0),(1,1),(2,2),(3,3),(4,4),(5,5),(6,6)] (fun r h' n' hrr => ?_)
  obtain ⟨⟨y0,y1,y2,y3,y4,y5,y6,y7,y8,e,e1,he,hz⟩,e2,e3⟩ := hrr
  subst e1 e2 e3
  conv => cbv
  refine Br.yes (show ¬ (e = 0) by omega) ?_
  conv => cbv
  refine RetF.mk [.sl 7 3 1 (.lit 0) (.sym 0)] [hpA 0 1 5 6 3 W ph sp cy,hpB 1 2 4 3 W,hpC 2 3 233 2 N,hpP 3 L,hpP 4 D,hpF 5 z ov,hpP 6 Q,(7,.pure true [])] 8 (Re.at [(0,0),(1,1),(2,2),(3,3),(4,4),(5,5),(6,6)] [7]) rfl ⟨0,[],rfl,rfl,rfl,by rw [hqe]; rfl,by rw [hqe]; rfl⟩
end Go.Proofs.YtkhfgngcoiablaaGreatDoor
namespace Go.Proofs.YtkhfgngcoiablaaGreatDoor
open Go Go.LX
set_option maxRecDepth 100000
set_option linter.unusedVariables false
set_option linter.unusedSimpArgs false
set_option maxHeartbeats 32000000
theorem ringAllM {R : List Rw} {ws : List Int} {M : Hp} (hM : Cont R ws M) {c cp cl k s b th tt sh st : Int} {l : List Int} (hMc : M c = some (1,[cp,cl,k,s,b,th,tt,sh,st])) (hs : 0 ≤ s) (h : RAll R ws c l) : (cp ≤ 0 ∧ l = []) ∨ ∀ X,M b = some (2,X) → (X.length : Int) = cp → 0 < cp ∧ (l.length : Int) = min (max k 0) cp ∧ ∀ (i : Nat) (x : Int),l[i]? = some x → X[((s % cp + i) % cp).toNat]? = some x := by
 have hKc := hM.kept hMc
 cases h with
 | no hh => exact absurd hKc hh
 | none X0 y0 y1 y2 y3 y4 y5 y6 y7 y8 hh hX0 hy hf =>
  have hy2 : chanFs X0 = [cp,cl,k,s,b,th,tt,sh,st] := (hM.tr hMc rfl rfl (TR.ok X0 hh hX0)).2
  rw [hy2] at hy
  simp only [List.cons.injEq,and_true] at hy
  obtain ⟨rfl,rfl,rfl,rfl,rfl,rfl,rfl,rfl,rfl⟩ := hy
  by_cases q : y0 ≤ 0
  ·exact .inl ⟨q,rfl⟩
  ·refine .inr fun X hMb hX => absurd ⟨by omega,?_⟩ hf
   have := hM.kept hMb
   rw [hX] at this
   exact this
 | ok X0 y0 y1 y2 y3 y4 y5 y6 y7 y8 hh hX0 hy h0 hK _ hl hw =>
  have hy2 : chanFs X0 = [cp,cl,k,s,b,th,tt,sh,st] := (hM.tr hMc rfl rfl (TR.ok X0 hh hX0)).2
  rw [hy2] at hy
  simp only [List.cons.injEq,and_true] at hy
  obtain ⟨rfl,rfl,rfl,rfl,rfl,rfl,rfl,rfl,rfl⟩ := hy
  refine .inr fun X hMb hX => ⟨h0,hl,fun i x hx => ?_⟩
  have e1 : max y3 0 = y3 := by omega
  have h1 := hw i x hx
  rw [e1] at h1
  have hi0 := Int.emod_nonneg (y3 % y0 + i) (show y0 ≠ 0 by omega)
  have hi1 := Int.emod_lt_of_pos (y3 % y0 + i) h0
  obtain ⟨yy,hyy⟩ : ∃ x,X[((y3 % y0 + i) % y0).toNat]? = some x := ⟨_,List.getElem?_eq_getElem (by omega)⟩
  obtain ⟨hv,_⟩ := hM.load hMb ⟨by decide,by decide,by decide⟩ hi0 hyy h1
  rw [hv]; exact hyy
end Go.Proofs.YtkhfgngcoiablaaGreatDoor
namespace Go.Proofs.YtkhfgngcoiablaaGreatDoor
open Go Go.LX
set_option maxRecDepth 100000
set_option linter.unusedVariables false
set_option linter.unusedSimpArgs false
set_option maxHeartbeats 32000000
theorem ringAllM_lx (R : List Rw) (ws C G : List Int) (N W ph sp cy : Int) (L D Q : List PV) (z : ByteArray) (ov : Bool) (h : HM R ws C G N W L D Q z) (M : Hp) (hM : Cont R ws M) (c cp cl k s b th tt sh st : Int) (hMc : M c = some (1,[cp,cl,k,s,b,th,tt,sh,st])) (hs : 0 ≤ s) : CallF (fun _ => Tryz.prog) 55 [.ptr 0 (.lit 0),i6 c] [hpA 0 1 5 6 3 W ph sp cy,hpB 1 2 4 3 W,hpC 2 3 233 2 N,hpP 3 L,hpP 4 D,hpF 5 z ov,hpP 6 Q] 7 (fun r h n => ∃ (l : List Int) (m : Int) (cells : List PV),r = .sl 7 3 1 (.lit 0) (.sym m) ∧ h = [hpA 0 1 5 6 3 W ph sp cy,hpB 1 2 4 3 W,hpC 2 3 233 2 N,hpP 3 L,hpP 4 D,hpF 5 z ov,hpP 6 Q,hpP 7 cells] ∧ n = 8 ∧ m = l.length ∧ cells = ipv l ∧ ((cp ≤ 0 ∧ l = []) ∨ ∀ X,M b = some (2,X) → (X.length : Int) = cp → 0 < cp ∧ (l.length : Int) = min (max k 0) cp ∧ ∀ (i : Nat) (x : Int),l[i]? = some x → X[((s % cp + i) % cp).toNat]? = some x)) :=
 (ringAll_lx R ws C G N W ph sp cy L D Q z ov h c).mono fun r h' n hrr => by
  obtain ⟨l,m,cells,e1,e2,e3,e4,e5,hR⟩ := hrr
  exact ⟨l,m,cells,e1,e2,e3,e4,e5,ringAllM hM hMc hs hR⟩
end Go.Proofs.YtkhfgngcoiablaaGreatDoor
namespace Go.Proofs.YtkhfgngcoiablaaGreatDoor
open Go Go.LX
set_option maxRecDepth 100000
set_option linter.unusedVariables false
set_option linter.unusedSimpArgs false
set_option maxHeartbeats 32000000
theorem hch9 {M : Hp} {q : Qs} (hY : Sys M q) : ∀ a F,M a = some (1,F) → ∃ y0 y1 y2 y3 y4 y5 y6 y7 y8,F = [y0,y1,y2,y3,y4,y5,y6,y7,y8] := fun a F e => list9 (hY.sc a F e)
theorem hsu7 {M : Hp} {q : Qs} (hY : Sys M q) : ∀ a F,M a = some (3,F) → ∃ y0 y1 y2 y3 y4 y5 y6,F = [y0,y1,y2,y3,y4,y5,y6] := fun a F e => list7 (hY.ss a F e)
end Go.Proofs.YtkhfgngcoiablaaGreatDoor
namespace Go.Proofs.YtkhfgngcoiablaaGreatDoor
open Go Go.LX
set_option maxRecDepth 100000
set_option linter.unusedVariables false
set_option linter.unusedSimpArgs false
set_option maxHeartbeats 32000000
theorem atW_ptr (c : Int) : atW (2 * c + 1) = c := by
 unfold atW
 rw [if_pos (by omega)]
 omega
theorem atW_even {w : Int} (h : w % 2 = 0) : atW w = -1 := by
 unfold atW
 rw [if_neg (by omega)]
theorem see_zero_lx (R : List Rw) (ws C G : List Int) (N W ph sp cy : Int) (L D Q : List PV) (z : ByteArray) (ov : Bool) (h : HM R ws C G N W L D Q z) (M : Hp) (hM : Cont R ws M) (w : Int) (h0 : w = 0) : CallF (fun _ => Tryz.prog) 76 [.ptr 0 (.lit 0),i6 w] [hpA 0 1 5 6 3 W ph sp cy,hpB 1 2 4 3 W,hpC 2 3 233 2 N,hpP 3 L,hpP 4 D,hpF 5 z ov,hpP 6 Q] 7 (fun r h n => r = .iface 123 (.agg []) ∧ h = [hpA 0 1 5 6 3 W ph sp cy,hpB 1 2 4 3 W,hpC 2 3 233 2 N,hpP 3 L,hpP 4 D,hpF 5 z ov,hpP 6 Q] ∧ n = 7) := by
 refine callF_of_body tok Tryz.func76 (by kernel_rfl) rfl rfl rfl ?_; conv => cbv
 refine CallF.le (args0 := [i6 0]) (callF_frame (intV_lx 0 (by unfold b62; omega)) [] rfl trivial rfl rfl (fun r h' n' hrr => ?_)) (by simp [ales,ale,pvle,I.val])
 obtain ⟨⟨x0,e1,hx0⟩,e2,e3⟩ := hrr
 subst e1 e2 e3
 conv => cbv
 refine Br.yes (show w = x0 by omega) ?_
 conv => cbv
 refine RetF.mk [.iface 123 (.agg [])] [hpA 0 1 5 6 3 W ph sp cy,hpB 1 2 4 3 W,hpC 2 3 233 2 N,hpP 3 L,hpP 4 D,hpF 5 z ov,hpP 6 Q] 7 (Re.at [(0,0),(1,1),(2,2),(3,3),(4,4),(5,5),(6,6)] []) rfl ⟨rfl,rfl,rfl⟩
theorem see_is_lx (R : List Rw) (ws C G : List Int) (N W ph sp cy : Int) (L D Q : List PV) (z : ByteArray) (ov : Bool) (h : HM R ws C G N W L D Q z) (M : Hp) (hM : Cont R ws M) (w a y0 y1 y2 y3 y4 y5 y6 y7 y8 : Int) (hw : (-9223372036854775808 ≤ w ∧ w ≤ 9223372036854775807)) (h0 : w ≠ 0) (ha : atW w = a) (hMa : M a = some (1,[y0,y1,y2,y3,y4,y5,y6,y7,y8])) : CallF (fun _ => Tryz.prog) 76 [.ptr 0 (.lit 0),i6 w] [hpA 0 1 5 6 3 W ph sp cy,hpB 1 2 4 3 W,hpC 2 3 233 2 N,hpP 3 L,hpP 4 D,hpF 5 z ov,hpP 6 Q] 7 (fun r h n => r = .iface 126 (.agg [i6 a,i6 y0,i6 y1,i6 y2,i6 y3,i6 y4,i6 y5,i6 y6,i6 y7,i6 y8]) ∧ h = [hpA 0 1 5 6 3 W ph sp cy,hpB 1 2 4 3 W,hpC 2 3 233 2 N,hpP 3 L,hpP 4 D,hpF 5 z ov,hpP 6 Q] ∧ n = 7) := by
 refine callF_of_body tok Tryz.func76 (by kernel_rfl) rfl rfl rfl ?_; conv => cbv
 refine CallF.le (args0 := [i6 0]) (callF_frame (intV_lx 0 (by unfold b62; omega)) [] rfl trivial rfl rfl (fun r h' n' hrr => ?_)) (by simp [ales,ale,pvle,I.val])
 obtain ⟨⟨x0,e1,hx0⟩,e2,e3⟩ := hrr
 subst e1 e2 e3
 conv => cbv
 refine Br.no (show ¬ (w = x0) by omega) ?_
 conv => cbv
 refine callF_frame (atV2_lx w hw) [] rfl trivial rfl rfl (fun r h' n' hrr => ?_)
 obtain ⟨⟨a1,e1,ha1⟩,e2,e3⟩ := hrr
 subst e1 e2 e3
 conv => cbv
 obtain rfl : a = a1 := ha.symm.trans ha1.symm
 refine cfr (chanM_lx R ws C G N W ph sp cy L D Q z ov h M hM a y0 y1 y2 y3 y4 y5 y6 y7 y8 hMa) [(0,0),(1,1),(2,2),(3,3),(4,4),(5,5),(6,6)] (fun r h' n' hrr => ?_)
 obtain ⟨⟨e,e1,he⟩,e2,e3⟩ := hrr
 subst e1 e2 e3
 conv => cbv
 refine Br.no (show ¬ ¬ (e = 0) from fun q => q he) ?_
 conv => cbv
 refine drawn_sound tok (by kernel_rfl) [(1,[2])] [0,2,1,3,4,5] (by kernel_rfl) ?_; conv => cbv
 refine callF_frame (atV2_lx w hw) [] rfl trivial rfl rfl (fun r h' n' hrr => ?_)
 obtain ⟨⟨a2,e1,ha2⟩,e2,e3⟩ := hrr
 subst e1 e2 e3
 conv => cbv
 obtain rfl : a = a2 := ha.symm.trans ha2.symm
 refine RetF.mk [.iface 126 (.agg [i6 a,i6 y0,i6 y1,i6 y2,i6 y3,i6 y4,i6 y5,i6 y6,i6 y7,i6 y8])] [hpA 0 1 5 6 3 W ph sp cy,hpB 1 2 4 3 W,hpC 2 3 233 2 N,hpP 3 L,hpP 4 D,hpF 5 z ov,hpP 6 Q] 7 (Re.at [(0,0),(1,1),(2,2),(3,3),(4,4),(5,5),(6,6)] []) rfl ⟨rfl,rfl,rfl⟩
theorem see_stray_lx (R : List Rw) (ws C G : List Int) (N W ph sp cy : Int) (L D Q : List PV) (z : ByteArray) (ov : Bool) (h : HM R ws C G N W L D Q z) (M : Hp) (hM : Cont R ws M) (w : Int) (hw : (-9223372036854775808 ≤ w ∧ w ≤ 9223372036854775807)) (h0 : w ≠ 0) (hno : ∀ F,M (atW w) ≠ some (1,F)) : CallF (fun _ => Tryz.prog) 76 [.ptr 0 (.lit 0),i6 w] [hpA 0 1 5 6 3 W ph sp cy,hpB 1 2 4 3 W,hpC 2 3 233 2 N,hpP 3 L,hpP 4 D,hpF 5 z ov,hpP 6 Q] 7 (fun r h n => r = .iface 184 (.agg []) ∧ h = [hpA 0 1 5 6 3 W ph sp cy,hpB 1 2 4 3 W,hpC 2 3 233 2 N,hpP 3 L,hpP 4 D,hpF 5 z ov,hpP 6 Q] ∧ n = 7) := by
 refine callF_of_body tok Tryz.func76 (by kernel_rfl) rfl rfl rfl ?_; conv => cbv
 refine CallF.le (args0 := [i6 0]) (callF_frame (intV_lx 0 (by unfold b62; omega)) [] rfl trivial rfl rfl (fun r h' n' hrr => ?_)) (by simp [ales,ale,pvle,I.val])
 obtain ⟨⟨x0,e1,hx0⟩,e2,e3⟩ := hrr
 subst e1 e2 e3
 conv => cbv
 refine Br.no (show ¬ (w = x0) by omega) ?_
 conv => cbv
 refine callF_frame (atV2_lx w hw) [] rfl trivial rfl rfl (fun r h' n' hrr => ?_)
 obtain ⟨⟨a1,e1,ha1⟩,e2,e3⟩ := hrr
 subst e1 e2 e3
 conv => cbv
 rw [← ha1] at hno
 refine cfr (chanNoM_lx R ws C G N W ph sp cy L D Q z ov h M hM a1 hno) [(0,0),(1,1),(2,2),(3,3),(4,4),(5,5),(6,6)] (fun r h' n' hrr => ?_)
 obtain ⟨⟨u0,u1,u2,u3,u4,u5,u6,u7,u8,e,e1,he,hz⟩,e2,e3⟩ := hrr
 subst e1 e2 e3
 conv => cbv
 refine Br.yes (show ¬ (e = 0) by omega) ?_
 conv => cbv
 refine RetF.mk [.iface 184 (.agg [])] [hpA 0 1 5 6 3 W ph sp cy,hpB 1 2 4 3 W,hpC 2 3 233 2 N,hpP 3 L,hpP 4 D,hpF 5 z ov,hpP 6 Q] 7 (Re.at [(0,0),(1,1),(2,2),(3,3),(4,4),(5,5),(6,6)] []) rfl ⟨rfl,rfl,rfl⟩
theorem closedF_lx (a y0 y1 y2 y3 y4 y5 y6 y7 y8 : Int) (hcl : y1 = 0) : CallF (fun _ => Tryz.prog) 77 [.agg [i6 a,i6 y0,i6 y1,i6 y2,i6 y3,i6 y4,i6 y5,i6 y6,i6 y7,i6 y8]] [] 0 (fun r h n => r = .p (.bool false) ∧ h = [] ∧ n = 0) := by
 refine callF_of_body tok Tryz.func77 (by kernel_rfl) rfl rfl rfl ?_; conv => cbv
 refine Br.no (fun k => k hcl) ?_
 conv => cbv
 refine RetF.mk [.p (.bool false)] [] 0 (Re.at [] []) rfl ⟨rfl,rfl,rfl⟩
end Go.Proofs.YtkhfgngcoiablaaGreatDoor
namespace Go.Proofs.YtkhfgngcoiablaaGreatDoor
open Go Go.LX
set_option maxRecDepth 100000
set_option linter.unusedVariables false
set_option linter.unusedSimpArgs false
set_option maxHeartbeats 32000000
theorem capS {x : Int} (h : 0 ≤ x ∧ x < 4) : capW x = x := by
 unfold capW
 rw [show IntKind.u64.wrap x = x by simp [IntKind.wrap,IntKind.bits,IntKind.signed]; omega]
 omega
theorem chA1 {chs : List Int} {nc : Int} (hn : nc = (chs.length : Int)) (h1 : nc = 1) : ∃ c,chs = [c] := by
 match chs with
 | [c] => exact ⟨c,rfl⟩
 | [] => simp at hn; omega
 | _ :: _ :: _ => simp at hn; omega
theorem ix0 {chs : List Int} {nc x c : Int} (h : chs[(IntKind.u64.wrap 0 % nc).toNat]? = some x) (hc : chs[0]? = some c) : x = c := by
 rw [show IntKind.u64.wrap 0 = 0 by decide,Int.zero_emod] at h
 exact Option.some.inj (h.symm.trans hc)
end Go.Proofs.YtkhfgngcoiablaaGreatDoor
namespace Go.Proofs.YtkhfgngcoiablaaGreatDoor
open Go Go.LX
set_option maxRecDepth 100000
set_option linter.unusedVariables false
set_option linter.unusedSimpArgs false
set_option maxHeartbeats 32000000
theorem sendRZero_lx (R : List Rw) (ws C G : List Int) (N W ph sp cy : Int) (L D Q : List PV) (z : ByteArray) (ov : Bool) (h : HM R ws C G N W L D Q z) (M : Hp) (hM : Cont R ws M) (o : Unit → Obj) (w : Int) (h0 : w = 0) : CallF (fun _ => Tryz.prog) 152 [.ptr 0 (.lit 0),i6 w] [hpA 0 1 5 6 3 W ph sp cy,hpB 1 2 4 3 W,hpC 2 3 233 2 N,hpP 3 L,hpP 4 D,hpF 5 z ov,hpP 6 Q,(7,.fix 0 o)] 8 (fun r h n => r = .p (.bool false) ∧ h = [hpA 0 1 5 6 3 W ph sp cy,hpB 1 2 4 3 W,hpC 2 3 233 2 N,hpP 3 L,hpP 4 D,hpF 5 z ov,hpP 6 Q,(7,.fix 0 o)] ∧ n = 8) := by
 refine callF_of_body tok Tryz.func152 (by kernel_rfl) rfl rfl rfl ?_; conv => cbv
 refine cfr (see_zero_lx R ws C G N W ph sp cy L D Q z ov h M hM w h0) [(0,0),(1,1),(2,2),(3,3),(4,4),(5,5),(6,6)] (fun r h' n' ⟨e1,e2,e3⟩ => ?_)
 subst e1 e2 e3
 conv => cbv
 refine RetF.mk [.p (.bool false)] [hpA 0 1 5 6 3 W ph sp cy,hpB 1 2 4 3 W,hpC 2 3 233 2 N,hpP 3 L,hpP 4 D,hpF 5 z ov,hpP 6 Q,(7,.fix 0 o)] 8 (Re.at [(0,0),(1,1),(2,2),(3,3),(4,4),(5,5),(6,6),(7,7)] []) rfl ⟨rfl,rfl,rfl⟩
end Go.Proofs.YtkhfgngcoiablaaGreatDoor
namespace Go.Proofs.YtkhfgngcoiablaaGreatDoor
open Go Go.LX
set_option maxRecDepth 100000
set_option linter.unusedVariables false
set_option linter.unusedSimpArgs false
set_option maxHeartbeats 32000000
theorem ringAll0_lx (R : List Rw) (ws C G : List Int) (N W ph sp cy : Int) (L D Q : List PV) (z : ByteArray) (ov : Bool) (h : HM R ws C G N W L D Q z) (M : Hp) (hM : Cont R ws M) (c cp cl k s b th tt sh st : Int) (hMc : M c = some (1,[cp,cl,k,s,b,th,tt,sh,st])) (hcp : cp ≤ 0) : CallF (fun _ => Tryz.prog) 55 [.ptr 0 (.lit 0),i6 c] [hpA 0 1 5 6 3 W ph sp cy,hpB 1 2 4 3 W,hpC 2 3 233 2 N,hpP 3 L,hpP 4 D,hpF 5 z ov,hpP 6 Q] 7 (fun r h n => ∃ m : Int,r = .sl 7 3 1 (.lit 0) (.sym m) ∧ h = [hpA 0 1 5 6 3 W ph sp cy,hpB 1 2 4 3 W,hpC 2 3 233 2 N,hpP 3 L,hpP 4 D,hpF 5 z ov,hpP 6 Q,(7,.pure true [])] ∧ n = 8 ∧ m = 0) :=
 (ringAll_lx R ws C G N W ph sp cy L D Q z ov h c).mono fun r h' n hrr => by
  obtain ⟨l,m,cells,e1,e2,e3,e4,e5,hR⟩ := hrr
  have hl : l = [] := by
   cases hR with
   | no => rfl
   | none => rfl
   | ok X0 y0 y1 y2 y3 y4 y5 y6 y7 y8 hh hX0 hy h0 hK =>
    have hy2 : chanFs X0 = [cp,cl,k,s,b,th,tt,sh,st] := (hM.tr hMc rfl rfl (TR.ok X0 hh hX0)).2
    rw [hy2] at hy
    simp only [List.cons.injEq,and_true] at hy
    obtain ⟨rfl,rfl,rfl,rfl,rfl,rfl,rfl,rfl,rfl⟩ := hy
    exact absurd h0 (by omega)
  subst hl
  refine ⟨m,e1,by rw [e2,e5]; rfl,e3,by rw [e4]; rfl⟩
end Go.Proofs.YtkhfgngcoiablaaGreatDoor
