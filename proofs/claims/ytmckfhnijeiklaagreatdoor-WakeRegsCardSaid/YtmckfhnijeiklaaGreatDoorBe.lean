/-
  The ground of the proof, part 5: the calculus and what is proved with it.
-/
import Derived.Test.YtmckfhnijeiklaaGreatDoorBd
import Derived.Test.YtmckfhnijeiklaaGreatDoorBc
import Derived.Lib.AtoiErrMem
import Derived.Lib.LaidTab
import Derived.Laws.RangeAny
import Derived.Lib.ItoaLen
namespace Go.Proofs.YtmckfhnijeiklaaGreatDoor
open Go Go.LX
set_option maxRecDepth 100000
set_option linter.unusedVariables false
set_option linter.unusedSimpArgs false
set_option maxHeartbeats 32000000
def clsOf (e : Rw) : Int := if e.2 = [] then -1 else e.1
theorem classA_lx (R : List Rw) (n i v : Int) (e : Rw) (L : List PV) (hL : L = rpv R) (hn : n = R.length) (hi0 : 0 ≤ i) (hi : R[i.toNat]? = some e) (hv : v = clsOf e) : CallF (fun _ => Tryz.prog) 39 [.ptr 0 (.lit 0),i6 i] [hpC 0 1 127 2 n,hpP 1 L] 2
  (fun r h n' => r = .p (.int .i64 (.sym v)) ∧ h = [hpC 0 1 127 2 n,hpP 1 L] ∧ n' = 2) := by
 obtain ⟨d,m⟩ := e
 unfold clsOf at hv
 by_cases hm : m = []
 ·subst hm
  rw [if_pos rfl] at hv
  refine (class_none_lx R n i d L hL hn hi0 hi).mono ?_
  rintro r h n' ⟨⟨v',e1,e2⟩,e3,e4⟩
  exact ⟨by rw [e1,e2,hv],e3,e4⟩
 ·rw [if_neg hm] at hv
  rw [hv]
  exact class_lx R n i d m L hL hn hi0 hi hm
theorem wordsOf_cases (c : Int) : wordsOf c = 0 ∨ wordsOf c = 4 ∨ wordsOf c = 8 ∨ wordsOf c = 16 ∨ wordsOf c = 32 := by
 unfold wordsOf
 split
 ·omega
 ·split
  ·omega
  ·split
   ·omega
   ·split <;> omega
theorem refWords_lx (c w : Int) (h0 : 0 ≤ c) (h3 : c ≤ 3) (hw : w = wordsOf c) : CallF (fun _ => Tryz.prog) 130 [i6 c] [] 0 (fun r h n => r = .p (.int .i64 (.sym w)) ∧ h = [] ∧ n = 0) := by
 refine callF_of_body tok Tryz.func130 (by kernel_rfl) rfl rfl rfl ?_; conv => cbv
 refine Br.mk (fun g => ?_) (fun g => ?_)
 case refine_1 =>
  have gf : False := by have g : c < 0 := g; omega
  cases gf
 conv => cbv
 refine Br.mk (fun g => ?_) (fun g => ?_)
 case refine_1 =>
  have gf : False := by have g : 3 < c := g; omega
  cases gf
 conv => cbv
 refine Need.mk ⟨h0,by show c < 4; omega⟩ ?_
 conv => cbv
 have hc4 : c = 0 ∨ c = 1 ∨ c = 2 ∨ c = 3 := by omega
 rcases hc4 with e | e | e | e
 ·refine Cell.at c 0 (v := .int .i64 (.lit 4)) rfl (by simp [I.val]) (by omega) ?_
  have hw4 : w = 4 := by rw [hw,e]; rfl
  conv => cbv
  refine RetF.mk [i6 w] [] 0 (Re.at [] []) rfl ⟨rfl,rfl,rfl⟩
 ·refine Cell.at c 1 (v := .int .i64 (.lit 8)) rfl (by simp [I.val]) (by omega) ?_
  have hw4 : w = 8 := by rw [hw,e]; rfl
  conv => cbv
  refine RetF.mk [i6 w] [] 0 (Re.at [] []) rfl ⟨rfl,rfl,rfl⟩
 ·refine Cell.at c 2 (v := .int .i64 (.lit 16)) rfl (by simp [I.val]) (by omega) ?_
  have hw4 : w = 16 := by rw [hw,e]; rfl
  conv => cbv
  refine RetF.mk [i6 w] [] 0 (Re.at [] []) rfl ⟨rfl,rfl,rfl⟩
 ·refine Cell.at c 3 (v := .int .i64 (.lit 32)) rfl (by simp [I.val]) (by omega) ?_
  have hw4 : w = 32 := by rw [hw,e]; rfl
  conv => cbv
  refine RetF.mk [i6 w] [] 0 (Re.at [] []) rfl ⟨rfl,rfl,rfl⟩
theorem refSlots_lx (c k : Int) (h0 : 0 ≤ c) (h3 : c ≤ 3) (hk : k = slotsOf c) : CallF (fun _ => Tryz.prog) 152 [i6 c] [] 0 (fun r h n => r = .p (.int .i64 (.sym k)) ∧ h = [] ∧ n = 0) := by
 obtain ⟨w,hw⟩ : ∃ w,w = wordsOf c := ⟨_,rfl⟩
 refine callF_of_body tok Tryz.func152 (by kernel_rfl) rfl rfl rfl ?_; conv => cbv
 refine Br.mk (fun g => ?_) (fun g => ?_)
 case refine_1 =>
  have gf : False := by have g : c < 0 := g; omega
  cases gf
 conv => cbv
 refine Br.mk (fun g => ?_) (fun g => ?_)
 case refine_1 =>
  have gf : False := by have g : 3 < c := g; omega
  cases gf
 conv => cbv
 refine callF_frame (refWords_lx c w h0 h3 hw) [] rfl trivial rfl rfl (fun r h' n' ⟨e1,e2,e3⟩ => ?_)
 subst e1 e2 e3
 conv => cbv
 have hk2 : k = (32 : Int).tdiv w ∧ w ≠ 0 := by
  have : c = 0 ∨ c = 1 ∨ c = 2 ∨ c = 3 := by omega
  rcases this with e | e | e | e <;> (subst e; subst hk; subst hw; decide)
 have hk8 : 0 ≤ k ∧ k ≤ 8 := by
  have : c = 0 ∨ c = 1 ∨ c = 2 ∨ c = 3 := by omega
  rcases this with e | e | e | e <;> (subst e; subst hk; decide)
 refine Need.mk (show w ≠ 0 from hk2.2) ?_
 conv => cbv
 refine Fit.mk (by show (-9223372036854775808 : Int) ≤ Int.tdiv 32 w; omega) (by show Int.tdiv 32 w ≤ 9223372036854775807; omega) fun q hq => ?_
 have hq : q = Int.tdiv 32 w := hq
 have hqk : q = k := by rw [hq,hk2.1]
 conv => cbv
 refine RetF.mk [i6 k] [] 0 (Re.at [] []) rfl ⟨rfl,rfl,rfl⟩
theorem refSlotsA_lx (c k : Int) (hk : k = slotsOf c) : CallF (fun _ => Tryz.prog) 152 [i6 c] [] 0 (fun r h n => r = .p (.int .i64 (.sym k)) ∧ h = [] ∧ n = 0) := by
 by_cases h0 : 0 ≤ c ∧ c ≤ 3
 ·exact refSlots_lx c k h0.1 h0.2 hk
 have hk0 : k = 0 := by
  rw [hk]
  have : slotsOf c = 0 := Classical.byContradiction fun h => h0 ((slots_iff c).1 h)
  rw [this]; rfl
 refine callF_of_body tok Tryz.func152 (by kernel_rfl) rfl rfl rfl ?_; conv => cbv
 refine Br.mk (fun g => ?_) (fun g => ?_)
 ·conv => cbv
  refine RetF.mk [i6 k] [] 0 (Re.at [] []) rfl ⟨rfl,rfl,rfl⟩
 have g : ¬ c < 0 := g
 conv => cbv
 refine Br.mk (fun g => ?_) (fun g => ?_)
 ·conv => cbv
  refine RetF.mk [i6 k] [] 0 (Re.at [] []) rfl ⟨rfl,rfl,rfl⟩
 ·have gf : False := by have g : ¬ 3 < c := g; omega
  cases gf
theorem refWordsA_lx (c w : Int) (hw : w = wordsOf c) : CallF (fun _ => Tryz.prog) 130 [i6 c] [] 0 (fun r h n => r = .p (.int .i64 (.sym w)) ∧ h = [] ∧ n = 0) := by
 by_cases h0 : 0 ≤ c ∧ c ≤ 3
 ·exact refWords_lx c w h0.1 h0.2 hw
 have hk0 : w = 0 := by rw [hw,wordsOf,if_neg (by omega),if_neg (by omega),if_neg (by omega),if_neg (by omega)]
 refine callF_of_body tok Tryz.func130 (by kernel_rfl) rfl rfl rfl ?_; conv => cbv
 refine Br.mk (fun g => ?_) (fun g => ?_)
 ·conv => cbv
  refine RetF.mk [i6 w] [] 0 (Re.at [] []) rfl ⟨rfl,rfl,rfl⟩
 have g : ¬ c < 0 := g
 conv => cbv
 refine Br.mk (fun g => ?_) (fun g => ?_)
 ·conv => cbv
  refine RetF.mk [i6 w] [] 0 (Re.at [] []) rfl ⟨rfl,rfl,rfl⟩
 ·have gf : False := by have g : ¬ 3 < c := g; omega
  cases gf
def ofN (n : Int) : Int := if n < 4 then 0 else if n < 8 then 1 else if n < 16 then 2 else 3
inductive OfR (n : Int) : Int → Bool → Prop
 | yes (c : Int) (hc : c = ofN n) (h : 0 ≤ n ∧ n ≤ 31) : OfR n c true
 | no (h : ¬ (0 ≤ n ∧ n ≤ 31)) : OfR n 0 false
theorem of_lx (n : Int) : CallF (fun _ => Tryz.prog) 67 [i6 n] [] 0 (fun r h m => ∃ (c : Int) (b : Bool),r = .tup [i6 c,.p (.bool b)] ∧ h = [] ∧ m = 0 ∧ OfR n c b) := by
 refine callF_of_body tok Tryz.func67 (by kernel_rfl) rfl rfl rfl ?_; conv => cbv
 refine Br.mk (fun g => ?_) (fun g => ?_)
 ·have g : n < 0 := g
  have q : OfR n 0 false := .no (by omega)
  conv => cbv
  refine RetF.mk [i6 0,.p (.bool false)] [] 0 (Re.at [] []) rfl ⟨0,false,rfl,rfl,rfl,q⟩
 ·have g : ¬ n < 0 := g
  conv => cbv
  refine LoopF.mk (fun k s => ∃ pos : Int,s = ⟨.p (.int .i64 (.sym n)) :: (undefs 7 ++ .ptr 0 (.lit 0) :: undefs 9),[(0,.iter (fun _ => ⟨#[4,8,16,32]⟩) (.sym pos))],1⟩ ∧ 0 ≤ pos ∧ pos ≤ 4 ∧ (1 ≤ pos → 4 ≤ n) ∧ (2 ≤ pos → 8 ≤ n) ∧ (3 ≤ pos → 16 ≤ n) ∧ (4 ≤ pos → 32 ≤ n) ∧ k = (4 - pos).toNat) 4 _
   (Re.at [(0,0)] []) ⟨0,rfl,by omega,by omega,by omega,by omega,by omega,by omega,by omega⟩ ?_
  rintro k s ⟨pos,rfl,h0,h4,q1,q2,q3,q4,hk⟩
  conv => cbv
  by_cases hend : pos = 4
  ·have q : OfR n 0 false := .no (by omega)
   refine NextS.over (by show (4 : Int) ≤ pos; omega) ?_
   conv => cbv
   refine RetF.mk [i6 0,.p (.bool false)] [] 0 (Re.at [] []) rfl ⟨0,false,rfl,rfl,rfl,q⟩
  ·obtain ⟨x,hx⟩ : ∃ x,([4,8,16,32] : List UInt8)[pos.toNat]? = some x := ⟨_,List.getElem?_eq_getElem (by simp; omega)⟩
   have hd := dec_at [4,8,16,32] (by decide) pos.toNat x hx
   have hx4 : pos = 0 ∧ x.toNat = 4 ∨ pos = 1 ∧ x.toNat = 8 ∨ pos = 2 ∧ x.toNat = 16 ∨ pos = 3 ∧ x.toNat = 32 := by
    have : pos = 0 ∨ pos = 1 ∨ pos = 2 ∨ pos = 3 := by omega
    rcases this with e2 | e2 | e2 | e2 <;> (rw [e2] at hx; have hx := Option.some.inj hx; rw [← hx]; rw [e2]; decide)
   refine NextS.more (by show pos < (4 : Int); omega) ?_
   intro r p' hr hp
   have hr : r = (x.toNat : Int) := by
    have : r = ((Utf8.decode ⟨#[4,8,16,32]⟩ pos.toNat).1 : Int) := hr
    rw [this,hd]
   have hp : p' = pos + 1 := by
    have : p' = pos + ((Utf8.decode ⟨#[4,8,16,32]⟩ pos.toNat).2 : Int) := hp
    rw [this,hd]; rfl
   obtain ⟨k',rfl⟩ : ∃ k',k = k' + 1 := ⟨k - 1,by omega⟩
   conv => cbv
   refine Fit.mk (by show (-9223372036854775808 : Int) ≤ r; omega) (by show r ≤ 9223372036854775807; omega) fun q hq => ?_
   have hq : q = r := hq
   conv => cbv
   refine Br.mk (fun g => ?_) (fun g => ?_)
   ·have g : n < q := g
    have hc : pos = ofN n := by
     unfold ofN
     rcases hx4 with ⟨e1,e2⟩ | ⟨e1,e2⟩ | ⟨e1,e2⟩ | ⟨e1,e2⟩
     ·rw [if_pos (by omega)]; exact e1
     ·rw [if_neg (by omega),if_pos (by omega)]; exact e1
     ·rw [if_neg (by omega),if_neg (by omega),if_pos (by omega)]; exact e1
     ·rw [if_neg (by omega),if_neg (by omega),if_neg (by omega)]; exact e1
    have qq : OfR n pos true := .yes pos hc (by omega)
    conv => cbv
    refine RetF.mk [i6 pos,.p (.bool true)] [] 0 (Re.at [] []) rfl ⟨pos,true,rfl,rfl,rfl,qq⟩
   ·have g : ¬ n < q := g
    conv => cbv
    refine Again.mk k' _ (Nat.lt_succ_self _) (Re.at [(0,0)] []) ⟨p',rfl,by omega,by omega,by omega,by omega,by omega,by omega,by omega⟩
inductive SlotAt (R : List Rw) (at_ : Int) : Int → Int → Bool → Prop
 | no (h : ∀ (q s : Nat) (e : Rw),R[q]? = some e → wordsOf (clsOf e) ≠ 0 → (s : Int) * wordsOf (clsOf e) < 32 → at_ ≠ 32 * q + s * wordsOf (clsOf e)) : SlotAt R at_ 0 0 false
 | is (q s : Nat) (e : Rw) (he : R[q]? = some e) (hs : wordsOf (clsOf e) ≠ 0) (hlt : (s : Int) * wordsOf (clsOf e) < 32) (hat : at_ = 32 * q + s * wordsOf (clsOf e)) : SlotAt R at_ q s true
theorem slotAt_lx (R : List Rw) (n at_ W : Int) (L D : List PV) (hL : L = rpv R) (hn : n = R.length) (hR : R.length ≤ 1000) (hW : W = 32 * n) : CallF (fun _ => Tryz.prog) 115 [.ptr 0 (.lit 0),i6 at_] [hpB 0 1 3 3 W,hpC 1 2 127 2 n,hpP 2 L,hpP 3 D] 4
  (fun r h n' => ∃ (q s : Int) (b : Bool),r = .tup [i6 q,i6 s,.p (.bool b)] ∧ h = [hpB 0 1 3 3 W,hpC 1 2 127 2 n,hpP 2 L,hpP 3 D] ∧ n' = 4 ∧ SlotAt R at_ q s b) := by
 refine callF_of_body tok Tryz.func115 (by kernel_rfl) rfl rfl rfl ?_; conv => cbv
 refine Br.mk (fun g => ?_) (fun g => ?_)
 ·have g : at_ < 0 := g
  have qq : SlotAt R at_ 0 0 false := .no (fun q s e he hs hlt => by
   have : 0 ≤ (s : Int) * wordsOf (clsOf e) := Int.mul_nonneg (by omega) (wordsOf_bd _).1
   omega)
  conv => cbv
  refine RetF.mk [i6 0,i6 0,.p (.bool false)] [hpB 0 1 3 3 W,hpC 1 2 127 2 n,hpP 2 L,hpP 3 D] 4 (Re.at [(0,0),(1,1),(2,2),(3,3)] []) rfl ⟨0,0,false,rfl,rfl,rfl,qq⟩
 have g : ¬ at_ < 0 := g
 conv => cbv
 refine Br.mk (fun g2 => ?_) (fun g2 => ?_)
 ·have g2 : W ≤ at_ := g2
  have qq : SlotAt R at_ 0 0 false := .no (fun q s e he hs hlt => by
   have := (List.getElem?_eq_some_iff.1 he).1
   omega)
  conv => cbv
  refine RetF.mk [i6 0,i6 0,.p (.bool false)] [hpB 0 1 3 3 W,hpC 1 2 127 2 n,hpP 2 L,hpP 3 D] 4 (Re.at [(0,0),(1,1),(2,2),(3,3)] []) rfl ⟨0,0,false,rfl,rfl,rfl,qq⟩
 have g2 : ¬ W ≤ at_ := g2
 conv => cbv
 have ht : Int.tdiv at_ 32 = at_ / 32 := Int.tdiv_eq_ediv_of_nonneg (by omega)
 refine Fit.mk (by show (-9223372036854775808 : Int) ≤ Int.tdiv at_ 32; omega) (by show Int.tdiv at_ 32 ≤ 9223372036854775807; omega) fun q hq => ?_
 have hq : q = at_ / 32 := (show q = Int.tdiv at_ 32 from hq).trans ht
 clear ht
 conv => cbv
 refine Sum.mk fun z hz => ?_
 have hz : z = at_ % 32 := (show z = Int.tmod at_ 32 from hz).trans (Int.tmod_eq_emod_of_nonneg (by omega))
 obtain ⟨e,he⟩ : ∃ e,R[q.toNat]? = some e := ⟨_,List.getElem?_eq_getElem (by omega)⟩
 obtain ⟨v,hv⟩ : ∃ v,v = clsOf e := ⟨_,rfl⟩
 obtain ⟨w,hw⟩ : ∃ w,w = wordsOf v := ⟨_,rfl⟩
 have hw5 := wordsOf_cases v
 rw [← hw] at hw5
 conv => cbv
 refine cfr (classA_lx R n q v e L hL hn (by omega) he hv) [(0,1),(1,2)] (fun r h' n' ⟨e1,e2,e3⟩ => ?_)
 subst e1 e2 e3
 conv => cbv
 refine callF_frame (words_lx v w hw) [] rfl trivial rfl rfl (fun r h' n' ⟨e1,e2,e3⟩ => ?_)
 subst e1 e2 e3
 conv => cbv
 refine Br.mk (fun g3 => ?_) (fun g3 => ?_)
 ·have g3 : w = 0 := g3
  have qq : SlotAt R at_ 0 0 false := .no (fun q' s' e' he' hs' hlt' hat' => by
   have h0 : 0 ≤ (s' : Int) * wordsOf (clsOf e') := Int.mul_nonneg (by omega) (wordsOf_bd _).1
   have : q' = q.toNat := by omega
   subst this
   rw [he] at he'
   cases he'
   rw [← hv,← hw] at hs'
   exact hs' g3)
  conv => cbv
  refine RetF.mk [i6 0,i6 0,.p (.bool false)] [hpB 0 1 3 3 W,hpC 1 2 127 2 n,hpP 2 L,hpP 3 D] 4 (Re.at [(0,0),(1,1),(2,2),(3,3)] []) rfl ⟨0,0,false,rfl,rfl,rfl,qq⟩
 have g3 : ¬ w = 0 := g3
 conv => cbv
 refine Need.mk g3 ?_
 conv => cbv
 refine Sum.mk fun y hy => ?_
 have hy : y = z % w := (show y = Int.tmod z w from hy).trans (Int.tmod_eq_emod_of_nonneg (by omega))
 conv => cbv
 refine Br.mk (fun g4 => ?_) (fun g4 => ?_)
 ·have g4 : ¬ y = 0 := g4
  have qq : SlotAt R at_ 0 0 false := .no (fun q' s' e' he' hs' hlt' hat' => by
   have h0 : 0 ≤ (s' : Int) * wordsOf (clsOf e') := Int.mul_nonneg (by omega) (wordsOf_bd _).1
   have : q' = q.toNat := by omega
   subst this
   rw [he] at he'
   cases he'
   rw [← hv,← hw] at hat' h0 hlt'
   have : z = s' * w := by omega
   rw [this,Int.mul_emod_left] at hy
   exact g4 hy)
  conv => cbv
  refine RetF.mk [i6 0,i6 0,.p (.bool false)] [hpB 0 1 3 3 W,hpC 1 2 127 2 n,hpP 2 L,hpP 3 D] 4 (Re.at [(0,0),(1,1),(2,2),(3,3)] []) rfl ⟨0,0,false,rfl,rfl,rfl,qq⟩
 have g4 : y = 0 := Classical.byContradiction g4
 have ht : Int.tdiv z w = z / w := Int.tdiv_eq_ediv_of_nonneg (by omega)
 have hwz : w * (z / w) + z % w = z := Int.mul_ediv_add_emod z w
 have hd0 : 0 ≤ z / w := Int.ediv_nonneg (by omega) (by omega)
 obtain ⟨sn,hsn⟩ : ∃ sn : Nat,(sn : Int) = z / w := ⟨(z / w).toNat,by omega⟩
 rw [← hsn] at hwz ht
 have hsb : (sn : Int) ≤ z := by
  have h1 : (1 : Int) * sn ≤ w * sn := Int.mul_le_mul_of_nonneg_right (by omega) (by omega)
  omega
 have qq : SlotAt R at_ q sn true := by
  have hqn : q = (q.toNat : Int) := by omega
  rw [hqn]
  have hmul : (sn : Int) * w = z := by rw [Int.mul_comm]; omega
  refine .is q.toNat sn e he ?_ ?_ ?_
  ·rw [← hv,← hw]; exact g3
  ·rw [← hv,← hw,hmul]; omega
  ·rw [← hv,← hw,hmul]; omega
 clear hwz hd0
 conv => cbv
 refine draw_sound tok (by kernel_rfl) rfl (by kernel_rfl) ?_
 conv => cbv
 refine Need.mk g3 ?_
 conv => cbv
 refine Fit.mk (by show (-9223372036854775808 : Int) ≤ Int.tdiv z w; omega) (by show Int.tdiv z w ≤ 9223372036854775807; omega) fun s0 hs0 => ?_
 have hs0 : s0 = sn := (show s0 = Int.tdiv z w from hs0).trans ht
 rw [← hs0] at qq
 conv => cbv
 refine RetF.mk [i6 q,i6 s0,.p (.bool true)] [hpB 0 1 3 3 W,hpC 1 2 127 2 n,hpP 2 L,hpP 3 D] 4 (Re.at [(0,0),(1,1),(2,2),(3,3)] []) rfl ⟨q,s0,true,rfl,rfl,rfl,qq⟩
def ipv (l : List Int) : List PV := l.map fun z => .int .i64 (.sym z)
theorem ipv_get {l : List Int} {i : Nat} {z : Int} (h : l[i]? = some z) : (ipv l)[i]? = some (.int .i64 (.sym z)) := by rw [ipv,List.getElem?_map,h]; rfl
theorem ipv_length (l : List Int) : (ipv l).length = l.length := List.length_map _
def RowsOk (R : List Rw) : Prop := ∀ e ∈ R,e.2.length ≤ 8 ∧ (e.2 ≠ [] → wordsOf e.1 ≠ 0 ∧ e.2.length = slotsOf e.1 ∧ true ∈ e.2)
def IsObj (R : List Rw) (at_ : Int) : Prop := ∃ (q s : Nat) (e : Rw),R[q]? = some e ∧ e.2[s]? = some true ∧ at_ = 32 * q + s * wordsOf e.1
theorem slots_words {c : Int} {s : Nat} (h : wordsOf c ≠ 0) (hs : s < slotsOf c) : (s : Int) * wordsOf c + wordsOf c ≤ 32 := by
 unfold wordsOf at *
 unfold slotsOf at hs
 split at h
 ·rw [if_pos (by assumption)] at hs ⊢; omega
 ·split at h
  ·rw [if_neg (by assumption),if_pos (by assumption)] at hs ⊢; omega
  ·split at h
   ·rw [if_neg (by assumption),if_neg (by assumption),if_pos (by assumption)] at hs ⊢; omega
   ·split at h
    ·rw [if_neg (by assumption),if_neg (by assumption),if_neg (by assumption),if_pos (by assumption)] at hs ⊢; omega
    ·exact absurd rfl h
theorem obj_slot {R : List Rw} (hR : RowsOk R) {at_ : Int} {q s : Int} {b : Bool} (h : SlotAt R at_ q s b) : (b = true ∧ 0 ≤ q ∧ 0 ≤ s ∧ q < R.length ∧ 0 ≤ at_ ∧ at_ < 32 * R.length ∧ ∃ e : Rw,R[q.toNat]? = some e ∧ at_ = 32 * q + s * wordsOf e.1 ∧ (IsObj R at_ ↔ e.2[s.toNat]? = some true)) ∨ (b = false ∧ ¬ IsObj R at_) := by
 cases h with
 | no h =>
  refine .inr ⟨rfl,?_⟩
  rintro ⟨q,s,e,he,hs,hat⟩
  have hne : e.2 ≠ [] := by intro e0; rw [e0] at hs; simp at hs
  have hcl : clsOf e = e.1 := if_neg hne
  obtain ⟨_,hok⟩ := hR e (List.mem_of_getElem? he)
  obtain ⟨h1,h2,_⟩ := hok hne
  have hsl : s < slotsOf e.1 := by have := (List.getElem?_eq_some_iff.1 hs).1; omega
  have := slots_words h1 hsl
  have := (wordsOf_bd e.1).1
  exact h q s e he (by rw [hcl]; exact h1) (by rw [hcl]; omega) (by rw [hcl]; exact hat)
 | is q s e he hs hlt hat =>
  have hne : e.2 ≠ [] := by intro e0; apply hs; rw [clsOf,if_pos e0]; rfl
  have hcl : clsOf e = e.1 := if_neg hne
  rw [hcl] at hs hlt hat
  have hq := (List.getElem?_eq_some_iff.1 he).1
  have h0 : 0 ≤ (s : Int) * wordsOf e.1 := Int.mul_nonneg (by omega) (wordsOf_bd _).1
  refine .inl ⟨rfl,by omega,by omega,by omega,by omega,by omega,e,by simpa using he,by simpa using hat,?_⟩
  constructor
  ·rintro ⟨q',s',e',he',hs',hat'⟩
   have hne' : e'.2 ≠ [] := by intro e0; rw [e0] at hs'; simp at hs'
   obtain ⟨_,hok⟩ := hR e' (List.mem_of_getElem? he')
   obtain ⟨h1,h2,_⟩ := hok hne'
   have hsl : s' < slotsOf e'.1 := by have := (List.getElem?_eq_some_iff.1 hs').1; omega
   have h3 := slots_words h1 hsl
   have h4 := (wordsOf_bd e'.1).1
   have h5 : 0 ≤ (s' : Int) * wordsOf e'.1 := Int.mul_nonneg (by omega) h4
   have h6 : q' = q := by omega
   subst h6
   rw [he] at he'
   cases he'
   have h7 : (s : Int) * wordsOf e.1 = s' * wordsOf e.1 := by omega
   have h8 := Int.eq_of_mul_eq_mul_right h1 h7
   rw [Int.toNat_natCast,show s = s' by omega]; exact hs'
  ·intro h
   exact ⟨q,s,e,he,by simpa using h,hat⟩
inductive Slotted (R : List Rw) (at_ : Int) : Int → Int → Bool → Prop
 | no (q s : Int) (h : ¬ IsObj R at_) : Slotted R at_ q s false
 | off (q s : Int) (e : Rw) (hq0 : 0 ≤ q) (hs0 : 0 ≤ s) (he : R[q.toNat]? = some e) (hu : e.2[s.toNat]? ≠ some true) (h : ¬ IsObj R at_) : Slotted R at_ q s true
 | on (q s : Int) (e : Rw) (hq0 : 0 ≤ q) (hs0 : 0 ≤ s) (he : R[q.toNat]? = some e) (hu : e.2[s.toNat]? = some true) (h : IsObj R at_) (ha0 : 0 ≤ at_) (ha1 : at_ < 32 * R.length) (hat : at_ = 32 * q + s * wordsOf e.1) : Slotted R at_ q s true
theorem slotted {R : List Rw} (hR : RowsOk R) {at_ : Int} {q s : Int} {b : Bool} (h : SlotAt R at_ q s b) : Slotted R at_ q s b := by
 rcases obj_slot hR h with ⟨rfl,h1,h2,h3,h4,h5,e,h6,h7,h8⟩ | ⟨rfl,h1⟩
 ·by_cases hu : e.2[s.toNat]? = some true
  ·exact .on q s e h1 h2 h6 hu (h8.2 hu) h4 h5 h7
  ·exact .off q s e h1 h2 h6 hu (fun h => hu (h8.1 h))
 ·exact .no q s h1
theorem slotB_lx (R : List Rw) (n at_ W : Int) (L D : List PV) (hL : L = rpv R) (hn : n = R.length) (hR : R.length ≤ 1000) (hok : RowsOk R) (hW : W = 32 * n) : CallF (fun _ => Tryz.prog) 115 [.ptr 0 (.lit 0),i6 at_] [hpB 0 1 3 3 W,hpC 1 2 127 2 n,hpP 2 L,hpP 3 D] 4
  (fun r h n' => ∃ (q s : Int) (b : Bool),r = .tup [i6 q,i6 s,.p (.bool b)] ∧ h = [hpB 0 1 3 3 W,hpC 1 2 127 2 n,hpP 2 L,hpP 3 D] ∧ n' = 4 ∧ Slotted R at_ q s b) :=
 (slotAt_lx R n at_ W L D hL hn hR hW).mono fun r h n' ⟨q,s,b,h1,h2,h3,h4⟩ => ⟨q,s,b,h1,h2,h3,slotted hok h4⟩
theorem tdiv16 (x : Int) (h : -9223372036854775808 ≤ x ∧ x ≤ 9223372036854775807) : -9223372036854775808 ≤ Int.tdiv x 16 ∧ Int.tdiv x 16 ≤ 9223372036854775807 := by
 rcases Int.le_total 0 x with h0 | h0
 ·rw [Int.tdiv_eq_ediv_of_nonneg h0]; omega
 ·have : Int.tdiv x 16 = -(Int.tdiv (-x) 16) := by rw [Int.neg_tdiv]; omega
  rw [this,Int.tdiv_eq_ediv_of_nonneg (by omega)]; omega
inductive Looked (R : List Rw) (ws : List Int) (at_ : Int) : LV → Prop
 | no (h : ¬ IsObj R at_) : Looked R ws at_ (.iface 177 (.agg []))
 | is (x k l : Int) (h : IsObj R at_) (h0 : 0 ≤ at_) (hx : ws[at_.toNat]? = some x) (hk : k = Int.tmod x 16) (hl : l = Int.tdiv x 16) : Looked R ws at_ (.iface 110 (.agg [i6 k,i6 l]))
theorem look_lx (R : List Rw) (ws : List Int) (n at_ W : Int) (L D : List PV) (hL : L = rpv R) (hD : D = ipv ws) (hn : n = R.length) (hR : R.length ≤ 1000) (hok : RowsOk R) (hW : W = 32 * n) (hws : (ws.length : Int) = W) (hwb : ∀ x ∈ ws,-9223372036854775808 ≤ x ∧ x ≤ 9223372036854775807) : CallF (fun _ => Tryz.prog) 103 [.ptr 0 (.lit 0),i6 at_] [hpB 0 1 3 3 W,hpC 1 2 127 2 n,hpP 2 L,hpP 3 D] 4
  (fun r h n' => Looked R ws at_ r ∧ h = [hpB 0 1 3 3 W,hpC 1 2 127 2 n,hpP 2 L,hpP 3 D] ∧ n' = 4) := by
 refine callF_of_body tok Tryz.func103 (by kernel_rfl) rfl rfl rfl ?_; conv => cbv
 refine cfr (slotB_lx R n at_ W L D hL hn hR hok hW) [(0,0),(1,1),(2,2),(3,3)] (fun r h' n' hrr => ?_)
 obtain ⟨q,s,b,e1,e2,e3,hS⟩ := hrr
 subst e1 e2 e3
 cases hS with
 | no hno =>
  conv => cbv
  refine RetF.mk [.iface 177 (.agg [])] [hpB 0 1 3 3 W,hpC 1 2 127 2 n,hpP 2 L,hpP 3 D] 4 (Re.at [(0,0),(1,1),(2,2),(3,3)] []) rfl ⟨.no hno,rfl,rfl⟩
 | off e hq0 hs0 he hu hno =>
  conv => cbv
  refine cfr (used_no_lx R n q s e.1 e.2 L hL hn hq0 he (hok e (List.mem_of_getElem? he)).1 (fun _ => hu)) [(0,1),(1,2)] (fun r h' n' ⟨e1,e2,e3⟩ => ?_)
  subst e1 e2 e3
  conv => cbv
  refine RetF.mk [.iface 177 (.agg [])] [hpB 0 1 3 3 W,hpC 1 2 127 2 n,hpP 2 L,hpP 3 D] 4 (Re.at [(0,0),(1,1),(2,2),(3,3)] []) rfl ⟨.no hno,rfl,rfl⟩
 | on e hq0 hs0 he hu hobj ha0 ha1 hat =>
  conv => cbv
  refine cfr (used_lx R n q s e.1 e.2 L hL hn hq0 he true hs0 hu) [(0,1),(1,2)] (fun r h' n' ⟨e1,e2,e3⟩ => ?_)
  subst e1 e2 e3
  conv => cbv
  obtain ⟨x,hx⟩ : ∃ x,ws[at_.toNat]? = some x := ⟨_,List.getElem?_eq_getElem (by omega)⟩
  have hxb := hwb x (List.mem_of_getElem? hx)
  have hc := ipv_get hx
  rw [← hD] at hc
  refine draw_sound tok (by kernel_rfl) rfl (by kernel_rfl) ?_
  conv => cbv
  refine Need.mk ⟨ha0,by show at_ < W; omega⟩ ?_
  conv => cbv
  refine Cell.at at_ _ hc (by simp [I.val]) rfl ?_
  conv => cbv
  refine Sum.mk fun k hk => ?_
  have hk : k = Int.tmod x 16 := hk
  conv => cbv
  refine Need.mk ⟨ha0,by show at_ < W; omega⟩ ?_
  conv => cbv
  refine Cell.at at_ _ hc (by simp [I.val]) rfl ?_
  conv => cbv
  have hl16 := tdiv16 x hxb
  refine Fit.mk (by show (-9223372036854775808 : Int) ≤ Int.tdiv x 16; omega) (by show Int.tdiv x 16 ≤ 9223372036854775807; omega) fun l hl => ?_
  have hl : l = Int.tdiv x 16 := hl
  conv => cbv
  refine RetF.mk [.iface 110 (.agg [i6 k,i6 l])] [hpB 0 1 3 3 W,hpC 1 2 127 2 n,hpP 2 L,hpP 3 D] 4 (Re.at [(0,0),(1,1),(2,2),(3,3)] []) rfl ⟨.is x k l hobj ha0 hx hk hl,rfl,rfl⟩
inductive ObjAt (R : List Rw) (at_ w : Int) : Prop
 | mk (q s : Nat) (e : Rw) (he : R[q]? = some e) (hs : e.2[s]? = some true) (hat : at_ = 32 * q + s * wordsOf e.1) (hw : w = wordsOf e.1)
theorem isObj_iff {R : List Rw} {at_ : Int} : IsObj R at_ ↔ ∃ w,ObjAt R at_ w := by
 constructor
 ·rintro ⟨q,s,e,h1,h2,h3⟩; exact ⟨_,q,s,e,h1,h2,h3,rfl⟩
 ·rintro ⟨w,q,s,e,h1,h2,h3,h4⟩; exact ⟨q,s,e,h1,h2,h3⟩
theorem ObjAt.facts {R : List Rw} (hR : RowsOk R) {a w : Int} (h : ObjAt R a w) : 0 ≤ a ∧ a + w ≤ 32 * R.length ∧ (w = 4 ∨ w = 8 ∨ w = 16 ∨ w = 32) ∧ ∃ k : Int,a = k * w := by
 obtain ⟨q,s,e,he,hs,hat,hw⟩ := h
 have hne : e.2 ≠ [] := by intro e0; rw [e0] at hs; simp at hs
 obtain ⟨_,hok⟩ := hR e (List.mem_of_getElem? he)
 obtain ⟨h1,h2,_⟩ := hok hne
 have hsl : s < slotsOf e.1 := by have := (List.getElem?_eq_some_iff.1 hs).1; omega
 have h3 := slots_words h1 hsl
 have h4 := wordsOf_cases e.1
 have h5 : 0 ≤ (s : Int) * wordsOf e.1 := Int.mul_nonneg (by omega) (wordsOf_bd _).1
 have hq := (List.getElem?_eq_some_iff.1 he).1
 rw [← hw] at h1 h3 h4 h5 hat
 refine ⟨by omega,by omega,by omega,?_⟩
 rcases h4 with h4 | h4 | h4 | h4 | h4
 ·exact absurd h4 h1
 ·exact ⟨8 * q + s,by rw [hat,h4]; omega⟩
 ·exact ⟨4 * q + s,by rw [hat,h4]; omega⟩
 ·exact ⟨2 * q + s,by rw [hat,h4]; omega⟩
 ·exact ⟨q + s,by rw [hat,h4]; omega⟩
theorem ObjAt.apart {R : List Rw} (hR : RowsOk R) {a w b v : Int} (h : ObjAt R a w) (k : ObjAt R b v) : (a = b ∧ w = v) ∨ a + w ≤ b ∨ b + v ≤ a := by
 obtain ⟨q,s,e,he,hs,hat,hw⟩ := h
 obtain ⟨q',s',e',he',hs',hat',hw'⟩ := k
 have hne : e.2 ≠ [] := by intro e0; rw [e0] at hs; simp at hs
 have hne' : e'.2 ≠ [] := by intro e0; rw [e0] at hs'; simp at hs'
 obtain ⟨_,hok⟩ := hR e (List.mem_of_getElem? he)
 obtain ⟨_,hok'⟩ := hR e' (List.mem_of_getElem? he')
 obtain ⟨h1,h2,_⟩ := hok hne
 obtain ⟨h1',h2',_⟩ := hok' hne'
 have hsl : s < slotsOf e.1 := by have := (List.getElem?_eq_some_iff.1 hs).1; omega
 have hsl' : s' < slotsOf e'.1 := by have := (List.getElem?_eq_some_iff.1 hs').1; omega
 have h3 := slots_words h1 hsl
 have h3' := slots_words h1' hsl'
 have h5 : 0 ≤ (s : Int) * wordsOf e.1 := Int.mul_nonneg (by omega) (wordsOf_bd _).1
 have h5' : 0 ≤ (s' : Int) * wordsOf e'.1 := Int.mul_nonneg (by omega) (wordsOf_bd _).1
 rcases Nat.lt_trichotomy q q' with hq | hq | hq
 ·exact .inr (.inl (by omega))
 ·subst hq
  rw [he] at he'
  cases he'
  have h6 := wordsOf_cases e.1
  rcases Nat.lt_trichotomy s s' with hss | hss | hss
  ·have : (s : Int) * wordsOf e.1 + wordsOf e.1 ≤ s' * wordsOf e.1 := by
    have := Int.mul_le_mul_of_nonneg_right (show (s : Int) + 1 ≤ s' by omega) (show 0 ≤ wordsOf e.1 by omega)
    rw [Int.add_mul,Int.one_mul] at this; exact this
   exact .inr (.inl (by omega))
  ·subst hss; exact .inl ⟨by omega,by omega⟩
  ·have : (s' : Int) * wordsOf e.1 + wordsOf e.1 ≤ s * wordsOf e.1 := by
    have := Int.mul_le_mul_of_nonneg_right (show (s' : Int) + 1 ≤ s by omega) (show 0 ≤ wordsOf e.1 by omega)
    rw [Int.add_mul,Int.one_mul] at this; exact this
   exact .inr (.inr (by omega))
 ·exact .inr (.inr (by omega))
structure AOk (R : List Rw) (ws : List Int) : Prop where
 rows : RowsOk R
 len : (ws.length : Int) = 32 * R.length
 bd : ∀ x ∈ ws,-9223372036854775808 ≤ x ∧ x ≤ 9223372036854775807
 hdr : ∀ a w,ObjAt R a w → ∃ k l : Int,ws[a.toNat]? = some (k + 16 * l) ∧ 0 ≤ k ∧ k < 16 ∧ 0 ≤ l ∧ l < w
theorem hdr_of {k l : Int} (h0 : 0 ≤ k) (h1 : k < 16) (h2 : 0 ≤ l) : Int.tmod (k + 16 * l) 16 = k ∧ Int.tdiv (k + 16 * l) 16 = l := by
 rw [Int.tmod_eq_emod_of_nonneg (by omega),Int.tdiv_eq_ediv_of_nonneg (by omega)]
 omega
inductive Kept (R : List Rw) (ws : List Int) (at_ : Int) : Int → Int → Prop
 | mk (k l w : Int) (h : ObjAt R at_ w) (hx : ws[at_.toNat]? = some (k + 16 * l)) (h0 : 0 ≤ k) (h1 : k < 16) (h2 : 0 ≤ l) (h3 : l < w) : Kept R ws at_ k l
theorem Kept.of {R : List Rw} {ws : List Int} (hA : AOk R ws) {a : Int} (h : IsObj R a) : ∃ k l,Kept R ws a k l := by
 obtain ⟨w,hw⟩ := isObj_iff.1 h
 obtain ⟨k,l,h1,h2,h3,h4,h5⟩ := hA.hdr a w hw
 exact ⟨k,l,.mk k l w hw h1 h2 h3 h4 h5⟩
inductive Seen (R : List Rw) (ws : List Int) (at_ : Int) : LV → Prop
 | no (h : ¬ IsObj R at_) : Seen R ws at_ (.iface 177 (.agg []))
 | is (k l : Int) (h : Kept R ws at_ k l) : Seen R ws at_ (.iface 110 (.agg [i6 k,i6 l]))
theorem seen {R : List Rw} {ws : List Int} (hA : AOk R ws) {a : Int} {r : LV} (h : Looked R ws a r) : Seen R ws a r := by
 cases h with
 | no h => exact .no h
 | is x k l h h0 hx hk hl =>
  obtain ⟨k',l',h'⟩ := Kept.of hA h
  have h'' := h'
  obtain ⟨w,h1,h2,h3,h4,h5,h6⟩ := h'
  rw [hx] at h2
  have h2 : x = k' + 16 * l' := Option.some.inj h2
  have := hdr_of h3 h4 h5
  rw [h2,this.1] at hk
  rw [h2,this.2] at hl
  rw [hk,hl]
  exact .is k' l' h''
theorem see_lx (R : List Rw) (ws : List Int) (n at_ W : Int) (L D : List PV) (hL : L = rpv R) (hD : D = ipv ws) (hn : n = R.length) (hR : R.length ≤ 1000) (hA : AOk R ws) (hW : W = 32 * n) : CallF (fun _ => Tryz.prog) 103 [.ptr 0 (.lit 0),i6 at_] [hpB 0 1 3 3 W,hpC 1 2 127 2 n,hpP 2 L,hpP 3 D] 4
  (fun r h n' => Seen R ws at_ r ∧ h = [hpB 0 1 3 3 W,hpC 1 2 127 2 n,hpP 2 L,hpP 3 D] ∧ n' = 4) :=
 (look_lx R ws n at_ W L D hL hD hn hR hA.rows hW (by rw [hA.len]; omega) hA.bd).mono fun r h n' ⟨h1,h2,h3⟩ => ⟨seen hA h1,h2,h3⟩
inductive KindR (R : List Rw) (ws : List Int) (at_ : Int) : Int → Prop
 | no (h : ¬ IsObj R at_) : KindR R ws at_ 0
 | is (k l : Int) (h : Kept R ws at_ k l) : KindR R ws at_ k
inductive LenR (R : List Rw) (ws : List Int) (at_ : Int) : Int → Prop
 | no (h : ¬ IsObj R at_) : LenR R ws at_ 0
 | is (k l : Int) (h : Kept R ws at_ k l) : LenR R ws at_ l
theorem kind_lx (R : List Rw) (ws : List Int) (n at_ W : Int) (L D : List PV) (hL : L = rpv R) (hD : D = ipv ws) (hn : n = R.length) (hR : R.length ≤ 1000) (hA : AOk R ws) (hW : W = 32 * n) : CallF (fun _ => Tryz.prog) 64 [.ptr 0 (.lit 0),i6 at_] [hpB 0 1 3 3 W,hpC 1 2 127 2 n,hpP 2 L,hpP 3 D] 4
  (fun r h n' => ∃ v : Int,r = .p (.int .i64 (.sym v)) ∧ h = [hpB 0 1 3 3 W,hpC 1 2 127 2 n,hpP 2 L,hpP 3 D] ∧ n' = 4 ∧ KindR R ws at_ v) := by
 refine callF_of_body tok Tryz.func64 (by kernel_rfl) rfl rfl rfl ?_; conv => cbv
 refine cfr (see_lx R ws n at_ W L D hL hD hn hR hA hW) [(0,0),(1,1),(2,2),(3,3)] (fun r h' n' hrr => ?_)
 obtain ⟨hS,e2,e3⟩ := hrr
 subst e2 e3
 cases hS with
 | no hno =>
  conv => cbv
  refine RetF.mk [i6 0] [hpB 0 1 3 3 W,hpC 1 2 127 2 n,hpP 2 L,hpP 3 D] 4 (Re.at [(0,0),(1,1),(2,2),(3,3)] []) rfl ⟨0,rfl,rfl,rfl,.no hno⟩
 | is k l hk =>
  conv => cbv
  refine RetF.mk [i6 k] [hpB 0 1 3 3 W,hpC 1 2 127 2 n,hpP 2 L,hpP 3 D] 4 (Re.at [(0,0),(1,1),(2,2),(3,3)] []) rfl ⟨k,rfl,rfl,rfl,.is k l hk⟩
theorem len_lx (R : List Rw) (ws : List Int) (n at_ W : Int) (L D : List PV) (hL : L = rpv R) (hD : D = ipv ws) (hn : n = R.length) (hR : R.length ≤ 1000) (hA : AOk R ws) (hW : W = 32 * n) : CallF (fun _ => Tryz.prog) 98 [.ptr 0 (.lit 0),i6 at_] [hpB 0 1 3 3 W,hpC 1 2 127 2 n,hpP 2 L,hpP 3 D] 4
  (fun r h n' => ∃ v : Int,r = .p (.int .i64 (.sym v)) ∧ h = [hpB 0 1 3 3 W,hpC 1 2 127 2 n,hpP 2 L,hpP 3 D] ∧ n' = 4 ∧ LenR R ws at_ v) := by
 refine callF_of_body tok Tryz.func98 (by kernel_rfl) rfl rfl rfl ?_; conv => cbv
 refine cfr (see_lx R ws n at_ W L D hL hD hn hR hA hW) [(0,0),(1,1),(2,2),(3,3)] (fun r h' n' hrr => ?_)
 obtain ⟨hS,e2,e3⟩ := hrr
 subst e2 e3
 cases hS with
 | no hno =>
  conv => cbv
  refine RetF.mk [i6 0] [hpB 0 1 3 3 W,hpC 1 2 127 2 n,hpP 2 L,hpP 3 D] 4 (Re.at [(0,0),(1,1),(2,2),(3,3)] []) rfl ⟨0,rfl,rfl,rfl,.no hno⟩
 | is k l hk =>
  conv => cbv
  refine RetF.mk [i6 l] [hpB 0 1 3 3 W,hpC 1 2 127 2 n,hpP 2 L,hpP 3 D] 4 (Re.at [(0,0),(1,1),(2,2),(3,3)] []) rfl ⟨l,rfl,rfl,rfl,.is k l hk⟩
inductive Judged (R : List Rw) (ws : List Int) (at_ i : Int) : Int → Prop
 | none (h : ¬ IsObj R at_) : Judged R ws at_ i 8
 | arg (k l : Int) (h : Kept R ws at_ k l) (hi : ¬ (0 ≤ i ∧ i < l)) : Judged R ws at_ i 1
 | ok (k l : Int) (h : Kept R ws at_ k l) (hi : 0 ≤ i ∧ i < l) : Judged R ws at_ i 0
theorem judge_lx (i : Int) (R : List Rw) (ws : List Int) (n at_ W : Int) (L D : List PV) (hL : L = rpv R) (hD : D = ipv ws) (hn : n = R.length) (hR : R.length ≤ 1000) (hA : AOk R ws) (hW : W = 32 * n) : CallF (fun _ => Tryz.prog) 70 [.ptr 0 (.lit 0),i6 at_,i6 i] [hpB 0 1 3 3 W,hpC 1 2 127 2 n,hpP 2 L,hpP 3 D] 4
  (fun r h n' => ∃ v : Int,r = .p (.int .i64 (.sym v)) ∧ h = [hpB 0 1 3 3 W,hpC 1 2 127 2 n,hpP 2 L,hpP 3 D] ∧ n' = 4 ∧ Judged R ws at_ i v) := by
 refine callF_of_body tok Tryz.func70 (by kernel_rfl) rfl rfl rfl ?_; conv => cbv
 refine cfr (see_lx R ws n at_ W L D hL hD hn hR hA hW) [(0,0),(1,1),(2,2),(3,3)] (fun r h' n' hrr => ?_)
 obtain ⟨hS,e2,e3⟩ := hrr
 subst e2 e3
 cases hS with
 | no hno =>
  conv => cbv
  refine RetF.mk [i6 8] [hpB 0 1 3 3 W,hpC 1 2 127 2 n,hpP 2 L,hpP 3 D] 4 (Re.at [(0,0),(1,1),(2,2),(3,3)] []) rfl ⟨8,rfl,rfl,rfl,.none hno⟩
 | is k l hk =>
  conv => cbv
  refine Br.mk (fun g => ?_) (fun g => ?_)
  ·have g : i < 0 := g
   conv => cbv
   refine RetF.mk [i6 1] [hpB 0 1 3 3 W,hpC 1 2 127 2 n,hpP 2 L,hpP 3 D] 4 (Re.at [(0,0),(1,1),(2,2),(3,3)] []) rfl ⟨1,rfl,rfl,rfl,.arg k l hk (by omega)⟩
  have g : ¬ i < 0 := g
  conv => cbv
  refine Br.mk (fun g => ?_) (fun g => ?_)
  ·have g : l ≤ i := g
   conv => cbv
   refine RetF.mk [i6 1] [hpB 0 1 3 3 W,hpC 1 2 127 2 n,hpP 2 L,hpP 3 D] 4 (Re.at [(0,0),(1,1),(2,2),(3,3)] []) rfl ⟨1,rfl,rfl,rfl,.arg k l hk (by omega)⟩
  ·have g : ¬ l ≤ i := g
   conv => cbv
   refine RetF.mk [i6 0] [hpB 0 1 3 3 W,hpC 1 2 127 2 n,hpP 2 L,hpP 3 D] 4 (Re.at [(0,0),(1,1),(2,2),(3,3)] []) rfl ⟨0,rfl,rfl,rfl,.ok k l hk (by omega)⟩
inductive Loaded (R : List Rw) (ws : List Int) (at_ i : Int) : Int → Int → Prop
 | none (h : ¬ IsObj R at_) : Loaded R ws at_ i 0 8
 | arg (k l : Int) (h : Kept R ws at_ k l) (hi : ¬ (0 ≤ i ∧ i < l)) : Loaded R ws at_ i 0 1
 | ok (k l x : Int) (h : Kept R ws at_ k l) (hi : 0 ≤ i ∧ i < l) (hx : ws[(at_ + 1 + i).toNat]? = some x) : Loaded R ws at_ i x 0
theorem Kept.bounds {R : List Rw} {ws : List Int} (hA : AOk R ws) {a k l : Int} (h : Kept R ws a k l) : 0 ≤ a ∧ 0 ≤ l ∧ a + 1 + l ≤ 32 * R.length ∧ l < 32 := by
 obtain ⟨w,h1,_,_,_,h2,h3⟩ := h
 obtain ⟨h4,h5,h6,_⟩ := h1.facts hA.rows
 omega
theorem load_lx (i : Int) (R : List Rw) (ws : List Int) (n at_ W : Int) (L D : List PV) (hL : L = rpv R) (hD : D = ipv ws) (hn : n = R.length) (hR : R.length ≤ 1000) (hA : AOk R ws) (hW : W = 32 * n) : CallF (fun _ => Tryz.prog) 114 [.ptr 0 (.lit 0),i6 at_,i6 i] [hpB 0 1 3 3 W,hpC 1 2 127 2 n,hpP 2 L,hpP 3 D] 4
  (fun r h n' => ∃ x e : Int,r = .tup [i6 x,i6 e] ∧ h = [hpB 0 1 3 3 W,hpC 1 2 127 2 n,hpP 2 L,hpP 3 D] ∧ n' = 4 ∧ Loaded R ws at_ i x e) := by
 have hlen := hA.len
 refine callF_of_body tok Tryz.func114 (by kernel_rfl) rfl rfl rfl ?_; conv => cbv
 refine cfr (judge_lx i R ws n at_ W L D hL hD hn hR hA hW) [(0,0),(1,1),(2,2),(3,3)] (fun r h' n' hrr => ?_)
 obtain ⟨v,e1,e2,e3,hJ⟩ := hrr
 subst e1 e2 e3
 cases hJ with
 | none hno =>
  conv => cbv
  refine Br.mk (fun g => ?_) (fun g => ?_)
  case refine_2 =>
   have gf : False := g (by decide)
   cases gf
  conv => cbv
  refine RetF.mk [i6 0,i6 8] [hpB 0 1 3 3 W,hpC 1 2 127 2 n,hpP 2 L,hpP 3 D] 4 (Re.at [(0,0),(1,1),(2,2),(3,3)] []) rfl ⟨0,8,rfl,rfl,rfl,.none hno⟩
 | arg k l hk hi =>
  conv => cbv
  refine Br.mk (fun g => ?_) (fun g => ?_)
  case refine_2 =>
   have gf : False := g (by decide)
   cases gf
  conv => cbv
  refine RetF.mk [i6 0,i6 1] [hpB 0 1 3 3 W,hpC 1 2 127 2 n,hpP 2 L,hpP 3 D] 4 (Re.at [(0,0),(1,1),(2,2),(3,3)] []) rfl ⟨0,1,rfl,rfl,rfl,.arg k l hk hi⟩
 | ok k l hk hi =>
  conv => cbv
  refine Br.mk (fun g => ?_) (fun g => ?_)
  case refine_1 =>
   have gf : False := g rfl
   cases gf
  conv => cbv
  have hb := hk.bounds hA
  obtain ⟨x,hx⟩ : ∃ x,ws[(at_ + 1 + i).toNat]? = some x := ⟨_,List.getElem?_eq_getElem (by omega)⟩
  have hc := ipv_get hx
  rw [← hD] at hc
  refine Fit.mk (by show (-9223372036854775808 : Int) ≤ at_ + 1; omega) (by show at_ + 1 ≤ 9223372036854775807; omega) fun a1 ha1 => ?_
  have ha1 : a1 = at_ + 1 := ha1
  conv => cbv
  refine Fit.mk (by show (-9223372036854775808 : Int) ≤ a1 + i; omega) (by show a1 + i ≤ 9223372036854775807; omega) fun a2 ha2 => ?_
  have ha2 : a2 = a1 + i := ha2
  have ha2 : a2 = at_ + 1 + i := by omega
  conv => cbv
  refine Need.mk ⟨by show 0 ≤ a2; omega,by show a2 < W; omega⟩ ?_
  conv => cbv
  refine Cell.at a2 _ hc (by simp [I.val]) (by omega) ?_
  conv => cbv
  refine RetF.mk [i6 x,i6 0] [hpB 0 1 3 3 W,hpC 1 2 127 2 n,hpP 2 L,hpP 3 D] 4 (Re.at [(0,0),(1,1),(2,2),(3,3)] []) rfl ⟨x,0,rfl,rfl,rfl,.ok k l x hk hi hx⟩
theorem updL_ipv (ws : List Int) (j : Nat) (x : Int) : updL (ipv ws) j [.int .i64 (.sym x)] = ipv (ws.set j x) := by
 show (ipv ws).set j _ = _
 rw [ipv,ipv,List.map_set]
inductive Stored (R : List Rw) (ws : List Int) (at_ i x : Int) : Int → List Int → Prop
 | none (h : ¬ IsObj R at_) : Stored R ws at_ i x 8 ws
 | arg (k l : Int) (h : Kept R ws at_ k l) (hi : ¬ (0 ≤ i ∧ i < l)) : Stored R ws at_ i x 1 ws
 | ok (k l : Int) (h : Kept R ws at_ k l) (hi : 0 ≤ i ∧ i < l) : Stored R ws at_ i x 0 (ws.set (at_ + 1 + i).toNat x)
theorem store_lx (i x : Int) (R : List Rw) (ws : List Int) (n at_ W : Int) (L D : List PV) (hL : L = rpv R) (hD : D = ipv ws) (hn : n = R.length) (hR : R.length ≤ 1000) (hA : AOk R ws) (hW : W = 32 * n) : CallF (fun _ => Tryz.prog) 33 [.ptr 0 (.lit 0),i6 at_,i6 i,i6 x] [hpB 0 1 3 3 W,hpC 1 2 127 2 n,hpP 2 L,hpP 3 D] 4
  (fun r h n' => ∃ (e : Int) (ws' : List Int) (D' : List PV),r = .p (.int .i64 (.sym e)) ∧ h = [hpB 0 1 3 3 W,hpC 1 2 127 2 n,hpP 2 L,hpP 3 D'] ∧ n' = 4 ∧ D' = ipv ws' ∧ Stored R ws at_ i x e ws') := by
 have hlen := hA.len
 have hDl : D.length = ws.length := by rw [hD,ipv_length]
 refine callF_of_body tok Tryz.func33 (by kernel_rfl) rfl rfl rfl ?_; conv => cbv
 refine cfr (judge_lx i R ws n at_ W L D hL hD hn hR hA hW) [(0,0),(1,1),(2,2),(3,3)] (fun r h' n' hrr => ?_)
 obtain ⟨v,e1,e2,e3,hJ⟩ := hrr
 subst e1 e2 e3
 cases hJ with
 | none hno =>
  conv => cbv
  refine Br.mk (fun g => ?_) (fun g => ?_)
  case refine_2 =>
   have gf : False := g (by decide)
   cases gf
  conv => cbv
  refine RetF.mk [i6 8] [hpB 0 1 3 3 W,hpC 1 2 127 2 n,hpP 2 L,hpP 3 D] 4 (Re.at [(0,0),(1,1),(2,2),(3,3)] []) rfl ⟨8,ws,D,rfl,rfl,rfl,hD,.none hno⟩
 | arg k l hk hi =>
  conv => cbv
  refine Br.mk (fun g => ?_) (fun g => ?_)
  case refine_2 =>
   have gf : False := g (by decide)
   cases gf
  conv => cbv
  refine RetF.mk [i6 1] [hpB 0 1 3 3 W,hpC 1 2 127 2 n,hpP 2 L,hpP 3 D] 4 (Re.at [(0,0),(1,1),(2,2),(3,3)] []) rfl ⟨1,ws,D,rfl,rfl,rfl,hD,.arg k l hk hi⟩
 | ok k l hk hi =>
  conv => cbv
  refine Br.mk (fun g => ?_) (fun g => ?_)
  case refine_1 =>
   have gf : False := g rfl
   cases gf
  conv => cbv
  have hb := hk.bounds hA
  refine Fit.mk (by show (-9223372036854775808 : Int) ≤ at_ + 1; omega) (by show at_ + 1 ≤ 9223372036854775807; omega) fun a1 ha1 => ?_
  have ha1 : a1 = at_ + 1 := ha1
  conv => cbv
  refine Fit.mk (by show (-9223372036854775808 : Int) ≤ a1 + i; omega) (by show a1 + i ≤ 9223372036854775807; omega) fun a2 ha2 => ?_
  have ha2 : a2 = a1 + i := ha2
  have ha2 : a2 = at_ + 1 + i := by omega
  conv => cbv
  refine Need.mk ⟨by show 0 ≤ a2; omega,by show a2 < W; omega⟩ ?_
  conv => cbv
  refine Need.mk (by show a2 + ((1 : Nat) : Int) ≤ (D.length : Int); omega) ?_
  conv => cbv
  refine Upd.mk fun D2 hD2 => ?_
  have hD2 : D2 = updL D a2.toNat [.int .i64 (.sym x)] := hD2
  have hD3 : D2 = ipv (ws.set (at_ + 1 + i).toNat x) := by rw [hD2,hD,updL_ipv,ha2]
  clear hD2
  conv => cbv
  refine RetF.mk [i6 0] [hpB 0 1 3 3 W,hpC 1 2 127 2 n,hpP 2 L,hpP 3 D2] 4 (Re.at [(0,0),(1,1),(2,2),(3,3)] []) rfl ⟨0,_,D2,rfl,rfl,rfl,hD3,.ok k l hk hi⟩
theorem header_lx (k l : Int) (hk : 0 ≤ k ∧ k ≤ 100) (hl : 0 ≤ l ∧ l ≤ 100) (v : Int) (hv : v = k + 16 * l) : CallF (fun _ => Tryz.prog) 69 [.agg [i6 k,i6 l]] [] 0 (fun r h n' => r = .p (.int .i64 (.sym v)) ∧ h = [] ∧ n' = 0) := by
 refine callF_of_body tok Tryz.func69 (by kernel_rfl) rfl rfl rfl ?_; conv => cbv
 refine Fit.mk (by show (-9223372036854775808 : Int) ≤ 16 * l; omega) (by show 16 * l ≤ 9223372036854775807; omega) fun a ha => ?_
 have ha : a = 16 * l := ha
 conv => cbv
 refine Fit.mk (by show (-9223372036854775808 : Int) ≤ k + a; omega) (by show k + a ≤ 9223372036854775807; omega) fun b hb => ?_
 have hb : b = k + a := hb
 have hbv : b = v := by omega
 conv => cbv
 refine RetF.mk [i6 v] [] 0 (Re.at [] []) rfl ⟨rfl,rfl,rfl⟩
def zer : List Int → Nat → Nat → List Int
 | ws,_,0 => ws
 | ws,j,n + 1 => zer (ws.set j 0) (j + 1) n
theorem zer_length : ∀ (n : Nat) (ws : List Int) (j : Nat),(zer ws j n).length = ws.length
 | 0,_,_ => rfl
 | n + 1,ws,j => by rw [zer,zer_length n,List.length_set]
theorem zer_get : ∀ (n : Nat) (ws : List Int) (j i : Nat),i < ws.length → (zer ws j n)[i]? = if j ≤ i ∧ i < j + n then some 0 else ws[i]?
 | 0,ws,j,i,h => by rw [zer,if_neg (by omega)]
 | n + 1,ws,j,i,h => by
  rw [zer,zer_get n _ _ _ (by rw [List.length_set]; exact h)]
  by_cases h1 : j + 1 ≤ i ∧ i < j + 1 + n
  ·rw [if_pos h1,if_pos (by omega)]
  ·rw [if_neg h1]
   by_cases h2 : j = i
   ·subst h2
    rw [List.getElem?_set_self h,if_pos (by omega)]
   ·rw [List.getElem?_set_ne h2,if_neg (by omega)]
theorem pvles_set : ∀ (L M : List PV) (j : Nat) (u v : PV),pvles L M → pvle u v → pvles (L.set j u) (M.set j v)
 | [],[],_,_,_,_,_ => trivial
 | x :: L,y :: M,0,u,v,h,k => ⟨k,h.2⟩
 | x :: L,y :: M,j + 1,u,v,h,k => ⟨h.1,pvles_set L M j u v h.2 k⟩
theorem upd_zer : ∀ (n : Nat) (L : List PV) (ws : List Int) (j : Nat),pvles L (ipv ws) → pvles (updL L j (repsP [.int .i64 (.lit 0)] n)) (ipv (zer ws j n))
 | 0,_,_,_,h => h
 | n + 1,L,ws,j,h => by
  show pvles (updL (L.set j _) (j + 1) (repsP [.int .i64 (.lit 0)] n)) (ipv (zer (ws.set j 0) (j + 1) n))
  refine upd_zer n _ _ _ ?_
  rw [ipv,List.map_set]
  exact pvles_set _ _ _ _ _ h (by simp [pvle,I.val])
inductive Alloct (R : List Rw) (ws : List Int) (kind n : Int) : Int → Int → List Rw → List Int → Prop
 | arg (h : ¬ (0 ≤ n ∧ n ≤ 31 ∧ 1 ≤ kind ∧ kind ≤ 6)) : Alloct R ws kind n 0 1 R ws
 | room (i s : Int) (R' : List Rw) (h : 0 ≤ n ∧ n ≤ 31 ∧ 1 ≤ kind ∧ kind ≤ 6) (ha : Alloced R (ofN n) i s false R') : Alloct R ws kind n 0 9 R' ws
 | ok (i s at_ : Int) (R' : List Rw) (h : 0 ≤ n ∧ n ≤ 31 ∧ 1 ≤ kind ∧ kind ≤ 6) (ha : Alloced R (ofN n) i s true R') (hi : 0 ≤ i ∧ i < R.length ∧ 0 ≤ s ∧ s < slotsOf (ofN n)) (hat : at_ = 32 * i + s * wordsOf (ofN n)) :
   Alloct R ws kind n at_ 0 R' (zer (ws.set at_.toNat (kind + 16 * n)) (at_.toNat + 1) n.toNat)
theorem ofN_words {n : Int} (h : 0 ≤ n ∧ n ≤ 31) : n < wordsOf (ofN n) ∧ wordsOf (ofN n) ≠ 0 := by
 unfold ofN
 split
 ·exact ⟨by rw [show wordsOf 0 = 4 from rfl]; omega,by decide⟩
 ·split
  ·exact ⟨by rw [show wordsOf 1 = 8 from rfl]; omega,by decide⟩
  ·split
   ·exact ⟨by rw [show wordsOf 2 = 16 from rfl]; omega,by decide⟩
   ·exact ⟨by rw [show wordsOf 3 = 32 from rfl]; omega,by decide⟩
theorem ofN_slots (n : Int) : slotsOf (ofN n) ≠ 0 := by
 unfold ofN
 split
 ·decide
 ·split
  ·decide
  ·split <;> decide
theorem alloced_in {R R' : List Rw} {c i s : Int} (hR : RowsOk R) (h : Alloced R c i s true R') : 0 ≤ i ∧ i < R.length ∧ 0 ≤ s ∧ s < slotsOf c := by
 cases h with
 | old i s l h0 hi hs h1 h2 =>
  have hq := (List.getElem?_eq_some_iff.1 hi).1
  have hs1 := (List.getElem?_eq_some_iff.1 hs).1
  have hne : l ≠ [] := by intro e; subst e; simp at hs
  have h4 : l.length = slotsOf c := ((hR _ (List.mem_of_getElem? hi)).2 hne).2.1
  omega
 | fresh i d h0 h2 hi h3 =>
  have hq := (List.getElem?_eq_some_iff.1 hi).1
  omega
theorem allocA_lx (kind m : Int) (R : List Rw) (ws : List Int) (n W : Int) (L D : List PV) (hL : L = rpv R) (hD : D = ipv ws) (hn : n = R.length) (hR : R.length ≤ 1000) (hA : AOk R ws) (hW : W = 32 * n) : CallF (fun _ => Tryz.prog) 32 [.ptr 0 (.lit 0),i6 kind,i6 m] [hpB 0 1 3 3 W,hpC 1 2 127 2 n,hpP 2 L,hpP 3 D] 4
  (fun r h n' => ∃ (at_ e : Int) (R' : List Rw) (ws' : List Int) (L' D' : List PV),r = .tup [i6 at_,i6 e] ∧ h = [hpB 0 1 3 3 W,hpC 1 2 127 2 n,hpP 2 L',hpP 3 D'] ∧ n' = 4 ∧ L' = rpv R' ∧ D' = ipv ws' ∧ Alloct R ws kind m at_ e R' ws') := by
 have hlen := hA.len
 have hDl : D.length = ws.length := by rw [hD,ipv_length]
 have hm8 : ∀ e ∈ R,e.2.length ≤ 8 := fun e he => (hA.rows e he).1
 refine callF_of_body tok Tryz.func32 (by kernel_rfl) rfl rfl rfl ?_; conv => cbv
 refine callF_frame (of_lx m) [] rfl trivial rfl rfl (fun r h' n' hrr => ?_)
 obtain ⟨c,b,e1,e2,e3,hO⟩ := hrr
 subst e1 e2 e3
 cases hO with
 | no hno =>
  conv => cbv
  refine RetF.mk [i6 0,i6 1] [hpB 0 1 3 3 W,hpC 1 2 127 2 n,hpP 2 L,hpP 3 D] 4 (Re.at [(0,0),(1,1),(2,2),(3,3)] []) rfl ⟨0,1,R,ws,L,D,rfl,rfl,rfl,hL,hD,.arg (fun h => hno ⟨h.1,h.2.1⟩)⟩
 | yes _ hc hyes =>
  conv => cbv
  refine Br.mk (fun g => ?_) (fun g => ?_)
  ·have g : kind < 1 := g
   have hno : ¬ (0 ≤ m ∧ m ≤ 31 ∧ 1 ≤ kind ∧ kind ≤ 6) := fun h => by omega
   conv => cbv
   refine RetF.mk [i6 0,i6 1] [hpB 0 1 3 3 W,hpC 1 2 127 2 n,hpP 2 L,hpP 3 D] 4 (Re.at [(0,0),(1,1),(2,2),(3,3)] []) rfl ⟨0,1,R,ws,L,D,rfl,rfl,rfl,hL,hD,.arg hno⟩
  have g : ¬ kind < 1 := g
  conv => cbv
  refine Br.mk (fun g2 => ?_) (fun g2 => ?_)
  ·have g2 : 6 < kind := g2
   have hno : ¬ (0 ≤ m ∧ m ≤ 31 ∧ 1 ≤ kind ∧ kind ≤ 6) := fun h => by omega
   conv => cbv
   refine RetF.mk [i6 0,i6 1] [hpB 0 1 3 3 W,hpC 1 2 127 2 n,hpP 2 L,hpP 3 D] 4 (Re.at [(0,0),(1,1),(2,2),(3,3)] []) rfl ⟨0,1,R,ws,L,D,rfl,rfl,rfl,hL,hD,.arg hno⟩
  have g2 : ¬ 6 < kind := g2
  have hyk : 0 ≤ m ∧ m ≤ 31 ∧ 1 ≤ kind ∧ kind ≤ 6 := by omega
  conv => cbv
  refine cfr (alloc_lx R n c L hL hn hR hm8) [(0,1),(1,2)] (fun r h' n' hrr => ?_)
  obtain ⟨i,s,b,L2,R2,e1,e2,e3,hL2,hAl⟩ := hrr
  subst e1 e2 e3
  cases b with
  | false =>
   conv => cbv
   rw [hc] at hAl
   refine RetF.mk [i6 0,i6 9] [hpB 0 1 3 3 W,hpC 1 2 127 2 n,hpP 2 L2,hpP 3 D] 4 (Re.at [(0,0),(1,1),(2,2),(3,3)] []) rfl ⟨0,9,R2,ws,L2,D,rfl,rfl,rfl,hL2,hD,.room i s R2 hyk hAl⟩
  | true =>
   conv => cbv
   obtain ⟨hi0,hi1,hs0,hs1⟩ := alloced_in hA.rows hAl
   obtain ⟨w,hw⟩ : ∃ w,w = wordsOf c := ⟨_,rfl⟩
   have hmw : m < w ∧ w ≠ 0 := by rw [hw,hc]; exact ofN_words hyes
   have hsw : (s.toNat : Int) * w + w ≤ 32 := by rw [hw]; exact slots_words (by rw [← hw]; exact hmw.2) (by omega)
   rw [show (s.toNat : Int) = s by omega] at hsw
   obtain ⟨sw,hsw2⟩ : ∃ sw,sw = s * w := ⟨_,rfl⟩
   have hsw0 : 0 ≤ sw := by rw [hsw2]; exact Int.mul_nonneg hs0 (by rw [hw]; exact (wordsOf_bd _).1)
   rw [← hsw2] at hsw
   refine Fit.mk (by show (-9223372036854775808 : Int) ≤ i * 32; omega) (by show i * 32 ≤ 9223372036854775807; omega) fun i32 hi32 => ?_
   have hi32 : i32 = i * 32 := hi32
   conv => cbv
   refine callF_frame (words_lx c w hw) [] rfl trivial rfl rfl (fun r h' n' ⟨e1,e2,e3⟩ => ?_)
   subst e1 e2 e3
   conv => cbv
   refine Fit.mk (by show (-9223372036854775808 : Int) ≤ s * w; rw [← hsw2]; omega) (by show s * w ≤ 9223372036854775807; rw [← hsw2]; omega) fun sw' hsw' => ?_
   have hsw' : sw' = sw := by rw [hsw2]; exact hsw'
   conv => cbv
   refine Fit.mk (by show (-9223372036854775808 : Int) ≤ i32 + sw'; omega) (by show i32 + sw' ≤ 9223372036854775807; omega) fun at_ hat => ?_
   have hat : at_ = i32 + sw' := hat
   have hat2 : at_ = 32 * i + sw := by omega
   conv => cbv
   obtain ⟨hv,hhv⟩ : ∃ hv,hv = kind + 16 * m := ⟨_,rfl⟩
   obtain ⟨ws2,hws2⟩ : ∃ ws2,ws2 = ws.set at_.toNat hv := ⟨_,rfl⟩
   have hws2l : ws2.length = ws.length := by rw [hws2,List.length_set]
   refine drawn_sound tok (by kernel_rfl) [(8,[4,3,2,1,0]),(10,[])] [0,1,2,3,4,5,6,7,8,9,10] (by kernel_rfl) ?_; conv => cbv
   refine callF_frame (header_lx kind m (by omega) (by omega) hv hhv) [] rfl trivial rfl rfl (fun r h' n' ⟨e1,e2,e3⟩ => ?_)
   subst e1 e2 e3
   conv => cbv
   refine Need.mk ⟨by show 0 ≤ at_; omega,by show at_ < W; omega⟩ ?_
   conv => cbv
   refine Need.mk (by show at_ + ((1 : Nat) : Int) ≤ (D.length : Int); omega) ?_
   conv => cbv
   refine Upd.mk fun D2 hD2 => ?_
   have hD2 : D2 = updL D at_.toNat [.int .i64 (.sym hv)] := hD2
   have hD2 : D2 = ipv ws2 := by rw [hD2,hD,updL_ipv,hws2]
   have hD2l : D2.length = ws.length := by rw [hD2,ipv_length,hws2l]
   conv => cbv
   refine Fit.mk (by show (-9223372036854775808 : Int) ≤ at_ + 1; omega) (by show at_ + 1 ≤ 9223372036854775807; omega) fun a1 ha1 => ?_
   have ha1 : a1 = at_ + 1 := ha1
   conv => cbv
   refine Fit.mk (by show (-9223372036854775808 : Int) ≤ at_ + 1; omega) (by show at_ + 1 ≤ 9223372036854775807; omega) fun a2 ha2 => ?_
   have ha2 : a2 = at_ + 1 := ha2
   conv => cbv
   refine Fit.mk (by show (-9223372036854775808 : Int) ≤ a2 + m; omega) (by show a2 + m ≤ 9223372036854775807; omega) fun a3 ha3 => ?_
   have ha3 : a3 = a2 + m := ha3
   conv => cbv
   by_cases hm0 : m = 0
   ·have hz : ipv ws2 = ipv (zer (ws.set at_.toNat (kind + 16 * m)) (at_.toNat + 1) m.toNat) := by rw [hws2,hhv,hm0]; rfl
    refine Room.within ⟨by show 0 ≤ a1; omega,by show a1 = a3; omega,by show a3 ≤ W; omega⟩ ?_
    conv => cbv
    refine Need.mk rfl ?_
    conv => cbv
    have hres := Alloct.ok (ws := ws) i s at_ R2 hyk (hc ▸ hAl) (hc ▸ ⟨hi0,hi1,hs0,hs1⟩) (by rw [hat2,hsw2,hw,hc])
    refine RetF.mk [i6 at_,i6 0] [hpB 0 1 3 3 W,hpC 1 2 127 2 n,hpP 2 L2,hpP 3 D2] 4 (Re.at [(0,0),(1,1),(2,2),(3,3)] []) rfl ⟨at_,0,R2,_,L2,D2,rfl,rfl,rfl,hL2,hD2.trans hz,hres⟩
   ·refine Room.new ⟨by show 0 ≤ a1; omega,by show a1 < a3; omega,by show a3 ≤ W; omega⟩ ?_
    conv => cbv
    refine Sum.mk fun z hz => ?_
    have hz : z = a3 - a1 := hz
    obtain ⟨ws3,hws3⟩ : ∃ ws3,ws3 = zer ws2 (at_.toNat + 1) m.toNat := ⟨_,rfl⟩
    obtain ⟨D9,hD9⟩ : ∃ D9,D9 = ipv ws3 := ⟨_,rfl⟩
    conv => cbv
    refine Need.mk ⟨by show 0 ≤ a1; omega,by show 0 ≤ z; omega,by show a1 + z * ((1 : Nat) : Int) ≤ (D2.length : Int); omega⟩ ?_
    conv => cbv
    refine Upd.mk fun D3 hD3 => ?_
    have hle : pvles D3 D9 := by
     have hD3 : D3 = updL D2 a1.toNat (repsP [.int .i64 (.lit 0)] z.toNat) := hD3
     rw [hD3,hD9,hws3,show a1.toNat = at_.toNat + 1 by omega,show z.toNat = m.toNat by omega,hD2]
     exact upd_zer _ _ _ _ (pvles_self _)
    clear hD3
    unfold pvles at hle
    have hz9 : D9 = ipv (zer (ws.set at_.toNat (kind + 16 * m)) (at_.toNat + 1) m.toNat) := by rw [hD9,hws3,hws2,hhv]
    have hres := Alloct.ok (ws := ws) i s at_ R2 hyk (hc ▸ hAl) (hc ▸ ⟨hi0,hi1,hs0,hs1⟩) (by rw [hat2,hsw2,hw,hc])
    conv => cbv
    refine RetF.mk [i6 at_,i6 0] [hpB 0 1 3 3 W,hpC 1 2 127 2 n,hpP 2 L2,hpP 3 D9] 4 (Re.at [(0,0),(1,1),(2,2),(3,3)] []) rfl ⟨at_,0,R2,_,L2,D9,rfl,rfl,rfl,hL2,hz9,hres⟩
theorem wordsA_lx (R : List Rw) (ws : List Int) (n W : Int) (L D : List PV) (hL : L = rpv R) (hD : D = ipv ws) (hn : n = R.length) (hR : R.length ≤ 1000) (hA : AOk R ws) (hW : W = 32 * n) : CallF (fun _ => Tryz.prog) 31 [.ptr 0 (.lit 0)] [hpB 0 1 3 3 W,hpC 1 2 127 2 n,hpP 2 L,hpP 3 D] 4
  (fun r h n' => r = .p (.int .i64 (.sym W)) ∧ h = [hpB 0 1 3 3 W,hpC 1 2 127 2 n,hpP 2 L,hpP 3 D] ∧ n' = 4) := by
 refine callF_of_body tok Tryz.func31 (by kernel_rfl) rfl rfl rfl ?_; conv => cbv
 refine cfr (lenS_lx n L) [(0,1),(1,2)] (fun r h' n' ⟨e1,e2,e3⟩ => ?_)
 subst e1 e2 e3
 conv => cbv
 refine Fit.mk (by show (-9223372036854775808 : Int) ≤ n * 32; omega) (by show n * 32 ≤ 9223372036854775807; omega) fun v hv => ?_
 have hv : v = n * 32 := hv
 have hvW : v = W := by omega
 conv => cbv
 refine RetF.mk [i6 W] [hpB 0 1 3 3 W,hpC 1 2 127 2 n,hpP 2 L,hpP 3 D] 4 (Re.at [(0,0),(1,1),(2,2),(3,3)] []) rfl ⟨rfl,rfl,rfl⟩
theorem zero_ipv : ∀ k,pvles (repsP [.int .i64 (.lit 0)] k) (ipv (List.replicate k 0))
 | 0 => trivial
 | k + 1 => by
  rw [repsP,List.replicate_succ,ipv,List.map_cons]
  exact ⟨by simp [pvle,I.val],zero_ipv k⟩
theorem newA_lx (n W : Int) (h2 : 2 ≤ n) (h8 : n ≤ 128) (hW : W = 32 * n) (L D : List PV) (hL : L = rpv (List.replicate n.toNat (0,[]))) (hD : D = ipv (List.replicate W.toNat 0)) : CallF (fun _ => Tryz.prog) 29 [i6 n] [] 0
  (fun r h m => r = .tup [.ptr 0 (.lit 0),.p (.int .i64 (.lit 0))] ∧ h = [hpB 0 1 3 3 W,hpC 1 2 127 2 n,hpP 2 L,hpP 3 D] ∧ m = 4) := by
 refine callF_of_body tok Tryz.func29 (by kernel_rfl) rfl rfl rfl ?_; conv => cbv
 refine callF_frame (spanNew_lx n h2 h8 L hL) [] rfl trivial rfl rfl (fun r h' n' ⟨e1,e2,e3⟩ => ?_)
 subst e1 e2 e3
 conv => cbv
 refine Fit.mk (by show (-9223372036854775808 : Int) ≤ n * 32; omega) (by show n * 32 ≤ 9223372036854775807; omega) fun v hv => ?_
 have hv : v = n * 32 := hv
 have hvW : v = W := by omega
 conv => cbv
 refine Need.mk ⟨by show 0 ≤ v; omega,Int.le_refl _,by show v * 8 ≤ 140737488355328; omega,by show v ≤ 9223372036854775807; omega⟩ ?_
 conv => cbv
 refine Upd.mk fun D0 hD0 => ?_
 have hle : pvles D0 D := by
  have hD0 : D0 = repsP [.int .i64 (.lit 0)] v.toNat := hD0
  rw [hD0,hD,hvW]; exact zero_ipv _
 clear hD0 hD
 unfold pvles at hle
 conv => cbv
 refine RetF.mk [.ptr 0 (.lit 0),.p (.int .i64 (.lit 0))] [hpB 0 1 3 3 W,hpC 1 2 127 2 n,hpP 2 L,hpP 3 D] 4 (Re.at [(3,0),(0,1),(1,2),(2,3)] []) rfl ⟨rfl,rfl,rfl⟩
theorem set_get {α : Type} {l : List α} {i j : Nat} {x y : α} (hi : i < l.length) (h : (l.set i x)[j]? = some y) : (j = i ∧ y = x) ∨ (j ≠ i ∧ l[j]? = some y) := by
 by_cases e : i = j
 ·subst e
  rw [List.getElem?_set_self hi] at h
  exact .inl ⟨rfl,(Option.some.inj h).symm⟩
 ·rw [List.getElem?_set_ne e] at h
  exact .inr ⟨fun h => e h.symm,h⟩
def objCount (R : List Rw) : Nat := (R.map fun e => e.2.count true).sum
theorem sum_set : ∀ (l : List Nat) (i y x : Nat),l[i]? = some x → (l.set i y).sum + x = l.sum + y
 | [],i,y,x,h => by simp at h
 | z :: l,0,y,x,h => by
  have h : z = x := Option.some.inj h
  subst h
  simp only [List.set_cons_zero,List.sum_cons]; omega
 | z :: l,i + 1,y,x,h => by
  have := sum_set l i y x h
  simp only [List.set_cons_succ,List.sum_cons]; omega
theorem objCount_set {R : List Rw} {i : Nat} {e e' : Rw} (h : R[i]? = some e) : objCount (R.set i e') + e.2.count true = objCount R + e'.2.count true := by
 unfold objCount
 rw [List.map_set]
 exact sum_set _ _ _ _ (by rw [List.getElem?_map,h]; rfl)
theorem count_set {l : List Bool} : ∀ {s : Nat},l[s]? = some false → (l.set s true).count true = l.count true + 1 := by
 induction l with
 | nil => intro s h; simp at h
 | cons b l ih =>
  intro s h
  cases s with
  | zero =>
   have h : b = false := Option.some.inj h
   subst h
   simp
  | succ s =>
   have := ih (s := s) h
   rw [List.set_cons_succ,List.count_cons,List.count_cons,this]; omega
theorem words_of_slots {c : Int} (h : slotsOf c ≠ 0) : wordsOf c ≠ 0 := by
 have := (slots_iff c).1 h
 have : c = 0 ∨ c = 1 ∨ c = 2 ∨ c = 3 := by omega
 rcases this with e | e | e | e <;> (subst e; decide)
theorem slots_le (c : Int) : slotsOf c ≤ 8 := by
 unfold slotsOf; split
 ·omega
 ·split
  ·omega
  ·split
   ·omega
   ·split <;> omega
theorem alloc_objs {R R' : List Rw} {c i s : Int} (hR : RowsOk R) (h : Alloced R c i s true R') (at_ w : Int) (hat : at_ = 32 * i + s * wordsOf c) (hw : w = wordsOf c) :
  RowsOk R' ∧ R'.length = R.length ∧ objCount R' = objCount R + 1 ∧ ¬ IsObj R at_ ∧ ∀ a v,ObjAt R' a v ↔ ObjAt R a v ∨ (a = at_ ∧ v = w) := by
 have hRn : ∀ {q : Nat} {e : Rw} {s : Nat},R[q]? = some e → e.2[s]? = some true → wordsOf e.1 ≠ 0 ∧ s < slotsOf e.1 := by
  intro q e s he hs
  have hne : e.2 ≠ [] := by intro e0; rw [e0] at hs; simp at hs
  obtain ⟨h1,h2,_⟩ := (hR e (List.mem_of_getElem? he)).2 hne
  exact ⟨h1,by have := (List.getElem?_eq_some_iff.1 hs).1; omega⟩
 have hnot : ∀ {e0 : Rw} {i s : Nat},wordsOf c ≠ 0 → s < slotsOf c → R[i]? = some e0 → (e0.2 = [] ∨ e0.1 = c ∧ e0.2[s]? = some false) → ¬ IsObj R (32 * i + s * wordsOf c) := by
  rintro e0 i s hw hsl hi hcase ⟨q,s',e,he,hs',hat'⟩
  obtain ⟨h1,h2⟩ := hRn he hs'
  have h3 := slots_words h1 h2
  have h3' := slots_words hw hsl
  have h4 : 0 ≤ (s' : Int) * wordsOf e.1 := Int.mul_nonneg (by omega) (wordsOf_bd _).1
  have h4' : 0 ≤ (s : Int) * wordsOf c := Int.mul_nonneg (by omega) (wordsOf_bd _).1
  have h5 : q = i := by have := (wordsOf_bd e.1).1; have := (wordsOf_bd c).1; omega
  subst h5
  rw [hi] at he
  cases he
  rcases hcase with h | ⟨h6,h7⟩
  ·rw [h] at hs'; simp at hs'
  ·rw [h6] at hat'
   have h8 : (s : Int) * wordsOf c = s' * wordsOf c := by omega
   have h9 := Int.eq_of_mul_eq_mul_right hw h8
   rw [show s' = s by omega,h7] at hs'
   cases hs'
 cases h with
 | old i s l h0 hi hs h1 h2 =>
  have hil := (List.getElem?_eq_some_iff.1 hi).1
  have hsl := (List.getElem?_eq_some_iff.1 hs).1
  have hne : l ≠ [] := by intro e; subst e; simp at hs
  obtain ⟨g1,g2,g3⟩ := (hR _ (List.mem_of_getElem? hi)).2 hne
  have g4 := (hR _ (List.mem_of_getElem? hi)).1
  dsimp only at g1 g2 g3 g4
  refine ⟨?_,List.length_set,?_,?_,fun a v => ⟨?_,?_⟩⟩
  ·intro e he
   rcases List.mem_or_eq_of_mem_set he with he | rfl
   ·exact hR e he
   ·refine ⟨by rw [List.length_set]; exact g4,fun _ => ⟨g1,by rw [List.length_set]; exact g2,?_⟩⟩
    exact List.mem_of_getElem? (i := s) (List.getElem?_set_self hsl)
  ·have := objCount_set (e' := (c,l.set s true)) hi
   have h5 := count_set hs
   dsimp only at this
   omega
  ·rw [hat]; exact hnot g1 (by omega) hi (.inr ⟨rfl,hs⟩)
  ·rintro ⟨q,s',e,he,hs',ha,hv⟩
   rcases set_get hil he with ⟨rfl,rfl⟩ | ⟨_,he⟩
   ·rcases set_get hsl hs' with ⟨rfl,_⟩ | ⟨_,hs'⟩
    ·exact .inr ⟨by rw [ha,hat],by rw [hv,hw]⟩
    ·exact .inl ⟨q,s',(c,l),hi,hs',ha,hv⟩
   ·exact .inl ⟨q,s',e,he,hs',ha,hv⟩
  ·rintro (⟨q,s',e,he,hs',ha,hv⟩ | ⟨rfl,rfl⟩)
   ·by_cases hq : q = i
    ·subst hq
     rw [hi] at he
     cases he
     have hss : s ≠ s' := by rintro rfl; rw [hs] at hs'; cases hs'
     exact ⟨q,s',_,List.getElem?_set_self hil,by rw [List.getElem?_set_ne hss]; exact hs',ha,hv⟩
    ·exact ⟨q,s',e,by rw [List.getElem?_set_ne (fun h => hq h.symm)]; exact he,hs',ha,hv⟩
   ·exact ⟨i,s,_,List.getElem?_set_self hil,List.getElem?_set_self hsl,hat,hw⟩
 | fresh i d h0 h2 hi h3 =>
  have hil := (List.getElem?_eq_some_iff.1 hi).1
  have g1 := words_of_slots h0
  have hk : 0 < slotsOf c := Nat.pos_of_ne_zero h0
  have hrl : (List.replicate (slotsOf c) false).length = slotsOf c := List.length_replicate
  have h00 : (List.replicate (slotsOf c) false)[0]? = some false := by rw [List.getElem?_replicate,if_pos hk]
  refine ⟨?_,List.length_set,?_,?_,fun a v => ⟨?_,?_⟩⟩
  ·intro e he
   rcases List.mem_or_eq_of_mem_set he with he | rfl
   ·exact hR e he
   ·refine ⟨by rw [List.length_set,hrl]; exact slots_le c,fun _ => ⟨g1,by rw [List.length_set,hrl],?_⟩⟩
    exact List.mem_of_getElem? (i := 0) (List.getElem?_set_self (by rw [hrl]; exact hk))
  ·have := objCount_set (e' := (c,(List.replicate (slotsOf c) false).set 0 true)) hi
   have h5 := count_set h00
   have h6 : (List.replicate (slotsOf c) false).count true = 0 := by rw [List.count_eq_zero]; intro h; rw [List.mem_replicate] at h; cases h.2
   dsimp only [List.count_nil] at this
   omega
  ·have := hnot (i := i) (s := 0) g1 hk hi (.inl rfl)
   rw [hat]; exact this
  ·rintro ⟨q,s',e,he,hs',ha,hv⟩
   rcases set_get hil he with ⟨rfl,rfl⟩ | ⟨_,he⟩
   ·rcases set_get (by rw [hrl]; exact hk) hs' with ⟨rfl,_⟩ | ⟨_,hs'⟩
    ·exact .inr ⟨by rw [ha,hat]; rfl,by rw [hv,hw]⟩
    ·rw [List.getElem?_replicate] at hs'
     split at hs' <;> cases hs'
   ·exact .inl ⟨q,s',e,he,hs',ha,hv⟩
  ·rintro (⟨q,s',e,he,hs',ha,hv⟩ | ⟨rfl,rfl⟩)
   ·by_cases hq : q = i
    ·subst hq
     rw [hi] at he
     cases he
     simp at hs'
    ·exact ⟨q,s',e,by rw [List.getElem?_set_ne (fun h => hq h.symm)]; exact he,hs',ha,hv⟩
   ·exact ⟨i,0,_,List.getElem?_set_self hil,List.getElem?_set_self (by rw [hrl]; exact hk),by rw [hat]; rfl,hw⟩
theorem full_count {R R' : List Rw} {c i s : Int} (hR : RowsOk R) (hc : slotsOf c ≠ 0) (h : Alloced R c i s false R') : R' = R ∧ R.length ≤ objCount R := by
 cases h with
 | no h => exact absurd h hc
 | full h0 h2 h3 =>
  refine ⟨rfl,?_⟩
  clear h2
  induction R with
  | nil => simp
  | cons e R ih =>
   have h5 : e.2 ≠ [] := by
    intro h
    exact h3 0 e.1 (by rw [← h]; rfl)
   have h6 := ((hR e List.mem_cons_self).2 h5).2.2
   have h7 : 0 < e.2.count true := List.count_pos_iff.2 h6
   have h8 := ih (fun x hx => hR x (List.mem_cons_of_mem _ hx)) (fun j d => h3 (j + 1) d)
   unfold objCount at h8 ⊢
   simp only [List.length_cons,List.map_cons,List.sum_cons]; omega
theorem within_not {R : List Rw} (hR : RowsOk R) {a w b v : Int} (h : ObjAt R a w) (k : ObjAt R b v) {j : Int} (h1 : a < j) (h2 : j < a + w) : b ≠ j := by
 intro e
 subst e
 have := (k.facts hR).2.2.1
 rcases h.apart hR k with ⟨h3,_⟩ | h3 | h3 <;> omega
theorem AOk.alloct {R R' : List Rw} {ws ws' : List Int} {kind n at_ e : Int} (hA : AOk R ws) (h : Alloct R ws kind n at_ e R' ws') : AOk R' ws' ∧ R'.length = R.length := by
 cases h with
 | arg h => exact ⟨hA,rfl⟩
 | room i s R' h ha =>
  obtain ⟨rfl,_⟩ := full_count hA.rows (ofN_slots n) ha
  exact ⟨hA,rfl⟩
 | ok i s _ R' h ha hi hat =>
  obtain ⟨w,hw⟩ : ∃ w,w = wordsOf (ofN n) := ⟨_,rfl⟩
  obtain ⟨h1,h2,h3,h4,h5⟩ := alloc_objs hA.rows ha at_ w (by rw [hat]) hw
  have hobj : ObjAt R' at_ w := (h5 _ _).2 (.inr ⟨rfl,rfl⟩)
  obtain ⟨f1,f2,f3,_⟩ := hobj.facts h1
  have hnw : n < w := by rw [hw]; exact (ofN_words ⟨h.1,h.2.1⟩).1
  have hlen := hA.len
  refine ⟨⟨h1,by rw [zer_length,List.length_set,h2]; exact hlen,?_,?_⟩,h2⟩
  ·intro x hx
   obtain ⟨j,hj⟩ := List.getElem?_of_mem hx
   have hjl : j < ws.length := by have := (List.getElem?_eq_some_iff.1 hj).1; rw [zer_length,List.length_set] at this; exact this
   rw [zer_get _ _ _ _ (by rw [List.length_set]; exact hjl)] at hj
   split at hj
   ·cases hj; omega
   ·rcases set_get (by omega) hj with ⟨_,rfl⟩ | ⟨_,hj⟩
    ·omega
    ·exact hA.bd x (List.mem_of_getElem? hj)
  ·intro a v hav
   obtain ⟨k1,k2,k3,_⟩ := hav.facts h1
   have hal : a.toNat < ws.length := by omega
   rw [zer_get _ _ _ _ (by rw [List.length_set]; exact hal)]
   rcases (h5 _ _).1 hav with hold | ⟨rfl,rfl⟩
   ·have hne : a ≠ at_ := fun e => h4 (isObj_iff.2 ⟨v,e ▸ hold⟩)
    have hap := hobj.apart h1 hav
    rw [if_neg (by rcases hap with ⟨h,_⟩ | h | h <;> omega),List.getElem?_set_ne (by omega)]
    exact hA.hdr a v hold
   ·rw [if_neg (by omega),List.getElem?_set_self hal]
    exact ⟨kind,n,rfl,by omega,by omega,by omega,hnw⟩
theorem AOk.set {R : List Rw} {ws : List Int} {at_ i x k l : Int} (hA : AOk R ws) (hk : Kept R ws at_ k l) (hi : 0 ≤ i ∧ i < l) (hx : -9223372036854775808 ≤ x ∧ x ≤ 9223372036854775807) : AOk R (ws.set (at_ + 1 + i).toNat x) := by
 have hb := hk.bounds hA
 obtain ⟨w,h1,h2,h3,h4,h5,h6⟩ := hk
 have hlen := hA.len
 refine ⟨hA.rows,by rw [List.length_set]; exact hlen,?_,?_⟩
 ·intro y hy
  rcases List.mem_or_eq_of_mem_set hy with hy | rfl
  ·exact hA.bd y hy
  ·exact hx
 ·intro a v hav
  obtain ⟨k1,_⟩ := hav.facts hA.rows
  have := within_not hA.rows h1 hav (j := at_ + 1 + i) (by omega) (by omega)
  rw [List.getElem?_set_ne (by omega)]
  exact hA.hdr a v hav
theorem AOk.stored {R : List Rw} {ws ws' : List Int} {at_ i x e : Int} (hA : AOk R ws) (hx : -9223372036854775808 ≤ x ∧ x ≤ 9223372036854775807) (h : Stored R ws at_ i x e ws') : AOk R ws' := by
 cases h with
 | none h => exact hA
 | arg k l h hi => exact hA
 | ok k l h hi => exact hA.set h hi hx
theorem AOk.new (n : Nat) : AOk (List.replicate n (0,[])) (List.replicate (32 * n) 0) := by
 refine ⟨?_,by simp,?_,?_⟩
 ·intro e he
  obtain ⟨_,rfl⟩ := List.mem_replicate.1 he
  exact ⟨by simp,fun h => absurd rfl h⟩
 ·intro x hx
  obtain ⟨_,rfl⟩ := List.mem_replicate.1 hx
  omega
 ·rintro a w ⟨q,s,e,he,hs,_⟩
  obtain ⟨_,rfl⟩ := List.mem_replicate.1 (List.mem_of_getElem? he)
  simp at hs
theorem new_none (n : Nat) (a : Int) : ¬ IsObj (List.replicate n (0,[])) a := by
 rintro ⟨q,s,e,he,hs,_⟩
 obtain ⟨_,rfl⟩ := List.mem_replicate.1 (List.mem_of_getElem? he)
 simp at hs
theorem new_count (n : Nat) : objCount (List.replicate n (0,[])) = 0 := by
 unfold objCount
 induction n with
 | zero => rfl
 | succ n ih => rw [List.replicate_succ,List.map_cons,List.sum_cons,ih]; rfl
def rowPart (q : Nat) (e : Rw) : Nat → List Int
 | 0 => []
 | s + 1 => rowPart q e s ++ (if e.2[s]? = some true then [32 * (q : Int) + s * wordsOf e.1] else [])
def objsTo (R : List Rw) : Nat → List Int
 | 0 => []
 | q + 1 => objsTo R q ++ (match R[q]? with | some e => rowPart q e (slotsOf (clsOf e)) | none => [])
theorem ipv_app (a b : List Int) : ipv a ++ ipv b = ipv (a ++ b) := by rw [ipv,ipv,ipv,List.map_append]
theorem rowPart_mem (q : Nat) (e : Rw) : ∀ (s : Nat) (x : Int),x ∈ rowPart q e s ↔ ∃ t : Nat,t < s ∧ e.2[t]? = some true ∧ x = 32 * (q : Int) + t * wordsOf e.1
 | 0,x => by simp [rowPart]
 | s + 1,x => by
  rw [rowPart,List.mem_append,rowPart_mem q e s x]
  constructor
  ·rintro (⟨t,h1,h2,h3⟩ | h)
   ·exact ⟨t,by omega,h2,h3⟩
   ·split at h
    ·rename_i hs
     exact ⟨s,by omega,hs,List.mem_singleton.1 h⟩
    ·cases h
  ·rintro ⟨t,h1,h2,h3⟩
   by_cases e1 : t = s
   ·subst e1
    right
    rw [if_pos h2]; exact List.mem_singleton.2 h3
   ·exact .inl ⟨t,by omega,h2,h3⟩
theorem objsTo_mem {R : List Rw} (hR : RowsOk R) : ∀ (q : Nat) (x : Int),x ∈ objsTo R q ↔ ∃ (q' t : Nat) (e : Rw),q' < q ∧ R[q']? = some e ∧ e.2[t]? = some true ∧ x = 32 * (q' : Int) + t * wordsOf e.1
 | 0,x => by simp [objsTo]
 | q + 1,x => by
  rw [objsTo,List.mem_append,objsTo_mem hR q x]
  constructor
  ·rintro (⟨q',t,e,h1,h2,h3,h4⟩ | h)
   ·exact ⟨q',t,e,by omega,h2,h3,h4⟩
   ·split at h
    ·rename_i e he
     obtain ⟨t,_,h2,h3⟩ := (rowPart_mem q e _ x).1 h
     exact ⟨q,t,e,by omega,he,h2,h3⟩
    ·cases h
  ·rintro ⟨q',t,e,h1,h2,h3,h4⟩
   by_cases e1 : q' = q
   ·subst e1
    right
    rw [h2]
    have hne : e.2 ≠ [] := by intro e0; rw [e0] at h3; simp at h3
    refine (rowPart_mem q' e _ x).2 ⟨t,?_,h3,h4⟩
    have hcl : clsOf e = e.1 := if_neg hne
    rw [hcl,← ((hR e (List.mem_of_getElem? h2)).2 hne).2.1]
    exact (List.getElem?_eq_some_iff.1 h3).1
   ·exact .inl ⟨q',t,e,by omega,h2,h3,h4⟩
theorem objs_mem {R : List Rw} (hR : RowsOk R) (x : Int) : x ∈ objsTo R R.length ↔ IsObj R x := by
 rw [objsTo_mem hR]
 constructor
 ·rintro ⟨q,t,e,_,h2,h3,h4⟩; exact ⟨q,t,e,h2,h3,h4⟩
 ·rintro ⟨q,t,e,h2,h3,h4⟩; exact ⟨q,t,e,(List.getElem?_eq_some_iff.1 h2).1,h2,h3,h4⟩
theorem Kept.det6 {R : List Rw} {ws : List Int} {a k l k' l' : Int} (h : Kept R ws a k l) (h' : Kept R ws a k' l') : k' = k ∧ l' = l := by
 obtain ⟨w,_,h1,h2,h3,h4,_⟩ := h
 obtain ⟨w',_,h1',h2',h3',h4',_⟩ := h'
 rw [h1] at h1'
 have h1' : k + 16 * l = k' + 16 * l' := Option.some.inj h1'
 omega
theorem Kept.obj6 {R : List Rw} {ws : List Int} {a k l : Int} (h : Kept R ws a k l) : IsObj R a := by
 obtain ⟨w,h,_⟩ := h
 exact isObj_iff.2 ⟨w,h⟩
theorem kindR_of6 {R : List Rw} {ws : List Int} {a k l v : Int} (h : Kept R ws a k l) (hv : KindR R ws a v) : v = k := by
 cases hv with
 | no hn => exact absurd h.obj6 hn
 | is k' l' h' => exact (h.det6 h').1
theorem lenR_of6 {R : List Rw} {ws : List Int} {a k l v : Int} (h : Kept R ws a k l) (hv : LenR R ws a v) : v = l := by
 cases hv with
 | no hn => exact absurd h.obj6 hn
 | is k' l' h' => exact (h.det6 h').2
structure Sim (R : List Rw) (ws vs : List Int) : Prop where
 a : AOk R ws
 b : AOk R vs
 hdr : ∀ x k l,Kept R ws x k l → Kept R vs x k l
 in_ : ∀ x k l i,Kept R ws x k l → 0 ≤ i → i < l → vs[(x + 1 + i).toNat]? = ws[(x + 1 + i).toNat]?
theorem set_same {α : Type} {l : List α} {i : Nat} {x : α} (h : l[i]? = some x) : l.set i x = l := by
 apply List.ext_getElem?
 intro j
 by_cases e : i = j
 ·subst e
  rw [List.getElem?_set_self (List.getElem?_eq_some_iff.1 h).1,h]
 ·rw [List.getElem?_set_ne e]
def ROk (R : List Rw) : Prop := ∀ e ∈ R,e.2.length ≤ 8 ∧ (e.2 ≠ [] → slotsOf e.1 ≠ 0 ∧ e.2.length = slotsOf e.1)
def okAt (m : List Bool) (k : Nat) : Bool := decide (m[k]? = some true)
def flags (m : List Bool) : List PV := (List.range 8).map fun k => .bool (okAt m k)
def cpv (R : List Rw) : List PV := R.map fun e => .int .i64 (.sym (clsOf e))
def bpv : List Rw → List PV
 | [] => []
 | e :: R => flags e.2 ++ bpv R
theorem flags_length (m : List Bool) : (flags m).length = 8 := by simp [flags]
theorem flags_get {m : List Bool} {k : Nat} (h : k < 8) : (flags m)[k]? = some (.bool (okAt m k)) := by
 rw [flags,List.getElem?_map,List.getElem?_range h]; rfl
theorem cpv_length (R : List Rw) : (cpv R).length = R.length := List.length_map _
theorem cpv_get {R : List Rw} {q : Nat} {e : Rw} (h : R[q]? = some e) : (cpv R)[q]? = some (.int .i64 (.sym (clsOf e))) := by rw [cpv,List.getElem?_map,h]; rfl
theorem bpv_length : ∀ R : List Rw,(bpv R).length = 8 * R.length
 | [] => rfl
 | e :: R => by rw [bpv,List.length_append,flags_length,bpv_length R,List.length_cons]; omega
theorem bpv_get : ∀ {R : List Rw} {q : Nat} {e : Rw} {k : Nat},R[q]? = some e → k < 8 → (bpv R)[8 * q + k]? = some (.bool (okAt e.2 k))
 | [],q,e,k,h,_ => by simp at h
 | x :: R,0,e,k,h,hk => by
  have h : x = e := Option.some.inj h
  subst h
  rw [bpv,List.getElem?_append_left (by rw [flags_length]; omega)]
  simpa using flags_get (m := x.2) hk
 | x :: R,q + 1,e,k,h,hk => by
  rw [bpv,List.getElem?_append_right (by rw [flags_length]; omega),flags_length,show 8 * (q + 1) + k - 8 = 8 * q + k by omega]
  exact bpv_get (by simpa using h) hk
theorem bpv_set : ∀ {R : List Rw} {q : Nat} {e : Rw} (e' : Rw) {k : Nat} {v : Bool},R[q]? = some e → k < 8 → flags e'.2 = (flags e.2).set k (.bool v) → (bpv R).set (8 * q + k) (.bool v) = bpv (R.set q e')
 | [],q,e,e',k,v,h,_,_ => by simp at h
 | x :: R,0,e,e',k,v,h,hk,hf => by
  have h : x = e := Option.some.inj h
  subst h
  rw [bpv,List.set_cons_zero,bpv,List.set_append_left _ _ (by rw [flags_length]; omega),hf]
  simp
 | x :: R,q + 1,e,e',k,v,h,hk,hf => by
  rw [bpv,List.set_cons_succ,bpv,List.set_append_right _ _ (by rw [flags_length]; omega),flags_length,show 8 * (q + 1) + k - 8 = 8 * q + k by omega,bpv_set e' (by simpa using h) hk hf]
theorem flags_set {m m' : List Bool} {k : Nat} {v : Bool} (hk : k < 8) (h1 : okAt m' k = v) (h2 : ∀ j,j ≠ k → okAt m' j = okAt m j) : flags m' = (flags m).set k (.bool v) := by
 apply List.ext_getElem?
 intro j
 by_cases hj : j < 8
 ·rw [flags_get hj]
  by_cases e : k = j
  ·subst e
   rw [List.getElem?_set_self (by rw [flags_length]; exact hj),h1]
  ·rw [List.getElem?_set_ne e,flags_get hj,h2 j (fun h => e h.symm)]
 ·rw [List.getElem?_eq_none (by rw [flags_length]; omega),List.getElem?_eq_none (by rw [List.length_set,flags_length]; omega)]
theorem okAt_set {m : List Bool} {k : Nat} {v : Bool} (hk : k < m.length) : okAt (m.set k v) k = v ∧ ∀ j,j ≠ k → okAt (m.set k v) j = okAt m j := by
 constructor
 ·unfold okAt
  rw [List.getElem?_set_self hk]
  cases v <;> rfl
 ·intro j hj
  unfold okAt
  rw [List.getElem?_set_ne (fun h => hj h.symm)]
theorem okAt_nil (k : Nat) : okAt [] k = false := by simp [okAt]
theorem cpv_set {R : List Rw} {q : Nat} (e' : Rw) {c : Int} (h : clsOf e' = c) : (cpv R).set q (.int .i64 (.sym c)) = cpv (R.set q e') := by
 rw [cpv,cpv,List.map_set,h]
theorem cpv_same {R : List Rw} {q : Nat} {e : Rw} (e' : Rw) (hq : R[q]? = some e) (h : clsOf e' = clsOf e) : cpv R = cpv (R.set q e') := by
 rw [← cpv_set e' h]
 exact (set_same (cpv_get hq)).symm
def UsedAt (R : List Rw) (i j : Int) : Prop := ∃ e : Rw,0 ≤ i ∧ R[i.toNat]? = some e ∧ 0 ≤ j ∧ e.2[j.toNat]? = some true
theorem rused_lx (i j : Int) (R : List Rw) (n : Int) (C B : List PV) (hC : C = cpv R) (hB : B = bpv R) (hn : n = R.length) (hR : R.length ≤ 1000) (hok : ROk R) : CallF (fun _ => Tryz.prog) 183 [.ptr 0 (.lit 0),i6 i,i6 j] [hpD 0 1 3 1 n 2 197 8 n,hpP 1 C,hpP 2 B] 3
  (fun r h n' => ∃ b : Bool,r = .p (.bool b) ∧ h = [hpD 0 1 3 1 n 2 197 8 n,hpP 1 C,hpP 2 B] ∧ n' = 3 ∧ (b = true ↔ UsedAt R i j)) := by
 refine callF_of_body tok Tryz.func183 (by kernel_rfl) rfl rfl rfl ?_; conv => cbv
 have hBl : B.length = 8 * R.length := by rw [hB,bpv_length]
 refine Br.mk (fun g1 => ?_) (fun g1 => ?_)
 case refine_2 =>
  have g1 : ¬ 0 ≤ i := g1
  have hno : ¬ UsedAt R i j := fun ⟨e,h,_⟩ => g1 h
  conv => cbv
  refine RetF.mk [.p (.bool false)] [hpD 0 1 3 1 n 2 197 8 n,hpP 1 C,hpP 2 B] 3 (Re.at [(0,0),(1,1),(2,2)] []) rfl ⟨false,rfl,rfl,rfl,by simp [hno]⟩
 have g1 : 0 ≤ i := g1
 conv => cbv
 refine Br.mk (fun g2 => ?_) (fun g2 => ?_)
 case refine_2 =>
  have g2 : ¬ i < n := g2
  have hno : ¬ UsedAt R i j := fun ⟨e,_,he,_⟩ => by have := (List.getElem?_eq_some_iff.1 he).1; omega
  conv => cbv
  refine RetF.mk [.p (.bool false)] [hpD 0 1 3 1 n 2 197 8 n,hpP 1 C,hpP 2 B] 3 (Re.at [(0,0),(1,1),(2,2)] []) rfl ⟨false,rfl,rfl,rfl,by simp [hno]⟩
 have g2 : i < n := g2
 conv => cbv
 refine Br.mk (fun g3 => ?_) (fun g3 => ?_)
 case refine_2 =>
  have g3 : ¬ 0 ≤ j := g3
  have hno : ¬ UsedAt R i j := fun ⟨e,_,_,h,_⟩ => g3 h
  conv => cbv
  refine RetF.mk [.p (.bool false)] [hpD 0 1 3 1 n 2 197 8 n,hpP 1 C,hpP 2 B] 3 (Re.at [(0,0),(1,1),(2,2)] []) rfl ⟨false,rfl,rfl,rfl,by simp [hno]⟩
 have g3 : 0 ≤ j := g3
 conv => cbv
 refine Br.mk (fun g4 => ?_) (fun g4 => ?_)
 case refine_2 =>
  have g4 : ¬ j < 8 := g4
  have hno : ¬ UsedAt R i j := fun ⟨e,_,he,_,h⟩ => by
   have := (List.getElem?_eq_some_iff.1 h).1
   have := (hok e (List.mem_of_getElem? he)).1
   omega
  conv => cbv
  refine RetF.mk [.p (.bool false)] [hpD 0 1 3 1 n 2 197 8 n,hpP 1 C,hpP 2 B] 3 (Re.at [(0,0),(1,1),(2,2)] []) rfl ⟨false,rfl,rfl,rfl,by simp [hno]⟩
 have g4 : j < 8 := g4
 obtain ⟨e,he⟩ : ∃ e,R[i.toNat]? = some e := ⟨_,List.getElem?_eq_getElem (by omega)⟩
 have hc := bpv_get (k := j.toNat) he (by omega)
 rw [← hB] at hc
 obtain ⟨b,hb⟩ : ∃ b,b = okAt e.2 j.toNat := ⟨_,rfl⟩
 have hbi : b = true ↔ UsedAt R i j := by
  rw [hb,okAt,decide_eq_true_eq]
  constructor
  ·intro h; exact ⟨e,g1,he,g3,h⟩
  ·rintro ⟨e',_,he',_,h⟩
   rw [he] at he'; cases he'; exact h
 rw [← hb] at hc
 conv => cbv
 refine Need.mk ⟨g1,by show i < n; omega⟩ ?_
 conv => cbv
 refine Sum.mk fun a ha => ?_
 have ha : a = i * 8 := ha
 conv => cbv
 refine Need.mk ⟨g3,by show j < ((8 : Nat) : Int); omega⟩ ?_
 conv => cbv
 refine Sum.mk fun a2 ha2 => ?_
 have ha2 : a2 = a + j := ha2
 conv => cbv
 refine Cell.at a2 _ hc (by simp [I.val]) (by omega) ?_
 conv => cbv
 refine RetF.mk [.p (.bool b)] [hpD 0 1 3 1 n 2 197 8 n,hpP 1 C,hpP 2 B] 3 (Re.at [(0,0),(1,1),(2,2)] []) rfl ⟨b,rfl,rfl,rfl,hbi⟩
theorem slots_le6 (c : Int) : slotsOf c ≤ 8 := by
 unfold slotsOf; split
 ·omega
 ·split
  ·omega
  ·split
   ·omega
   ·split <;> omega
theorem ralloc_lx (c : Int) (R : List Rw) (n : Int) (C B : List PV) (hC : C = cpv R) (hB : B = bpv R) (hn : n = R.length) (hR : R.length ≤ 1000) (hok : ROk R) : CallF (fun _ => Tryz.prog) 129 [.ptr 0 (.lit 0),i6 c] [hpD 0 1 3 1 n 2 197 8 n,hpP 1 C,hpP 2 B] 3
  (fun r h n' => ∃ (i s : Int) (b : Bool) (R' : List Rw) (C' B' : List PV),r = .tup [i6 i,i6 s,.p (.bool b)] ∧ h = [hpD 0 1 3 1 n 2 197 8 n,hpP 1 C',hpP 2 B'] ∧ n' = 3 ∧ C' = cpv R' ∧ B' = bpv R' ∧ Alloced R c i s b R') := by
 have hBl : B.length = 8 * R.length := by rw [hB,bpv_length]
 have hCl : C.length = R.length := by rw [hC,cpv_length]
 obtain ⟨kn,hkn⟩ : ∃ kn,kn = slotsOf c := ⟨_,rfl⟩
 obtain ⟨k,hk⟩ : ∃ k : Int,k = kn := ⟨_,rfl⟩
 have hk8 : kn ≤ 8 := by rw [hkn]; exact slots_le6 c
 refine callF_of_body tok Tryz.func129 (by kernel_rfl) rfl rfl rfl ?_; conv => cbv
 refine callF_frame (refSlotsA_lx c k (by rw [hk,hkn])) [] rfl trivial rfl rfl (fun r h' n' ⟨e1,e2,e3⟩ => ?_)
 subst e1 e2 e3
 conv => cbv
 refine Br.mk (fun g => ?_) (fun g => ?_)
 ·have g : k = 0 := g
  have hA : Alloced R c 0 0 false R := .no (by omega)
  conv => cbv
  refine RetF.mk [i6 0,i6 0,.p (.bool false)] [hpD 0 1 3 1 n 2 197 8 n,hpP 1 C,hpP 2 B] 3 (Re.at [(0,0),(1,1),(2,2)] []) rfl ⟨0,0,false,R,C,B,rfl,rfl,rfl,hC,hB,hA⟩
 have g : ¬ k = 0 := g
 have hs0 : slotsOf c ≠ 0 := by omega
 conv => cbv
 have hc03 := (slots_iff c).1 hs0
 have hcl : ∀ e : Rw,e ∈ R → clsOf e = c → e.1 = c ∧ e.2 ≠ [] ∧ e.2.length = kn := fun e he h => by
  unfold clsOf at h
  split at h
  ·omega
  ·rename_i hne
   exact ⟨h,hne,by rw [((hok e he).2 hne).2,h,hkn]⟩
 refine LoopF.mk (fun m s => ∃ (i : Int),s = ⟨.ptr 0 (.lit 0) :: .p (.int .i64 (.sym c)) :: (undefs 5 ++ .p (.int .i64 (.sym k)) :: .p (.int .i64 (.sym i)) :: undefs 83),[hpD 0 1 3 1 n 2 197 8 n,hpP 1 C,hpP 2 B],3⟩ ∧ 0 ≤ i ∧ i ≤ n ∧ (∀ j : Nat,(j : Int) < i → ∀ m : List Bool,R[j]? = some (c,m) → false ∉ m) ∧ m = (n - i).toNat) n.toNat _
  (Re.at [(0,0),(1,1),(2,2)] []) ⟨0,rfl,by omega,by omega,fun j hj => absurd hj (by omega),by omega⟩ ?_
 rintro m s ⟨i,rfl,hi0,hi1,hprev,hm⟩
 conv => cbv
 refine Br.mk (fun gi => ?_) (fun gi => ?_)
 ·have gi : i < n := gi
  obtain ⟨m',rfl⟩ : ∃ k',m = k' + 1 := ⟨m - 1,by omega⟩
  obtain ⟨e,he⟩ : ∃ e,R[i.toNat]? = some e := ⟨_,List.getElem?_eq_getElem (by omega)⟩
  have hem := List.mem_of_getElem? he
  have hm8 := (hok e hem).1
  have hcle := hcl e hem
  obtain ⟨cv,hcv⟩ : ∃ cv,cv = clsOf e := ⟨_,rfl⟩
  rw [← hcv] at hcle
  have hcc := cpv_get he
  rw [← hC,← hcv] at hcc
  have hnext : (cv = c → ∀ j : Nat,j < kn → e.2[j]? = some true) → ∀ j : Nat,(j : Int) < i + 1 → ∀ m : List Bool,R[j]? = some (c,m) → false ∉ m := fun hall j hj m hm => by
   by_cases hji : j = i.toNat
   ·subst hji
    rw [he] at hm
    have hm : e = (c,m) := Option.some.inj hm
    intro hf
    have hne : m ≠ [] := by intro e0; rw [e0] at hf; simp at hf
    have hcvc : cv = c := by rw [hcv,hm,clsOf,if_neg hne]
    obtain ⟨q1,q2,q3⟩ := hcle hcvc
    obtain ⟨t,ht⟩ := List.getElem?_of_mem hf
    have htl := (List.getElem?_eq_some_iff.1 ht).1
    have := hall hcvc t (by rw [← q3,hm]; exact htl)
    rw [hm] at this
    rw [ht] at this
    cases this
   ·exact hprev j (by omega) m hm
  conv => cbv
  refine LoopF.mk (fun m s => ∃ (t : Int),s = ⟨.ptr 0 (.lit 0) :: .p (.int .i64 (.sym c)) :: (undefs 5 ++ .p (.int .i64 (.sym k)) :: .p (.int .i64 (.sym i)) :: .p (.int .i64 (.sym t)) :: undefs 82),[hpD 0 1 3 1 n 2 197 8 n,hpP 1 C,hpP 2 B],3⟩ ∧ 0 ≤ t ∧ t ≤ k ∧ (cv = c → ∀ j : Nat,(j : Int) < t → e.2[j]? = some true) ∧ m = (k - t).toNat) k.toNat _
   (Re.at [(0,0),(1,1),(2,2)] []) ⟨0,rfl,by omega,by omega,fun _ j hj => absurd hj (by omega),by omega⟩ ?_
  rintro m s ⟨t,rfl,ht0,ht1,htr,hmm⟩
  conv => cbv
  refine Br.mk (fun gt => ?_) (fun gt => ?_)
  ·have gt : t < k := gt
   obtain ⟨m'',rfl⟩ : ∃ k',m = k' + 1 := ⟨m - 1,by omega⟩
   conv => cbv
   refine Need.mk ⟨hi0,by show i < n; omega⟩ ?_
   conv => cbv
   refine Cell.at i _ hcc (by simp [I.val]) rfl ?_
   conv => cbv
   refine Br.mk (fun gc => ?_) (fun gc => ?_)
   ·have gc : cv = c := gc
    obtain ⟨q1,q2,q3⟩ := hcle gc
    have hcb := bpv_get (k := t.toNat) he (by omega)
    rw [← hB] at hcb
    obtain ⟨b,hb⟩ : ∃ b,b = okAt e.2 t.toNat := ⟨_,rfl⟩
    rw [← hb] at hcb
    conv => cbv
    refine Need.mk ⟨hi0,by show i < n; omega⟩ ?_
    conv => cbv
    refine Sum.mk fun a ha => ?_
    have ha : a = i * 8 := ha
    conv => cbv
    refine Need.mk ⟨ht0,by show t < ((8 : Nat) : Int); omega⟩ ?_
    conv => cbv
    refine Sum.mk fun a2 ha2 => ?_
    have ha2 : a2 = a + t := ha2
    conv => cbv
    refine Cell.at a2 _ hcb (by simp [I.val]) (by omega) ?_
    have htl : t.toNat < e.2.length := by omega
    have hget : e.2[t.toNat]? = some b := by
     obtain ⟨x,hx⟩ : ∃ x,e.2[t.toNat]? = some x := ⟨_,List.getElem?_eq_getElem htl⟩
     rw [hx,hb,okAt,hx]; cases x <;> rfl
    cases b with
    | true =>
     conv => cbv
     refine Fit.mk (by show (-9223372036854775808 : Int) ≤ t + 1; omega) (by show t + 1 ≤ 9223372036854775807; omega) fun t2 ht2 => ?_
     have ht2 : t2 = t + 1 := ht2
     have htr2 : cv = c → ∀ j : Nat,(j : Int) < t2 → e.2[j]? = some true := fun hc j hj => by
      by_cases hjt : j = t.toNat
      ·rw [hjt]; exact hget
      ·exact htr hc j (by omega)
     conv => cbv
     refine Again.mk m'' _ (Nat.lt_succ_self _) (Re.at [(0,0),(1,1),(2,2)] []) ⟨t2,rfl,by omega,by omega,htr2,by omega⟩
    | false =>
     have hRe : e = (c,e.2) := by rw [← q1]
     have hA : Alloced R c i t true (R.set i.toNat (c,e.2.set t.toNat true)) := by
      have := Alloced.old (R := R) (c := c) i.toNat t.toNat e.2 hs0 (by rw [he]; exact congrArg some hRe) hget (fun j hj => htr gc j (by omega)) (fun j hj m hm => hprev j (by omega) m hm)
      rwa [show ((i.toNat : Nat) : Int) = i by omega,show ((t.toNat : Nat) : Int) = t by omega] at this
     obtain ⟨o1,o2⟩ := okAt_set (m := e.2) (v := true) htl
     have hB2 := bpv_set (v := true) (c,e.2.set t.toNat true) he (show t.toNat < 8 by omega) (flags_set (by omega) o1 o2)
     rw [← hB] at hB2
     have hne2 : e.2.set t.toNat true ≠ [] := fun h => by
      have := congrArg List.length h
      rw [List.length_set] at this
      exact q2 (List.length_eq_zero_iff.1 this)
     have hC2 : C = cpv (R.set i.toNat (c,e.2.set t.toNat true)) := by
      rw [hC]
      refine cpv_same _ he ?_
      rw [← hcv,gc,clsOf,if_neg hne2]
     conv => cbv
     refine Need.mk ⟨hi0,by show i < n; omega⟩ ?_
     conv => cbv
     refine Sum.mk fun a3 ha3 => ?_
     have ha3 : a3 = i * 8 := ha3
     conv => cbv
     refine Need.mk ⟨ht0,by show t < ((8 : Nat) : Int); omega⟩ ?_
     conv => cbv
     refine Sum.mk fun a4 ha4 => ?_
     have ha4 : a4 = a3 + t := ha4
     conv => cbv
     refine Need.mk (by show a4 + ((1 : Nat) : Int) ≤ (B.length : Int); omega) ?_
     conv => cbv
     refine Upd.mk fun B1 hB1 => ?_
     have hB1 : B1 = B.set a4.toNat (.bool true) := hB1
     have hB1 : B1 = bpv (R.set i.toNat (c,e.2.set t.toNat true)) := by rw [hB1,show a4.toNat = 8 * i.toNat + t.toNat by omega,hB2]
     conv => cbv
     refine RetF.mk [i6 i,i6 t,.p (.bool true)] [hpD 0 1 3 1 n 2 197 8 n,hpP 1 C,hpP 2 B1] 3 (Re.at [(0,0),(1,1),(2,2)] []) rfl ⟨i,t,true,_,C,B1,rfl,rfl,rfl,hC2,hB1,hA⟩
   ·have gc : ¬ cv = c := gc
    have hn2 := hnext (fun h => absurd h gc)
    conv => cbv
    refine Fit.mk (by show (-9223372036854775808 : Int) ≤ i + 1; omega) (by show i + 1 ≤ 9223372036854775807; omega) fun i2 hi2 => ?_
    have hi2 : i2 = i + 1 := hi2
    rw [← hi2] at hn2
    conv => cbv
    refine Again.mk m' _ (Nat.lt_succ_self _) (Re.at [(0,0),(1,1),(2,2)] []) ⟨i2,rfl,by omega,by omega,hn2,by omega⟩
  ·have gt : ¬ t < k := gt
   have hn2 := hnext (fun h j hj => htr h j (by omega))
   conv => cbv
   refine Fit.mk (by show (-9223372036854775808 : Int) ≤ i + 1; omega) (by show i + 1 ≤ 9223372036854775807; omega) fun i2 hi2 => ?_
   have hi2 : i2 = i + 1 := hi2
   rw [← hi2] at hn2
   conv => cbv
   refine Again.mk m' _ (Nat.lt_succ_self _) (Re.at [(0,0),(1,1),(2,2)] []) ⟨i2,rfl,by omega,by omega,hn2,by omega⟩
 ·have gi : ¬ i < n := gi
  have hfull : ∀ (j : Nat) (m : List Bool),R[j]? = some (c,m) → false ∉ m := fun j m hm => hprev j (by have := (List.getElem?_eq_some_iff.1 hm).1; omega) m hm
  conv => cbv
  refine LoopF.mk (fun m s => ∃ (i : Int),s = ⟨.ptr 0 (.lit 0) :: .p (.int .i64 (.sym c)) :: (undefs 8 ++ .p (.int .i64 (.sym i)) :: undefs 81),[hpD 0 1 3 1 n 2 197 8 n,hpP 1 C,hpP 2 B],3⟩ ∧ 0 ≤ i ∧ i ≤ n ∧ (∀ j : Nat,(j : Int) < i → ∀ d : Int,R[j]? ≠ some (d,[])) ∧ m = (n - i).toNat) n.toNat _
   (Re.at [(0,0),(1,1),(2,2)] []) ⟨0,rfl,by omega,by omega,fun j hj => absurd hj (by omega),by omega⟩ ?_
  rintro m s ⟨i,rfl,hi0,hi1,hprev2,hm⟩
  conv => cbv
  refine Br.mk (fun gi => ?_) (fun gi => ?_)
  ·have gi : i < n := gi
   obtain ⟨m',rfl⟩ : ∃ k',m = k' + 1 := ⟨m - 1,by omega⟩
   obtain ⟨e,he⟩ : ∃ e,R[i.toNat]? = some e := ⟨_,List.getElem?_eq_getElem (by omega)⟩
   have hem := List.mem_of_getElem? he
   obtain ⟨cv,hcv⟩ : ∃ cv,cv = clsOf e := ⟨_,rfl⟩
   have hcc := cpv_get he
   rw [← hC,← hcv] at hcc
   conv => cbv
   refine Need.mk ⟨hi0,by show i < n; omega⟩ ?_
   conv => cbv
   refine Cell.at i _ hcc (by simp [I.val]) rfl ?_
   conv => cbv
   refine Br.mk (fun gc => ?_) (fun gc => ?_)
   ·have gc : cv < 0 := gc
    have he2 : e.2 = [] := Classical.byContradiction fun hne => by
     have := (slots_iff e.1).1 ((hok e hem).2 hne).1
     rw [clsOf,if_neg hne] at hcv
     omega
    have heq : e = (e.1,[]) := by rw [← he2]
    obtain ⟨m2,hm2⟩ : ∃ m2,m2 = (List.replicate (slotsOf c) false).set 0 true := ⟨_,rfl⟩
    have hA : Alloced R c i 0 true (R.set i.toNat (c,m2)) := by
     have := Alloced.fresh (R := R) (c := c) i.toNat e.1 hs0 hfull (by rw [he]; exact congrArg some heq) (fun j hj d => hprev2 j (by omega) d)
     rw [hm2]
     rwa [show ((i.toNat : Nat) : Int) = i by omega] at this
    have hrl : (List.replicate (slotsOf c) false).length = slotsOf c := List.length_replicate
    have h0l : 0 < (List.replicate (slotsOf c) false).length := by rw [hrl]; omega
    obtain ⟨o1,o2⟩ := okAt_set (m := List.replicate (slotsOf c) false) (v := true) h0l
    have hB2 := bpv_set (v := true) (c,m2) he (show 0 < 8 by decide) (flags_set (by decide) (by rw [hm2]; exact o1) (fun j hj => by
     rw [hm2,o2 j hj,he2,okAt_nil,okAt,List.getElem?_replicate]
     split <;> simp))
    rw [← hB] at hB2
    have hm2n : m2 ≠ [] := fun h => by
     have := congrArg List.length (hm2.symm.trans h)
     rw [List.length_set,hrl] at this
     exact hs0 this
    have hC2 := cpv_set (R := R) (q := i.toNat) (c := c) (c,m2) (by rw [clsOf,if_neg hm2n])
    rw [← hC] at hC2
    conv => cbv
    refine drawn_sound tok (by kernel_rfl) [(12,[13,9]),(15,[])] [0,1,2,3,4,5,6,7,8,9,10,11,13,12,14,15] (by kernel_rfl) ?_; conv => cbv
    refine Need.mk ⟨hi0,by show i < n; omega⟩ ?_
    conv => cbv
    refine Need.mk ⟨hi0,by show i < n; omega⟩ ?_
    conv => cbv
    refine Sum.mk fun a ha => ?_
    have ha : a = i * 8 := ha
    conv => cbv
    refine Need.mk (by show i + ((1 : Nat) : Int) ≤ (C.length : Int); omega) ?_
    conv => cbv
    refine Upd.mk fun C1 hC1 => ?_
    have hC1 : C1 = C.set i.toNat (.int .i64 (.sym c)) := hC1
    have hC1 : C1 = cpv (R.set i.toNat (c,m2)) := by rw [hC1,hC2]
    conv => cbv
    refine Need.mk ⟨by show (0 : Int) ≤ 0; decide,by show (0 : Int) < ((8 : Nat) : Int); decide⟩ ?_
    conv => cbv
    refine Need.mk (by show a + ((1 : Nat) : Int) ≤ (B.length : Int); omega) ?_
    conv => cbv
    refine Upd.mk fun B1 hB1 => ?_
    have hB1 : B1 = B.set a.toNat (.bool true) := hB1
    have hB1 : B1 = bpv (R.set i.toNat (c,m2)) := by rw [hB1,show a.toNat = 8 * i.toNat + 0 by omega,hB2]
    conv => cbv
    refine RetF.mk [i6 i,i6 0,.p (.bool true)] [hpD 0 1 3 1 n 2 197 8 n,hpP 1 C1,hpP 2 B1] 3 (Re.at [(0,0),(1,1),(2,2)] []) rfl ⟨i,0,true,_,C1,B1,rfl,rfl,rfl,hC1,hB1,hA⟩
   ·have gc : ¬ cv < 0 := gc
    have hp2 : ∀ j : Nat,(j : Int) < i + 1 → ∀ d : Int,R[j]? ≠ some (d,[]) := fun j hj d hd => by
     by_cases hji : j = i.toNat
     ·subst hji
      rw [he] at hd
      have hd : e = (d,[]) := Option.some.inj hd
      rw [hd,clsOf,if_pos rfl] at hcv
      omega
     ·exact hprev2 j (by omega) d hd
    conv => cbv
    refine Fit.mk (by show (-9223372036854775808 : Int) ≤ i + 1; omega) (by show i + 1 ≤ 9223372036854775807; omega) fun i2 hi2 => ?_
    have hi2 : i2 = i + 1 := hi2
    rw [← hi2] at hp2
    conv => cbv
    refine Again.mk m' _ (Nat.lt_succ_self _) (Re.at [(0,0),(1,1),(2,2)] []) ⟨i2,rfl,by omega,by omega,hp2,by omega⟩
  ·have gi : ¬ i < n := gi
   have hA : Alloced R c 0 0 false R := .full hs0 hfull (fun j d hd => hprev2 j (by have := (List.getElem?_eq_some_iff.1 hd).1; omega) d hd)
   conv => cbv
   refine RetF.mk [i6 0,i6 0,.p (.bool false)] [hpD 0 1 3 1 n 2 197 8 n,hpP 1 C,hpP 2 B] 3 (Re.at [(0,0),(1,1),(2,2)] []) rfl ⟨0,0,false,R,C,B,rfl,rfl,rfl,hC,hB,hA⟩
theorem pvles_snoc6 : ∀ (L M : List PV) (u v : PV),pvles L M → pvle u v → pvles (L ++ [u]) (M ++ [v])
 | [],[],_,_,_,k => ⟨k,trivial⟩
 | x :: L,y :: M,u,v,h,k => ⟨h.1,pvles_snoc6 L M u v h.2 k⟩
theorem bpv_rep (k : Nat) : bpv (List.replicate k (0,[])) ++ flags [] = bpv (List.replicate (k + 1) (0,[])) := by
 induction k with
 | zero => rfl
 | succ k ih => rw [List.replicate_succ,bpv,List.append_assoc,ih,← bpv]; rfl
theorem cpv_rep (k : Nat) : cpv (List.replicate k (0,[])) ++ [.int .i64 (.sym (-1))] = cpv (List.replicate (k + 1) (0,[])) := by
 rw [List.replicate_succ',cpv,cpv,List.map_append]; rfl
theorem rnew_lx (n : Int) (hn : 2 ≤ n ∧ n ≤ 128) : CallF (fun _ => Tryz.prog) 117 [i6 n] [] 0
  (fun r h n' => ∃ C B : List PV,r = .tup [.ptr 0 (.lit 0),.p (.int .i64 (.lit 0))] ∧ h = [hpD 0 1 3 1 n 2 197 8 n,hpP 1 C,hpP 2 B] ∧ n' = 3 ∧ C = cpv (List.replicate n.toNat (0,[])) ∧ B = bpv (List.replicate n.toNat (0,[]))) := by
 obtain ⟨rr,hrr⟩ : ∃ rr : Nat → List Rw,∀ k,rr k = List.replicate k (0,[]) := ⟨_,fun _ => rfl⟩
 refine callF_of_body tok Tryz.func117 (by kernel_rfl) rfl rfl rfl ?_; conv => cbv
 refine Br.mk (fun g => ?_) (fun g => ?_)
 case refine_1 =>
  have gf : False := by have g : n < 2 := g; omega
  cases gf
 conv => cbv
 refine Br.mk (fun g => ?_) (fun g => ?_)
 case refine_1 =>
  have gf : False := by have g : 128 < n := g; omega
  cases gf
 conv => cbv
 refine LoopF.mk (fun m s => ∃ (i : Int) (C B : List PV),s = ⟨.p (.int .i64 (.sym n)) :: (undefs 3 ++ .ptr 0 (.lit 0) :: .p (.int .i64 (.sym i)) :: undefs 33),[hpD 0 1 3 1 i 2 197 8 i,hpP 1 C,hpP 2 B],3⟩ ∧ 0 ≤ i ∧ i ≤ n ∧ C = cpv (rr i.toNat) ∧ B = bpv (rr i.toNat) ∧ m = (n - i).toNat) n.toNat _
  (Re.at [(0,0)] [1,2]) ⟨0,[],[],rfl,by omega,by omega,by rw [hrr]; rfl,by rw [hrr]; rfl,by omega⟩ ?_
 rintro m s ⟨i,C,B,rfl,hi0,hi1,hC,hB,hm⟩
 have hCl : (C.length : Int) = i := by rw [hC,cpv_length,hrr,List.length_replicate]; omega
 have hBl : (B.length : Int) = 8 * i := by rw [hB,bpv_length,hrr,List.length_replicate]; omega
 conv => cbv
 refine Br.mk (fun gi => ?_) (fun gi => ?_)
 ·have gi : i < n := gi
  obtain ⟨m',rfl⟩ : ∃ k',m = k' + 1 := ⟨m - 1,by omega⟩
  conv => cbv
  refine drawF_of_any (by kernel_rfl) (drawAny_split 6 13 (by kernel_rfl) (drawAny_split 7 13 (by kernel_rfl) (any_of_drawn tok [(6,[12,11,10,9,8,5,4,3,2,1,0]),(7,[12,11,10,9,8,1,0]),(13,[11,10,9,8,1,0]),(14,[1,0]),(17,[1]),(20,[])] [0,1,2,3,4,5,8,9,10,11,12,6,7,13,14,15,16,17,18,19,20] (by kernel_rfl) ?_) (any_of_drawn tok [(6,[12,11,10,9,8,5,4,3,2,1,0]),(13,[11,10,9,8,5,4,3,2,1,0]),(7,[11,10,9,8,1,0]),(14,[1,0]),(17,[1]),(20,[])] [0,1,2,3,4,5,8,9,10,11,12,6,13,7,14,15,16,17,18,19,20] (by kernel_rfl) ?_)) (any_of_drawn tok [(13,[11,10,9,8,5,4,3,2,1,0]),(6,[11,10,9,8,5,4,3,2,1,0]),(7,[11,10,9,8,1,0]),(14,[1,0]),(17,[1]),(20,[])] [0,1,2,3,4,5,8,9,10,11,12,13,6,7,14,15,16,17,18,19,20] (by kernel_rfl) ?_))
  ·conv => cbv
   refine Room.new rfl ?_
   conv => cbv
   refine Room.new ⟨?_,?_,?_⟩ ?_
   ·show (C.length : Int) = i * 1; omega
   ·show (i + 1) * 8 ≤ 140737488355328; omega
   ·show i + 1 ≤ 9223372036854775807; omega
   conv => cbv
   refine Upd.mk fun C1 hC1 => ?_
   have hC1 : C1 = C ++ [.int .i64 (.lit (-1))] := hC1
   conv => cbv
   refine Sum.mk fun ic hic => ?_
   have hic : ic = i + 1 := hic
   conv => cbv
   refine Room.new rfl ?_
   conv => cbv
   refine Room.new ⟨?_,?_,?_⟩ ?_
   ·show (B.length : Int) = i * ((8 : Nat) : Int); omega
   ·show (i + 1) * 8 ≤ 140737488355328; omega
   ·show i + 1 ≤ 9223372036854775807; omega
   conv => cbv
   refine Upd.mk fun B1 hB1 => ?_
   have hB1 : B1 = B ++ flags [] := hB1
   conv => cbv
   refine Sum.mk fun ib hib => ?_
   have hib : ib = i + 1 := hib
   conv => cbv
   refine Fit.mk (by show (-9223372036854775808 : Int) ≤ i + 1; omega) (by show i + 1 ≤ 9223372036854775807; omega) fun i2 hi2 => ?_
   have hi2 : i2 = i + 1 := hi2
   obtain ⟨C9,hC9⟩ : ∃ C9,C9 = cpv (rr i2.toNat) := ⟨_,rfl⟩
   have hB9 : B1 = bpv (rr i2.toNat) := by rw [hB1,hB,hrr,hrr,show i2.toNat = i.toNat + 1 by omega,bpv_rep]
   have hle : pvles C1 C9 := by
    rw [hC1,hC9,hC,hrr,hrr,show i2.toNat = i.toNat + 1 by omega,← cpv_rep]
    exact pvles_snoc6 _ _ _ _ (pvles_self _) (by simp [pvle,I.val])
   clear hC1 hB1
   have hci : ic = i2 := by omega
   have hbi : ib = i2 := by omega
   unfold pvles at hle
   conv => cbv
   refine Again.mk m' _ (Nat.lt_succ_self _) (Re.at [(0,0),(4,1),(6,2)] []) ⟨i2,C9,B1,rfl,by omega,by omega,hC9,hB9,by omega⟩
  ·conv => cbv
   refine Room.new rfl ?_
   conv => cbv
   refine Room.new ⟨?_,?_,?_⟩ ?_
   ·show (C.length : Int) = i * 1; omega
   ·show (i + 1) * 8 ≤ 140737488355328; omega
   ·show i + 1 ≤ 9223372036854775807; omega
   conv => cbv
   refine Upd.mk fun C1 hC1 => ?_
   have hC1 : C1 = C ++ [.int .i64 (.lit (-1))] := hC1
   conv => cbv
   refine Sum.mk fun ic hic => ?_
   have hic : ic = i + 1 := hic
   conv => cbv
   refine Room.new rfl ?_
   conv => cbv
   refine Room.new ⟨?_,?_,?_⟩ ?_
   ·show (B.length : Int) = i * ((8 : Nat) : Int); omega
   ·show (i + 1) * 8 ≤ 140737488355328; omega
   ·show i + 1 ≤ 9223372036854775807; omega
   conv => cbv
   refine Upd.mk fun B1 hB1 => ?_
   have hB1 : B1 = B ++ flags [] := hB1
   conv => cbv
   refine Sum.mk fun ib hib => ?_
   have hib : ib = i + 1 := hib
   conv => cbv
   refine Fit.mk (by show (-9223372036854775808 : Int) ≤ i + 1; omega) (by show i + 1 ≤ 9223372036854775807; omega) fun i2 hi2 => ?_
   have hi2 : i2 = i + 1 := hi2
   obtain ⟨C9,hC9⟩ : ∃ C9,C9 = cpv (rr i2.toNat) := ⟨_,rfl⟩
   have hB9 : B1 = bpv (rr i2.toNat) := by rw [hB1,hB,hrr,hrr,show i2.toNat = i.toNat + 1 by omega,bpv_rep]
   have hle : pvles C1 C9 := by
    rw [hC1,hC9,hC,hrr,hrr,show i2.toNat = i.toNat + 1 by omega,← cpv_rep]
    exact pvles_snoc6 _ _ _ _ (pvles_self _) (by simp [pvle,I.val])
   clear hC1 hB1
   have hci : ic = i2 := by omega
   have hbi : ib = i2 := by omega
   unfold pvles at hle
   conv => cbv
   refine Again.mk m' _ (Nat.lt_succ_self _) (Re.at [(0,0),(5,1),(6,2)] []) ⟨i2,C9,B1,rfl,by omega,by omega,hC9,hB9,by omega⟩
  ·conv => cbv
   refine Room.new rfl ?_
   conv => cbv
   refine Room.new ⟨?_,?_,?_⟩ ?_
   ·show (C.length : Int) = i * 1; omega
   ·show (i + 1) * 8 ≤ 140737488355328; omega
   ·show i + 1 ≤ 9223372036854775807; omega
   conv => cbv
   refine Upd.mk fun C1 hC1 => ?_
   have hC1 : C1 = C ++ [.int .i64 (.lit (-1))] := hC1
   conv => cbv
   refine Sum.mk fun ic hic => ?_
   have hic : ic = i + 1 := hic
   conv => cbv
   refine Room.new rfl ?_
   conv => cbv
   refine Room.new ⟨?_,?_,?_⟩ ?_
   ·show (B.length : Int) = i * ((8 : Nat) : Int); omega
   ·show (i + 1) * 8 ≤ 140737488355328; omega
   ·show i + 1 ≤ 9223372036854775807; omega
   conv => cbv
   refine Upd.mk fun B1 hB1 => ?_
   have hB1 : B1 = B ++ flags [] := hB1
   conv => cbv
   refine Sum.mk fun ib hib => ?_
   have hib : ib = i + 1 := hib
   conv => cbv
   refine Fit.mk (by show (-9223372036854775808 : Int) ≤ i + 1; omega) (by show i + 1 ≤ 9223372036854775807; omega) fun i2 hi2 => ?_
   have hi2 : i2 = i + 1 := hi2
   obtain ⟨C9,hC9⟩ : ∃ C9,C9 = cpv (rr i2.toNat) := ⟨_,rfl⟩
   have hB9 : B1 = bpv (rr i2.toNat) := by rw [hB1,hB,hrr,hrr,show i2.toNat = i.toNat + 1 by omega,bpv_rep]
   have hle : pvles C1 C9 := by
    rw [hC1,hC9,hC,hrr,hrr,show i2.toNat = i.toNat + 1 by omega,← cpv_rep]
    exact pvles_snoc6 _ _ _ _ (pvles_self _) (by simp [pvle,I.val])
   clear hC1 hB1
   have hci : ic = i2 := by omega
   have hbi : ib = i2 := by omega
   unfold pvles at hle
   conv => cbv
   refine Again.mk m' _ (Nat.lt_succ_self _) (Re.at [(0,0),(5,1),(6,2)] []) ⟨i2,C9,B1,rfl,by omega,by omega,hC9,hB9,by omega⟩
 ·have gi : ¬ i < n := gi
  have hin : i = n := by omega
  rw [hin,hrr] at hC hB
  conv => cbv
  refine RetF.mk [.ptr 0 (.lit 0),.p (.int .i64 (.lit 0))] [hpD 0 1 3 1 n 2 197 8 n,hpP 1 C,hpP 2 B] 3 (Re.at [(0,0),(1,1),(2,2)] []) rfl ⟨C,B,rfl,rfl,rfl,hC,hB⟩
theorem Alloced.det {R R1 R2 : List Rw} {c i1 s1 i2 s2 : Int} {b1 b2 : Bool} (h : Alloced R c i1 s1 b1 R1) (k : Alloced R c i2 s2 b2 R2) : i1 = i2 ∧ s1 = s2 ∧ b1 = b2 ∧ R1 = R2 := by
 cases h with
 | no h =>
  cases k with
  | no _ => exact ⟨rfl,rfl,rfl,rfl⟩
  | old _ _ _ h0 => exact absurd h h0
  | fresh _ _ h0 => exact absurd h h0
  | full h0 => exact absurd h h0
 | old i s l h0 hi hs h1 h2 =>
  have hf : false ∈ l := List.mem_of_getElem? hs
  cases k with
  | no h => exact absurd h h0
  | old i' s' l' h0' hi' hs' h1' h2' =>
   have hf' : false ∈ l' := List.mem_of_getElem? hs'
   have e : i = i' := by
    rcases Nat.lt_trichotomy i i' with h | h | h
    ·exact absurd hf (h2' i h l hi)
    ·exact h
    ·exact absurd hf' (h2 i' h l' hi')
   subst e
   rw [hi] at hi'
   cases hi'
   have e : s = s' := by
    rcases Nat.lt_trichotomy s s' with h | h | h
    ·rw [h1' s h] at hs; cases hs
    ·exact h
    ·rw [h1 s' h] at hs'; cases hs'
   subst e
   exact ⟨rfl,rfl,rfl,rfl⟩
  | fresh i' d h0' h2' hi' h3' => exact absurd hf (h2' i l hi)
  | full h0' h2' h3' => exact absurd hf (h2' i l hi)
 | fresh i d h0 h2 hi h3 =>
  cases k with
  | no h => exact absurd h h0
  | old i' s' l' h0' hi' hs' h1' h2' => exact absurd (List.mem_of_getElem? hs') (h2 i' l' hi')
  | fresh i' d' h0' h2' hi' h3' =>
   have e : i = i' := by
    rcases Nat.lt_trichotomy i i' with h | h | h
    ·exact absurd hi (h3' i h d)
    ·exact h
    ·exact absurd hi' (h3 i' h d')
   subst e
   exact ⟨rfl,rfl,rfl,rfl⟩
  | full h0' h2' h3' => exact absurd hi (h3' i d)
 | full h0 h2 h3 =>
  cases k with
  | no h => exact absurd h h0
  | old i' s' l' h0' hi' hs' h1' h2' => exact absurd (List.mem_of_getElem? hs') (h2 i' l' hi')
  | fresh i' d' h0' h2' hi' h3' => exact absurd hi' (h3 i' d')
  | full _ _ _ => exact ⟨rfl,rfl,rfl,rfl⟩
theorem alloc_gen {R R' : List Rw} {xs xs' : List Int} {kind n i s a w : Int} (hA : AOk R xs) (h : 0 ≤ n ∧ n ≤ 31 ∧ 1 ≤ kind ∧ kind ≤ 6) (ha : Alloced R (ofN n) i s true R') (hat : a = 32 * i + s * wordsOf (ofN n)) (hw : w = wordsOf (ofN n)) (hl : xs'.length = xs.length)
  (hh : xs'[a.toNat]? = some (kind + 16 * n)) (hf : ∀ j : Nat,(j : Int) < a ∨ a + w ≤ j → xs'[j]? = xs[j]?) (hbd : ∀ x ∈ xs',-9223372036854775808 ≤ x ∧ x ≤ 9223372036854775807) :
  AOk R' xs' ∧ Kept R' xs' a kind n ∧ (∀ b k l,Kept R xs b k l → Kept R' xs' b k l ∧ b ≠ a ∧ ∀ i,0 ≤ i → i < l → xs'[(b + 1 + i).toNat]? = xs[(b + 1 + i).toNat]?) ∧ (∀ b,IsObj R' b → b = a ∨ IsObj R b) := by
 obtain ⟨h1,h2,h3,h4,h5⟩ := alloc_objs hA.rows ha a w hat hw
 have hobj : ObjAt R' a w := (h5 _ _).2 (.inr ⟨rfl,rfl⟩)
 obtain ⟨f1,f2,f3,_⟩ := hobj.facts h1
 have hnw : n < w := by rw [hw]; exact (ofN_words ⟨h.1,h.2.1⟩).1
 have hlen := hA.len
 have hold : ∀ b k l,Kept R xs b k l → Kept R' xs' b k l ∧ b ≠ a ∧ ∀ i,0 ≤ i → i < l → xs'[(b + 1 + i).toNat]? = xs[(b + 1 + i).toNat]? := by
  rintro b k l ⟨v,hb,hx,g1,g2,g3,g4⟩
  have hb' := (h5 b v).2 (.inl hb)
  have hne : b ≠ a := fun e => h4 (isObj_iff.2 ⟨v,e ▸ hb⟩)
  obtain ⟨q1,q2,q3,_⟩ := hb'.facts h1
  have hap := hobj.apart h1 hb'
  refine ⟨.mk k l v hb' ?_ g1 g2 g3 g4,hne,fun j hj0 hj1 => ?_⟩
  ·rw [hf _ (by rcases hap with ⟨h,_⟩ | h | h <;> omega)]; exact hx
  ·exact hf _ (by rcases hap with ⟨h,_⟩ | h | h <;> omega)
 have hnew : Kept R' xs' a kind n := .mk kind n w hobj hh (by omega) (by omega) h.1 hnw
 refine ⟨⟨h1,by rw [hl,h2]; exact hlen,hbd,?_⟩,hnew,hold,?_⟩
 ·intro b v hb
  rcases (h5 b v).1 hb with hb1 | ⟨rfl,rfl⟩
  ·obtain ⟨k,l,g1,g2,g3,g4,g5⟩ := hA.hdr b v hb1
   obtain ⟨⟨v',g6,g7,_⟩,_⟩ := hold b k l (.mk k l v hb1 g1 g2 g3 g4 g5)
   exact ⟨k,l,g7,g2,g3,g4,g5⟩
  ·exact ⟨kind,n,hh,by omega,by omega,h.1,hnw⟩
 ·intro b hb
  obtain ⟨v,hb⟩ := isObj_iff.1 hb
  rcases (h5 b v).1 hb with hb | ⟨hb,_⟩
  ·exact .inr (isObj_iff.2 ⟨v,hb⟩)
  ·exact .inl hb
inductive AlloctV (R : List Rw) (vs : List Int) (kind n : Int) : Int → Int → List Rw → List Int → Prop
 | arg (h : ¬ (0 ≤ n ∧ n ≤ 31 ∧ 1 ≤ kind ∧ kind ≤ 6)) : AlloctV R vs kind n 0 1 R vs
 | room (i s : Int) (R' : List Rw) (h : 0 ≤ n ∧ n ≤ 31 ∧ 1 ≤ kind ∧ kind ≤ 6) (ha : Alloced R (ofN n) i s false R') : AlloctV R vs kind n 0 9 R' vs
 | ok (i s at_ : Int) (R' : List Rw) (h : 0 ≤ n ∧ n ≤ 31 ∧ 1 ≤ kind ∧ kind ≤ 6) (ha : Alloced R (ofN n) i s true R') (hat : at_ = 32 * i + s * wordsOf (ofN n)) :
   AlloctV R vs kind n at_ 0 R' ((zer vs at_.toNat (wordsOf (ofN n)).toNat).set at_.toNat (kind + 16 * n))
theorem Sim.alloc {R R1 R2 : List Rw} {ws vs ws' vs' : List Int} {kind n a1 e1 a2 e2 : Int} (h : Sim R ws vs) (h1 : Alloct R ws kind n a1 e1 R1 ws') (h2 : AlloctV R vs kind n a2 e2 R2 vs') : a1 = a2 ∧ e1 = e2 ∧ R1 = R2 ∧ Sim R1 ws' vs' ∧ R1.length = R.length := by
 cases h1 with
 | arg h1 => cases h2 with
  | arg _ => exact ⟨rfl,rfl,rfl,h,rfl⟩
  | room _ _ _ k _ => exact absurd k h1
  | ok _ _ _ _ k _ _ => exact absurd k h1
 | room i s R' hc ha => cases h2 with
  | arg k => exact absurd hc k
  | room i2 s2 R2 k ha2 =>
   obtain ⟨_,_,_,eR⟩ := ha.det ha2
   subst eR
   obtain ⟨rfl,_⟩ := full_count h.a.rows (ofN_slots n) ha
   exact ⟨rfl,rfl,rfl,h,rfl⟩
  | ok i2 s2 _ R2 k ha2 hat2 => obtain ⟨_,_,hb,_⟩ := ha.det ha2; cases hb
 | ok i s _ R' hc ha hi hat => cases h2 with
  | arg k => exact absurd hc k
  | room i2 s2 R2 k ha2 => obtain ⟨_,_,hb,_⟩ := ha.det ha2; cases hb
  | ok i2 s2 _ R2 k ha2 hat2 =>
   obtain ⟨ei,es,_,eR⟩ := ha.det ha2
   subst ei es eR
   obtain rfl : a2 = a1 := by rw [hat,hat2]
   obtain ⟨w,hw⟩ : ∃ w,w = wordsOf (ofN n) := ⟨_,rfl⟩
   obtain ⟨q1,q2,q3,q4,q5⟩ := alloc_objs h.a.rows ha a2 w hat hw
   have hobj : ObjAt R1 a2 w := (q5 _ _).2 (.inr ⟨rfl,rfl⟩)
   obtain ⟨f1,f2,f3,_⟩ := hobj.facts q1
   have hnw : n < w := by rw [hw]; exact (ofN_words ⟨hc.1,hc.2.1⟩).1
   have hlw := h.a.len
   have hlv := h.b.len
   have hA1 := (h.a.alloct (Alloct.ok i s a2 R1 hc ha hi hat)).1
   have gw : ∀ j : Nat,j < ws.length → (zer (ws.set a2.toNat (kind + 16 * n)) (a2.toNat + 1) n.toNat)[j]? = if a2.toNat + 1 ≤ j ∧ j < a2.toNat + 1 + n.toNat then some 0 else (ws.set a2.toNat (kind + 16 * n))[j]? := fun j hj => zer_get _ _ _ _ (by rw [List.length_set]; exact hj)
   have gv : ∀ j : Nat,j < vs.length → j ≠ a2.toNat → ((zer vs a2.toNat (wordsOf (ofN n)).toNat).set a2.toNat (kind + 16 * n))[j]? = if a2.toNat ≤ j ∧ j < a2.toNat + (wordsOf (ofN n)).toNat then some 0 else vs[j]? := fun j hj hne => by
    rw [List.getElem?_set_ne (fun e => hne e.symm),zer_get _ _ _ _ hj]
   rw [← hw] at gv ⊢
   have farw : ∀ j : Nat,(j : Int) < a2 ∨ a2 + w ≤ j → (zer (ws.set a2.toNat (kind + 16 * n)) (a2.toNat + 1) n.toNat)[j]? = ws[j]? := fun j hj => by
    by_cases hjl : j < ws.length
    ·rw [gw j hjl,if_neg (by omega),List.getElem?_set_ne (by omega)]
    ·rw [List.getElem?_eq_none (by rw [zer_length,List.length_set]; omega),List.getElem?_eq_none (by omega)]
   have farv : ∀ j : Nat,(j : Int) < a2 ∨ a2 + w ≤ j → ((zer vs a2.toNat w.toNat).set a2.toNat (kind + 16 * n))[j]? = vs[j]? := fun j hj => by
    by_cases hjl : j < vs.length
    ·rw [gv j hjl (by omega),if_neg (by omega)]
    ·rw [List.getElem?_eq_none (by rw [List.length_set,zer_length]; omega),List.getElem?_eq_none (by omega)]
   obtain ⟨p1,p2,p3,p4⟩ := alloc_gen h.a hc ha hat hw (by rw [zer_length,List.length_set]) (by rw [gw _ (by omega),if_neg (by omega),List.getElem?_set_self (by omega)]) farw hA1.bd
   have hbdv : ∀ x ∈ (zer vs a2.toNat w.toNat).set a2.toNat (kind + 16 * n),-9223372036854775808 ≤ x ∧ x ≤ 9223372036854775807 := by
    intro x hx
    rcases List.mem_or_eq_of_mem_set hx with hx | rfl
    ·obtain ⟨j,hj⟩ := List.getElem?_of_mem hx
     have hjl : j < vs.length := by have := (List.getElem?_eq_some_iff.1 hj).1; rw [zer_length] at this; exact this
     rw [zer_get _ _ _ _ hjl] at hj
     split at hj
     ·cases hj; omega
     ·exact h.b.bd x (List.mem_of_getElem? hj)
    ·omega
   obtain ⟨r1,r2,r3,r4⟩ := alloc_gen h.b hc ha hat hw (by rw [List.length_set,zer_length]) (by rw [List.getElem?_set_self (by rw [zer_length]; omega)]) farv hbdv
   refine ⟨rfl,rfl,rfl,⟨p1,r1,?_,?_⟩,q2⟩
   ·intro x k' l hk
    rcases p4 x hk.obj6 with rfl | hx
    ·obtain ⟨e1,e2⟩ := p2.det6 hk
     rw [e1,e2]; exact r2
    ·obtain ⟨k0,l0,hk0⟩ := Kept.of h.a hx
     obtain ⟨e1,e2⟩ := (p3 x k0 l0 hk0).1.det6 hk
     rw [e1,e2]; exact (r3 x k0 l0 (h.hdr x k0 l0 hk0)).1
   ·intro x k' l j hk hj0 hj1
    rcases p4 x hk.obj6 with rfl | hx
    ·obtain ⟨e1,e2⟩ := p2.det6 hk
     rw [e2] at hj1
     rw [gv _ (by omega) (by omega),if_pos (by omega),gw _ (by omega),if_pos (by omega)]
    ·obtain ⟨k0,l0,hk0⟩ := Kept.of h.a hx
     obtain ⟨e1,e2⟩ := (p3 x k0 l0 hk0).1.det6 hk
     rw [e2] at hj1
     rw [(p3 x k0 l0 hk0).2.2 j hj0 hj1,(r3 x k0 l0 (h.hdr x k0 l0 hk0)).2.2 j hj0 hj1]
     exact h.in_ x k0 l0 j hk0 hj0 hj1
end Go.Proofs.YtmckfhnijeiklaaGreatDoor
namespace Go.Proofs.YtmckfhnijeiklaaGreatDoor
open Go Go.LX
set_option maxRecDepth 100000
set_option linter.unusedVariables false
set_option maxHeartbeats 32000000
def IsPow (o : Unit → Obj) : Prop := ∃ t fr,o () = .cells (Lib.pow10Tab.map fun z => Value.int .u64 z).toArray t fr
theorem one_arg {c : Ctx} {w : World} {u : LV} {xs : Array Value} (hl : [u].length = xs.size) (hrel : ∀ (i : Nat) (v : LV),[u][i]? = some v → LR c w v (xs.getD i Go.undef)) : ∃ x,xs = #[x] ∧ LR c w u x := by
 have h0 := hrel 0 u rfl
 rcases xs with ⟨l⟩
 match l,hl with
 | [x],_ => exact ⟨x,rfl,h0⟩
theorem grow_below (w : World) (k : Nat) (os : Array Obj) : RowKit.Below w.heap.size w (Go.Sort.grow (w.drewN k) os) := by
 refine ⟨rfl,rfl,rfl,by simp [Go.Sort.grow],fun i hi => ?_⟩
 show (w.heap ++ os)[i]? = w.heap[i]?
 rw [Array.getElem?_append_left hi]
theorem itoa_lx (n : Int) (h0 : -9223372036854775808 ≤ n) (h1 : n ≤ 9223372036854775807) (o : Unit → Obj) (ho : IsPow o) :
  CallF (fun _ => Tryz.prog) 109 [i6 n] [(0,.fix 0 o)] 1 (fun r h n' => (∃ z : ByteArray,r = .p (.str fun _ => z) ∧ z = ⟨(Lib.itoa n).toArray⟩) ∧ h = [(0,.fix 0 o)] ∧ n' = 1) := by
 refine callF_calls (K := fun r => ∃ z : ByteArray,r = .p (.str fun _ => z) ∧ z = ⟨(Lib.itoa n).toArray⟩) ⟨_,_,Tryz.func109,by kernel_rfl,rfl⟩ fun c w xs hr hN hl hrel => ?_
 obtain ⟨x,rfl,hx⟩ := one_arg hl hrel
 have hx : x = .int .i64 n := hx.inv_int
 subst hx
 obtain ⟨m,hm,hB⟩ := hr.live 0 _ rfl
 cases m with
 | some r => exact hB.elim
 | none =>
  obtain ⟨hheap,_⟩ := hB
  obtain ⟨t,fr,hot⟩ := ho
  have htab : Lib.TabIs Tryz.prog w "internal/strconv.uint64pow10" .u64 Lib.pow10Tab := by
   have hg : Tryz.prog.globalNamed "internal/strconv.uint64pow10" = some 0 := by kernel_rfl
   unfold Lib.TabIs World.var?
   rw [hg]
   simp only [Option.bind_some,hheap,hot]
  refine (Tryz.strconv_Itoa n h0 h1 w htab).mono fun e w' ⟨he,k,os,hw⟩ => ?_
  subst hw
  exact ⟨_,_,he,⟨_,rfl,rfl⟩,grow_below w k os,fun c' => .p _ _ (.str _)⟩
theorem dec_small {u : Nat} (h : u < 10) : Lib.decDigits u = [UInt8.ofNat (48 + u)] := Lib.decDigits_one h
theorem dec_big {u : Nat} (h : ¬ u < 10) : Lib.decDigits u = Lib.decDigits (u / 10) ++ [UInt8.ofNat (48 + u % 10)] := by
 rw [Lib.decDigits,dif_neg h]
theorem digit_nat {d : Nat} (h : d < 10) : (UInt8.ofNat (48 + d)).toNat = 48 + d := by
 simp; omega
theorem dec_dig : ∀ (u : Nat),∀ c ∈ Lib.decDigits u,48 ≤ c.toNat ∧ c.toNat ≤ 57 := by
 intro u
 induction u using Nat.strongRecOn with
 | ind u ih =>
  intro c hc
  by_cases h : u < 10
  ·rw [dec_small h] at hc
   rw [List.mem_singleton.1 hc,digit_nat h]; omega
  ·rw [dec_big h] at hc
   rcases List.mem_append.1 hc with hc | hc
   ·exact ih _ (by omega) c hc
   ·rw [List.mem_singleton.1 hc,digit_nat (Nat.mod_lt _ (by omega))]; omega
theorem itoa_dig (a : Int) : ∀ c ∈ Lib.itoa a,c.toNat = 45 ∨ (48 ≤ c.toNat ∧ c.toNat ≤ 57) := by
 intro c hc
 unfold Lib.itoa at hc
 split at hc
 ·rcases List.mem_cons.1 hc with rfl | hc
  ·exact .inl rfl
  ·exact .inr (dec_dig _ c hc)
 ·exact .inr (dec_dig _ c hc)
def enc : List Int → List UInt8
 | [] => []
 | a :: A => Lib.itoa a ++ 32 :: enc A
theorem enc_append : ∀ A B,enc (A ++ B) = enc A ++ enc B
 | [],B => rfl
 | a :: A,B => by simp [enc,enc_append A B]
theorem enc_low : ∀ (A : List Int),∀ c ∈ enc A,c.toNat < 128
 | [],c,h => by cases h
 | a :: A,c,h => by
  rw [enc] at h
  rcases List.mem_append.1 h with h | h
  ·have := itoa_dig a c h; omega
  ·rcases List.mem_cons.1 h with rfl | h
   ·decide
   ·exact enc_low A c h
theorem count_itoa (a : Int) : (Lib.itoa a).count 32 = 0 := by
 rw [List.count_eq_zero]
 intro h
 have := itoa_dig a 32 h
 have h32 : (32 : UInt8).toNat = 32 := rfl
 omega
theorem enc_count : ∀ (A : List Int),(enc A).count 32 = A.length
 | [] => rfl
 | a :: A => by rw [enc,List.count_append,count_itoa,List.count_cons,enc_count A]; simp
theorem dec_atE (l : List UInt8) (hl : ∀ c ∈ l,c.toNat < 128) (i : Nat) (c : UInt8) (h : l[i]? = some c) : Utf8.decode ⟨l.toArray⟩ i = (c.toNat,1) := by
 have hi := (List.getElem?_eq_some_iff.1 h).1
 have hc : l[i] = c := (List.getElem?_eq_some_iff.1 h).2
 have hsz : i < (ByteArray.mk l.toArray).size := by show i < l.toArray.size; simpa using hi
 have hg : (ByteArray.mk l.toArray)[i]'hsz = c := by show l.toArray[i]'_ = c; simpa using hc
 have := decode_ascii ⟨l.toArray⟩ i hsz (by rw [hg]; exact hl c (List.mem_of_getElem? h))
 rw [this,hg]
theorem greyLen_lx (A : List Int) (z : ByteArray) (ov : Bool) (hz : z = ⟨(enc A).toArray⟩) (hA : (enc A).length < 1000000) :
  CallF (fun _ => Tryz.prog) 108 [.ptr 0 (.lit 0)] [hpF 0 z ov] 1 (fun r h n => ∃ m : Int,r = .p (.int .i64 (.sym m)) ∧ m = A.length ∧ h = [hpF 0 z ov] ∧ n = 1) := by
 refine callF_of_body tok Tryz.func108 (by kernel_rfl) rfl rfl rfl ?_; conv => cbv
 obtain ⟨N,hN⟩ : ∃ N : Int,N = (enc A).length := ⟨_,rfl⟩
 refine LoopF.mk (fun k s => ∃ (pos cnt : Int),s = ⟨.ptr 0 (.lit 0) :: .undef :: .undef :: .p (.int .i64 (.sym cnt)) :: (undefs 8 ++ .ptr 1 (.lit 0) :: undefs 8),[(1,.iter (fun _ => z) (.sym pos)),hpF 0 z ov],2⟩ ∧ 0 ≤ pos ∧ pos ≤ N ∧ cnt = ((enc A).take pos.toNat).count 32 ∧ k = (N - pos).toNat) N.toNat _
  (Re.at [(0,0),(1,1)] []) ⟨0,0,rfl,by omega,by omega,by simp,by omega⟩ ?_
 rintro k s ⟨pos,cnt,rfl,hp0,hp1,hcnt,hk⟩
 have hzs : (z.size : Int) = (enc A).length := by rw [hz]; show ((enc A).toArray.size : Int) = _; simp
 conv => cbv
 by_cases hend : pos = N
 ·refine NextS.over (by show (z.size : Int) ≤ pos; omega) ?_
  conv => cbv
  refine RetF.mk [i6 cnt] [hpF 0 z ov] 1 (Re.at [(0,0)] []) rfl ⟨cnt,rfl,?_,rfl,rfl⟩
  rw [hcnt,show pos.toNat = (enc A).length by omega,List.take_length,enc_count]
 ·obtain ⟨c,hc⟩ : ∃ c,(enc A)[pos.toNat]? = some c := ⟨_,List.getElem?_eq_getElem (by omega)⟩
  have hlow := enc_low A c (List.mem_of_getElem? hc)
  have hd := dec_atE (enc A) (enc_low A) pos.toNat c hc
  rw [← hz] at hd
  refine NextS.more (by show pos < (z.size : Int); omega) ?_
  intro r p' hr hp
  have hr : r = (c.toNat : Int) := by
   have : r = ((Utf8.decode z pos.toNat).1 : Int) := hr
   rw [this,hd]
  have hp : p' = pos + 1 := by
   have : p' = pos + ((Utf8.decode z pos.toNat).2 : Int) := hp
   rw [this,hd]; rfl
  have htake : (enc A).take p'.toNat = (enc A).take pos.toNat ++ [c] := by
   rw [show p'.toNat = pos.toNat + 1 by omega,List.take_add_one,hc]; rfl
  have hcl := List.count_le_length (a := (32 : UInt8)) (l := (enc A).take pos.toNat)
  have htl : ((enc A).take pos.toNat).length ≤ (enc A).length := by rw [List.length_take]; omega
  obtain ⟨k',rfl⟩ : ∃ k',k = k' + 1 := ⟨k - 1,by omega⟩
  conv => cbv
  refine Br.mk (fun g => ?_) (fun g => ?_)
  ·have g : r = 32 := g
   have hc32 : c = 32 := UInt8.toNat_inj.1 (by show c.toNat = 32; omega)
   conv => cbv
   refine Fit.mk (by show (-9223372036854775808 : Int) ≤ cnt + 1; omega) (by show cnt + 1 ≤ 9223372036854775807; omega) ?_
   intro c2 hc2
   have hc2 : c2 = cnt + 1 := hc2
   conv => cbv
   refine Again.mk k' _ (Nat.lt_succ_self _) (Re.at [(0,0),(1,1)] []) ⟨p',c2,rfl,by omega,by omega,?_,by omega⟩
   rw [htake,List.count_append,hc32,hc2,hcnt]; simp
  ·have g : ¬ r = 32 := g
   have hc32 : ¬ c = 32 := fun h => g (by rw [hr,h]; rfl)
   conv => cbv
   refine Again.mk k' _ (Nat.lt_succ_self _) (Re.at [(0,0),(1,1)] []) ⟨p',cnt,rfl,by omega,by omega,?_,by omega⟩
   rw [htake,List.count_append,hcnt]
   have : List.count (32 : UInt8) [c] = 0 := by rw [List.count_eq_zero]; simp; exact fun h => hc32 h.symm
   rw [this]; simp
theorem enc_end (A : List Int) (a : Int) : enc (A ++ [a]) = enc A ++ (Lib.itoa a ++ [32]) := by rw [enc_append]; rfl
def i64 (a : Int) : Prop := -9223372036854775808 ≤ a ∧ a ≤ 9223372036854775807
theorem enc_len : ∀ (A : List Int),(∀ a ∈ A,i64 a) → (enc A).length ≤ 22 * A.length
 | [],_ => Nat.le_refl _
 | a :: A,h => by
  have h1 := enc_len A fun x hx => h x (List.mem_cons_of_mem _ hx)
  have h2 := h a List.mem_cons_self
  have h3 := Lib.itoa_length_le a h2.1 h2.2
  rw [enc,List.length_append,List.length_cons,List.length_cons]; omega
theorem greyNew_lx : CallF (fun _ => Tryz.prog) 30 [] [] 0 (fun r h n => ∃ z : ByteArray,r = .ptr 0 (.lit 0) ∧ h = [hpF 0 z false] ∧ n = 1 ∧ z = ⟨(enc []).toArray⟩) := by
 refine callF_of_body tok Tryz.func30 (by kernel_rfl) rfl rfl rfl ?_; conv => cbv
 obtain ⟨z,hz⟩ : ∃ z : ByteArray,z = ⟨(enc []).toArray⟩ := ⟨_,rfl⟩
 have hz2 : (⟨#[]⟩ : ByteArray) = z := hz.symm
 refine RetF.mk [.ptr 0 (.lit 0)] [hpF 0 z false] 1 (Re.at [(0,0)] []) rfl ⟨z,rfl,rfl,rfl,hz⟩
theorem greyPush_lx (A : List Int) (a : Int) (z : ByteArray) (ov : Bool) (o : Unit → Obj) (ho : IsPow o) (hz : z = ⟨(enc A).toArray⟩) (hA : ∀ x ∈ A,i64 x) (hA8 : A.length ≤ 8) (ha : i64 a) :
  CallF (fun _ => Tryz.prog) 74 [.ptr 1 (.lit 0),i6 a] [hpF 1 z ov,(0,.fix 0 o)] 2 (fun r h n => ∃ (b ov' : Bool) (z' : ByteArray) (A' : List Int),r = .p (.bool b) ∧ h = [hpF 1 z' ov',(0,.fix 0 o)] ∧ n = 2 ∧ z' = ⟨(enc A').toArray⟩ ∧ (A.length < 8 → b = true ∧ A' = A ++ [a] ∧ ov' = ov) ∧ (8 ≤ A.length → b = false ∧ A' = A ∧ ov' = true)) := by
 have hle := enc_len A hA
 refine callF_of_body tok Tryz.func74 (by kernel_rfl) rfl rfl rfl ?_; conv => cbv
 refine callF_frame (greyLen_lx A z ov hz (by omega)) [(0,1)] rfl (by simp [hmapOk,nget,hget,renB,okB]) rfl rfl (fun r h' n' ⟨m,e1,hm,e2,e3⟩ => ?_)
 subst e1 e2 e3
 conv => cbv
 refine Br.mk (fun g => ?_) (fun g => ?_)
 ·have g : 8 ≤ m := g
  conv => cbv
  refine RetF.mk [.p (.bool false)] [hpF 1 z true,(0,.fix 0 o)] 2 (Re.at [(0,0),(1,1)] []) rfl ⟨false,true,z,A,rfl,rfl,rfl,hz,fun h => by omega,fun _ => ⟨rfl,rfl,rfl⟩⟩
 ·have g : ¬ 8 ≤ m := g
  conv => cbv
  refine drawn_sound tok (by kernel_rfl) [(5,[3,2,1,0]),(10,[])] [0,1,2,3,4,5,6,7,8,9,10] (by kernel_rfl) ?_; conv => cbv
  refine callF_frame (itoa_lx a ha.1 ha.2 o ho) [(0,0)] rfl (by simp [hmapOk,nget,hget,renB,okB]) rfl rfl (fun r h' n' ⟨⟨y,e1,hy⟩,e2,e3⟩ => ?_)
  subst e1 e2 e3
  have hyl : (y.size : Int) ≤ 21 := by
   rw [hy]
   have := Lib.itoa_length_le a ha.1 ha.2
   show ((Lib.itoa a).toArray.size : Int) ≤ 21
   simp; omega
  have hzl : (z.size : Int) ≤ 1000000 := by rw [hz]; show ((enc A).toArray.size : Int) ≤ _; simp; omega
  conv => cbv
  refine Need.mk (by show y.size + 1 ≤ 9223372036854775807; omega) ?_
  conv => cbv
  refine Str.mk fun u hu => ?_
  have hu : u = y ++ ⟨#[32]⟩ := hu
  have hus : (u.size : Int) ≤ 22 := by rw [hu,ByteArray.size_append]; show ((y.size + 1 : Nat) : Int) ≤ 22; omega
  conv => cbv
  refine Need.mk (by show z.size + u.size ≤ 9223372036854775807; omega) ?_
  conv => cbv
  refine Str.mk fun z2 hz2 => ?_
  have hz2 : z2 = z ++ u := hz2
  have hz3 : z2 = ⟨(enc (A ++ [a])).toArray⟩ := by
   rw [hz2,hz,hu,hy,enc_end]
   apply ByteArray.ext
   simp
  conv => cbv
  refine RetF.mk [.p (.bool true)] [hpF 1 z2 ov,(0,.fix 0 o)] 2 (Re.at [(0,0),(1,1)] []) rfl ⟨true,ov,z2,A ++ [a],rfl,rfl,rfl,hz3,fun _ => ⟨rfl,rfl,rfl⟩,fun h => by omega⟩
end Go.Proofs.YtmckfhnijeiklaaGreatDoor
namespace Go.Proofs.YtmckfhnijeiklaaGreatDoor
open Go Go.LX
set_option maxRecDepth 100000
set_option linter.unusedVariables false
set_option linter.unusedSimpArgs false
set_option maxHeartbeats 32000000
def objs (R : List Rw) : List Int := objsTo R R.length
def K1 (R : List Rw) (ws : List Int) : Prop := ∀ a k l,Kept R ws a k l → 1 ≤ k
structure HM (R : List Rw) (ws C G : List Int) (N W : Int) (L D Q : List PV) (z : ByteArray) : Prop where
 a : AOk R ws
 k : K1 R ws
 n : N = R.length
 r : R.length ≤ 1000
 w : W = 32 * N
 l : L = rpv R
 d : D = ipv ws
 q : Q = ipv C
 c : (C.length : Int) = W
 z : z = ⟨(enc G).toArray⟩
 g : ∀ x ∈ G,0 ≤ x ∧ x < W
 g8 : G.length ≤ 8
def shade (R : List Rw) (ph a : Int) (s : List Int × List Int × Bool) : List Int × List Int × Bool :=
 if ph = 1 ∧ a ∈ objs R ∧ s.1[a.toNat]? = some 0 then (s.1.set a.toNat 1,if s.2.1.length < 8 then (s.2.1 ++ [a],s.2.2) else (s.2.1,true)) else s
theorem obj_iff {R : List Rw} {ws : List Int} (hA : AOk R ws) (a : Int) : a ∈ objs R ↔ IsObj R a := objs_mem hA.rows a
theorem obj_bd {R : List Rw} {ws : List Int} (hA : AOk R ws) {a : Int} (h : a ∈ objs R) : 0 ≤ a ∧ a < 32 * R.length := by
 obtain ⟨k,l,hk⟩ := Kept.of hA ((obj_iff hA a).1 h)
 have := hk.bounds hA
 omega
theorem HM.g64 {R : List Rw} {ws C G : List Int} {N W : Int} {L D Q : List PV} {z : ByteArray} (h : HM R ws C G N W L D Q z) : ∀ x ∈ G,i64 x := by
 intro x hx
 have h1 := h.g x hx; have h2 := h.w; have h3 := h.n; have h4 := h.r
 exact ⟨by omega,by omega⟩
theorem HM.shade {R : List Rw} {ws C G C' G' : List Int} {N W : Int} {L D Q Q' : List PV} {z z' : ByteArray} {ph a : Int} {ov ov' : Bool} (h : HM R ws C G N W L D Q z) (hs : (C',G',ov') = shade R ph a (C,G,ov)) (hQ : Q' = ipv C') (hz : z' = ⟨(enc G').toArray⟩) : HM R ws C' G' N W L D Q' z' := by
 unfold Go.Proofs.YtmckfhnijeiklaaGreatDoor.shade at hs
 split at hs
 ·rename_i hc
  have hb := obj_bd h.a hc.2.1
  have hn := h.n; have hw := h.w
  split at hs
  ·rename_i h8
   have h8 : G.length < 8 := h8
   have hl8 : (G ++ [a]).length ≤ 8 := by rw [List.length_append]; show G.length + 1 ≤ 8; omega
   cases hs
   refine ⟨h.a,h.k,h.n,h.r,h.w,h.l,h.d,hQ,by rw [List.length_set]; exact h.c,hz,fun x hx => ?_,hl8⟩
   rcases List.mem_append.1 hx with hx | hx
   ·exact h.g x hx
   ·rw [List.mem_singleton.1 hx]; omega
  ·cases hs
   exact ⟨h.a,h.k,h.n,h.r,h.w,h.l,h.d,hQ,by rw [List.length_set]; exact h.c,hz,h.g,h.g8⟩
 ·cases hs
  exact ⟨h.a,h.k,h.n,h.r,h.w,h.l,h.d,hQ,h.c,hz,h.g,h.g8⟩
theorem ipv_set (l : List Int) (i : Nat) (x : Int) : (ipv l).set i (.int .i64 (.sym x)) = ipv (l.set i x) := by
 unfold ipv
 rw [List.map_set]
theorem arena_lx (R : List Rw) (ws C G : List Int) (N W ph sp cy : Int) (L D Q : List PV) (z : ByteArray) (ov : Bool) : CallF (fun _ => Tryz.prog) 7 [.ptr 0 (.lit 0)] [hpA 0 1 5 6 3 W ph sp cy,hpB 1 2 4 3 W,hpC 2 3 127 2 N,hpP 3 L,hpP 4 D,hpF 5 z ov,hpP 6 Q] 7 (fun r h n => r = .ptr 1 (.lit 0) ∧ h = [hpA 0 1 5 6 3 W ph sp cy,hpB 1 2 4 3 W,hpC 2 3 127 2 N,hpP 3 L,hpP 4 D,hpF 5 z ov,hpP 6 Q] ∧ n = 7) := by
 refine callF_of_body tok Tryz.func7 (by kernel_rfl) rfl rfl rfl ?_; conv => cbv
 refine RetF.mk [.ptr 1 (.lit 0)] [hpA 0 1 5 6 3 W ph sp cy,hpB 1 2 4 3 W,hpC 2 3 127 2 N,hpP 3 L,hpP 4 D,hpF 5 z ov,hpP 6 Q] 7 (Re.at [(0,0),(1,1),(2,2),(3,3),(4,4),(5,5),(6,6)] []) rfl ⟨rfl,rfl,rfl⟩
theorem phase_lx (R : List Rw) (ws C G : List Int) (N W ph sp cy : Int) (L D Q : List PV) (z : ByteArray) (ov : Bool) : CallF (fun _ => Tryz.prog) 12 [.ptr 0 (.lit 0)] [hpA 0 1 5 6 3 W ph sp cy,hpB 1 2 4 3 W,hpC 2 3 127 2 N,hpP 3 L,hpP 4 D,hpF 5 z ov,hpP 6 Q] 7 (fun r h n => r = .p (.int .i64 (.sym ph)) ∧ h = [hpA 0 1 5 6 3 W ph sp cy,hpB 1 2 4 3 W,hpC 2 3 127 2 N,hpP 3 L,hpP 4 D,hpF 5 z ov,hpP 6 Q] ∧ n = 7) := by
 refine callF_of_body tok Tryz.func12 (by kernel_rfl) rfl rfl rfl ?_; conv => cbv
 refine RetF.mk [i6 ph] [hpA 0 1 5 6 3 W ph sp cy,hpB 1 2 4 3 W,hpC 2 3 127 2 N,hpP 3 L,hpP 4 D,hpF 5 z ov,hpP 6 Q] 7 (Re.at [(0,0),(1,1),(2,2),(3,3),(4,4),(5,5),(6,6)] []) rfl ⟨rfl,rfl,rfl⟩
theorem is_lx (R : List Rw) (ws C G : List Int) (N W ph sp cy : Int) (L D Q : List PV) (z : ByteArray) (ov : Bool) (h : HM R ws C G N W L D Q z) (a c : Int) : CallF (fun _ => Tryz.prog) 73 [.ptr 0 (.lit 0),i6 a,i6 c] [hpA 0 1 5 6 3 W ph sp cy,hpB 1 2 4 3 W,hpC 2 3 127 2 N,hpP 3 L,hpP 4 D,hpF 5 z ov,hpP 6 Q] 7 (fun r h n => ∃ b : Bool,r = .p (.bool b) ∧ h = [hpA 0 1 5 6 3 W ph sp cy,hpB 1 2 4 3 W,hpC 2 3 127 2 N,hpP 3 L,hpP 4 D,hpF 5 z ov,hpP 6 Q] ∧ n = 7 ∧ (b = true ↔ a ∈ objs R ∧ C[a.toNat]? = some c)) := by
 have hCl := h.c; have hWn := h.w; have hNr := h.n
 have hQl : Q.length = C.length := by rw [h.q,ipv_length]
 refine callF_of_body tok Tryz.func73 (by kernel_rfl) rfl rfl rfl ?_; conv => cbv
 refine cfr (arena_lx R ws C G N W ph sp cy L D Q z ov) [(0,0),(1,1),(2,2),(3,3),(4,4),(5,5),(6,6)] (fun r h' n' ⟨e1,e2,e3⟩ => ?_)
 subst e1 e2 e3
 conv => cbv
 refine cfr (kind_lx R ws N a W L D h.l h.d h.n h.r h.a h.w) [(0,1),(1,2),(2,3),(3,4)] (fun r h' n' hrr => ?_)
 obtain ⟨v,e1,e2,e3,hv⟩ := hrr
 subst e1 e2 e3
 conv => cbv
 refine Br.mk (fun g => ?_) (fun g => ?_)
 ·have g : v ≠ 0 := g
  obtain ⟨l,hk⟩ : ∃ l,Kept R ws a v l := by
   cases hv with
   | no hn => exact absurd rfl g
   | is k l hk => exact ⟨l,hk⟩
  have hb := hk.bounds h.a
  have ho : a ∈ objs R := (obj_iff h.a a).2 hk.obj6
  obtain ⟨x,hx⟩ : ∃ x,C[a.toNat]? = some x := ⟨_,List.getElem?_eq_getElem (by omega)⟩
  have hq : Q[a.toNat]? = some (.int .i64 (.sym x)) := by rw [h.q]; exact ipv_get hx
  conv => cbv
  refine Need.mk ⟨by show 0 ≤ a; omega,by show a < W; omega⟩ ?_
  conv => cbv
  refine Cell.at a _ hq (by simp [I.val]) rfl ?_
  conv => cbv
  refine Br.mk (fun g2 => ?_) (fun g2 => ?_)
  ·have g2 : x = c := g2
   conv => cbv
   refine RetF.mk [.p (.bool true)] [hpA 0 1 5 6 3 W ph sp cy,hpB 1 2 4 3 W,hpC 2 3 127 2 N,hpP 3 L,hpP 4 D,hpF 5 z ov,hpP 6 Q] 7 (Re.at [(0,0),(1,1),(2,2),(3,3),(4,4),(5,5),(6,6)] []) rfl ⟨true,rfl,rfl,rfl,fun _ => ⟨ho,by rw [hx,g2]⟩,fun _ => rfl⟩
  ·have g2 : ¬ x = c := g2
   conv => cbv
   refine RetF.mk [.p (.bool false)] [hpA 0 1 5 6 3 W ph sp cy,hpB 1 2 4 3 W,hpC 2 3 127 2 N,hpP 3 L,hpP 4 D,hpF 5 z ov,hpP 6 Q] 7 (Re.at [(0,0),(1,1),(2,2),(3,3),(4,4),(5,5),(6,6)] []) rfl ⟨false,rfl,rfl,rfl,fun k => (by cases k),fun h => absurd (Option.some.inj (hx.symm.trans h.2)) g2⟩
 ·have g : ¬ v ≠ 0 := g
  have hno : ¬ a ∈ objs R := by
   intro ho
   cases hv with
   | no hn => exact hn ((obj_iff h.a a).1 ho)
   | is k l hk => have := h.k a v l hk; omega
  conv => cbv
  refine RetF.mk [.p (.bool false)] [hpA 0 1 5 6 3 W ph sp cy,hpB 1 2 4 3 W,hpC 2 3 127 2 N,hpP 3 L,hpP 4 D,hpF 5 z ov,hpP 6 Q] 7 (Re.at [(0,0),(1,1),(2,2),(3,3),(4,4),(5,5),(6,6)] []) rfl ⟨false,rfl,rfl,rfl,fun k => (by cases k),fun h => absurd h.1 hno⟩
theorem shade_lx (R : List Rw) (ws C G : List Int) (N W ph sp cy : Int) (L D Q : List PV) (z : ByteArray) (ov : Bool) (h : HM R ws C G N W L D Q z) (o : Unit → Obj) (ho : IsPow o) (a : Int) : CallF (fun _ => Tryz.prog) 35 [.ptr 0 (.lit 0),i6 a] [hpA 0 1 5 6 3 W ph sp cy,hpB 1 2 4 3 W,hpC 2 3 127 2 N,hpP 3 L,hpP 4 D,hpF 5 z ov,hpP 6 Q,(7,.fix 0 o)] 8 (fun r h n => ∃ (C' G' : List Int) (ov' : Bool) (Q' : List PV) (z' : ByteArray),r = .tup [] ∧ h = [hpA 0 1 5 6 3 W ph sp cy,hpB 1 2 4 3 W,hpC 2 3 127 2 N,hpP 3 L,hpP 4 D,hpF 5 z' ov',hpP 6 Q',(7,.fix 0 o)] ∧ n = 8 ∧ HM R ws C' G' N W L D Q' z' ∧ (C',G',ov') = shade R ph a (C,G,ov)) := by
 have hCl := h.c; have hWn := h.w; have hNr := h.n; have hRr := h.r
 have hQl : Q.length = C.length := by rw [h.q,ipv_length]
 refine callF_of_body tok Tryz.func35 (by kernel_rfl) rfl rfl rfl ?_; conv => cbv
 refine cfr (phase_lx R ws C G N W ph sp cy L D Q z ov) [(0,0),(1,1),(2,2),(3,3),(4,4),(5,5),(6,6)] (fun r h' n' ⟨e1,e2,e3⟩ => ?_)
 subst e1 e2 e3
 conv => cbv
 refine Br.mk (fun g => ?_) (fun g => ?_)
 ·have g : ph ≠ 1 := g
  conv => cbv
  refine RetF.mk [] [hpA 0 1 5 6 3 W ph sp cy,hpB 1 2 4 3 W,hpC 2 3 127 2 N,hpP 3 L,hpP 4 D,hpF 5 z ov,hpP 6 Q,(7,.fix 0 o)] 8 (Re.at [(0,0),(1,1),(2,2),(3,3),(4,4),(5,5),(6,6),(7,7)] []) rfl ⟨C,G,ov,Q,z,rfl,rfl,rfl,h,by unfold Go.Proofs.YtmckfhnijeiklaaGreatDoor.shade; rw [if_neg (fun k => g k.1)]⟩
 ·have g : ¬ ph ≠ 1 := g
  have g : ph = 1 := by omega
  conv => cbv
  refine CallF.le (args0 := [.ptr 0 (.lit 0),i6 a,i6 0]) (cfr (is_lx R ws C G N W ph sp cy L D Q z ov h a 0) [(0,0),(1,1),(2,2),(3,3),(4,4),(5,5),(6,6)] (fun r h' n' hrr => ?_)) (by simp [ales,ale,pvle,I.val])
  obtain ⟨b,e1,e2,e3,hb⟩ := hrr
  subst e1 e2 e3
  cases b with
  | false =>
   conv => cbv
   refine RetF.mk [] [hpA 0 1 5 6 3 W ph sp cy,hpB 1 2 4 3 W,hpC 2 3 127 2 N,hpP 3 L,hpP 4 D,hpF 5 z ov,hpP 6 Q,(7,.fix 0 o)] 8 (Re.at [(0,0),(1,1),(2,2),(3,3),(4,4),(5,5),(6,6),(7,7)] []) rfl ⟨C,G,ov,Q,z,rfl,rfl,rfl,h,by unfold Go.Proofs.YtmckfhnijeiklaaGreatDoor.shade; rw [if_neg (fun k => by have := hb.2 k.2; cases this)]⟩
  | true =>
   have hbd := obj_bd h.a (hb.1 rfl).1
   conv => cbv
   refine Need.mk ⟨by show 0 ≤ a; omega,by show a < W; omega⟩ ?_
   conv => cbv
   refine Need.mk (by show a + 1 ≤ (Q.length : Int); omega) ?_
   conv => cbv
   refine Upd.mk fun Q2 hQ2 => ?_
   obtain ⟨Q3,hQ3⟩ : ∃ Q3,Q3 = ipv (C.set a.toNat 1) := ⟨_,rfl⟩
   have hle : pvles Q2 Q3 := by
    have hQ2 : Q2 = Q.set a.toNat (.int .i64 (.lit 1)) := hQ2
    rw [hQ2,hQ3,h.q,← ipv_set]
    exact pvles_set _ _ _ _ _ (pvles_refl _) (by simp [pvle,I.val])
   unfold pvles at hle
   clear hQ2
   conv => cbv
   refine cfr (greyPush_lx G a z ov o ho h.z h.g64 h.g8 ⟨by omega,by omega⟩) [(0,7),(1,5)] (fun r h' n' hrr => ?_)
   obtain ⟨b2,ov',z',G',e1,e2,e3,hz',hp1,hp2⟩ := hrr
   subst e1 e2 e3
   have hsh : (C.set a.toNat 1,G',ov') = Go.Proofs.YtmckfhnijeiklaaGreatDoor.shade R ph a (C,G,ov) := by
    unfold Go.Proofs.YtmckfhnijeiklaaGreatDoor.shade
    rw [if_pos ⟨g,hb.1 rfl⟩]
    dsimp only
    split
    ·obtain ⟨_,q1,q2⟩ := hp1 (by assumption)
     rw [q1,q2]
    ·obtain ⟨_,q1,q2⟩ := hp2 (by omega)
     rw [q1,q2]
   conv => cbv
   refine RetF.mk [] [hpA 0 1 5 6 3 W ph sp cy,hpB 1 2 4 3 W,hpC 2 3 127 2 N,hpP 3 L,hpP 4 D,hpF 5 z' ov',hpP 6 Q3,(7,.fix 0 o)] 8 (Re.at [(0,0),(1,1),(2,2),(3,3),(4,4),(5,5),(6,6),(7,7)] []) rfl ⟨_,G',ov',Q3,z',rfl,rfl,rfl,h.shade hsh hQ3 hz',hsh⟩
def shadeW (R : List Rw) (ph w : Int) (s : List Int × List Int × Bool) : List Int × List Int × Bool := if w % 2 = 1 then shade R ph ((w - 1) / 2) s else s
theorem shadeWord_lx (R : List Rw) (ws C G : List Int) (N W ph sp cy : Int) (L D Q : List PV) (z : ByteArray) (ov : Bool) (h : HM R ws C G N W L D Q z) (o : Unit → Obj) (ho : IsPow o) (w : Int) (hw : -9223372036854775808 ≤ w ∧ w ≤ 9223372036854775807) : CallF (fun _ => Tryz.prog) 34 [.ptr 0 (.lit 0),i6 w] [hpA 0 1 5 6 3 W ph sp cy,hpB 1 2 4 3 W,hpC 2 3 127 2 N,hpP 3 L,hpP 4 D,hpF 5 z ov,hpP 6 Q,(7,.fix 0 o)] 8 (fun r h n => ∃ (C' G' : List Int) (ov' : Bool) (Q' : List PV) (z' : ByteArray),r = .tup [] ∧ h = [hpA 0 1 5 6 3 W ph sp cy,hpB 1 2 4 3 W,hpC 2 3 127 2 N,hpP 3 L,hpP 4 D,hpF 5 z' ov',hpP 6 Q',(7,.fix 0 o)] ∧ n = 8 ∧ HM R ws C' G' N W L D Q' z' ∧ (C',G',ov') = shadeW R ph w (C,G,ov)) := by
 refine callF_of_body tok Tryz.func34 (by kernel_rfl) rfl rfl rfl ?_; conv => cbv
 refine callF_frame (isPtr_lx w hw) [] rfl trivial rfl rfl (fun r h' n' hrr => ?_)
 obtain ⟨b,e1,e2,e3,hb⟩ := hrr
 subst e1 e2 e3
 cases b with
 | false =>
  have hb : ¬ w % 2 = 1 := fun k => by have := hb.2 k; cases this
  conv => cbv
  refine RetF.mk [] [hpA 0 1 5 6 3 W ph sp cy,hpB 1 2 4 3 W,hpC 2 3 127 2 N,hpP 3 L,hpP 4 D,hpF 5 z ov,hpP 6 Q,(7,.fix 0 o)] 8 (Re.at [(0,0),(1,1),(2,2),(3,3),(4,4),(5,5),(6,6),(7,7)] []) rfl ⟨C,G,ov,Q,z,rfl,rfl,rfl,h,by unfold shadeW; rw [if_neg (by omega)]⟩
 | true =>
  have hb : w % 2 = 1 := hb.1 rfl
  conv => cbv
  refine callF_frame (atV_lx w hw) [] rfl trivial rfl rfl (fun r h' n' hrr => ?_)
  obtain ⟨x,e1,e2,e3,hx⟩ := hrr
  subst e1 e2 e3
  have hx : x = (w - 1) / 2 := hx.1 hb
  conv => cbv
  refine cfr (shade_lx R ws C G N W ph sp cy L D Q z ov h o ho x) [(0,0),(1,1),(2,2),(3,3),(4,4),(5,5),(6,6),(7,7)] (fun r h' n' hrr => ?_)
  obtain ⟨C',G',ov',Q',z',e1,e2,e3,h2,hs⟩ := hrr
  subst e1 e2 e3
  conv => cbv
  refine RetF.mk [] [hpA 0 1 5 6 3 W ph sp cy,hpB 1 2 4 3 W,hpC 2 3 127 2 N,hpP 3 L,hpP 4 D,hpF 5 z' ov',hpP 6 Q',(7,.fix 0 o)] 8 (Re.at [(0,0),(1,1),(2,2),(3,3),(4,4),(5,5),(6,6),(7,7)] []) rfl ⟨C',G',ov',Q',z',rfl,rfl,rfl,h2,by unfold shadeW; rw [if_pos hb,← hx]; exact hs⟩
def Wrds (R : List Rw) (ws : List Int) (a : Int) (X : List Int) : Prop := LenR R ws a X.length ∧ ∀ (i : Nat) (x : Int),X[i]? = some x → Loaded R ws a i x 0
theorem Kept.det9 {R : List Rw} {ws : List Int} {a k l k' l' : Int} (h : Kept R ws a k l) (h' : Kept R ws a k' l') : k = k' ∧ l = l' := by
 obtain ⟨w,_,h1,h2,h3,h4,h5⟩ := h
 obtain ⟨w',_,k1,k2,k3,k4,k5⟩ := h'
 rw [h1] at k1
 have := Option.some.inj k1
 omega
theorem wrds_ex {R : List Rw} {ws : List Int} {a l : Int} (hA : AOk R ws) (h : LenR R ws a l) : ∃ X,Wrds R ws a X ∧ l = X.length ∧ X.length ≤ 31 := by
 cases h with
 | no hn => exact ⟨[],⟨.no hn,fun i x hx => by simp at hx⟩,rfl,by simp⟩
 | is k l hk =>
  have hb := hk.bounds hA
  have hlen := hA.len
  refine ⟨(ws.drop (a + 1).toNat).take l.toNat,⟨?_,fun i x hx => ?_⟩,?_,?_⟩
  ·have : (((ws.drop (a + 1).toNat).take l.toNat).length : Int) = l := by rw [List.length_take,List.length_drop]; omega
   rw [this]; exact .is k l hk
  ·rw [List.getElem?_take] at hx
   split at hx
   ·rw [List.getElem?_drop] at hx
    refine .ok k l x hk ⟨by omega,by omega⟩ ?_
    rw [show (a + 1 + (i : Int)).toNat = (a + 1).toNat + i by omega]; exact hx
   ·cases hx
  ·rw [List.length_take,List.length_drop]; omega
  ·rw [List.length_take]; omega
theorem loaded_det {R : List Rw} {ws : List Int} {a i x e y f : Int} (h : Loaded R ws a i x e) (h' : Loaded R ws a i y f) : x = y ∧ e = f := by
 cases h with
 | none hn => cases h' with
  | none _ => exact ⟨rfl,rfl⟩
  | arg k l hk _ => exact absurd hk.obj6 hn
  | ok k l x hk _ _ => exact absurd hk.obj6 hn
 | arg k l hk hi => cases h' with
  | none hn => exact absurd hk.obj6 hn
  | arg _ _ _ _ => exact ⟨rfl,rfl⟩
  | ok k' l' x hk' hi' _ => obtain ⟨_,rfl⟩ := hk.det9 hk'; exact absurd hi' hi
 | ok k l x hk hi hx => cases h' with
  | none hn => exact absurd hk.obj6 hn
  | arg k' l' hk' hi' => obtain ⟨_,rfl⟩ := hk.det9 hk'; exact absurd hi hi'
  | ok k' l' y hk' hi' hy => rw [hx] at hy; exact ⟨Option.some.inj hy,rfl⟩
theorem Wrds.bd {R : List Rw} {ws X : List Int} {a : Int} (hA : AOk R ws) (h : Wrds R ws a X) : ∀ x ∈ X,-9223372036854775808 ≤ x ∧ x ≤ 9223372036854775807 := by
 intro x hx
 obtain ⟨i,hi⟩ := List.getElem?_of_mem hx
 cases h.2 i x hi with
 | ok k l _ hk hi hx => exact hA.bd x (List.mem_of_getElem? hx)
theorem load9_lx (R : List Rw) (ws C G : List Int) (N W ph sp cy : Int) (L D Q : List PV) (z : ByteArray) (ov : Bool) (h : HM R ws C G N W L D Q z) (a i : Int) : CallF (fun _ => Tryz.prog) 93 [.ptr 0 (.lit 0),i6 a,i6 i] [hpA 0 1 5 6 3 W ph sp cy,hpB 1 2 4 3 W,hpC 2 3 127 2 N,hpP 3 L,hpP 4 D,hpF 5 z ov,hpP 6 Q] 7 (fun r h n => ∃ x e : Int,r = .tup [i6 x,i6 e] ∧ h = [hpA 0 1 5 6 3 W ph sp cy,hpB 1 2 4 3 W,hpC 2 3 127 2 N,hpP 3 L,hpP 4 D,hpF 5 z ov,hpP 6 Q] ∧ n = 7 ∧ Loaded R ws a i x e) := by
 refine callF_of_body tok Tryz.func93 (by kernel_rfl) rfl rfl rfl ?_; conv => cbv
 refine cfr (arena_lx R ws C G N W ph sp cy L D Q z ov) [(0,0),(1,1),(2,2),(3,3),(4,4),(5,5),(6,6)] (fun r h' n' ⟨e1,e2,e3⟩ => ?_)
 subst e1 e2 e3
 conv => cbv
 refine cfr (load_lx i R ws N a W L D h.l h.d h.n h.r h.a h.w) [(0,1),(1,2),(2,3),(3,4)] (fun r h' n' hrr => ?_)
 obtain ⟨x,e,e1,e2,e3,hx⟩ := hrr
 subst e1 e2 e3
 conv => cbv
 refine RetF.mk [i6 x,i6 e] [hpA 0 1 5 6 3 W ph sp cy,hpB 1 2 4 3 W,hpC 2 3 127 2 N,hpP 3 L,hpP 4 D,hpF 5 z ov,hpP 6 Q] 7 (Re.at [(0,0),(1,1),(2,2),(3,3),(4,4),(5,5),(6,6)] []) rfl ⟨x,e,rfl,rfl,rfl,hx⟩
theorem colour_lx (R : List Rw) (ws C G : List Int) (N W ph sp cy : Int) (L D Q : List PV) (z : ByteArray) (ov : Bool) (h : HM R ws C G N W L D Q z) (a : Int) : CallF (fun _ => Tryz.prog) 27 [.ptr 0 (.lit 0),i6 a] [hpA 0 1 5 6 3 W ph sp cy,hpB 1 2 4 3 W,hpC 2 3 127 2 N,hpP 3 L,hpP 4 D,hpF 5 z ov,hpP 6 Q] 7 (fun r h n => ∃ c : Int,r = .p (.int .i64 (.sym c)) ∧ h = [hpA 0 1 5 6 3 W ph sp cy,hpB 1 2 4 3 W,hpC 2 3 127 2 N,hpP 3 L,hpP 4 D,hpF 5 z ov,hpP 6 Q] ∧ n = 7 ∧ (a ∈ objs R → C[a.toNat]? = some c) ∧ (¬ a ∈ objs R → c = 0)) := by
 have hCl := h.c; have hWn := h.w; have hNr := h.n
 have hQl : Q.length = C.length := by rw [h.q,ipv_length]
 refine callF_of_body tok Tryz.func27 (by kernel_rfl) rfl rfl rfl ?_; conv => cbv
 refine cfr (arena_lx R ws C G N W ph sp cy L D Q z ov) [(0,0),(1,1),(2,2),(3,3),(4,4),(5,5),(6,6)] (fun r h' n' ⟨e1,e2,e3⟩ => ?_)
 subst e1 e2 e3
 conv => cbv
 refine cfr (kind_lx R ws N a W L D h.l h.d h.n h.r h.a h.w) [(0,1),(1,2),(2,3),(3,4)] (fun r h' n' hrr => ?_)
 obtain ⟨v,e1,e2,e3,hv⟩ := hrr
 subst e1 e2 e3
 conv => cbv
 refine Br.mk (fun g => ?_) (fun g => ?_)
 ·have g : v = 0 := g
  have hno : ¬ a ∈ objs R := by
   intro ho
   cases hv with
   | no hn => exact hn ((obj_iff h.a a).1 ho)
   | is k l hk => have := h.k a v l hk; omega
  conv => cbv
  refine RetF.mk [i6 0] [hpA 0 1 5 6 3 W ph sp cy,hpB 1 2 4 3 W,hpC 2 3 127 2 N,hpP 3 L,hpP 4 D,hpF 5 z ov,hpP 6 Q] 7 (Re.at [(0,0),(1,1),(2,2),(3,3),(4,4),(5,5),(6,6)] []) rfl ⟨0,rfl,rfl,rfl,fun k => absurd k hno,fun _ => rfl⟩
 ·have g : ¬ v = 0 := g
  obtain ⟨l,hk⟩ : ∃ l,Kept R ws a v l := by
   cases hv with
   | no hn => exact absurd rfl g
   | is k l hk => exact ⟨l,hk⟩
  have hb := hk.bounds h.a
  have ho : a ∈ objs R := (obj_iff h.a a).2 hk.obj6
  obtain ⟨x,hx⟩ : ∃ x,C[a.toNat]? = some x := ⟨_,List.getElem?_eq_getElem (by omega)⟩
  have hq : Q[a.toNat]? = some (.int .i64 (.sym x)) := by rw [h.q]; exact ipv_get hx
  conv => cbv
  refine Need.mk ⟨by show 0 ≤ a; omega,by show a < W; omega⟩ ?_
  conv => cbv
  refine Cell.at a _ hq (by simp [I.val]) rfl ?_
  conv => cbv
  refine RetF.mk [i6 x] [hpA 0 1 5 6 3 W ph sp cy,hpB 1 2 4 3 W,hpC 2 3 127 2 N,hpP 3 L,hpP 4 D,hpF 5 z ov,hpP 6 Q] 7 (Re.at [(0,0),(1,1),(2,2),(3,3),(4,4),(5,5),(6,6)] []) rfl ⟨x,rfl,rfl,rfl,fun _ => hx,fun k => absurd ho k⟩
def storeS (R : List Rw) (ph e x : Int) (s : List Int × List Int × Bool) : List Int × List Int × Bool := if e = 0 then shadeW R ph x s else s
theorem K1.stored {R : List Rw} {ws ws' : List Int} {a i x e : Int} (hA : AOk R ws) (hk : K1 R ws) (h : Stored R ws a i x e ws') : K1 R ws' := by
 cases h with
 | none _ => exact hk
 | arg _ _ _ _ => exact hk
 | ok k l hka hi =>
  intro b k' l' hb
  have hbn := hka.bounds hA
  obtain ⟨w,q1,q2,q3,q4,q5,q6⟩ := hb
  have hne : (a + 1 + i).toNat ≠ b.toNat := by
   obtain ⟨wa,p1,p2,p3,p4,p5,p6⟩ := hka
   have := within_not hA.rows p1 q1 (j := a + 1 + i) (by omega) (by omega)
   have := q1.facts hA.rows
   omega
  rw [List.getElem?_set_ne hne] at q2
  exact hk b k' l' (.mk k' l' w q1 q2 q3 q4 q5 q6)
theorem HM.stored {R : List Rw} {ws ws' C G : List Int} {N W : Int} {L D D' Q : List PV} {z : ByteArray} {a i x e : Int} (h : HM R ws C G N W L D Q z) (hx : -9223372036854775808 ≤ x ∧ x ≤ 9223372036854775807) (hs : Stored R ws a i x e ws') (hD : D' = ipv ws') : HM R ws' C G N W L D' Q z :=
 ⟨h.a.stored hx hs,h.k.stored h.a hs,h.n,h.r,h.w,h.l,hD,h.q,h.c,h.z,h.g,h.g8⟩
theorem store9_lx (R : List Rw) (ws C G : List Int) (N W ph sp cy : Int) (L D Q : List PV) (z : ByteArray) (ov : Bool) (h : HM R ws C G N W L D Q z) (o : Unit → Obj) (ho : IsPow o) (a i x : Int) (hx : -9223372036854775808 ≤ x ∧ x ≤ 9223372036854775807) : CallF (fun _ => Tryz.prog) 9 [.ptr 0 (.lit 0),i6 a,i6 i,i6 x] [hpA 0 1 5 6 3 W ph sp cy,hpB 1 2 4 3 W,hpC 2 3 127 2 N,hpP 3 L,hpP 4 D,hpF 5 z ov,hpP 6 Q,(7,.fix 0 o)] 8 (fun r h n => ∃ (e : Int) (ws' C' G' : List Int) (ov' : Bool) (D' Q' : List PV) (z' : ByteArray),r = .p (.int .i64 (.sym e)) ∧ h = [hpA 0 1 5 6 3 W ph sp cy,hpB 1 2 4 3 W,hpC 2 3 127 2 N,hpP 3 L,hpP 4 D',hpF 5 z' ov',hpP 6 Q',(7,.fix 0 o)] ∧ n = 8 ∧ HM R ws' C' G' N W L D' Q' z' ∧ Stored R ws a i x e ws' ∧ (C',G',ov') = storeS R ph e x (C,G,ov)) := by
 refine callF_of_body tok Tryz.func9 (by kernel_rfl) rfl rfl rfl ?_; conv => cbv
 refine cfr (arena_lx R ws C G N W ph sp cy L D Q z ov) [(0,0),(1,1),(2,2),(3,3),(4,4),(5,5),(6,6)] (fun r h' n' ⟨e1,e2,e3⟩ => ?_)
 subst e1 e2 e3
 conv => cbv
 refine cfr (store_lx i x R ws N a W L D h.l h.d h.n h.r h.a h.w) [(0,1),(1,2),(2,3),(3,4)] (fun r h' n' hrr => ?_)
 obtain ⟨e,ws',D',e1,e2,e3,hD',hT⟩ := hrr
 subst e1 e2 e3
 conv => cbv
 have h2 := h.stored hx hT hD'
 refine Br.mk (fun g => ?_) (fun g => ?_)
 ·have g : e = 0 := g
  conv => cbv
  refine cfr (shadeWord_lx R ws' C G N W ph sp cy L D' Q z ov h2 o ho x hx) [(0,0),(1,1),(2,2),(3,3),(4,4),(5,5),(6,6),(7,7)] (fun r h' n' hrr => ?_)
  obtain ⟨C',G',ov',Q',z',e1,e2,e3,h3,hs⟩ := hrr
  subst e1 e2 e3
  conv => cbv
  refine RetF.mk [i6 e] [hpA 0 1 5 6 3 W ph sp cy,hpB 1 2 4 3 W,hpC 2 3 127 2 N,hpP 3 L,hpP 4 D',hpF 5 z' ov',hpP 6 Q',(7,.fix 0 o)] 8 (Re.at [(0,0),(1,1),(2,2),(3,3),(4,4),(5,5),(6,6),(7,7)] []) rfl ⟨e,ws',C',G',ov',D',Q',z',rfl,rfl,rfl,h3,hT,by unfold storeS; rw [if_pos g]; exact hs⟩
 ·have g : ¬ e = 0 := g
  conv => cbv
  refine RetF.mk [i6 e] [hpA 0 1 5 6 3 W ph sp cy,hpB 1 2 4 3 W,hpC 2 3 127 2 N,hpP 3 L,hpP 4 D',hpF 5 z ov,hpP 6 Q,(7,.fix 0 o)] 8 (Re.at [(0,0),(1,1),(2,2),(3,3),(4,4),(5,5),(6,6),(7,7)] []) rfl ⟨e,ws',C,G,ov,D',Q,z,rfl,rfl,rfl,h2,hT,by unfold storeS; rw [if_neg g]⟩
end Go.Proofs.YtmckfhnijeiklaaGreatDoor
namespace Go.Proofs.YtmckfhnijeiklaaGreatDoor
open Go Go.LX
set_option maxRecDepth 100000
set_option linter.unusedVariables false
set_option maxHeartbeats 32000000
theorem ipv_getx (A : List Int) (i : Nat) : (ipv A)[i]? = A[i]?.map (fun z => PV.int .i64 (.sym z)) := by rw [ipv,List.getElem?_map]
end Go.Proofs.YtmckfhnijeiklaaGreatDoor
namespace Go.Proofs.YtmckfhnijeiklaaGreatDoor
open Go Go.LX
set_option maxRecDepth 100000
set_option linter.unusedVariables false
set_option linter.unusedSimpArgs false
set_option maxHeartbeats 32000000
theorem loaded_lx (R : List Rw) (ws C G : List Int) (N W ph sp cy : Int) (L D Q : List PV) (z : ByteArray) (ov : Bool) (h : HM R ws C G N W L D Q z) (a k l : Int) (hK : Kept R ws a k l) : CallF (fun _ => Tryz.prog) 99 [.ptr 0 (.lit 0),i6 a,i6 l] [hpA 0 1 5 6 3 W ph sp cy,hpB 1 2 4 3 W,hpC 2 3 127 2 N,hpP 3 L,hpP 4 D,hpF 5 z ov,hpP 6 Q] 7 (fun r h n => (∃ (X : List Int) (O : List PV),r = .p (.vsl (.sym l) true O) ∧ O = ipv X ∧ Wrds R ws a X ∧ (X.length : Int) = l) ∧ h = [hpA 0 1 5 6 3 W ph sp cy,hpB 1 2 4 3 W,hpC 2 3 127 2 N,hpP 3 L,hpP 4 D,hpF 5 z ov,hpP 6 Q] ∧ n = 7) := by
 have hb := hK.bounds h.a
 obtain ⟨X,hX,hlX,hX31⟩ := wrds_ex h.a (.is k l hK)
 obtain ⟨NX,hNX⟩ : ∃ NX : Int,NX = X.length := ⟨_,rfl⟩
 refine callF_of_body tok Tryz.func99 (by kernel_rfl) rfl rfl rfl ?_; conv => cbv
 refine Need.mk (show 0 ≤ l ∧ l ≤ l ∧ l * 8 ≤ 140737488355328 ∧ l ≤ 9223372036854775807 by omega) ?_
 conv => cbv
 refine Upd.mk fun O0 hO0 => ?_
 have hO0l : (O0.length : Int) = l := by rw [hO0,repsP_length]; show ((l.toNat * 1 : Nat) : Int) = l; omega
 clear hO0
 conv => cbv
 refine LoopF.mk (fun kk s => ∃ (i : Int) (O : List PV),s = ⟨.ptr 0 (.lit 0) :: .p (.int .i64 (.sym a)) :: (undefs 5 ++ .sl 7 3 1 (.lit 0) (.sym l) :: (undefs 2 ++ .sl 7 3 1 (.lit 0) (.sym l) :: .sl 7 3 1 (.lit 0) (.sym l) :: .p (.int .i64 (.sym l)) :: .p (.int .i64 (.sym i)) :: undefs 14)),[hpA 0 1 5 6 3 W ph sp cy,hpB 1 2 4 3 W,hpC 2 3 127 2 N,hpP 3 L,hpP 4 D,hpF 5 z ov,hpP 6 Q,hpP 7 O],8⟩ ∧ 0 ≤ i ∧ i ≤ l ∧ kk = (l - i).toNat ∧ O.length = O0.length ∧ (∀ (j : Nat) (x : Int),(j : Int) < i → X[j]? = some x → O[j]? = some (.int .i64 (.sym x)))) l.toNat _
  (Re.at [(0,0),(1,1),(2,2),(3,3),(4,4),(5,5),(6,6),(7,7)] []) ⟨0,O0,rfl,by omega,by omega,by omega,rfl,fun j x hj => absurd hj (by omega)⟩ ?_
 rintro kk s ⟨i,O,rfl,hi0,hi1,hkk,hOl,hO⟩
 conv => cbv
 refine Br.mk (fun gi => ?_) (fun gi => ?_)
 ·have gi : i < l := gi
  obtain ⟨x0,hx0⟩ : ∃ x0,X[i.toNat]? = some x0 := ⟨_,List.getElem?_eq_getElem (by omega)⟩
  have hld := hX.2 _ _ hx0
  rw [show ((i.toNat : Nat) : Int) = i by omega] at hld
  conv => cbv
  refine cfr (load9_lx R ws C G N W ph sp cy L D Q z ov h a i) [(0,0),(1,1),(2,2),(3,3),(4,4),(5,5),(6,6)] (fun r h' n' hrr => ?_)
  obtain ⟨x,e,e1,e2,e3,hx⟩ := hrr
  subst e1 e2 e3
  obtain ⟨rfl,rfl⟩ := loaded_det hx hld
  conv => cbv
  refine Need.mk (show 0 ≤ i ∧ i < l from ⟨hi0,gi⟩) ?_
  conv => cbv
  refine Need.mk (show i + 1 ≤ (O.length : Int) by omega) ?_
  conv => cbv
  refine Upd.mk fun O2 hO2 => ?_
  have hO2 : O2 = O.set i.toNat (.int .i64 (.sym x)) := hO2
  conv => cbv
  refine Fit.mk (by show (-9223372036854775808 : Int) ≤ i + 1; omega) (by show i + 1 ≤ 9223372036854775807; omega) fun i2 hi2 => ?_
  have hi2 : i2 = i + 1 := hi2
  conv => cbv
  refine Again.mk (l - i2).toNat _ (by omega) (Re.at [(0,0),(1,1),(2,2),(3,3),(4,4),(5,5),(6,6),(7,7)] []) ⟨i2,O2,rfl,by omega,by omega,rfl,by rw [hO2,List.length_set]; exact hOl,fun j y hj hy => ?_⟩
  have hj : (j : Int) < i2 := hj
  rw [hO2]
  by_cases e : i.toNat = j
  ·subst e
   rw [hx0] at hy
   obtain rfl := Option.some.inj hy
   exact List.getElem?_set_self (by omega)
  ·rw [List.getElem?_set_ne e]
   exact hO j y (by omega) hy
 ·have gi : ¬ i < l := gi
  obtain rfl : i = l := by omega
  have hOX : O = ipv X := by
   apply List.ext_getElem?
   intro j
   by_cases hj : (j : Int) < i
   ·obtain ⟨x,hx⟩ : ∃ x,X[j]? = some x := ⟨_,List.getElem?_eq_getElem (by omega)⟩
    rw [hO j x hj hx,ipv_getx,hx]; rfl
   ·rw [List.getElem?_eq_none (by omega),List.getElem?_eq_none (by rw [ipv_length]; omega)]
  conv => cbv
  refine RetF.mk [.p (.vsl (.sym i) true O)] [hpA 0 1 5 6 3 W ph sp cy,hpB 1 2 4 3 W,hpC 2 3 127 2 N,hpP 3 L,hpP 4 D,hpF 5 z ov,hpP 6 Q] 7 (Re.at [(0,0),(1,1),(2,2),(3,3),(4,4),(5,5),(6,6)] []) rfl ⟨⟨X,O,rfl,hOX,hX,hlX.symm⟩,rfl,rfl⟩
theorem verdict_lx (R : List Rw) (ws C G : List Int) (N W ph sp cy : Int) (L D Q : List PV) (z : ByteArray) (ov : Bool) (b : Bool) : CallF (fun _ => Tryz.prog) 63 [.ptr 0 (.lit 0),.p (.bool b)] [hpA 0 1 5 6 3 W ph sp cy,hpB 1 2 4 3 W,hpC 2 3 127 2 N,hpP 3 L,hpP 4 D,hpF 5 z ov,hpP 6 Q] 7 (fun r h n => (∃ e : Int,r = .p (.int .i64 (.sym e)) ∧ e = if b then 0 else 10) ∧ h = [hpA 0 1 5 6 3 W ph sp cy,hpB 1 2 4 3 W,hpC 2 3 127 2 N,hpP 3 L,hpP 4 D,hpF 5 z ov,hpP 6 Q] ∧ n = 7) := by
 cases b with
 | true =>
  refine callF_of_body tok Tryz.func63 (by kernel_rfl) rfl rfl rfl ?_; conv => cbv
  refine RetF.mk [i6 0] [hpA 0 1 5 6 3 W ph sp cy,hpB 1 2 4 3 W,hpC 2 3 127 2 N,hpP 3 L,hpP 4 D,hpF 5 z ov,hpP 6 Q] 7 (Re.at [(0,0),(1,1),(2,2),(3,3),(4,4),(5,5),(6,6)] []) rfl ⟨⟨0,rfl,rfl⟩,rfl,rfl⟩
 | false =>
  refine callF_of_body tok Tryz.func63 (by kernel_rfl) rfl rfl rfl ?_; conv => cbv
  refine RetF.mk [i6 10] [hpA 0 1 5 6 3 W ph sp cy,hpB 1 2 4 3 W,hpC 2 3 127 2 N,hpP 3 L,hpP 4 D,hpF 5 z ov,hpP 6 Q] 7 (Re.at [(0,0),(1,1),(2,2),(3,3),(4,4),(5,5),(6,6)] []) rfl ⟨⟨10,rfl,rfl⟩,rfl,rfl⟩
inductive SeeV (R : List Rw) (ws : List Int) (a : Int) : LV → Prop
 | chan (y0 y1 y2 y3 y4 y5 y6 y7 y8 : Int) (X : List Int) (h : Kept R ws a 1 9) (hX : Wrds R ws a X) (hy : [y0,y1,y2,y3,y4,y5,y6,y7,y8] = chanFs X) : SeeV R ws a (.iface 74 (.agg [i6 y0,i6 y1,i6 y2,i6 y3,i6 y4,i6 y5,i6 y6,i6 y7,i6 y8]))
 | sudog (y0 y1 y2 y3 y4 y5 y6 : Int) (X : List Int) (h : Kept R ws a 3 7) (hX : Wrds R ws a X) (hy : [y0,y1,y2,y3,y4,y5,y6] = sudogFs X) : SeeV R ws a (.iface 50 (.agg [i6 y0,i6 y1,i6 y2,i6 y3,i6 y4,i6 y5,i6 y6]))
 | gor (y0 y1 y2 y3 y4 y5 y6 y7 y8 y9 : Int) (X : List Int) (h : Kept R ws a 4 10) (hX : Wrds R ws a X) (hy : [y0,y1,y2,y3,y4,y5,y6,y7,y8,y9] = gorFs X) : SeeV R ws a (.iface 56 (.agg [i6 y0,i6 y1,i6 y2,i6 y3,i6 y4,i6 y5,i6 y6,i6 y7,i6 y8,i6 y9]))
 | unk (h1 : ¬ Kept R ws a 1 9) (h3 : ¬ Kept R ws a 3 7) (h4 : ¬ Kept R ws a 4 10) : SeeV R ws a (.iface 152 (.agg []))
theorem list7 {X : List Int} (h : X.length = 7) : ∃ x0 x1 x2 x3 x4 x5 x6 : Int,X = [x0,x1,x2,x3,x4,x5,x6] := by
 match X,h with
 | [x0,x1,x2,x3,x4,x5,x6],_ => exact ⟨x0,x1,x2,x3,x4,x5,x6,rfl⟩
theorem list9 {X : List Int} (h : X.length = 9) : ∃ x0 x1 x2 x3 x4 x5 x6 x7 x8 : Int,X = [x0,x1,x2,x3,x4,x5,x6,x7,x8] := by
 match X,h with
 | [x0,x1,x2,x3,x4,x5,x6,x7,x8],_ => exact ⟨x0,x1,x2,x3,x4,x5,x6,x7,x8,rfl⟩
theorem list10 {X : List Int} (h : X.length = 10) : ∃ x0 x1 x2 x3 x4 x5 x6 x7 x8 x9 : Int,X = [x0,x1,x2,x3,x4,x5,x6,x7,x8,x9] := by
 match X,h with
 | [x0,x1,x2,x3,x4,x5,x6,x7,x8,x9],_ => exact ⟨x0,x1,x2,x3,x4,x5,x6,x7,x8,x9,rfl⟩
theorem see_lx2 (R : List Rw) (ws C G : List Int) (N W ph sp cy : Int) (L D Q : List PV) (z : ByteArray) (ov : Bool) (h : HM R ws C G N W L D Q z) (a : Int) : CallF (fun _ => Tryz.prog) 62 [.ptr 0 (.lit 0),i6 a] [hpA 0 1 5 6 3 W ph sp cy,hpB 1 2 4 3 W,hpC 2 3 127 2 N,hpP 3 L,hpP 4 D,hpF 5 z ov,hpP 6 Q] 7 (fun r h n => SeeV R ws a r ∧ h = [hpA 0 1 5 6 3 W ph sp cy,hpB 1 2 4 3 W,hpC 2 3 127 2 N,hpP 3 L,hpP 4 D,hpF 5 z ov,hpP 6 Q] ∧ n = 7) := by
 refine callF_of_body tok Tryz.func62 (by kernel_rfl) rfl rfl rfl ?_; conv => cbv
 refine cfr (arena_lx R ws C G N W ph sp cy L D Q z ov) [(0,0),(1,1),(2,2),(3,3),(4,4),(5,5),(6,6)] (fun r h' n' ⟨e1,e2,e3⟩ => ?_)
 subst e1 e2 e3
 conv => cbv
 refine cfr (kind_lx R ws N a W L D h.l h.d h.n h.r h.a h.w) [(0,1),(1,2),(2,3),(3,4)] (fun r h' n' hrr => ?_)
 obtain ⟨v,e1,e2,e3,hv⟩ := hrr
 subst e1 e2 e3
 conv => cbv
 refine callF_frame (need_lx v) [] rfl trivial rfl rfl (fun r h' n' hrr => ?_)
 obtain ⟨⟨nd,b,e1,hnd,hb⟩,e2,e3⟩ := hrr
 subst e1 e2 e3
 cases b with
 | false =>
  have hno : ¬ hasV v := fun q => by have := hb.2 q; cases this
  conv => cbv
  refine RetF.mk [.iface 152 (.agg [])] [hpA 0 1 5 6 3 W ph sp cy,hpB 1 2 4 3 W,hpC 2 3 127 2 N,hpP 3 L,hpP 4 D,hpF 5 z ov,hpP 6 Q] 7 (Re.at [(0,0),(1,1),(2,2),(3,3),(4,4),(5,5),(6,6)] []) rfl ⟨.unk (fun k => hno ?_) (fun k => hno ?_) (fun k => hno ?_),rfl,rfl⟩
  ·rw [kindR_of6 k hv]; exact .inr (by decide)
  ·rw [kindR_of6 k hv]; exact .inr (by decide)
  ·rw [kindR_of6 k hv]; exact .inr (by decide)
 | true =>
  have hyes : hasV v := hb.1 rfl
  conv => cbv
  refine cfr (arena_lx R ws C G N W ph sp cy L D Q z ov) [(0,0),(1,1),(2,2),(3,3),(4,4),(5,5),(6,6)] (fun r h' n' ⟨e1,e2,e3⟩ => ?_)
  subst e1 e2 e3
  conv => cbv
  refine cfr (len_lx R ws N a W L D h.l h.d h.n h.r h.a h.w) [(0,1),(1,2),(2,3),(3,4)] (fun r h' n' hrr => ?_)
  obtain ⟨l,e1,e2,e3,hl⟩ := hrr
  subst e1 e2 e3
  conv => cbv
  refine Br.mk (fun g => ?_) (fun g => ?_)
  ·have g : ¬ l = nd := g
   conv => cbv
   refine RetF.mk [.iface 152 (.agg [])] [hpA 0 1 5 6 3 W ph sp cy,hpB 1 2 4 3 W,hpC 2 3 127 2 N,hpP 3 L,hpP 4 D,hpF 5 z ov,hpP 6 Q] 7 (Re.at [(0,0),(1,1),(2,2),(3,3),(4,4),(5,5),(6,6)] []) rfl ⟨.unk (fun k => g ?_) (fun k => g ?_) (fun k => g ?_),rfl,rfl⟩
   ·rw [hnd,kindR_of6 k hv,lenR_of6 k hl]; rfl
   ·rw [hnd,kindR_of6 k hv,lenR_of6 k hl]; rfl
   ·rw [hnd,kindR_of6 k hv,lenR_of6 k hl]; rfl
  ·have g : l = nd := Classical.byContradiction fun q => g q
   obtain ⟨k0,l0,hK⟩ : ∃ k l,Kept R ws a k l := by
    cases hv with
    | no hn => exfalso; unfold hasV at hyes; revert hyes; decide
    | is _ _ hK => exact ⟨_,_,hK⟩
   have hv0 := kindR_of6 hK hv
   have hl0 := lenR_of6 hK hl
   have hK : Kept R ws a v nd := by rw [hv0,← g,hl0]; exact hK
   clear hv0 hl0 hl hv
   conv => cbv
   refine cfr (loaded_lx R ws C G N W ph sp cy L D Q z ov h a v nd hK) [(0,0),(1,1),(2,2),(3,3),(4,4),(5,5),(6,6)] (fun r h' n' hrr => ?_)
   obtain ⟨⟨X,O,e1,hO,hX,hXl⟩,e2,e3⟩ := hrr
   subst e1 e2 e3
   have hXb := hX.bd h.a
   conv => cbv
   refine Br.mk (fun g1 => ?_) (fun g1 => ?_)
   ·have g1 : v = 1 := g1
    have hn9 : nd = 9 := by rw [hnd,g1]; rfl
    obtain ⟨x0,x1,x2,x3,x4,x5,x6,x7,x8,rfl⟩ := list9 (X := X) (by omega)
    conv => cbv
    refine CallF.le (args0 := [.p (.vsl (.lit 9) false [.int .i64 (.sym x0),.int .i64 (.sym x1),.int .i64 (.sym x2),.int .i64 (.sym x3),.int .i64 (.sym x4),.int .i64 (.sym x5),.int .i64 (.sym x6),.int .i64 (.sym x7),.int .i64 (.sym x8)])]) (callF_frame (chanOf_lx x0 x1 x2 x3 x4 x5 x6 x7 x8 hXb) [] rfl trivial rfl rfl (fun r h' n' hrr => ?_)) (by simp only [ales,ale,pvle,I.val]; exact ⟨⟨hn9,hO⟩,trivial⟩)
    obtain ⟨⟨y0,y1,y2,y3,y4,y5,y6,y7,y8,e1,hy⟩,e2,e3⟩ := hrr
    subst e1 e2 e3
    conv => cbv
    refine RetF.mk [.iface 74 (.agg [i6 y0,i6 y1,i6 y2,i6 y3,i6 y4,i6 y5,i6 y6,i6 y7,i6 y8])] [hpA 0 1 5 6 3 W ph sp cy,hpB 1 2 4 3 W,hpC 2 3 127 2 N,hpP 3 L,hpP 4 D,hpF 5 z ov,hpP 6 Q] 7 (Re.at [(0,0),(1,1),(2,2),(3,3),(4,4),(5,5),(6,6)] []) rfl ⟨.chan y0 y1 y2 y3 y4 y5 y6 y7 y8 _ (by rw [← hn9,← g1]; exact hK) hX hy,rfl,rfl⟩
   ·have g1 : ¬ v = 1 := g1
    conv => cbv
    refine Br.mk (fun g3 => ?_) (fun g3 => ?_)
    ·have g3 : v = 3 := g3
     have hn9 : nd = 7 := by rw [hnd,g3]; rfl
     obtain ⟨x0,x1,x2,x3,x4,x5,x6,rfl⟩ := list7 (X := X) (by omega)
     conv => cbv
     refine CallF.le (args0 := [.p (.vsl (.lit 7) false [.int .i64 (.sym x0),.int .i64 (.sym x1),.int .i64 (.sym x2),.int .i64 (.sym x3),.int .i64 (.sym x4),.int .i64 (.sym x5),.int .i64 (.sym x6)])]) (callF_frame (sudogOf_lx x0 x1 x2 x3 x4 x5 x6 hXb) [] rfl trivial rfl rfl (fun r h' n' hrr => ?_)) (by simp only [ales,ale,pvle,I.val]; exact ⟨⟨hn9,hO⟩,trivial⟩)
     obtain ⟨⟨y0,y1,y2,y3,y4,y5,y6,e1,hy⟩,e2,e3⟩ := hrr
     subst e1 e2 e3
     conv => cbv
     refine RetF.mk [.iface 50 (.agg [i6 y0,i6 y1,i6 y2,i6 y3,i6 y4,i6 y5,i6 y6])] [hpA 0 1 5 6 3 W ph sp cy,hpB 1 2 4 3 W,hpC 2 3 127 2 N,hpP 3 L,hpP 4 D,hpF 5 z ov,hpP 6 Q] 7 (Re.at [(0,0),(1,1),(2,2),(3,3),(4,4),(5,5),(6,6)] []) rfl ⟨.sudog y0 y1 y2 y3 y4 y5 y6 _ (by rw [← hn9,← g3]; exact hK) hX hy,rfl,rfl⟩
    ·have g3 : ¬ v = 3 := g3
     conv => cbv
     refine Br.mk (fun g4 => ?_) (fun g4 => ?_)
     ·have g4 : v = 4 := g4
      have hn9 : nd = 10 := by rw [hnd,g4]; rfl
      obtain ⟨x0,x1,x2,x3,x4,x5,x6,x7,x8,x9,rfl⟩ := list10 (X := X) (by omega)
      conv => cbv
      refine CallF.le (args0 := [.p (.vsl (.lit 10) false [.int .i64 (.sym x0),.int .i64 (.sym x1),.int .i64 (.sym x2),.int .i64 (.sym x3),.int .i64 (.sym x4),.int .i64 (.sym x5),.int .i64 (.sym x6),.int .i64 (.sym x7),.int .i64 (.sym x8),.int .i64 (.sym x9)])]) (callF_frame (gorOf_lx x0 x1 x2 x3 x4 x5 x6 x7 x8 x9 hXb) [] rfl trivial rfl rfl (fun r h' n' hrr => ?_)) (by simp only [ales,ale,pvle,I.val]; exact ⟨⟨hn9,hO⟩,trivial⟩)
      obtain ⟨⟨y0,y1,y2,y3,y4,y5,y6,y7,y8,y9,e1,hy⟩,e2,e3⟩ := hrr
      subst e1 e2 e3
      conv => cbv
      refine RetF.mk [.iface 56 (.agg [i6 y0,i6 y1,i6 y2,i6 y3,i6 y4,i6 y5,i6 y6,i6 y7,i6 y8,i6 y9])] [hpA 0 1 5 6 3 W ph sp cy,hpB 1 2 4 3 W,hpC 2 3 127 2 N,hpP 3 L,hpP 4 D,hpF 5 z ov,hpP 6 Q] 7 (Re.at [(0,0),(1,1),(2,2),(3,3),(4,4),(5,5),(6,6)] []) rfl ⟨.gor y0 y1 y2 y3 y4 y5 y6 y7 y8 y9 _ (by rw [← hn9,← g4]; exact hK) hX hy,rfl,rfl⟩
     ·have g4 : ¬ v = 4 := g4
      conv => cbv
      refine RetF.mk [.iface 152 (.agg [])] [hpA 0 1 5 6 3 W ph sp cy,hpB 1 2 4 3 W,hpC 2 3 127 2 N,hpP 3 L,hpP 4 D,hpF 5 z ov,hpP 6 Q] 7 (Re.at [(0,0),(1,1),(2,2),(3,3),(4,4),(5,5),(6,6)] []) rfl ⟨.unk (fun k => g1 (k.det9 hK).1.symm) (fun k => g3 (k.det9 hK).1.symm) (fun k => g4 (k.det9 hK).1.symm),rfl,rfl⟩
end Go.Proofs.YtmckfhnijeiklaaGreatDoor
