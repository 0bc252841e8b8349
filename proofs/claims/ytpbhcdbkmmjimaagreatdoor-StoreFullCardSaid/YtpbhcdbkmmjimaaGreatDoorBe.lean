/-
  The ground of the proof, part 5: the calculus and what is proved with it.
-/
import Derived.Test.YtpbhcdbkmmjimaaGreatDoorBd
import Derived.Lib.Repeat
import Derived.Lib.AtoiErrMem
import Derived.Lib.LaidTab
namespace Go.Proofs.YtpbhcdbkmmjimaaGreatDoor
open Go Go.LX
set_option maxRecDepth 100000
set_option linter.unusedVariables false
set_option linter.unusedSimpArgs false
set_option maxHeartbeats 32000000
abbrev Rw := Int × List Bool
def rpv : List Rw → List PV
 | [] => []
 | (c,l) :: R => .int .i64 (.sym c) :: .str (fun _ => ⟨(mkB l).toArray⟩) :: rpv R
theorem rpv_length : ∀ R : List Rw,(rpv R).length = 2 * R.length
 | [] => rfl
 | (c,l) :: R => by simp [rpv,rpv_length R]; omega
theorem rpv_get : ∀ (R : List Rw) (i : Nat) (e : Rw),R[i]? = some e → (rpv R)[2 * i]? = some (.int .i64 (.sym e.1)) ∧ (rpv R)[2 * i + 1]? = some (.str fun _ => ⟨(mkB e.2).toArray⟩)
 | [],i,e,h => by simp at h
 | (c,l) :: R,0,e,h => by simp at h; subst h; exact ⟨rfl,rfl⟩
 | (c,l) :: R,i + 1,e,h => by
  have := rpv_get R i e (by simpa using h)
  rw [show 2 * (i + 1) = 2 * i + 1 + 1 by omega]
  simpa [rpv] using this
theorem repeatL_dot : ∀ k,Lib.repeatL [46] k = mkB (List.replicate k false)
 | 0 => rfl
 | k + 1 => by rw [Lib.repeatL,repeatL_dot k,List.replicate_succ]; rfl
theorem repeat_lx (k : Nat) (z : ByteArray) (hz : z = ⟨(mkB (List.replicate k false)).toArray⟩) (hk : k ≤ 100) :
  CallF (fun _ => Tryz.prog) 151 [.p (.str fun _ => ⟨#[46]⟩),i6 k] [] 0 (fun r h n => r = .p (.str fun _ => z) ∧ h = [] ∧ n = 0) := by
 refine callF_calls (K := fun r => r = .p (.str fun _ => z)) ⟨_,_,Tryz.func151,by kernel_rfl,rfl⟩ fun c w xs hr hN hl hrel => ?_
 have h0 := hrel 0 _ rfl
 have h1 := hrel 1 _ rfl
 obtain ⟨x,y,rfl⟩ : ∃ x y,xs = #[x,y] := by
  rcases xs with ⟨l⟩
  match l,hl with
  | [x,y],_ => exact ⟨x,y,rfl⟩
 have hx : x = .string ⟨#[46]⟩ := LR.inv_str h0
 have hy : y = .int .i64 k := LR.inv_int h1
 subst hx hy
 refine (Tryz.strings_Repeat ⟨#[46]⟩ k w (by omega) (by show 1 * k ≤ _; omega)).mono fun e w' ⟨he,hw⟩ => ?_
 have hzz : (⟨(Lib.repeatL [46] k).toArray⟩ : ByteArray) = z := by rw [hz,repeatL_dot]
 have he : e = .returned (.string ⟨(Lib.repeatL [46] k).toArray⟩) := he
 rw [hzz] at he
 exact ⟨_,_,he,rfl,hw,fun c' => .p _ _ (.str _)⟩
theorem unusedRow_lx (c : Int) (z : ByteArray) (hz : z = ⟨(mkB (List.replicate (slotsOf c) false)).toArray⟩) : CallF (fun _ => Tryz.prog) 143 [i6 c] [] 0 (fun r h n => r = .agg [i6 c,.p (.str fun _ => z)] ∧ h = [] ∧ n = 0) := by
 obtain ⟨k,hk⟩ : ∃ k : Int,k = slotsOf c := ⟨_,rfl⟩
 have hk8 : slotsOf c ≤ 8 := by
  unfold slotsOf; split
  ·omega
  ·split
   ·omega
   ·split
    ·omega
    ·split <;> omega
 refine callF_of_body tok Tryz.func143 (by kernel_rfl) rfl rfl rfl ?_; conv => cbv
 refine callF_frame (slots_lx c k hk) [] rfl trivial rfl rfl (fun r h' n' ⟨e1,e2,e3⟩ => ?_)
 subst e1 e2 e3
 obtain ⟨q,hq⟩ : ∃ q,q = slotsOf c := ⟨_,rfl⟩
 rw [← hq] at hk hk8 hz
 subst hk
 conv => cbv
 refine callF_frame (repeat_lx q z hz (by omega)) [] rfl trivial rfl rfl (fun r h' n' ⟨e1,e2,e3⟩ => ?_)
 subst e1 e2 e3
 conv => cbv
 refine RetF.mk [.agg [i6 c,.p (.str fun _ => z)]] [] 0 (Re.at [] []) rfl ⟨rfl,rfl,rfl⟩
theorem spanNew_bad (n : Int) (hn : n < 2 ∨ 128 < n) : CallF (fun _ => Tryz.prog) 107 [i6 n] [] 0 (fun r h m => (∃ e : Int,r = .tup [.p .nilp,i6 e] ∧ e ≠ 0) ∧ h = [] ∧ m = 0) := by
 refine callF_of_body tok Tryz.func107 (by kernel_rfl) rfl rfl rfl ?_; conv => cbv
 refine Br.mk (fun g1 => ?_) (fun g1 => ?_)
 ·conv => cbv
  refine RetF.mk [.p .nilp,i6 1] [] 0 (Re.at [] []) rfl ⟨⟨1,rfl,by decide⟩,rfl,rfl⟩
 ·have g1 : ¬ n < 2 := g1
  conv => cbv
  refine Br.mk (fun g2 => ?_) (fun g2 => ?_)
  ·conv => cbv
   refine RetF.mk [.p .nilp,i6 1] [] 0 (Re.at [] []) rfl ⟨⟨1,rfl,by decide⟩,rfl,rfl⟩
  ·have g2 : ¬ 128 < n := g2
   have gf : False := by omega
   cases gf
theorem rpv_zero : ∀ k,pvles (repsP [.int .i64 (.lit 0),.str fun _ => ⟨#[]⟩] k) (rpv (List.replicate k (0,[])))
 | 0 => trivial
 | k + 1 => by
  rw [repsP,List.replicate_succ,rpv]
  exact ⟨by simp [pvle,I.val],SEq.mk rfl,rpv_zero k⟩
theorem spanNew_lx (n : Int) (h2 : 2 ≤ n) (h8 : n ≤ 128) (L : List PV) (hL : L = rpv (List.replicate n.toNat (0,[]))) : CallF (fun _ => Tryz.prog) 107 [i6 n] [] 0
  (fun r h m => r = .tup [.ptr 0 (.lit 0),.p (.int .i64 (.lit 0))] ∧ h = [hpC 0 1 137 2 n,hpP 1 L] ∧ m = 2) := by
 refine callF_of_body tok Tryz.func107 (by kernel_rfl) rfl rfl rfl ?_; conv => cbv
 refine Br.mk (fun g1 => ?_) (fun g1 => ?_)
 ·have gf : False := by have g1 : n < 2 := g1; omega
  cases gf
 ·conv => cbv
  refine Br.mk (fun g2 => ?_) (fun g2 => ?_)
  ·have gf : False := by have g2 : 128 < n := g2; omega
   cases gf
  ·conv => cbv
   refine Need.mk ⟨by show 0 ≤ n; omega,Int.le_refl _,by show n * 24 ≤ 140737488355328; omega,by show n ≤ 9223372036854775807; omega⟩ ?_
   conv => cbv
   refine Upd.mk fun L0 hL0 => ?_
   have hle : pvles L0 L := by
    have hL0 : L0 = repsP [.int .i64 (.lit 0),.str fun _ => ⟨#[]⟩] n.toNat := hL0
    rw [hL0,hL]; exact rpv_zero _
   clear hL0 hL
   unfold pvles at hle
   conv => cbv
   refine RetF.mk [.ptr 0 (.lit 0),.p (.int .i64 (.lit 0))] [hpC 0 1 137 2 n,hpP 1 L] 2 (Re.at [(1,0),(0,1)] []) rfl ⟨rfl,rfl,rfl⟩
theorem rpv_upd : ∀ (R : List Rw) (i : Nat) (c : Int) (l l2 : List Bool),R[i]? = some (c,l) → updL (rpv R) (2 * i + 1) [.str fun _ => ⟨(mkB l2).toArray⟩] = rpv (R.set i (c,l2))
 | [],i,c,l,l2,h => by simp at h
 | (c1,l1) :: R,0,c,l,l2,h => by
  simp at h
  obtain ⟨rfl,rfl⟩ := h
  rfl
 | (c1,l1) :: R,i + 1,c,l,l2,h => by
  have ih := rpv_upd R i c l l2 (by simpa using h)
  simp only [updL] at ih ⊢
  rw [List.set_cons_succ,rpv,rpv,← ih,show 2 * (i + 1) + 1 = 2 * i + 1 + 1 + 1 by omega,List.set_cons_succ,List.set_cons_succ]
theorem mark_lx (R : List Rw) (n i j sg cl : Int) (l : List Bool) (L : List PV) (hL : L = rpv R) (hn : n = R.length) (hi0 : 0 ≤ i) (hi : R[i.toNat]? = some (cl,l)) (hll : l.length ≤ 8) (hR : R.length ≤ 1000) (b : Bool) (hs : sg = if b then 120 else 46) :
  CallF (fun _ => Tryz.prog) 142 [.ptr 0 (.lit 0),i6 i,i6 j,.p (.int .i32 (.sym sg))] [hpC 0 1 137 2 n,hpP 1 L] 2
   (fun r h n' => ∃ L' : List PV,r = .tup [] ∧ h = [hpC 0 1 137 2 n,hpP 1 L'] ∧ n' = 2 ∧ L' = rpv (R.set i.toNat (cl,if 0 ≤ j then l.set j.toNat b else l))) := by
 have hiR : i.toNat < R.length := (List.getElem?_eq_some_iff.1 hi).1
 obtain ⟨y,hy⟩ : ∃ y : ByteArray,y = ⟨(mkB l).toArray⟩ := ⟨_,rfl⟩
 obtain ⟨c1,c2⟩ := rpv_get R i.toNat _ hi
 dsimp only at c1 c2
 rw [← hL] at c1 c2
 rw [← hy] at c2
 refine callF_of_body tok Tryz.func142 (by kernel_rfl) rfl rfl rfl ?_; conv => cbv
 refine Need.mk ⟨hi0,by show i < n; omega⟩ ?_
 conv => cbv
 refine Sum.mk fun w hw => ?_
 have hw : w = i * 2 := hw
 conv => cbv
 refine Sum.mk fun a ha => ?_
 have ha : a = w + 1 := ha
 conv => cbv
 refine Cell.at a _ c2 (by simp [I.val]) (by omega) ?_
 conv => cbv
 obtain ⟨l2,hl2⟩ : ∃ l2,l2 = (if 0 ≤ j then l.set j.toNat b else l) := ⟨_,rfl⟩
 have hl2l : l2.length = l.length := by rw [hl2]; split <;> simp
 obtain ⟨N,hN⟩ : ∃ N : Int,N = l.length := ⟨_,rfl⟩
 have hys : (y.size : Int) = N := by rw [hy,mk_size,mkB_length,hN]
 have hsg : 0 ≤ sg ∧ sg ≤ 127 ∧ sg.toNat.toUInt8 = (if b then 120 else 46) := by cases b <;> simp at hs <;> subst hs <;> decide
 refine LoopF.mk (fun k s => ∃ (pos q : Int) (M : List PV) (t : ByteArray),s = ⟨.ptr 0 (.lit 0) :: .p (.int .i64 (.sym i)) :: .p (.int .i64 (.sym j)) :: .p (.int .i32 (.sym sg)) :: (undefs 4 ++ .ptr 2 (.lit 0) :: (undefs 10 ++ .ptr 3 (.lit 0) :: undefs 18)),[(3,.iter (fun _ => y) (.sym pos)),(2,.bld 182 [.sl 4 5 1 (.lit 0) (.sym q)]),hpP 4 M,hpC 0 1 137 2 n,hpP 1 L],5⟩ ∧ 0 ≤ pos ∧ pos ≤ N ∧ M = bytesPV t ∧ q = t.size ∧ t = ⟨(mkB (l2.take pos.toNat)).toArray⟩ ∧ k = (N - pos).toNat) N.toNat _
  (Re.at [(0,0),(1,1),(2,2),(3,3)] [4]) ⟨0,0,[],⟨#[]⟩,rfl,by omega,by omega,rfl,rfl,rfl,by omega⟩ ?_
 rintro k s ⟨pos,q,M,t,rfl,h0,h1,hM,hq,ht,hk⟩
 have hts : t.size ≤ 8 := by rw [ht,mk_size,mkB_length,List.length_take]; omega
 conv => cbv
 by_cases hend : pos = N
 ·refine NextS.over (by show (y.size : Int) ≤ pos; omega) ?_
  conv => cbv
  refine drawn_sound tok (by kernel_rfl) [(5,[4,3,2,1,0]),(8,[])] [0,1,2,3,4,5,6,7,8] (by kernel_rfl) ?_; conv => cbv
  refine cfr (string_lx q M t hM hq) [(0,2),(1,4)] (fun r h' n' ⟨e1,e2,e3⟩ => ?_)
  subst e1 e2 e3
  conv => cbv
  refine Need.mk ⟨hi0,by show i < n; omega⟩ ?_
  conv => cbv
  refine Sum.mk fun w2 hw2 => ?_
  have hw2 : w2 = i * 2 := hw2
  conv => cbv
  refine Sum.mk fun a2 ha2 => ?_
  have ha2 : a2 = w2 + 1 := ha2
  have hLl : L.length = 2 * R.length := by rw [hL,rpv_length]
  conv => cbv
  refine Need.mk (by show a2 + ((1 : Nat) : Int) ≤ (L.length : Int); omega) ?_
  conv => cbv
  refine Upd.mk fun L2 hL2 => ?_
  have hL2 : L2 = updL L a2.toNat [.str fun _ => t] := hL2
  have q1 : L2 = rpv (R.set i.toNat (cl,l2)) := by
   have ht2 : t = ⟨(mkB l2).toArray⟩ := by rw [ht,List.take_of_length_le (by omega)]
   rw [hL2,hL,show a2.toNat = 2 * i.toNat + 1 by omega,ht2]
   exact rpv_upd R i.toNat cl l l2 hi
  rw [hl2] at q1
  clear hL2
  conv => cbv
  refine RetF.mk [] [hpC 0 1 137 2 n,hpP 1 L2] 2 (Re.at [(0,0),(1,1)] []) rfl ⟨L2,rfl,rfl,rfl,q1⟩
 ·obtain ⟨x,hb⟩ : ∃ x,l[pos.toNat]? = some x := ⟨_,List.getElem?_eq_getElem (by omega)⟩
  have hx : (mkB l)[pos.toNat]? = some (if x then 120 else 46) := by rw [mkB,List.getElem?_map,hb]; rfl
  have hd := dec_at (mkB l) (mkB_low l) pos.toNat _ hx
  rw [← hy] at hd
  refine NextS.more (by show pos < (y.size : Int); omega) ?_
  intro r p' hr hp
  have hr : r = (if x then 120 else 46) := by
   have : r = ((Utf8.decode y pos.toNat).1 : Int) := hr
   rw [this,hd]; cases x <;> rfl
  have hp : p' = pos + 1 := by
   have : p' = pos + ((Utf8.decode y pos.toNat).2 : Int) := hp
   rw [this,hd]; rfl
  have hrg : 0 ≤ r ∧ r ≤ 127 ∧ r.toNat.toUInt8 = (if x then 120 else 46) := by cases x <;> simp at hr <;> subst hr <;> decide
  have hnx : ∀ (v : Bool),l2[pos.toNat]? = some v → t ++ ⟨#[if v then 120 else 46]⟩ = ⟨(mkB (l2.take p'.toNat)).toArray⟩ := by
   intro v hv
   rw [show p'.toNat = pos.toNat + 1 by omega,List.take_add_one,hv,ht]
   apply ByteArray.ext
   apply Array.ext'
   simp [ByteArray.data_append,mkB]
  obtain ⟨k',rfl⟩ : ∃ k',k = k' + 1 := ⟨k - 1,by omega⟩
  conv => cbv
  refine Br.mk (fun g => ?_) (fun g => ?_)
  ·have g : pos = j := g
   have hv : l2[pos.toNat]? = some b := by
    rw [hl2,if_pos (by omega),← g,List.getElem?_set_self (by omega)]
   have hn2 := hnx b hv
   rw [← hsg.2.2] at hn2
   conv => cbv
   refine cfr (writeRune_lx q sg M t hM hq hsg.1 hsg.2.1 (by omega)) [(0,2),(1,4)] (fun r h' n' ⟨m2,k2,L2,e1,e2,e3,hL2,hk2⟩ => ?_)
   subst e1 e2 e3
   conv => cbv
   refine Again.mk k' _ (Nat.lt_succ_self _) (Re.at [(0,0),(1,1),(2,2),(3,3),(5,4)] []) ⟨p',k2,L2,_,rfl,by omega,by omega,hL2,hk2,hn2,by omega⟩
  ·have g : ¬ pos = j := g
   have hv : l2[pos.toNat]? = some x := by
    rw [hl2]
    split
    ·rw [List.getElem?_set_ne (by omega)]; exact hb
    ·exact hb
   have hn2 := hnx x hv
   rw [← hrg.2.2] at hn2
   conv => cbv
   refine cfr (writeRune_lx q r M t hM hq hrg.1 hrg.2.1 (by omega)) [(0,2),(1,4)] (fun r h' n' ⟨m2,k2,L2,e1,e2,e3,hL2,hk2⟩ => ?_)
   subst e1 e2 e3
   conv => cbv
   refine Again.mk k' _ (Nat.lt_succ_self _) (Re.at [(0,0),(1,1),(2,2),(3,3),(5,4)] []) ⟨p',k2,L2,_,rfl,by omega,by omega,hL2,hk2,hn2,by omega⟩
theorem rpv_upd2 : ∀ (R : List Rw) (i : Nat) (c : Int) (l2 : List Bool) (z : ByteArray),z = ⟨(mkB l2).toArray⟩ → i < R.length → updL (rpv R) (2 * i) [.int .i64 (.sym c),.str fun _ => z] = rpv (R.set i (c,l2))
 | [],i,c,l2,z,_,h => by simp at h
 | (c1,l1) :: R,0,c,l2,z,hz,_ => by subst hz; rfl
 | (c1,l1) :: R,i + 1,c,l2,z,hz,h => by
  have ih := rpv_upd2 R i c l2 z hz (by simpa using h)
  simp only [updL] at ih ⊢
  rw [List.set_cons_succ,rpv,rpv,← ih]
  rfl
inductive Alloced (R : List Rw) (c : Int) : Int → Int → Bool → List Rw → Prop
 | no (h : slotsOf c = 0) : Alloced R c 0 0 false R
 | old (i s : Nat) (l : List Bool) (h0 : slotsOf c ≠ 0) (hi : R[i]? = some (c,l)) (hs : l[s]? = some false) (h1 : ∀ j,j < s → l[j]? = some true) (h2 : ∀ (j : Nat),j < i → ∀ (m : List Bool),R[j]? = some (c,m) → false ∉ m) : Alloced R c i s true (R.set i (c,l.set s true))
 | fresh (i : Nat) (d : Int) (h0 : slotsOf c ≠ 0) (h2 : ∀ (j : Nat) (m : List Bool),R[j]? = some (c,m) → false ∉ m) (hi : R[i]? = some (d,[])) (h3 : ∀ (j : Nat),j < i → ∀ (d' : Int),R[j]? ≠ some (d',[])) : Alloced R c i 0 true (R.set i (c,(List.replicate (slotsOf c) false).set 0 true))
 | full (h0 : slotsOf c ≠ 0) (h2 : ∀ (j : Nat) (m : List Bool),R[j]? = some (c,m) → false ∉ m) (h3 : ∀ (j : Nat) (d' : Int),R[j]? ≠ some (d',[])) : Alloced R c 0 0 false R
theorem mkB_nil (l : List Bool) : (⟨(mkB l).toArray⟩ : ByteArray) = ⟨#[]⟩ ↔ l = [] := by
 constructor
 ·intro h
  have h2 : (mkB l).toArray = #[] := congrArg ByteArray.data h
  have h3 : mkB l = [] := by simpa using h2
  exact List.map_eq_nil_iff.1 h3
 ·rintro rfl; rfl
theorem alloc_lx (R : List Rw) (n c : Int) (L : List PV) (hL : L = rpv R) (hn : n = R.length) (hR : R.length ≤ 1000) (hm : ∀ e ∈ R,e.2.length ≤ 8) :
  CallF (fun _ => Tryz.prog) 136 [.ptr 0 (.lit 0),i6 c] [hpC 0 1 137 2 n,hpP 1 L] 2
   (fun r h n' => ∃ (i s : Int) (b : Bool) (L' : List PV) (R' : List Rw),r = .tup [i6 i,i6 s,.p (.bool b)] ∧ h = [hpC 0 1 137 2 n,hpP 1 L'] ∧ n' = 2 ∧ L' = rpv R' ∧ Alloced R c i s b R') := by
 obtain ⟨z,hz⟩ : ∃ z : ByteArray,z = ⟨(mkB (List.replicate (slotsOf c) false)).toArray⟩ := ⟨_,rfl⟩
 have hz0 : z = ⟨#[]⟩ ↔ slotsOf c = 0 := by rw [hz,mkB_nil]; simp
 refine callF_of_body tok Tryz.func136 (by kernel_rfl) rfl rfl rfl ?_; conv => cbv
 refine callF_frame (unusedRow_lx c z hz) [] rfl trivial rfl rfl (fun r h' n' ⟨e1,e2,e3⟩ => ?_)
 subst e1 e2 e3
 conv => cbv
 refine Br.mk (fun g => ?_) (fun g => ?_)
 ·have h0 := hz0.1 g
  conv => cbv
  refine RetF.mk [i6 0,i6 0,.p (.bool false)] [hpC 0 1 137 2 n,hpP 1 L] 2 (Re.at [(0,0),(1,1)] []) rfl ⟨0,0,false,L,R,rfl,rfl,rfl,hL,.no h0⟩
 ·have h0 : slotsOf c ≠ 0 := fun h => g (hz0.2 h)
  conv => cbv
  refine LoopF.mk (fun k s => ∃ i : Int,s = ⟨.ptr 0 (.lit 0) :: .p (.int .i64 (.sym c)) :: (undefs 5 ++ .ptr 2 (.lit 0) :: (undefs 18 ++ .sl 1 137 2 (.lit 0) (.sym n) :: .p (.int .i64 (.sym n)) :: .p (.int .i64 (.sym i)) :: undefs 49)),[(2,.pure false [.int .i64 (.sym c),.str fun _ => z]),hpC 0 1 137 2 n,hpP 1 L],3⟩ ∧ 0 ≤ i ∧ i ≤ n ∧ (∀ (j : Nat),(j : Int) < i → ∀ (m : List Bool),R[j]? = some (c,m) → false ∉ m) ∧ k = (n - i).toNat) n.toNat _
   (Re.at [(0,0),(1,1),(2,2)] []) ⟨0,rfl,by omega,by omega,fun j hj => absurd hj (by omega),by omega⟩ ?_
  rintro k s ⟨i,rfl,hi0,hi1,hno,hk⟩
  conv => cbv
  refine Br.mk (fun gi => ?_) (fun gi => ?_)
  ·have gi : i < n := gi
   obtain ⟨⟨d,m⟩,he⟩ : ∃ e,R[i.toNat]? = some e := ⟨_,List.getElem?_eq_getElem (by omega)⟩
   have hml : m.length ≤ 8 := hm _ (List.mem_of_getElem? he)
   obtain ⟨y,hy⟩ : ∃ y : ByteArray,y = ⟨(mkB m).toArray⟩ := ⟨_,rfl⟩
   obtain ⟨c1,c2⟩ := rpv_get R i.toNat _ he
   dsimp only at c1 c2
   rw [← hL] at c1 c2
   rw [← hy] at c2
   obtain ⟨k',rfl⟩ : ∃ k',k = k' + 1 := ⟨k - 1,by omega⟩
   conv => cbv
   refine Need.mk ⟨hi0,gi⟩ ?_
   conv => cbv
   refine Sum.mk fun w hw => ?_
   have hw : w = i * 2 := hw
   conv => cbv
   refine Cell.at (w + 0) _ c1 rfl (by omega) ?_
   conv => cbv
   refine Cell.at (w + 1) _ c2 rfl (by omega) ?_
   conv => cbv
   refine callF_val (firstUnused_lx m y hy (by omega)) (by simp [ales,ale,renVs,renV,pvle_refl]) rfl (fun r ⟨v,b,hr,_⟩ => by subst hr; rfl) (fun r hrr => ?_)
   obtain ⟨v,b,hr,hb⟩ := hrr
   subst hr
   cases b with
   | true =>
    obtain ⟨q,hv,hq,hq2⟩ : ∃ q : Nat,v = q ∧ m[q]? = some false ∧ ∀ j,j < q → m[j]? = some true := by
     rcases hb with ⟨_,h⟩ | ⟨h,_⟩
     ·exact h
     ·cases h
    clear hb
    conv => cbv
    refine Br.mk (fun gd => ?_) (fun gd => ?_)
    ·have gd : d = c := gd
     obtain ⟨L9,hL9⟩ : ∃ L9,L9 = rpv (R.set i.toNat (d,if 0 ≤ v then m.set v.toNat true else m)) := ⟨_,rfl⟩
     have hset : (if 0 ≤ v then m.set v.toNat true else m) = m.set q true := by rw [if_pos (by omega),show v.toNat = q by omega]
     rw [hset] at hL9
     have hAl : Alloced R c i v true (R.set i.toNat (d,m.set q true)) := by
      have := Alloced.old (R := R) (c := c) i.toNat q m h0 (gd ▸ he) hq hq2 (fun j hj m' hm' => hno j (by omega) m' hm')
      rw [gd,show i = (i.toNat : Int) by omega,hv]; exact this
     conv => cbv
     refine CallF.le (args0 := [.ptr 0 (.lit 0),i6 i,i6 v,.p (.int .i32 (.sym 120))]) (cfr (mark_lx R n i v 120 d m L hL hn hi0 he hml hR true rfl) [(0,0),(1,1)] (fun r h' n' hrr => ?_)) (by simp [ales,ale,pvle,I.val])
     obtain ⟨L2,e1,e2,e3,hL2⟩ := hrr
     rw [hset] at hL2
     subst e1 e2 e3
     conv => cbv
     refine RetF.mk [i6 i,i6 v,.p (.bool true)] [hpC 0 1 137 2 n,hpP 1 L2] 2 (Re.at [(0,0),(1,1)] []) rfl ⟨i,v,true,L2,_,rfl,rfl,rfl,hL2,hAl⟩
    ·have gd : ¬ d = c := gd
     conv => cbv
     refine Fit.mk (by show (-9223372036854775808 : Int) ≤ i + 1; omega) (by show i + 1 ≤ 9223372036854775807; omega) fun i2 hi2 => ?_
     have hi2 : i2 = i + 1 := hi2
     have hno2 : ∀ (j : Nat),(j : Int) < i2 → ∀ (m : List Bool),R[j]? = some (c,m) → false ∉ m := fun j hj m' hm' => by
      by_cases e : (j : Int) = i
      ·rw [show j = i.toNat by omega,he] at hm'
       have hm' := Option.some.inj hm'
       exact absurd (congrArg Prod.fst hm') gd
      ·exact hno j (by omega) m' hm'
     have q1 : 0 ≤ i2 := by omega
     have q2 : i2 ≤ n := by omega
     have q3 : k' = (n - i2).toNat := by omega
     clear hk hi2
     conv => cbv
     refine Again.mk k' _ (Nat.lt_succ_self _) (Re.at [(0,0),(1,1),(2,2)] []) ⟨i2,rfl,q1,q2,hno2,q3⟩
   | false =>
    have hfn : false ∉ m := by
     rcases hb with ⟨h,_⟩ | ⟨_,_,h⟩
     ·cases h
     ·exact h
    clear hb
    conv => cbv
    refine Fit.mk (by show (-9223372036854775808 : Int) ≤ i + 1; omega) (by show i + 1 ≤ 9223372036854775807; omega) fun i2 hi2 => ?_
    have hi2 : i2 = i + 1 := hi2
    have hno2 : ∀ (j : Nat),(j : Int) < i2 → ∀ (m : List Bool),R[j]? = some (c,m) → false ∉ m := fun j hj m' hm' => by
     by_cases e : (j : Int) = i
     ·rw [show j = i.toNat by omega,he] at hm'
      have hm' := Option.some.inj hm'
      have h2 : m = m' := congrArg Prod.snd hm'; rw [← h2]; exact hfn
     ·exact hno j (by omega) m' hm'
    have q1 : 0 ≤ i2 := by omega
    have q2 : i2 ≤ n := by omega
    have q3 : k' = (n - i2).toNat := by omega
    clear hk hi2
    conv => cbv
    refine Again.mk k' _ (Nat.lt_succ_self _) (Re.at [(0,0),(1,1),(2,2)] []) ⟨i2,rfl,q1,q2,hno2,q3⟩
  ·have gi : ¬ i < n := gi
   have hall : ∀ (j : Nat) (m : List Bool),R[j]? = some (c,m) → false ∉ m := fun j m' hm' => hno j (by have := (List.getElem?_eq_some_iff.1 hm').1; omega) m' hm'
   clear hno hk hi0 hi1 gi
   conv => cbv
   refine LoopF.mk (fun k s => ∃ i : Int,s = ⟨.ptr 0 (.lit 0) :: .p (.int .i64 (.sym c)) :: (undefs 5 ++ .ptr 2 (.lit 0) :: (undefs 48 ++ .sl 1 137 2 (.lit 0) (.sym n) :: .p (.int .i64 (.sym n)) :: .p (.int .i64 (.sym i)) :: undefs 19)),[(2,.pure false [.int .i64 (.sym c),.str fun _ => z]),hpC 0 1 137 2 n,hpP 1 L],3⟩ ∧ 0 ≤ i ∧ i ≤ n ∧ (∀ (j : Nat),(j : Int) < i → ∀ (d : Int),R[j]? ≠ some (d,[])) ∧ k = (n - i).toNat) n.toNat _
    (Re.at [(0,0),(1,1),(2,2)] []) ⟨0,rfl,by omega,by omega,fun j hj => absurd hj (by omega),by omega⟩ ?_
   rintro k s ⟨i,rfl,hi0,hi1,hno,hk⟩
   conv => cbv
   refine Br.mk (fun gi => ?_) (fun gi => ?_)
   ·have gi : i < n := gi
    obtain ⟨⟨d,m⟩,he⟩ : ∃ e,R[i.toNat]? = some e := ⟨_,List.getElem?_eq_getElem (by omega)⟩
    have hml : m.length ≤ 8 := hm _ (List.mem_of_getElem? he)
    obtain ⟨y,hy⟩ : ∃ y : ByteArray,y = ⟨(mkB m).toArray⟩ := ⟨_,rfl⟩
    obtain ⟨c1,c2⟩ := rpv_get R i.toNat _ he
    dsimp only at c1 c2
    rw [← hL] at c1 c2
    rw [← hy] at c2
    obtain ⟨k',rfl⟩ : ∃ k',k = k' + 1 := ⟨k - 1,by omega⟩
    conv => cbv
    refine Need.mk ⟨hi0,gi⟩ ?_
    conv => cbv
    refine Sum.mk fun w hw => ?_
    have hw : w = i * 2 := hw
    conv => cbv
    refine Cell.at (w + 0) _ c1 rfl (by omega) ?_
    conv => cbv
    refine Cell.at (w + 1) _ c2 rfl (by omega) ?_
    conv => cbv
    refine Br.mk (fun gm => ?_) (fun gm => ?_)
    ·have hm0 : m = [] := (mkB_nil m).1 (hy.symm.trans gm)
     subst hm0
     obtain ⟨RR,hRR⟩ : ∃ RR,RR = R.set i.toNat (c,List.replicate (slotsOf c) false) := ⟨_,rfl⟩
     have hRl : RR.length = R.length := by rw [hRR,List.length_set]
     have hiR : i.toNat < R.length := by omega
     have hRi : RR[i.toNat]? = some (c,List.replicate (slotsOf c) false) := by rw [hRR,List.getElem?_set_self hiR]
     have hs8 : (List.replicate (slotsOf c) false).length ≤ 8 := by
      rw [List.length_replicate]
      unfold slotsOf; split
      ·omega
      ·split
       ·omega
       ·split
        ·omega
        ·split <;> omega
     have hAl : Alloced R c i 0 true (RR.set i.toNat (c,(List.replicate (slotsOf c) false).set 0 true)) := by
      have := Alloced.fresh (R := R) (c := c) i.toNat d h0 hall he (fun j hj d' => hno j (by omega) d')
      rw [hRR,List.set_set,show i = (i.toNat : Int) by omega]; exact this
     have hLl : L.length = 2 * R.length := by rw [hL,rpv_length]
     conv => cbv
     refine drawn_sound tok (by kernel_rfl) [(7,[])] [0,1,2,3,4,5,6,7] (by kernel_rfl) ?_; conv => cbv
     refine Need.mk ⟨hi0,gi⟩ ?_
     conv => cbv
     refine Sum.mk fun w2 hw2 => ?_
     have hw2 : w2 = i * 2 := hw2
     conv => cbv
     refine Need.mk (by show w2 + ((2 : Nat) : Int) ≤ (L.length : Int); omega) ?_
     conv => cbv
     refine Upd.mk fun L2 hL2 => ?_
     have hL2 : L2 = updL L w2.toNat [.int .i64 (.sym c),.str fun _ => z] := hL2
     have hL2 : L2 = rpv RR := by rw [hL2,hL,show w2.toNat = 2 * i.toNat by omega,hRR]; exact rpv_upd2 R i.toNat c _ z hz hiR
     have hn2 : n = RR.length := by omega
     have hRR2 : RR.length ≤ 1000 := by omega
     conv => cbv
     refine CallF.le (args0 := [.ptr 0 (.lit 0),i6 i,i6 0,.p (.int .i32 (.sym 120))]) (cfr (mark_lx RR n i 0 120 c _ L2 hL2 hn2 hi0 hRi hs8 hRR2 true rfl) [(0,0),(1,1)] (fun r h' n' hrr => ?_)) (by simp [ales,ale,pvle,I.val])
     obtain ⟨L3,e1,e2,e3,hL3⟩ := hrr
     rw [if_pos (Int.le_refl 0)] at hL3
     subst e1 e2 e3
     conv => cbv
     refine RetF.mk [i6 i,i6 0,.p (.bool true)] [hpC 0 1 137 2 n,hpP 1 L3] 2 (Re.at [(0,0),(1,1)] []) rfl ⟨i,0,true,L3,_,rfl,rfl,rfl,hL3,hAl⟩
    ·have hmn : m ≠ [] := fun h => gm (hy.trans ((mkB_nil m).2 h))
     conv => cbv
     refine Fit.mk (by show (-9223372036854775808 : Int) ≤ i + 1; omega) (by show i + 1 ≤ 9223372036854775807; omega) fun i2 hi2 => ?_
     have hi2 : i2 = i + 1 := hi2
     have hno2 : ∀ (j : Nat),(j : Int) < i2 → ∀ (d : Int),R[j]? ≠ some (d,[]) := fun j hj d' hm' => by
      by_cases e : (j : Int) = i
      ·rw [show j = i.toNat by omega,he] at hm'
       exact hmn (congrArg Prod.snd (Option.some.inj hm'))
      ·exact hno j (by omega) d' hm'
     have q1 : 0 ≤ i2 := by omega
     have q2 : i2 ≤ n := by omega
     have q3 : k' = (n - i2).toNat := by omega
     clear hk hi2
     conv => cbv
     refine Again.mk k' _ (Nat.lt_succ_self _) (Re.at [(0,0),(1,1),(2,2)] []) ⟨i2,rfl,q1,q2,hno2,q3⟩
   ·have gi : ¬ i < n := gi
    have hall2 : ∀ (j : Nat) (d' : Int),R[j]? ≠ some (d',[]) := fun j d' hm' => hno j (by have := (List.getElem?_eq_some_iff.1 hm').1; omega) d' hm'
    conv => cbv
    refine RetF.mk [i6 0,i6 0,.p (.bool false)] [hpC 0 1 137 2 n,hpP 1 L] 2 (Re.at [(0,0),(1,1)] []) rfl ⟨0,0,false,L,R,rfl,rfl,rfl,hL,.full h0 hall hall2⟩
theorem has_nil (i : I) : CallF (fun _ => Tryz.prog) 104 [.p .nilp,.p (.int .i64 i)] [] 0 (fun r h n => r = .p (.bool false) ∧ h = [] ∧ n = 0) := by
 refine callF_of_body tok Tryz.func104 (by kernel_rfl) rfl rfl rfl ?_; conv => cbv
 refine RetF.mk [.p (.bool false)] [] 0 (Re.at [] []) rfl ⟨rfl,rfl,rfl⟩
theorem has_lx (n i : Int) (L : List PV) (hi0 : 0 ≤ i) (hin : i < n) : CallF (fun _ => Tryz.prog) 104 [.ptr 0 (.lit 0),i6 i] [hpC 0 1 137 2 n,hpP 1 L] 2 (fun r h n' => r = .p (.bool true) ∧ h = [hpC 0 1 137 2 n,hpP 1 L] ∧ n' = 2) := by
 refine callF_of_body tok Tryz.func104 (by kernel_rfl) rfl rfl rfl ?_; conv => cbv
 refine Br.mk (fun g => ?_) (fun g => ?_)
 case refine_2 =>
  have gf : False := g hi0
  cases gf
 conv => cbv
 refine Br.mk (fun g => ?_) (fun g => ?_)
 case refine_2 =>
  have gf : False := g hin
  cases gf
 conv => cbv
 refine RetF.mk [.p (.bool true)] [hpC 0 1 137 2 n,hpP 1 L] 2 (Re.at [(0,0),(1,1)] []) rfl ⟨rfl,rfl,rfl⟩
theorem class_nil (i : I) : CallF (fun _ => Tryz.prog) 75 [.p .nilp,.p (.int .i64 i)] [] 0 (fun r h n => (∃ v : Int,r = .p (.int .i64 (.sym v)) ∧ v = -1) ∧ h = [] ∧ n = 0) := by
 refine callF_of_body tok Tryz.func75 (by kernel_rfl) rfl rfl rfl ?_; conv => cbv
 refine callF_frame (has_nil i) [] rfl trivial rfl rfl (fun r h' n' ⟨e1,e2,e3⟩ => ?_)
 subst e1 e2 e3
 conv => cbv
 refine RetF.mk [i6 (-1)] [] 0 (Re.at [] []) rfl ⟨⟨-1,rfl,rfl⟩,rfl,rfl⟩
theorem used_nil (i j : I) : CallF (fun _ => Tryz.prog) 77 [.p .nilp,.p (.int .i64 i),.p (.int .i64 j)] [] 0 (fun r h n => r = .p (.bool false) ∧ h = [] ∧ n = 0) := by
 refine callF_of_body tok Tryz.func77 (by kernel_rfl) rfl rfl rfl ?_; conv => cbv
 refine callF_frame (has_nil i) [] rfl trivial rfl rfl (fun r h' n' ⟨e1,e2,e3⟩ => ?_)
 subst e1 e2 e3
 conv => cbv
 refine RetF.mk [.p (.bool false)] [] 0 (Re.at [] []) rfl ⟨rfl,rfl,rfl⟩
theorem words_nil : CallF (fun _ => Tryz.prog) 79 [.p .nilp] [] 0 (fun r h n => r = .p (.int .i64 (.sym 0)) ∧ h = [] ∧ n = 0) := by
 refine callF_of_body tok Tryz.func79 (by kernel_rfl) rfl rfl rfl ?_; conv => cbv
 refine RetF.mk [i6 0] [] 0 (Re.at [] []) rfl ⟨rfl,rfl,rfl⟩
theorem len_nil : CallF (fun _ => Tryz.prog) 74 [.p .nilp] [] 0 (fun r h n => r = .p (.int .i64 (.sym 0)) ∧ h = [] ∧ n = 0) := by
 refine callF_of_body tok Tryz.func74 (by kernel_rfl) rfl rfl rfl ?_; conv => cbv
 refine RetF.mk [i6 0] [] 0 (Re.at [] []) rfl ⟨rfl,rfl,rfl⟩
theorem free_nil (i j : I) : CallF (fun _ => Tryz.prog) 134 [.p .nilp,.p (.int .i64 i),.p (.int .i64 j)] [] 0 (fun r h n => r = .p (.bool false) ∧ h = [] ∧ n = 0) := by
 refine callF_of_body tok Tryz.func134 (by kernel_rfl) rfl rfl rfl ?_; conv => cbv
 refine callF_frame (used_nil i j) [] rfl trivial rfl rfl (fun r h' n' ⟨e1,e2,e3⟩ => ?_)
 subst e1 e2 e3
 conv => cbv
 refine RetF.mk [.p (.bool false)] [] 0 (Re.at [] []) rfl ⟨rfl,rfl,rfl⟩
theorem alloc_nil (c : Int) : CallF (fun _ => Tryz.prog) 136 [.p .nilp,i6 c] [] 0 (fun r h n => r = .tup [i6 0,i6 0,.p (.bool false)] ∧ h = [] ∧ n = 0) := by
 obtain ⟨z,hz⟩ : ∃ z : ByteArray,z = ⟨(mkB (List.replicate (slotsOf c) false)).toArray⟩ := ⟨_,rfl⟩
 refine callF_of_body tok Tryz.func136 (by kernel_rfl) rfl rfl rfl ?_; conv => cbv
 refine callF_frame (unusedRow_lx c z hz) [] rfl trivial rfl rfl (fun r h' n' ⟨e1,e2,e3⟩ => ?_)
 subst e1 e2 e3
 conv => cbv
 refine RetF.mk [i6 0,i6 0,.p (.bool false)] [] 0 (Re.at [] []) rfl ⟨rfl,rfl,rfl⟩
theorem class_lx (R : List Rw) (n i d : Int) (m : List Bool) (L : List PV) (hL : L = rpv R) (hn : n = R.length) (hi0 : 0 ≤ i) (hi : R[i.toNat]? = some (d,m)) (hm : m ≠ []) : CallF (fun _ => Tryz.prog) 75 [.ptr 0 (.lit 0),i6 i] [hpC 0 1 137 2 n,hpP 1 L] 2
  (fun r h n' => r = .p (.int .i64 (.sym d)) ∧ h = [hpC 0 1 137 2 n,hpP 1 L] ∧ n' = 2) := by
 have hiR : i.toNat < R.length := (List.getElem?_eq_some_iff.1 hi).1
 obtain ⟨y,hy⟩ : ∃ y : ByteArray,y = ⟨(mkB m).toArray⟩ := ⟨_,rfl⟩
 obtain ⟨c1,c2⟩ := rpv_get R i.toNat _ hi
 dsimp only at c1 c2
 rw [← hL] at c1 c2
 rw [← hy] at c2
 have hyn : ¬ y = ⟨#[]⟩ := fun h => hm ((mkB_nil m).1 (hy.symm.trans h))
 refine callF_of_body tok Tryz.func75 (by kernel_rfl) rfl rfl rfl ?_; conv => cbv
 refine cfr (has_lx n i L hi0 (by omega)) [(0,0),(1,1)] (fun r h' n' ⟨e1,e2,e3⟩ => ?_)
 subst e1 e2 e3
 conv => cbv
 refine Need.mk ⟨hi0,by show i < n; omega⟩ ?_
 conv => cbv
 refine Sum.mk fun w hw => ?_
 have hw : w = i * 2 := hw
 conv => cbv
 refine Sum.mk fun a ha => ?_
 have ha : a = w + 1 := ha
 conv => cbv
 refine Cell.at a _ c2 (by simp [I.val]) (by omega) ?_
 conv => cbv
 refine Br.mk (fun g => ?_) (fun g => ?_)
 case refine_1 =>
  have gf : False := hyn g
  cases gf
 conv => cbv
 refine Need.mk ⟨hi0,by show i < n; omega⟩ ?_
 conv => cbv
 refine Sum.mk fun w2 hw2 => ?_
 have hw2 : w2 = i * 2 := hw2
 conv => cbv
 refine Cell.at w2 _ c1 (by simp [I.val]) (by omega) ?_
 conv => cbv
 refine RetF.mk [i6 d] [hpC 0 1 137 2 n,hpP 1 L] 2 (Re.at [(0,0),(1,1)] []) rfl ⟨rfl,rfl,rfl⟩
theorem used_lx (R : List Rw) (n i j d : Int) (m : List Bool) (L : List PV) (hL : L = rpv R) (hn : n = R.length) (hi0 : 0 ≤ i) (hi : R[i.toNat]? = some (d,m)) (b : Bool) (hj0 : 0 ≤ j) (hj : m[j.toNat]? = some b) : CallF (fun _ => Tryz.prog) 77 [.ptr 0 (.lit 0),i6 i,i6 j] [hpC 0 1 137 2 n,hpP 1 L] 2
  (fun r h n' => r = .p (.bool b) ∧ h = [hpC 0 1 137 2 n,hpP 1 L] ∧ n' = 2) := by
 have hiR : i.toNat < R.length := (List.getElem?_eq_some_iff.1 hi).1
 obtain ⟨y,hy⟩ : ∃ y : ByteArray,y = ⟨(mkB m).toArray⟩ := ⟨_,rfl⟩
 obtain ⟨c1,c2⟩ := rpv_get R i.toNat _ hi
 dsimp only at c1 c2
 rw [← hL] at c1 c2
 rw [← hy] at c2
 refine callF_of_body tok Tryz.func77 (by kernel_rfl) rfl rfl rfl ?_; conv => cbv
 refine cfr (has_lx n i L hi0 (by omega)) [(0,0),(1,1)] (fun r h' n' ⟨e1,e2,e3⟩ => ?_)
 subst e1 e2 e3
 conv => cbv
 refine Need.mk ⟨hi0,by show i < n; omega⟩ ?_
 conv => cbv
 refine Sum.mk fun w hw => ?_
 have hw : w = i * 2 := hw
 conv => cbv
 refine Sum.mk fun a ha => ?_
 have ha : a = w + 1 := ha
 conv => cbv
 refine Cell.at a _ c2 (by simp [I.val]) (by omega) ?_
 conv => cbv
 obtain ⟨N,hN⟩ : ∃ N : Int,N = m.length := ⟨_,rfl⟩
 have hjN : j < N := by have := (List.getElem?_eq_some_iff.1 hj).1; omega
 have hys : (y.size : Int) = N := by rw [hy,mk_size,mkB_length,hN]
 refine LoopF.mk (fun k s => ∃ pos : Int,s = ⟨.ptr 0 (.lit 0) :: .p (.int .i64 (.sym i)) :: .p (.int .i64 (.sym j)) :: (undefs 18 ++ .ptr 2 (.lit 0) :: undefs 9),[(2,.iter (fun _ => y) (.sym pos)),hpC 0 1 137 2 n,hpP 1 L],3⟩ ∧ 0 ≤ pos ∧ pos ≤ j ∧ k = (N - pos).toNat) N.toNat _
  (Re.at [(0,0),(1,1),(2,2)] []) ⟨0,rfl,by omega,hj0,by omega⟩ ?_
 rintro k s ⟨pos,rfl,h0,h1,hk⟩
 obtain ⟨x,hb⟩ : ∃ x,m[pos.toNat]? = some x := ⟨_,List.getElem?_eq_getElem (by omega)⟩
 have hx : (mkB m)[pos.toNat]? = some (if x then 120 else 46) := by rw [mkB,List.getElem?_map,hb]; rfl
 have hd := dec_at (mkB m) (mkB_low m) pos.toNat _ hx
 rw [← hy] at hd
 obtain ⟨k',rfl⟩ : ∃ k',k = k' + 1 := ⟨k - 1,by omega⟩
 conv => cbv
 refine NextS.more (by show pos < (y.size : Int); omega) ?_
 intro r p' hr hp
 have hr : r = (if x then 120 else 46) := by
  have : r = ((Utf8.decode y pos.toNat).1 : Int) := hr
  rw [this,hd]; cases x <;> rfl
 have hp : p' = pos + 1 := by
  have : p' = pos + ((Utf8.decode y pos.toNat).2 : Int) := hp
  rw [this,hd]; rfl
 conv => cbv
 refine Br.mk (fun g => ?_) (fun g => ?_)
 ·have g : pos = j := g
  have hxb : x = b := by rw [g] at hb; rw [hb] at hj; exact Option.some.inj hj
  conv => cbv
  refine Br.mk (fun g2 => ?_) (fun g2 => ?_)
  ·have g2 : r = 120 := g2
   have hbt : true = b := by
    cases b with
    | true => rfl
    | false => rw [hxb] at hr; simp at hr; omega
   subst hbt
   conv => cbv
   refine RetF.mk [.p (.bool true)] [hpC 0 1 137 2 n,hpP 1 L] 2 (Re.at [(0,0),(1,1)] []) rfl ⟨rfl,rfl,rfl⟩
  ·have g2 : ¬ r = 120 := g2
   have hbf : false = b := by
    cases b with
    | false => rfl
    | true => rw [hxb] at hr; simp at hr; omega
   subst hbf
   conv => cbv
   refine RetF.mk [.p (.bool false)] [hpC 0 1 137 2 n,hpP 1 L] 2 (Re.at [(0,0),(1,1)] []) rfl ⟨rfl,rfl,rfl⟩
 ·have g : ¬ pos = j := g
  conv => cbv
  refine Again.mk k' _ (Nat.lt_succ_self _) (Re.at [(0,0),(1,1),(2,2)] []) ⟨p',rfl,by omega,by omega,by omega⟩
theorem wordsOf_bd (c : Int) : 0 ≤ wordsOf c ∧ wordsOf c ≤ 32 := by
 unfold wordsOf; split
 ·omega
 ·split
  ·omega
  ·split
   ·omega
   ·split <;> omega
theorem wordsS_lx (R : List Rw) (n : Int) (L : List PV) (hL : L = rpv R) (hn : n = R.length) (hR : R.length ≤ 1000) (hm : ∀ e ∈ R,e.2.length ≤ 8) (v : Int) (hv : v = (R.map fun e => (e.2.count true : Int) * wordsOf e.1).sum) : CallF (fun _ => Tryz.prog) 79 [.ptr 0 (.lit 0)] [hpC 0 1 137 2 n,hpP 1 L] 2
  (fun r h n' => r = .p (.int .i64 (.sym v)) ∧ h = [hpC 0 1 137 2 n,hpP 1 L] ∧ n' = 2) := by
 obtain ⟨f,hf⟩ : ∃ f : Nat → Int,∀ k,f k = ((R.take k).map fun e => (e.2.count true : Int) * wordsOf e.1).sum := ⟨_,fun _ => rfl⟩
 refine callF_of_body tok Tryz.func79 (by kernel_rfl) rfl rfl rfl ?_; conv => cbv
 refine LoopF.mk (fun k s => ∃ (i acc : Int),s = ⟨.ptr 0 (.lit 0) :: .undef :: .undef :: .p (.int .i64 (.sym acc)) :: (undefs 7 ++ .sl 1 137 2 (.lit 0) (.sym n) :: .p (.int .i64 (.sym n)) :: .p (.int .i64 (.sym i)) :: undefs 14),[hpC 0 1 137 2 n,hpP 1 L],2⟩ ∧ 0 ≤ i ∧ i ≤ n ∧ acc = f i.toNat ∧ 0 ≤ acc ∧ acc ≤ 256 * i ∧ k = (n - i).toNat) n.toNat _
  (Re.at [(0,0),(1,1)] []) ⟨0,0,rfl,by omega,by omega,by rw [hf]; rfl,by omega,by omega,by omega⟩ ?_
 rintro k s ⟨i,acc,rfl,hi0,hi1,hacc,ha0,ha1,hk⟩
 conv => cbv
 refine Br.mk (fun gi => ?_) (fun gi => ?_)
 ·have gi : i < n := gi
  obtain ⟨⟨d,m⟩,he⟩ : ∃ e,R[i.toNat]? = some e := ⟨_,List.getElem?_eq_getElem (by omega)⟩
  have hml : m.length ≤ 8 := hm _ (List.mem_of_getElem? he)
  obtain ⟨y,hy⟩ : ∃ y : ByteArray,y = ⟨(mkB m).toArray⟩ := ⟨_,rfl⟩
  obtain ⟨c1,c2⟩ := rpv_get R i.toNat _ he
  dsimp only at c1 c2
  rw [← hL] at c1 c2
  rw [← hy] at c2
  obtain ⟨k',rfl⟩ : ∃ k',k = k' + 1 := ⟨k - 1,by omega⟩
  obtain ⟨q,hq⟩ : ∃ q,q = wordsOf d := ⟨_,rfl⟩
  have hqb := wordsOf_bd d
  rw [← hq] at hqb
  conv => cbv
  refine Need.mk ⟨hi0,gi⟩ ?_
  conv => cbv
  refine Sum.mk fun w hw => ?_
  have hw : w = i * 2 := hw
  conv => cbv
  refine Cell.at (w + 0) _ c1 rfl (by omega) ?_
  conv => cbv
  refine Cell.at (w + 1) _ c2 rfl (by omega) ?_
  conv => cbv
  refine drawn_sound tok (by kernel_rfl) [(3,[5,4,0]),(6,[0])] [0,1,2,4,5,3,6,7,8,9] (by kernel_rfl) ?_; conv => cbv
  refine callF_val (countUsed_lx m y hy (by omega)) (by simp [ales,ale,renVs,renV,pvle_refl]) rfl (fun r ⟨v,hr,_⟩ => by subst hr; rfl) (fun r hrr => ?_)
  obtain ⟨u,hr,hu⟩ := hrr
  subst hr
  have hu8 : 0 ≤ u ∧ u ≤ 8 := by
   have := List.count_le_length (a := true) (l := m)
   omega
  have hmul0 : 0 ≤ u * q := Int.mul_nonneg hu8.1 hqb.1
  have hmul1 : u * q ≤ 8 * 32 := Int.mul_le_mul hu8.2 hqb.2 hqb.1 (by decide)
  conv => cbv
  refine callF_frame (words_lx d q hq) [] rfl trivial rfl rfl (fun r h' n' ⟨e1,e2,e3⟩ => ?_)
  subst e1 e2 e3
  conv => cbv
  refine Fit.mk (by show (-9223372036854775808 : Int) ≤ u * q; omega) (by show u * q ≤ 9223372036854775807; omega) fun p hp => ?_
  have hp : p = u * q := hp
  conv => cbv
  refine Fit.mk (by show (-9223372036854775808 : Int) ≤ acc + p; omega) (by show acc + p ≤ 9223372036854775807; omega) fun acc2 hac => ?_
  have hac : acc2 = acc + p := hac
  conv => cbv
  refine Fit.mk (by show (-9223372036854775808 : Int) ≤ i + 1; omega) (by show i + 1 ≤ 9223372036854775807; omega) fun i2 hi2 => ?_
  have hi2 : i2 = i + 1 := hi2
  have q1 : acc2 = f i2.toNat := by
   rw [hf,show i2.toNat = i.toNat + 1 by omega,List.take_add_one,he,List.map_append,List.sum_append,hac,hacc,hf,hp,hu,hq]
   simp
  have q2 : 0 ≤ acc2 := by omega
  have q3 : acc2 ≤ 256 * i2 := by omega
  have q4 : 0 ≤ i2 := by omega
  have q5 : i2 ≤ n := by omega
  have q6 : k' = (n - i2).toNat := by omega
  conv => cbv
  refine Again.mk k' _ (Nat.lt_succ_self _) (Re.at [(0,0),(1,1)] []) ⟨i2,acc2,rfl,q4,q5,q1,q2,q3,q6⟩
 ·have gi : ¬ i < n := gi
  have hend : acc = v := by rw [hacc,hf,List.take_of_length_le (by omega),hv]
  conv => cbv
  refine RetF.mk [i6 v] [hpC 0 1 137 2 n,hpP 1 L] 2 (Re.at [(0,0),(1,1)] []) rfl ⟨rfl,rfl,rfl⟩
theorem lenS_lx (n : Int) (L : List PV) : CallF (fun _ => Tryz.prog) 74 [.ptr 0 (.lit 0)] [hpC 0 1 137 2 n,hpP 1 L] 2
  (fun r h n' => r = .p (.int .i64 (.sym n)) ∧ h = [hpC 0 1 137 2 n,hpP 1 L] ∧ n' = 2) := by
 refine callF_of_body tok Tryz.func74 (by kernel_rfl) rfl rfl rfl ?_; conv => cbv
 refine RetF.mk [i6 n] [hpC 0 1 137 2 n,hpP 1 L] 2 (Re.at [(0,0),(1,1)] []) rfl ⟨rfl,rfl,rfl⟩
def R0 : List Rw := [(0,[]),(0,[])]
theorem alloced_new {c i s : Int} {b : Bool} {R' : List Rw} (h : Alloced R0 c i s b R') : (slotsOf c = 0 ∧ b = false) ∨ (slotsOf c ≠ 0 ∧ i = 0 ∧ s = 0 ∧ b = true ∧ R' = [(c,(List.replicate (slotsOf c) false).set 0 true),(0,[])]) := by
 cases h with
 | no h => exact .inl ⟨h,rfl⟩
 | old i s l h0 hi hs h1 h2 =>
  exfalso
  have hl : l = [] := by
   rcases i with _ | _ | i
   ·exact (congrArg Prod.snd (Option.some.inj hi)).symm
   ·exact (congrArg Prod.snd (Option.some.inj hi)).symm
   ·simp [R0] at hi
  rw [hl] at hs
  simp at hs
 | fresh i d h0 h2 hi h3 =>
  rcases i with _ | i
  ·exact .inr ⟨h0,rfl,rfl,rfl,rfl⟩
  ·exact absurd rfl (h3 0 (Nat.succ_pos _) 0)
 | full h0 h2 h3 => exact absurd rfl (h3 0 0)
theorem slots_iff (c : Int) : slotsOf c ≠ 0 ↔ 0 ≤ c ∧ c ≤ 3 := by
 unfold slotsOf
 constructor
 ·intro h
  split at h
  ·omega
  ·split at h
   ·omega
   ·split at h
    ·omega
    ·split at h
     ·omega
     ·exact absurd rfl h
 ·intro h
  split
  ·decide
  ·split
   ·decide
   ·split
    ·decide
    ·split
     ·decide
     ·omega
theorem R0_ok : ∀ e ∈ R0,e.2.length ≤ 8 := by decide
theorem used_no_lx (R : List Rw) (n i j d : Int) (m : List Bool) (L : List PV) (hL : L = rpv R) (hn : n = R.length) (hi0 : 0 ≤ i) (hi : R[i.toNat]? = some (d,m)) (hm : m.length ≤ 8) (hj : 0 ≤ j → m[j.toNat]? ≠ some true) : CallF (fun _ => Tryz.prog) 77 [.ptr 0 (.lit 0),i6 i,i6 j] [hpC 0 1 137 2 n,hpP 1 L] 2
  (fun r h n' => r = .p (.bool false) ∧ h = [hpC 0 1 137 2 n,hpP 1 L] ∧ n' = 2) := by
 have hiR : i.toNat < R.length := (List.getElem?_eq_some_iff.1 hi).1
 obtain ⟨y,hy⟩ : ∃ y : ByteArray,y = ⟨(mkB m).toArray⟩ := ⟨_,rfl⟩
 obtain ⟨c1,c2⟩ := rpv_get R i.toNat _ hi
 dsimp only at c1 c2
 rw [← hL] at c1 c2
 rw [← hy] at c2
 refine callF_of_body tok Tryz.func77 (by kernel_rfl) rfl rfl rfl ?_; conv => cbv
 refine cfr (has_lx n i L hi0 (by omega)) [(0,0),(1,1)] (fun r h' n' ⟨e1,e2,e3⟩ => ?_)
 subst e1 e2 e3
 conv => cbv
 refine Need.mk ⟨hi0,by show i < n; omega⟩ ?_
 conv => cbv
 refine Sum.mk fun w hw => ?_
 have hw : w = i * 2 := hw
 conv => cbv
 refine Sum.mk fun a ha => ?_
 have ha : a = w + 1 := ha
 conv => cbv
 refine Cell.at a _ c2 (by simp [I.val]) (by omega) ?_
 conv => cbv
 obtain ⟨N,hN⟩ : ∃ N : Int,N = m.length := ⟨_,rfl⟩
 have hys : (y.size : Int) = N := by rw [hy,mk_size,mkB_length,hN]
 refine LoopF.mk (fun k s => ∃ pos : Int,s = ⟨.ptr 0 (.lit 0) :: .p (.int .i64 (.sym i)) :: .p (.int .i64 (.sym j)) :: (undefs 18 ++ .ptr 2 (.lit 0) :: undefs 9),[(2,.iter (fun _ => y) (.sym pos)),hpC 0 1 137 2 n,hpP 1 L],3⟩ ∧ 0 ≤ pos ∧ pos ≤ N ∧ (j < 0 ∨ pos ≤ j) ∧ k = (N - pos).toNat) N.toNat _
  (Re.at [(0,0),(1,1),(2,2)] []) ⟨0,rfl,by omega,by omega,by omega,by omega⟩ ?_
 rintro k s ⟨pos,rfl,h0,h1,hpj,hk⟩
 conv => cbv
 by_cases hend : pos = N
 ·refine NextS.over (by show (y.size : Int) ≤ pos; omega) ?_
  conv => cbv
  refine RetF.mk [.p (.bool false)] [hpC 0 1 137 2 n,hpP 1 L] 2 (Re.at [(0,0),(1,1)] []) rfl ⟨rfl,rfl,rfl⟩
 ·obtain ⟨x,hb⟩ : ∃ x,m[pos.toNat]? = some x := ⟨_,List.getElem?_eq_getElem (by omega)⟩
  have hx : (mkB m)[pos.toNat]? = some (if x then 120 else 46) := by rw [mkB,List.getElem?_map,hb]; rfl
  have hd := dec_at (mkB m) (mkB_low m) pos.toNat _ hx
  rw [← hy] at hd
  obtain ⟨k',rfl⟩ : ∃ k',k = k' + 1 := ⟨k - 1,by omega⟩
  refine NextS.more (by show pos < (y.size : Int); omega) ?_
  intro r p' hr hp
  have hr : r = (if x then 120 else 46) := by
   have : r = ((Utf8.decode y pos.toNat).1 : Int) := hr
   rw [this,hd]; cases x <;> rfl
  have hp : p' = pos + 1 := by
   have : p' = pos + ((Utf8.decode y pos.toNat).2 : Int) := hp
   rw [this,hd]; rfl
  conv => cbv
  refine Br.mk (fun g => ?_) (fun g => ?_)
  ·have g : pos = j := g
   have hxb : x = false := by
    cases x with
    | false => rfl
    | true => exact absurd (by rw [← g]; exact hb) (hj (by omega))
   conv => cbv
   refine Br.mk (fun g2 => ?_) (fun g2 => ?_)
   ·have g2 : r = 120 := g2
    have gf : False := by rw [hxb] at hr; simp at hr; omega
    cases gf
   ·have g2 : ¬ r = 120 := g2
    conv => cbv
    refine RetF.mk [.p (.bool false)] [hpC 0 1 137 2 n,hpP 1 L] 2 (Re.at [(0,0),(1,1)] []) rfl ⟨rfl,rfl,rfl⟩
  ·have g : ¬ pos = j := g
   conv => cbv
   refine Again.mk k' _ (Nat.lt_succ_self _) (Re.at [(0,0),(1,1),(2,2)] []) ⟨p',rfl,by omega,by omega,by omega,by omega⟩
theorem free_no_lx (R : List Rw) (n i j d : Int) (m : List Bool) (L : List PV) (hL : L = rpv R) (hn : n = R.length) (hi0 : 0 ≤ i) (hi : R[i.toNat]? = some (d,m)) (hm : m.length ≤ 8) (hj : 0 ≤ j → m[j.toNat]? ≠ some true) : CallF (fun _ => Tryz.prog) 134 [.ptr 0 (.lit 0),i6 i,i6 j] [hpC 0 1 137 2 n,hpP 1 L] 2
  (fun r h n' => r = .p (.bool false) ∧ h = [hpC 0 1 137 2 n,hpP 1 L] ∧ n' = 2) := by
 refine callF_of_body tok Tryz.func134 (by kernel_rfl) rfl rfl rfl ?_; conv => cbv
 refine cfr (used_no_lx R n i j d m L hL hn hi0 hi hm hj) [(0,0),(1,1)] (fun r h' n' ⟨e1,e2,e3⟩ => ?_)
 subst e1 e2 e3
 conv => cbv
 refine RetF.mk [.p (.bool false)] [hpC 0 1 137 2 n,hpP 1 L] 2 (Re.at [(0,0),(1,1)] []) rfl ⟨rfl,rfl,rfl⟩
theorem pvles_self : ∀ l : List PV,pvles l l
 | [] => trivial
 | x :: l => ⟨pvle_refl x,pvles_self l⟩
theorem rpv_upd0 : ∀ (R : List Rw) (i : Nat),i < R.length → pvles (updL (rpv R) (2 * i) [.int .i64 (.lit 0),.str fun _ => ⟨#[]⟩]) (rpv (R.set i (0,[])))
 | [],i,h => by simp at h
 | (c,l) :: R,0,_ => ⟨by simp [pvle,I.val],SEq.mk rfl,pvles_self _⟩
 | (c,l) :: R,i + 1,h => by
  have ih := rpv_upd0 R i (by simpa using h)
  exact ⟨pvle_refl _,pvle_refl _,ih⟩
def freed (R : List Rw) (i : Nat) (d : Int) (m : List Bool) : List Rw := R.set i (if m.count true = 0 then (0,[]) else (d,m))
theorem free_lx (R R' : List Rw) (n i j d : Int) (m : List Bool) (L : List PV) (hL : L = rpv R) (hn : n = R.length) (hR : R.length ≤ 1000) (hi0 : 0 ≤ i) (hi : R[i.toNat]? = some (d,m)) (hm : m.length ≤ 8) (hj0 : 0 ≤ j) (hj : m[j.toNat]? = some true) (hR' : R' = freed R i.toNat d (m.set j.toNat false)) :
  CallF (fun _ => Tryz.prog) 134 [.ptr 0 (.lit 0),i6 i,i6 j] [hpC 0 1 137 2 n,hpP 1 L] 2
   (fun r h n' => ∃ L' : List PV,r = .p (.bool true) ∧ h = [hpC 0 1 137 2 n,hpP 1 L'] ∧ n' = 2 ∧ L' = rpv R') := by
 have hiR : i.toNat < R.length := (List.getElem?_eq_some_iff.1 hi).1
 obtain ⟨m2,hm2⟩ : ∃ m2,m2 = m.set j.toNat false := ⟨_,rfl⟩
 have hm2l : m2.length ≤ 8 := by rw [hm2,List.length_set]; exact hm
 obtain ⟨R2,hR2⟩ : ∃ R2,R2 = R.set i.toNat (d,m2) := ⟨_,rfl⟩
 have hR2i : R2[i.toNat]? = some (d,m2) := by rw [hR2,List.getElem?_set_self hiR]
 have hR2l : R2.length = R.length := by rw [hR2,List.length_set]
 obtain ⟨y,hy⟩ : ∃ y : ByteArray,y = ⟨(mkB m2).toArray⟩ := ⟨_,rfl⟩
 refine callF_of_body tok Tryz.func134 (by kernel_rfl) rfl rfl rfl ?_; conv => cbv
 refine cfr (used_lx R n i j d m L hL hn hi0 hi true hj0 hj) [(0,0),(1,1)] (fun r h' n' ⟨e1,e2,e3⟩ => ?_)
 subst e1 e2 e3
 conv => cbv
 refine CallF.le (args0 := [.ptr 0 (.lit 0),i6 i,i6 j,.p (.int .i32 (.sym 46))]) (cfr (mark_lx R n i j 46 d m L hL hn hi0 hi hm hR false rfl) [(0,0),(1,1)] (fun r h' n' hrr => ?_)) (by simp [ales,ale,pvle,I.val])
 obtain ⟨L2,e1,e2,e3,hL2⟩ := hrr
 rw [if_pos hj0,← hm2,← hR2] at hL2
 subst e1 e2 e3
 obtain ⟨c1,c2⟩ := rpv_get R2 i.toNat _ hR2i
 dsimp only at c1 c2
 rw [← hL2] at c1 c2
 rw [← hy] at c2
 have hL2l : L2.length = 2 * R.length := by rw [hL2,rpv_length,hR2l]
 conv => cbv
 refine Need.mk ⟨hi0,by show i < n; omega⟩ ?_
 conv => cbv
 refine Sum.mk fun w hw => ?_
 have hw : w = i * 2 := hw
 conv => cbv
 refine Sum.mk fun a ha => ?_
 have ha : a = w + 1 := ha
 conv => cbv
 refine Cell.at a _ c2 (by simp [I.val]) (by omega) ?_
 conv => cbv
 refine callF_val (countUsed_lx m2 y hy (by omega)) (by simp [ales,ale,renVs,renV,pvle_refl]) rfl (fun r ⟨v,hr,_⟩ => by subst hr; rfl) (fun r hrr => ?_)
 obtain ⟨u,hr,hu⟩ := hrr
 subst hr
 conv => cbv
 refine Br.mk (fun g => ?_) (fun g => ?_)
 ·have g : u = 0 := g
  have hq : R' = R2.set i.toNat (0,[]) := by
   rw [hR',freed,← hm2,if_pos (by omega),hR2,List.set_set]
  obtain ⟨L9,hL9⟩ : ∃ L9,L9 = rpv R' := ⟨_,rfl⟩
  conv => cbv
  refine Need.mk ⟨hi0,by show i < n; omega⟩ ?_
  conv => cbv
  refine Sum.mk fun w2 hw2 => ?_
  have hw2 : w2 = i * 2 := hw2
  conv => cbv
  refine Need.mk (by show w2 + ((2 : Nat) : Int) ≤ (L2.length : Int); omega) ?_
  conv => cbv
  refine Upd.mk fun L3 hL3 => ?_
  have hL3 : L3 = updL L2 w2.toNat [.int .i64 (.lit 0),.str fun _ => ⟨#[]⟩] := hL3
  have hle : pvles L3 L9 := by
   rw [hL3,hL2,hL9,hq,show w2.toNat = 2 * i.toNat by omega]
   exact rpv_upd0 R2 i.toNat (by omega)
  clear hL3
  unfold pvles at hle
  conv => cbv
  refine RetF.mk [.p (.bool true)] [hpC 0 1 137 2 n,hpP 1 L9] 2 (Re.at [(0,0),(1,1)] []) rfl ⟨L9,rfl,rfl,rfl,hL9⟩
 ·have g : ¬ u = 0 := g
  have hq : R' = R2 := by rw [hR',freed,← hm2,if_neg (by omega),hR2]
  rw [← hq] at hL2
  conv => cbv
  refine RetF.mk [.p (.bool true)] [hpC 0 1 137 2 n,hpP 1 L2] 2 (Re.at [(0,0),(1,1)] []) rfl ⟨L2,rfl,rfl,rfl,hL2⟩
theorem class_none_lx (R : List Rw) (n i d : Int) (L : List PV) (hL : L = rpv R) (hn : n = R.length) (hi0 : 0 ≤ i) (hi : R[i.toNat]? = some (d,[])) : CallF (fun _ => Tryz.prog) 75 [.ptr 0 (.lit 0),i6 i] [hpC 0 1 137 2 n,hpP 1 L] 2
  (fun r h n' => (∃ v : Int,r = .p (.int .i64 (.sym v)) ∧ v = -1) ∧ h = [hpC 0 1 137 2 n,hpP 1 L] ∧ n' = 2) := by
 have hiR : i.toNat < R.length := (List.getElem?_eq_some_iff.1 hi).1
 obtain ⟨y,hy⟩ : ∃ y : ByteArray,y = ⟨(mkB []).toArray⟩ := ⟨_,rfl⟩
 obtain ⟨c1,c2⟩ := rpv_get R i.toNat _ hi
 dsimp only at c1 c2
 rw [← hL] at c1 c2
 rw [← hy] at c2
 have hyn : y = ⟨#[]⟩ := hy
 refine callF_of_body tok Tryz.func75 (by kernel_rfl) rfl rfl rfl ?_; conv => cbv
 refine cfr (has_lx n i L hi0 (by omega)) [(0,0),(1,1)] (fun r h' n' ⟨e1,e2,e3⟩ => ?_)
 subst e1 e2 e3
 conv => cbv
 refine Need.mk ⟨hi0,by show i < n; omega⟩ ?_
 conv => cbv
 refine Sum.mk fun w hw => ?_
 have hw : w = i * 2 := hw
 conv => cbv
 refine Sum.mk fun a ha => ?_
 have ha : a = w + 1 := ha
 conv => cbv
 refine Cell.at a _ c2 (by simp [I.val]) (by omega) ?_
 conv => cbv
 refine Br.mk (fun g => ?_) (fun g => ?_)
 case refine_2 =>
  have gf : False := g hyn
  cases gf
 conv => cbv
 refine RetF.mk [i6 (-1)] [hpC 0 1 137 2 n,hpP 1 L] 2 (Re.at [(0,0),(1,1)] []) rfl ⟨⟨-1,rfl,rfl⟩,rfl,rfl⟩
def clsOf (e : Rw) : Int := if e.2 = [] then -1 else e.1
theorem classA_lx (R : List Rw) (n i v : Int) (e : Rw) (L : List PV) (hL : L = rpv R) (hn : n = R.length) (hi0 : 0 ≤ i) (hi : R[i.toNat]? = some e) (hv : v = clsOf e) : CallF (fun _ => Tryz.prog) 75 [.ptr 0 (.lit 0),i6 i] [hpC 0 1 137 2 n,hpP 1 L] 2
  (fun r h n' => r = .p (.int .i64 (.sym v)) ∧ h = [hpC 0 1 137 2 n,hpP 1 L] ∧ n' = 2) := by
 obtain ⟨d,m⟩ := e
 unfold clsOf at hv
 by_cases hm : m = []
 ·subst hm
  rw [if_pos rfl] at hv
  refine (class_none_lx R n i d L hL hn hi0 hi).mono ?_
  rintro r h n' ⟨⟨v',e1,e2⟩,e3,e4⟩
  exact ⟨by rw [e1,e2,hv],e3,e4⟩
 ·rw [if_neg hm] at hv
  rw [hv]
  exact class_lx R n i d m L hL hn hi0 hi hm
theorem wordsOf_cases (c : Int) : wordsOf c = 0 ∨ wordsOf c = 4 ∨ wordsOf c = 8 ∨ wordsOf c = 16 ∨ wordsOf c = 32 := by
 unfold wordsOf
 split
 ·omega
 ·split
  ·omega
  ·split
   ·omega
   ·split <;> omega
theorem refWords_lx (c w : Int) (h0 : 0 ≤ c) (h3 : c ≤ 3) (hw : w = wordsOf c) : CallF (fun _ => Tryz.prog) 62 [i6 c] [] 0 (fun r h n => r = .p (.int .i64 (.sym w)) ∧ h = [] ∧ n = 0) := by
 refine callF_of_body tok Tryz.func62 (by kernel_rfl) rfl rfl rfl ?_; conv => cbv
 refine Br.mk (fun g => ?_) (fun g => ?_)
 case refine_1 =>
  have gf : False := by have g : c < 0 := g; omega
  cases gf
 conv => cbv
 refine Br.mk (fun g => ?_) (fun g => ?_)
 case refine_1 =>
  have gf : False := by have g : 3 < c := g; omega
  cases gf
 conv => cbv
 refine Need.mk ⟨h0,by show c < 4; omega⟩ ?_
 conv => cbv
 have hc4 : c = 0 ∨ c = 1 ∨ c = 2 ∨ c = 3 := by omega
 rcases hc4 with e | e | e | e
 ·refine Cell.at c 0 (v := .int .i64 (.lit 4)) rfl (by simp [I.val]) (by omega) ?_
  have hw4 : w = 4 := by rw [hw,e]; rfl
  conv => cbv
  refine RetF.mk [i6 w] [] 0 (Re.at [] []) rfl ⟨rfl,rfl,rfl⟩
 ·refine Cell.at c 1 (v := .int .i64 (.lit 8)) rfl (by simp [I.val]) (by omega) ?_
  have hw4 : w = 8 := by rw [hw,e]; rfl
  conv => cbv
  refine RetF.mk [i6 w] [] 0 (Re.at [] []) rfl ⟨rfl,rfl,rfl⟩
 ·refine Cell.at c 2 (v := .int .i64 (.lit 16)) rfl (by simp [I.val]) (by omega) ?_
  have hw4 : w = 16 := by rw [hw,e]; rfl
  conv => cbv
  refine RetF.mk [i6 w] [] 0 (Re.at [] []) rfl ⟨rfl,rfl,rfl⟩
 ·refine Cell.at c 3 (v := .int .i64 (.lit 32)) rfl (by simp [I.val]) (by omega) ?_
  have hw4 : w = 32 := by rw [hw,e]; rfl
  conv => cbv
  refine RetF.mk [i6 w] [] 0 (Re.at [] []) rfl ⟨rfl,rfl,rfl⟩
theorem refSlots_lx (c k : Int) (h0 : 0 ≤ c) (h3 : c ≤ 3) (hk : k = slotsOf c) : CallF (fun _ => Tryz.prog) 30 [i6 c] [] 0 (fun r h n => r = .p (.int .i64 (.sym k)) ∧ h = [] ∧ n = 0) := by
 obtain ⟨w,hw⟩ : ∃ w,w = wordsOf c := ⟨_,rfl⟩
 refine callF_of_body tok Tryz.func30 (by kernel_rfl) rfl rfl rfl ?_; conv => cbv
 refine Br.mk (fun g => ?_) (fun g => ?_)
 case refine_1 =>
  have gf : False := by have g : c < 0 := g; omega
  cases gf
 conv => cbv
 refine Br.mk (fun g => ?_) (fun g => ?_)
 case refine_1 =>
  have gf : False := by have g : 3 < c := g; omega
  cases gf
 conv => cbv
 refine callF_frame (refWords_lx c w h0 h3 hw) [] rfl trivial rfl rfl (fun r h' n' ⟨e1,e2,e3⟩ => ?_)
 subst e1 e2 e3
 conv => cbv
 have hk2 : k = (32 : Int).tdiv w ∧ w ≠ 0 := by
  have : c = 0 ∨ c = 1 ∨ c = 2 ∨ c = 3 := by omega
  rcases this with e | e | e | e <;> (subst e; subst hk; subst hw; decide)
 have hk8 : 0 ≤ k ∧ k ≤ 8 := by
  have : c = 0 ∨ c = 1 ∨ c = 2 ∨ c = 3 := by omega
  rcases this with e | e | e | e <;> (subst e; subst hk; decide)
 refine Need.mk (show w ≠ 0 from hk2.2) ?_
 conv => cbv
 refine Fit.mk (by show (-9223372036854775808 : Int) ≤ Int.tdiv 32 w; omega) (by show Int.tdiv 32 w ≤ 9223372036854775807; omega) fun q hq => ?_
 have hq : q = Int.tdiv 32 w := hq
 have hqk : q = k := by rw [hq,hk2.1]
 conv => cbv
 refine RetF.mk [i6 k] [] 0 (Re.at [] []) rfl ⟨rfl,rfl,rfl⟩
theorem refSlotsA_lx (c k : Int) (hk : k = slotsOf c) : CallF (fun _ => Tryz.prog) 30 [i6 c] [] 0 (fun r h n => r = .p (.int .i64 (.sym k)) ∧ h = [] ∧ n = 0) := by
 by_cases h0 : 0 ≤ c ∧ c ≤ 3
 ·exact refSlots_lx c k h0.1 h0.2 hk
 have hk0 : k = 0 := by
  rw [hk]
  have : slotsOf c = 0 := Classical.byContradiction fun h => h0 ((slots_iff c).1 h)
  rw [this]; rfl
 refine callF_of_body tok Tryz.func30 (by kernel_rfl) rfl rfl rfl ?_; conv => cbv
 refine Br.mk (fun g => ?_) (fun g => ?_)
 ·conv => cbv
  refine RetF.mk [i6 k] [] 0 (Re.at [] []) rfl ⟨rfl,rfl,rfl⟩
 have g : ¬ c < 0 := g
 conv => cbv
 refine Br.mk (fun g => ?_) (fun g => ?_)
 ·conv => cbv
  refine RetF.mk [i6 k] [] 0 (Re.at [] []) rfl ⟨rfl,rfl,rfl⟩
 ·have gf : False := by have g : ¬ 3 < c := g; omega
  cases gf
theorem refWordsA_lx (c w : Int) (hw : w = wordsOf c) : CallF (fun _ => Tryz.prog) 62 [i6 c] [] 0 (fun r h n => r = .p (.int .i64 (.sym w)) ∧ h = [] ∧ n = 0) := by
 by_cases h0 : 0 ≤ c ∧ c ≤ 3
 ·exact refWords_lx c w h0.1 h0.2 hw
 have hk0 : w = 0 := by rw [hw,wordsOf,if_neg (by omega),if_neg (by omega),if_neg (by omega),if_neg (by omega)]
 refine callF_of_body tok Tryz.func62 (by kernel_rfl) rfl rfl rfl ?_; conv => cbv
 refine Br.mk (fun g => ?_) (fun g => ?_)
 ·conv => cbv
  refine RetF.mk [i6 w] [] 0 (Re.at [] []) rfl ⟨rfl,rfl,rfl⟩
 have g : ¬ c < 0 := g
 conv => cbv
 refine Br.mk (fun g => ?_) (fun g => ?_)
 ·conv => cbv
  refine RetF.mk [i6 w] [] 0 (Re.at [] []) rfl ⟨rfl,rfl,rfl⟩
 ·have gf : False := by have g : ¬ 3 < c := g; omega
  cases gf
def ofN (n : Int) : Int := if n < 4 then 0 else if n < 8 then 1 else if n < 16 then 2 else 3
inductive OfR (n : Int) : Int → Bool → Prop
 | yes (c : Int) (hc : c = ofN n) (h : 0 ≤ n ∧ n ≤ 31) : OfR n c true
 | no (h : ¬ (0 ≤ n ∧ n ≤ 31)) : OfR n 0 false
theorem of_lx (n : Int) : CallF (fun _ => Tryz.prog) 101 [i6 n] [] 0 (fun r h m => ∃ (c : Int) (b : Bool),r = .tup [i6 c,.p (.bool b)] ∧ h = [] ∧ m = 0 ∧ OfR n c b) := by
 refine callF_of_body tok Tryz.func101 (by kernel_rfl) rfl rfl rfl ?_; conv => cbv
 refine Br.mk (fun g => ?_) (fun g => ?_)
 ·have g : n < 0 := g
  have q : OfR n 0 false := .no (by omega)
  conv => cbv
  refine RetF.mk [i6 0,.p (.bool false)] [] 0 (Re.at [] []) rfl ⟨0,false,rfl,rfl,rfl,q⟩
 ·have g : ¬ n < 0 := g
  conv => cbv
  refine LoopF.mk (fun k s => ∃ pos : Int,s = ⟨.p (.int .i64 (.sym n)) :: (undefs 7 ++ .ptr 0 (.lit 0) :: undefs 9),[(0,.iter (fun _ => ⟨#[4,8,16,32]⟩) (.sym pos))],1⟩ ∧ 0 ≤ pos ∧ pos ≤ 4 ∧ (1 ≤ pos → 4 ≤ n) ∧ (2 ≤ pos → 8 ≤ n) ∧ (3 ≤ pos → 16 ≤ n) ∧ (4 ≤ pos → 32 ≤ n) ∧ k = (4 - pos).toNat) 4 _
   (Re.at [(0,0)] []) ⟨0,rfl,by omega,by omega,by omega,by omega,by omega,by omega,by omega⟩ ?_
  rintro k s ⟨pos,rfl,h0,h4,q1,q2,q3,q4,hk⟩
  conv => cbv
  by_cases hend : pos = 4
  ·have q : OfR n 0 false := .no (by omega)
   refine NextS.over (by show (4 : Int) ≤ pos; omega) ?_
   conv => cbv
   refine RetF.mk [i6 0,.p (.bool false)] [] 0 (Re.at [] []) rfl ⟨0,false,rfl,rfl,rfl,q⟩
  ·obtain ⟨x,hx⟩ : ∃ x,([4,8,16,32] : List UInt8)[pos.toNat]? = some x := ⟨_,List.getElem?_eq_getElem (by simp; omega)⟩
   have hd := dec_at [4,8,16,32] (by decide) pos.toNat x hx
   have hx4 : pos = 0 ∧ x.toNat = 4 ∨ pos = 1 ∧ x.toNat = 8 ∨ pos = 2 ∧ x.toNat = 16 ∨ pos = 3 ∧ x.toNat = 32 := by
    have : pos = 0 ∨ pos = 1 ∨ pos = 2 ∨ pos = 3 := by omega
    rcases this with e2 | e2 | e2 | e2 <;> (rw [e2] at hx; have hx := Option.some.inj hx; rw [← hx]; rw [e2]; decide)
   refine NextS.more (by show pos < (4 : Int); omega) ?_
   intro r p' hr hp
   have hr : r = (x.toNat : Int) := by
    have : r = ((Utf8.decode ⟨#[4,8,16,32]⟩ pos.toNat).1 : Int) := hr
    rw [this,hd]
   have hp : p' = pos + 1 := by
    have : p' = pos + ((Utf8.decode ⟨#[4,8,16,32]⟩ pos.toNat).2 : Int) := hp
    rw [this,hd]; rfl
   obtain ⟨k',rfl⟩ : ∃ k',k = k' + 1 := ⟨k - 1,by omega⟩
   conv => cbv
   refine Fit.mk (by show (-9223372036854775808 : Int) ≤ r; omega) (by show r ≤ 9223372036854775807; omega) fun q hq => ?_
   have hq : q = r := hq
   conv => cbv
   refine Br.mk (fun g => ?_) (fun g => ?_)
   ·have g : n < q := g
    have hc : pos = ofN n := by
     unfold ofN
     rcases hx4 with ⟨e1,e2⟩ | ⟨e1,e2⟩ | ⟨e1,e2⟩ | ⟨e1,e2⟩
     ·rw [if_pos (by omega)]; exact e1
     ·rw [if_neg (by omega),if_pos (by omega)]; exact e1
     ·rw [if_neg (by omega),if_neg (by omega),if_pos (by omega)]; exact e1
     ·rw [if_neg (by omega),if_neg (by omega),if_neg (by omega)]; exact e1
    have qq : OfR n pos true := .yes pos hc (by omega)
    conv => cbv
    refine RetF.mk [i6 pos,.p (.bool true)] [] 0 (Re.at [] []) rfl ⟨pos,true,rfl,rfl,rfl,qq⟩
   ·have g : ¬ n < q := g
    conv => cbv
    refine Again.mk k' _ (Nat.lt_succ_self _) (Re.at [(0,0)] []) ⟨p',rfl,by omega,by omega,by omega,by omega,by omega,by omega,by omega⟩
inductive SlotAt (R : List Rw) (at_ : Int) : Int → Int → Bool → Prop
 | no (h : ∀ (q s : Nat) (e : Rw),R[q]? = some e → wordsOf (clsOf e) ≠ 0 → (s : Int) * wordsOf (clsOf e) < 32 → at_ ≠ 32 * q + s * wordsOf (clsOf e)) : SlotAt R at_ 0 0 false
 | is (q s : Nat) (e : Rw) (he : R[q]? = some e) (hs : wordsOf (clsOf e) ≠ 0) (hlt : (s : Int) * wordsOf (clsOf e) < 32) (hat : at_ = 32 * q + s * wordsOf (clsOf e)) : SlotAt R at_ q s true
theorem slotAt_lx (R : List Rw) (n at_ W : Int) (L D : List PV) (hL : L = rpv R) (hn : n = R.length) (hR : R.length ≤ 1000) (hW : W = 32 * n) : CallF (fun _ => Tryz.prog) 106 [.ptr 0 (.lit 0),i6 at_] [hpB 0 1 3 3 W,hpC 1 2 137 2 n,hpP 2 L,hpP 3 D] 4
  (fun r h n' => ∃ (q s : Int) (b : Bool),r = .tup [i6 q,i6 s,.p (.bool b)] ∧ h = [hpB 0 1 3 3 W,hpC 1 2 137 2 n,hpP 2 L,hpP 3 D] ∧ n' = 4 ∧ SlotAt R at_ q s b) := by
 refine callF_of_body tok Tryz.func106 (by kernel_rfl) rfl rfl rfl ?_; conv => cbv
 refine Br.mk (fun g => ?_) (fun g => ?_)
 ·have g : at_ < 0 := g
  have qq : SlotAt R at_ 0 0 false := .no (fun q s e he hs hlt => by
   have : 0 ≤ (s : Int) * wordsOf (clsOf e) := Int.mul_nonneg (by omega) (wordsOf_bd _).1
   omega)
  conv => cbv
  refine RetF.mk [i6 0,i6 0,.p (.bool false)] [hpB 0 1 3 3 W,hpC 1 2 137 2 n,hpP 2 L,hpP 3 D] 4 (Re.at [(0,0),(1,1),(2,2),(3,3)] []) rfl ⟨0,0,false,rfl,rfl,rfl,qq⟩
 have g : ¬ at_ < 0 := g
 conv => cbv
 refine Br.mk (fun g2 => ?_) (fun g2 => ?_)
 ·have g2 : W ≤ at_ := g2
  have qq : SlotAt R at_ 0 0 false := .no (fun q s e he hs hlt => by
   have := (List.getElem?_eq_some_iff.1 he).1
   omega)
  conv => cbv
  refine RetF.mk [i6 0,i6 0,.p (.bool false)] [hpB 0 1 3 3 W,hpC 1 2 137 2 n,hpP 2 L,hpP 3 D] 4 (Re.at [(0,0),(1,1),(2,2),(3,3)] []) rfl ⟨0,0,false,rfl,rfl,rfl,qq⟩
 have g2 : ¬ W ≤ at_ := g2
 conv => cbv
 have ht : Int.tdiv at_ 32 = at_ / 32 := Int.tdiv_eq_ediv_of_nonneg (by omega)
 refine Fit.mk (by show (-9223372036854775808 : Int) ≤ Int.tdiv at_ 32; omega) (by show Int.tdiv at_ 32 ≤ 9223372036854775807; omega) fun q hq => ?_
 have hq : q = at_ / 32 := (show q = Int.tdiv at_ 32 from hq).trans ht
 clear ht
 conv => cbv
 refine Sum.mk fun z hz => ?_
 have hz : z = at_ % 32 := (show z = Int.tmod at_ 32 from hz).trans (Int.tmod_eq_emod_of_nonneg (by omega))
 obtain ⟨e,he⟩ : ∃ e,R[q.toNat]? = some e := ⟨_,List.getElem?_eq_getElem (by omega)⟩
 obtain ⟨v,hv⟩ : ∃ v,v = clsOf e := ⟨_,rfl⟩
 obtain ⟨w,hw⟩ : ∃ w,w = wordsOf v := ⟨_,rfl⟩
 have hw5 := wordsOf_cases v
 rw [← hw] at hw5
 conv => cbv
 refine cfr (classA_lx R n q v e L hL hn (by omega) he hv) [(0,1),(1,2)] (fun r h' n' ⟨e1,e2,e3⟩ => ?_)
 subst e1 e2 e3
 conv => cbv
 refine callF_frame (words_lx v w hw) [] rfl trivial rfl rfl (fun r h' n' ⟨e1,e2,e3⟩ => ?_)
 subst e1 e2 e3
 conv => cbv
 refine Br.mk (fun g3 => ?_) (fun g3 => ?_)
 ·have g3 : w = 0 := g3
  have qq : SlotAt R at_ 0 0 false := .no (fun q' s' e' he' hs' hlt' hat' => by
   have h0 : 0 ≤ (s' : Int) * wordsOf (clsOf e') := Int.mul_nonneg (by omega) (wordsOf_bd _).1
   have : q' = q.toNat := by omega
   subst this
   rw [he] at he'
   cases he'
   rw [← hv,← hw] at hs'
   exact hs' g3)
  conv => cbv
  refine RetF.mk [i6 0,i6 0,.p (.bool false)] [hpB 0 1 3 3 W,hpC 1 2 137 2 n,hpP 2 L,hpP 3 D] 4 (Re.at [(0,0),(1,1),(2,2),(3,3)] []) rfl ⟨0,0,false,rfl,rfl,rfl,qq⟩
 have g3 : ¬ w = 0 := g3
 conv => cbv
 refine Need.mk g3 ?_
 conv => cbv
 refine Sum.mk fun y hy => ?_
 have hy : y = z % w := (show y = Int.tmod z w from hy).trans (Int.tmod_eq_emod_of_nonneg (by omega))
 conv => cbv
 refine Br.mk (fun g4 => ?_) (fun g4 => ?_)
 ·have g4 : ¬ y = 0 := g4
  have qq : SlotAt R at_ 0 0 false := .no (fun q' s' e' he' hs' hlt' hat' => by
   have h0 : 0 ≤ (s' : Int) * wordsOf (clsOf e') := Int.mul_nonneg (by omega) (wordsOf_bd _).1
   have : q' = q.toNat := by omega
   subst this
   rw [he] at he'
   cases he'
   rw [← hv,← hw] at hat' h0 hlt'
   have : z = s' * w := by omega
   rw [this,Int.mul_emod_left] at hy
   exact g4 hy)
  conv => cbv
  refine RetF.mk [i6 0,i6 0,.p (.bool false)] [hpB 0 1 3 3 W,hpC 1 2 137 2 n,hpP 2 L,hpP 3 D] 4 (Re.at [(0,0),(1,1),(2,2),(3,3)] []) rfl ⟨0,0,false,rfl,rfl,rfl,qq⟩
 have g4 : y = 0 := Classical.byContradiction g4
 have ht : Int.tdiv z w = z / w := Int.tdiv_eq_ediv_of_nonneg (by omega)
 have hwz : w * (z / w) + z % w = z := Int.mul_ediv_add_emod z w
 have hd0 : 0 ≤ z / w := Int.ediv_nonneg (by omega) (by omega)
 obtain ⟨sn,hsn⟩ : ∃ sn : Nat,(sn : Int) = z / w := ⟨(z / w).toNat,by omega⟩
 rw [← hsn] at hwz ht
 have hsb : (sn : Int) ≤ z := by
  have h1 : (1 : Int) * sn ≤ w * sn := Int.mul_le_mul_of_nonneg_right (by omega) (by omega)
  omega
 have qq : SlotAt R at_ q sn true := by
  have hqn : q = (q.toNat : Int) := by omega
  rw [hqn]
  have hmul : (sn : Int) * w = z := by rw [Int.mul_comm]; omega
  refine .is q.toNat sn e he ?_ ?_ ?_
  ·rw [← hv,← hw]; exact g3
  ·rw [← hv,← hw,hmul]; omega
  ·rw [← hv,← hw,hmul]; omega
 clear hwz hd0
 conv => cbv
 refine draw_sound tok (by kernel_rfl) rfl (by kernel_rfl) ?_
 conv => cbv
 refine Need.mk g3 ?_
 conv => cbv
 refine Fit.mk (by show (-9223372036854775808 : Int) ≤ Int.tdiv z w; omega) (by show Int.tdiv z w ≤ 9223372036854775807; omega) fun s0 hs0 => ?_
 have hs0 : s0 = sn := (show s0 = Int.tdiv z w from hs0).trans ht
 rw [← hs0] at qq
 conv => cbv
 refine RetF.mk [i6 q,i6 s0,.p (.bool true)] [hpB 0 1 3 3 W,hpC 1 2 137 2 n,hpP 2 L,hpP 3 D] 4 (Re.at [(0,0),(1,1),(2,2),(3,3)] []) rfl ⟨q,s0,true,rfl,rfl,rfl,qq⟩
def ipv (l : List Int) : List PV := l.map fun z => .int .i64 (.sym z)
theorem ipv_get {l : List Int} {i : Nat} {z : Int} (h : l[i]? = some z) : (ipv l)[i]? = some (.int .i64 (.sym z)) := by rw [ipv,List.getElem?_map,h]; rfl
theorem ipv_length (l : List Int) : (ipv l).length = l.length := List.length_map _
def RowsOk (R : List Rw) : Prop := ∀ e ∈ R,e.2.length ≤ 8 ∧ (e.2 ≠ [] → wordsOf e.1 ≠ 0 ∧ e.2.length = slotsOf e.1 ∧ true ∈ e.2)
def IsObj (R : List Rw) (at_ : Int) : Prop := ∃ (q s : Nat) (e : Rw),R[q]? = some e ∧ e.2[s]? = some true ∧ at_ = 32 * q + s * wordsOf e.1
theorem slots_words {c : Int} {s : Nat} (h : wordsOf c ≠ 0) (hs : s < slotsOf c) : (s : Int) * wordsOf c + wordsOf c ≤ 32 := by
 unfold wordsOf at *
 unfold slotsOf at hs
 split at h
 ·rw [if_pos (by assumption)] at hs ⊢; omega
 ·split at h
  ·rw [if_neg (by assumption),if_pos (by assumption)] at hs ⊢; omega
  ·split at h
   ·rw [if_neg (by assumption),if_neg (by assumption),if_pos (by assumption)] at hs ⊢; omega
   ·split at h
    ·rw [if_neg (by assumption),if_neg (by assumption),if_neg (by assumption),if_pos (by assumption)] at hs ⊢; omega
    ·exact absurd rfl h
theorem obj_slot {R : List Rw} (hR : RowsOk R) {at_ : Int} {q s : Int} {b : Bool} (h : SlotAt R at_ q s b) : (b = true ∧ 0 ≤ q ∧ 0 ≤ s ∧ q < R.length ∧ 0 ≤ at_ ∧ at_ < 32 * R.length ∧ ∃ e : Rw,R[q.toNat]? = some e ∧ at_ = 32 * q + s * wordsOf e.1 ∧ (IsObj R at_ ↔ e.2[s.toNat]? = some true)) ∨ (b = false ∧ ¬ IsObj R at_) := by
 cases h with
 | no h =>
  refine .inr ⟨rfl,?_⟩
  rintro ⟨q,s,e,he,hs,hat⟩
  have hne : e.2 ≠ [] := by intro e0; rw [e0] at hs; simp at hs
  have hcl : clsOf e = e.1 := if_neg hne
  obtain ⟨_,hok⟩ := hR e (List.mem_of_getElem? he)
  obtain ⟨h1,h2,_⟩ := hok hne
  have hsl : s < slotsOf e.1 := by have := (List.getElem?_eq_some_iff.1 hs).1; omega
  have := slots_words h1 hsl
  have := (wordsOf_bd e.1).1
  exact h q s e he (by rw [hcl]; exact h1) (by rw [hcl]; omega) (by rw [hcl]; exact hat)
 | is q s e he hs hlt hat =>
  have hne : e.2 ≠ [] := by intro e0; apply hs; rw [clsOf,if_pos e0]; rfl
  have hcl : clsOf e = e.1 := if_neg hne
  rw [hcl] at hs hlt hat
  have hq := (List.getElem?_eq_some_iff.1 he).1
  have h0 : 0 ≤ (s : Int) * wordsOf e.1 := Int.mul_nonneg (by omega) (wordsOf_bd _).1
  refine .inl ⟨rfl,by omega,by omega,by omega,by omega,by omega,e,by simpa using he,by simpa using hat,?_⟩
  constructor
  ·rintro ⟨q',s',e',he',hs',hat'⟩
   have hne' : e'.2 ≠ [] := by intro e0; rw [e0] at hs'; simp at hs'
   obtain ⟨_,hok⟩ := hR e' (List.mem_of_getElem? he')
   obtain ⟨h1,h2,_⟩ := hok hne'
   have hsl : s' < slotsOf e'.1 := by have := (List.getElem?_eq_some_iff.1 hs').1; omega
   have h3 := slots_words h1 hsl
   have h4 := (wordsOf_bd e'.1).1
   have h5 : 0 ≤ (s' : Int) * wordsOf e'.1 := Int.mul_nonneg (by omega) h4
   have h6 : q' = q := by omega
   subst h6
   rw [he] at he'
   cases he'
   have h7 : (s : Int) * wordsOf e.1 = s' * wordsOf e.1 := by omega
   have h8 := Int.eq_of_mul_eq_mul_right h1 h7
   rw [Int.toNat_natCast,show s = s' by omega]; exact hs'
  ·intro h
   exact ⟨q,s,e,he,by simpa using h,hat⟩
inductive Slotted (R : List Rw) (at_ : Int) : Int → Int → Bool → Prop
 | no (q s : Int) (h : ¬ IsObj R at_) : Slotted R at_ q s false
 | off (q s : Int) (e : Rw) (hq0 : 0 ≤ q) (hs0 : 0 ≤ s) (he : R[q.toNat]? = some e) (hu : e.2[s.toNat]? ≠ some true) (h : ¬ IsObj R at_) : Slotted R at_ q s true
 | on (q s : Int) (e : Rw) (hq0 : 0 ≤ q) (hs0 : 0 ≤ s) (he : R[q.toNat]? = some e) (hu : e.2[s.toNat]? = some true) (h : IsObj R at_) (ha0 : 0 ≤ at_) (ha1 : at_ < 32 * R.length) (hat : at_ = 32 * q + s * wordsOf e.1) : Slotted R at_ q s true
theorem slotted {R : List Rw} (hR : RowsOk R) {at_ : Int} {q s : Int} {b : Bool} (h : SlotAt R at_ q s b) : Slotted R at_ q s b := by
 rcases obj_slot hR h with ⟨rfl,h1,h2,h3,h4,h5,e,h6,h7,h8⟩ | ⟨rfl,h1⟩
 ·by_cases hu : e.2[s.toNat]? = some true
  ·exact .on q s e h1 h2 h6 hu (h8.2 hu) h4 h5 h7
  ·exact .off q s e h1 h2 h6 hu (fun h => hu (h8.1 h))
 ·exact .no q s h1
theorem slotB_lx (R : List Rw) (n at_ W : Int) (L D : List PV) (hL : L = rpv R) (hn : n = R.length) (hR : R.length ≤ 1000) (hok : RowsOk R) (hW : W = 32 * n) : CallF (fun _ => Tryz.prog) 106 [.ptr 0 (.lit 0),i6 at_] [hpB 0 1 3 3 W,hpC 1 2 137 2 n,hpP 2 L,hpP 3 D] 4
  (fun r h n' => ∃ (q s : Int) (b : Bool),r = .tup [i6 q,i6 s,.p (.bool b)] ∧ h = [hpB 0 1 3 3 W,hpC 1 2 137 2 n,hpP 2 L,hpP 3 D] ∧ n' = 4 ∧ Slotted R at_ q s b) :=
 (slotAt_lx R n at_ W L D hL hn hR hW).mono fun r h n' ⟨q,s,b,h1,h2,h3,h4⟩ => ⟨q,s,b,h1,h2,h3,slotted hok h4⟩
theorem tdiv16 (x : Int) (h : -9223372036854775808 ≤ x ∧ x ≤ 9223372036854775807) : -9223372036854775808 ≤ Int.tdiv x 16 ∧ Int.tdiv x 16 ≤ 9223372036854775807 := by
 rcases Int.le_total 0 x with h0 | h0
 ·rw [Int.tdiv_eq_ediv_of_nonneg h0]; omega
 ·have : Int.tdiv x 16 = -(Int.tdiv (-x) 16) := by rw [Int.neg_tdiv]; omega
  rw [this,Int.tdiv_eq_ediv_of_nonneg (by omega)]; omega
inductive Looked (R : List Rw) (ws : List Int) (at_ : Int) : LV → Prop
 | no (h : ¬ IsObj R at_) : Looked R ws at_ (.iface 142 (.agg []))
 | is (x k l : Int) (h : IsObj R at_) (h0 : 0 ≤ at_) (hx : ws[at_.toNat]? = some x) (hk : k = Int.tmod x 16) (hl : l = Int.tdiv x 16) : Looked R ws at_ (.iface 114 (.agg [i6 k,i6 l]))
theorem look_lx (R : List Rw) (ws : List Int) (n at_ W : Int) (L D : List PV) (hL : L = rpv R) (hD : D = ipv ws) (hn : n = R.length) (hR : R.length ≤ 1000) (hok : RowsOk R) (hW : W = 32 * n) (hws : (ws.length : Int) = W) (hwb : ∀ x ∈ ws,-9223372036854775808 ≤ x ∧ x ≤ 9223372036854775807) : CallF (fun _ => Tryz.prog) 80 [.ptr 0 (.lit 0),i6 at_] [hpB 0 1 3 3 W,hpC 1 2 137 2 n,hpP 2 L,hpP 3 D] 4
  (fun r h n' => Looked R ws at_ r ∧ h = [hpB 0 1 3 3 W,hpC 1 2 137 2 n,hpP 2 L,hpP 3 D] ∧ n' = 4) := by
 refine callF_of_body tok Tryz.func80 (by kernel_rfl) rfl rfl rfl ?_; conv => cbv
 refine cfr (slotB_lx R n at_ W L D hL hn hR hok hW) [(0,0),(1,1),(2,2),(3,3)] (fun r h' n' hrr => ?_)
 obtain ⟨q,s,b,e1,e2,e3,hS⟩ := hrr
 subst e1 e2 e3
 cases hS with
 | no hno =>
  conv => cbv
  refine RetF.mk [.iface 142 (.agg [])] [hpB 0 1 3 3 W,hpC 1 2 137 2 n,hpP 2 L,hpP 3 D] 4 (Re.at [(0,0),(1,1),(2,2),(3,3)] []) rfl ⟨.no hno,rfl,rfl⟩
 | off e hq0 hs0 he hu hno =>
  conv => cbv
  refine cfr (used_no_lx R n q s e.1 e.2 L hL hn hq0 he (hok e (List.mem_of_getElem? he)).1 (fun _ => hu)) [(0,1),(1,2)] (fun r h' n' ⟨e1,e2,e3⟩ => ?_)
  subst e1 e2 e3
  conv => cbv
  refine RetF.mk [.iface 142 (.agg [])] [hpB 0 1 3 3 W,hpC 1 2 137 2 n,hpP 2 L,hpP 3 D] 4 (Re.at [(0,0),(1,1),(2,2),(3,3)] []) rfl ⟨.no hno,rfl,rfl⟩
 | on e hq0 hs0 he hu hobj ha0 ha1 hat =>
  conv => cbv
  refine cfr (used_lx R n q s e.1 e.2 L hL hn hq0 he true hs0 hu) [(0,1),(1,2)] (fun r h' n' ⟨e1,e2,e3⟩ => ?_)
  subst e1 e2 e3
  conv => cbv
  obtain ⟨x,hx⟩ : ∃ x,ws[at_.toNat]? = some x := ⟨_,List.getElem?_eq_getElem (by omega)⟩
  have hxb := hwb x (List.mem_of_getElem? hx)
  have hc := ipv_get hx
  rw [← hD] at hc
  refine draw_sound tok (by kernel_rfl) rfl (by kernel_rfl) ?_
  conv => cbv
  refine Need.mk ⟨ha0,by show at_ < W; omega⟩ ?_
  conv => cbv
  refine Cell.at at_ _ hc (by simp [I.val]) rfl ?_
  conv => cbv
  refine Sum.mk fun k hk => ?_
  have hk : k = Int.tmod x 16 := hk
  conv => cbv
  refine Need.mk ⟨ha0,by show at_ < W; omega⟩ ?_
  conv => cbv
  refine Cell.at at_ _ hc (by simp [I.val]) rfl ?_
  conv => cbv
  have hl16 := tdiv16 x hxb
  refine Fit.mk (by show (-9223372036854775808 : Int) ≤ Int.tdiv x 16; omega) (by show Int.tdiv x 16 ≤ 9223372036854775807; omega) fun l hl => ?_
  have hl : l = Int.tdiv x 16 := hl
  conv => cbv
  refine RetF.mk [.iface 114 (.agg [i6 k,i6 l])] [hpB 0 1 3 3 W,hpC 1 2 137 2 n,hpP 2 L,hpP 3 D] 4 (Re.at [(0,0),(1,1),(2,2),(3,3)] []) rfl ⟨.is x k l hobj ha0 hx hk hl,rfl,rfl⟩
inductive ObjAt (R : List Rw) (at_ w : Int) : Prop
 | mk (q s : Nat) (e : Rw) (he : R[q]? = some e) (hs : e.2[s]? = some true) (hat : at_ = 32 * q + s * wordsOf e.1) (hw : w = wordsOf e.1)
theorem isObj_iff {R : List Rw} {at_ : Int} : IsObj R at_ ↔ ∃ w,ObjAt R at_ w := by
 constructor
 ·rintro ⟨q,s,e,h1,h2,h3⟩; exact ⟨_,q,s,e,h1,h2,h3,rfl⟩
 ·rintro ⟨w,q,s,e,h1,h2,h3,h4⟩; exact ⟨q,s,e,h1,h2,h3⟩
theorem ObjAt.facts {R : List Rw} (hR : RowsOk R) {a w : Int} (h : ObjAt R a w) : 0 ≤ a ∧ a + w ≤ 32 * R.length ∧ (w = 4 ∨ w = 8 ∨ w = 16 ∨ w = 32) ∧ ∃ k : Int,a = k * w := by
 obtain ⟨q,s,e,he,hs,hat,hw⟩ := h
 have hne : e.2 ≠ [] := by intro e0; rw [e0] at hs; simp at hs
 obtain ⟨_,hok⟩ := hR e (List.mem_of_getElem? he)
 obtain ⟨h1,h2,_⟩ := hok hne
 have hsl : s < slotsOf e.1 := by have := (List.getElem?_eq_some_iff.1 hs).1; omega
 have h3 := slots_words h1 hsl
 have h4 := wordsOf_cases e.1
 have h5 : 0 ≤ (s : Int) * wordsOf e.1 := Int.mul_nonneg (by omega) (wordsOf_bd _).1
 have hq := (List.getElem?_eq_some_iff.1 he).1
 rw [← hw] at h1 h3 h4 h5 hat
 refine ⟨by omega,by omega,by omega,?_⟩
 rcases h4 with h4 | h4 | h4 | h4 | h4
 ·exact absurd h4 h1
 ·exact ⟨8 * q + s,by rw [hat,h4]; omega⟩
 ·exact ⟨4 * q + s,by rw [hat,h4]; omega⟩
 ·exact ⟨2 * q + s,by rw [hat,h4]; omega⟩
 ·exact ⟨q + s,by rw [hat,h4]; omega⟩
theorem ObjAt.apart {R : List Rw} (hR : RowsOk R) {a w b v : Int} (h : ObjAt R a w) (k : ObjAt R b v) : (a = b ∧ w = v) ∨ a + w ≤ b ∨ b + v ≤ a := by
 obtain ⟨q,s,e,he,hs,hat,hw⟩ := h
 obtain ⟨q',s',e',he',hs',hat',hw'⟩ := k
 have hne : e.2 ≠ [] := by intro e0; rw [e0] at hs; simp at hs
 have hne' : e'.2 ≠ [] := by intro e0; rw [e0] at hs'; simp at hs'
 obtain ⟨_,hok⟩ := hR e (List.mem_of_getElem? he)
 obtain ⟨_,hok'⟩ := hR e' (List.mem_of_getElem? he')
 obtain ⟨h1,h2,_⟩ := hok hne
 obtain ⟨h1',h2',_⟩ := hok' hne'
 have hsl : s < slotsOf e.1 := by have := (List.getElem?_eq_some_iff.1 hs).1; omega
 have hsl' : s' < slotsOf e'.1 := by have := (List.getElem?_eq_some_iff.1 hs').1; omega
 have h3 := slots_words h1 hsl
 have h3' := slots_words h1' hsl'
 have h5 : 0 ≤ (s : Int) * wordsOf e.1 := Int.mul_nonneg (by omega) (wordsOf_bd _).1
 have h5' : 0 ≤ (s' : Int) * wordsOf e'.1 := Int.mul_nonneg (by omega) (wordsOf_bd _).1
 rcases Nat.lt_trichotomy q q' with hq | hq | hq
 ·exact .inr (.inl (by omega))
 ·subst hq
  rw [he] at he'
  cases he'
  have h6 := wordsOf_cases e.1
  rcases Nat.lt_trichotomy s s' with hss | hss | hss
  ·have : (s : Int) * wordsOf e.1 + wordsOf e.1 ≤ s' * wordsOf e.1 := by
    have := Int.mul_le_mul_of_nonneg_right (show (s : Int) + 1 ≤ s' by omega) (show 0 ≤ wordsOf e.1 by omega)
    rw [Int.add_mul,Int.one_mul] at this; exact this
   exact .inr (.inl (by omega))
  ·subst hss; exact .inl ⟨by omega,by omega⟩
  ·have : (s' : Int) * wordsOf e.1 + wordsOf e.1 ≤ s * wordsOf e.1 := by
    have := Int.mul_le_mul_of_nonneg_right (show (s' : Int) + 1 ≤ s by omega) (show 0 ≤ wordsOf e.1 by omega)
    rw [Int.add_mul,Int.one_mul] at this; exact this
   exact .inr (.inr (by omega))
 ·exact .inr (.inr (by omega))
structure AOk (R : List Rw) (ws : List Int) : Prop where
 rows : RowsOk R
 len : (ws.length : Int) = 32 * R.length
 bd : ∀ x ∈ ws,-9223372036854775808 ≤ x ∧ x ≤ 9223372036854775807
 hdr : ∀ a w,ObjAt R a w → ∃ k l : Int,ws[a.toNat]? = some (k + 16 * l) ∧ 0 ≤ k ∧ k < 16 ∧ 0 ≤ l ∧ l < w
theorem hdr_of {k l : Int} (h0 : 0 ≤ k) (h1 : k < 16) (h2 : 0 ≤ l) : Int.tmod (k + 16 * l) 16 = k ∧ Int.tdiv (k + 16 * l) 16 = l := by
 rw [Int.tmod_eq_emod_of_nonneg (by omega),Int.tdiv_eq_ediv_of_nonneg (by omega)]
 omega
inductive Kept (R : List Rw) (ws : List Int) (at_ : Int) : Int → Int → Prop
 | mk (k l w : Int) (h : ObjAt R at_ w) (hx : ws[at_.toNat]? = some (k + 16 * l)) (h0 : 0 ≤ k) (h1 : k < 16) (h2 : 0 ≤ l) (h3 : l < w) : Kept R ws at_ k l
theorem Kept.of {R : List Rw} {ws : List Int} (hA : AOk R ws) {a : Int} (h : IsObj R a) : ∃ k l,Kept R ws a k l := by
 obtain ⟨w,hw⟩ := isObj_iff.1 h
 obtain ⟨k,l,h1,h2,h3,h4,h5⟩ := hA.hdr a w hw
 exact ⟨k,l,.mk k l w hw h1 h2 h3 h4 h5⟩
inductive Seen (R : List Rw) (ws : List Int) (at_ : Int) : LV → Prop
 | no (h : ¬ IsObj R at_) : Seen R ws at_ (.iface 142 (.agg []))
 | is (k l : Int) (h : Kept R ws at_ k l) : Seen R ws at_ (.iface 114 (.agg [i6 k,i6 l]))
theorem seen {R : List Rw} {ws : List Int} (hA : AOk R ws) {a : Int} {r : LV} (h : Looked R ws a r) : Seen R ws a r := by
 cases h with
 | no h => exact .no h
 | is x k l h h0 hx hk hl =>
  obtain ⟨k',l',h'⟩ := Kept.of hA h
  have h'' := h'
  obtain ⟨w,h1,h2,h3,h4,h5,h6⟩ := h'
  rw [hx] at h2
  have h2 : x = k' + 16 * l' := Option.some.inj h2
  have := hdr_of h3 h4 h5
  rw [h2,this.1] at hk
  rw [h2,this.2] at hl
  rw [hk,hl]
  exact .is k' l' h''
theorem see_lx (R : List Rw) (ws : List Int) (n at_ W : Int) (L D : List PV) (hL : L = rpv R) (hD : D = ipv ws) (hn : n = R.length) (hR : R.length ≤ 1000) (hA : AOk R ws) (hW : W = 32 * n) : CallF (fun _ => Tryz.prog) 80 [.ptr 0 (.lit 0),i6 at_] [hpB 0 1 3 3 W,hpC 1 2 137 2 n,hpP 2 L,hpP 3 D] 4
  (fun r h n' => Seen R ws at_ r ∧ h = [hpB 0 1 3 3 W,hpC 1 2 137 2 n,hpP 2 L,hpP 3 D] ∧ n' = 4) :=
 (look_lx R ws n at_ W L D hL hD hn hR hA.rows hW (by rw [hA.len]; omega) hA.bd).mono fun r h n' ⟨h1,h2,h3⟩ => ⟨seen hA h1,h2,h3⟩
inductive KindR (R : List Rw) (ws : List Int) (at_ : Int) : Int → Prop
 | no (h : ¬ IsObj R at_) : KindR R ws at_ 0
 | is (k l : Int) (h : Kept R ws at_ k l) : KindR R ws at_ k
inductive LenR (R : List Rw) (ws : List Int) (at_ : Int) : Int → Prop
 | no (h : ¬ IsObj R at_) : LenR R ws at_ 0
 | is (k l : Int) (h : Kept R ws at_ k l) : LenR R ws at_ l
theorem kind_lx (R : List Rw) (ws : List Int) (n at_ W : Int) (L D : List PV) (hL : L = rpv R) (hD : D = ipv ws) (hn : n = R.length) (hR : R.length ≤ 1000) (hA : AOk R ws) (hW : W = 32 * n) : CallF (fun _ => Tryz.prog) 41 [.ptr 0 (.lit 0),i6 at_] [hpB 0 1 3 3 W,hpC 1 2 137 2 n,hpP 2 L,hpP 3 D] 4
  (fun r h n' => ∃ v : Int,r = .p (.int .i64 (.sym v)) ∧ h = [hpB 0 1 3 3 W,hpC 1 2 137 2 n,hpP 2 L,hpP 3 D] ∧ n' = 4 ∧ KindR R ws at_ v) := by
 refine callF_of_body tok Tryz.func41 (by kernel_rfl) rfl rfl rfl ?_; conv => cbv
 refine cfr (see_lx R ws n at_ W L D hL hD hn hR hA hW) [(0,0),(1,1),(2,2),(3,3)] (fun r h' n' hrr => ?_)
 obtain ⟨hS,e2,e3⟩ := hrr
 subst e2 e3
 cases hS with
 | no hno =>
  conv => cbv
  refine RetF.mk [i6 0] [hpB 0 1 3 3 W,hpC 1 2 137 2 n,hpP 2 L,hpP 3 D] 4 (Re.at [(0,0),(1,1),(2,2),(3,3)] []) rfl ⟨0,rfl,rfl,rfl,.no hno⟩
 | is k l hk =>
  conv => cbv
  refine RetF.mk [i6 k] [hpB 0 1 3 3 W,hpC 1 2 137 2 n,hpP 2 L,hpP 3 D] 4 (Re.at [(0,0),(1,1),(2,2),(3,3)] []) rfl ⟨k,rfl,rfl,rfl,.is k l hk⟩
theorem len_lx (R : List Rw) (ws : List Int) (n at_ W : Int) (L D : List PV) (hL : L = rpv R) (hD : D = ipv ws) (hn : n = R.length) (hR : R.length ≤ 1000) (hA : AOk R ws) (hW : W = 32 * n) : CallF (fun _ => Tryz.prog) 133 [.ptr 0 (.lit 0),i6 at_] [hpB 0 1 3 3 W,hpC 1 2 137 2 n,hpP 2 L,hpP 3 D] 4
  (fun r h n' => ∃ v : Int,r = .p (.int .i64 (.sym v)) ∧ h = [hpB 0 1 3 3 W,hpC 1 2 137 2 n,hpP 2 L,hpP 3 D] ∧ n' = 4 ∧ LenR R ws at_ v) := by
 refine callF_of_body tok Tryz.func133 (by kernel_rfl) rfl rfl rfl ?_; conv => cbv
 refine cfr (see_lx R ws n at_ W L D hL hD hn hR hA hW) [(0,0),(1,1),(2,2),(3,3)] (fun r h' n' hrr => ?_)
 obtain ⟨hS,e2,e3⟩ := hrr
 subst e2 e3
 cases hS with
 | no hno =>
  conv => cbv
  refine RetF.mk [i6 0] [hpB 0 1 3 3 W,hpC 1 2 137 2 n,hpP 2 L,hpP 3 D] 4 (Re.at [(0,0),(1,1),(2,2),(3,3)] []) rfl ⟨0,rfl,rfl,rfl,.no hno⟩
 | is k l hk =>
  conv => cbv
  refine RetF.mk [i6 l] [hpB 0 1 3 3 W,hpC 1 2 137 2 n,hpP 2 L,hpP 3 D] 4 (Re.at [(0,0),(1,1),(2,2),(3,3)] []) rfl ⟨l,rfl,rfl,rfl,.is k l hk⟩
inductive Judged (R : List Rw) (ws : List Int) (at_ i : Int) : Int → Prop
 | none (h : ¬ IsObj R at_) : Judged R ws at_ i 8
 | arg (k l : Int) (h : Kept R ws at_ k l) (hi : ¬ (0 ≤ i ∧ i < l)) : Judged R ws at_ i 1
 | ok (k l : Int) (h : Kept R ws at_ k l) (hi : 0 ≤ i ∧ i < l) : Judged R ws at_ i 0
theorem judge_lx (i : Int) (R : List Rw) (ws : List Int) (n at_ W : Int) (L D : List PV) (hL : L = rpv R) (hD : D = ipv ws) (hn : n = R.length) (hR : R.length ≤ 1000) (hA : AOk R ws) (hW : W = 32 * n) : CallF (fun _ => Tryz.prog) 91 [.ptr 0 (.lit 0),i6 at_,i6 i] [hpB 0 1 3 3 W,hpC 1 2 137 2 n,hpP 2 L,hpP 3 D] 4
  (fun r h n' => ∃ v : Int,r = .p (.int .i64 (.sym v)) ∧ h = [hpB 0 1 3 3 W,hpC 1 2 137 2 n,hpP 2 L,hpP 3 D] ∧ n' = 4 ∧ Judged R ws at_ i v) := by
 refine callF_of_body tok Tryz.func91 (by kernel_rfl) rfl rfl rfl ?_; conv => cbv
 refine cfr (see_lx R ws n at_ W L D hL hD hn hR hA hW) [(0,0),(1,1),(2,2),(3,3)] (fun r h' n' hrr => ?_)
 obtain ⟨hS,e2,e3⟩ := hrr
 subst e2 e3
 cases hS with
 | no hno =>
  conv => cbv
  refine RetF.mk [i6 8] [hpB 0 1 3 3 W,hpC 1 2 137 2 n,hpP 2 L,hpP 3 D] 4 (Re.at [(0,0),(1,1),(2,2),(3,3)] []) rfl ⟨8,rfl,rfl,rfl,.none hno⟩
 | is k l hk =>
  conv => cbv
  refine Br.mk (fun g => ?_) (fun g => ?_)
  ·have g : i < 0 := g
   conv => cbv
   refine RetF.mk [i6 1] [hpB 0 1 3 3 W,hpC 1 2 137 2 n,hpP 2 L,hpP 3 D] 4 (Re.at [(0,0),(1,1),(2,2),(3,3)] []) rfl ⟨1,rfl,rfl,rfl,.arg k l hk (by omega)⟩
  have g : ¬ i < 0 := g
  conv => cbv
  refine Br.mk (fun g => ?_) (fun g => ?_)
  ·have g : l ≤ i := g
   conv => cbv
   refine RetF.mk [i6 1] [hpB 0 1 3 3 W,hpC 1 2 137 2 n,hpP 2 L,hpP 3 D] 4 (Re.at [(0,0),(1,1),(2,2),(3,3)] []) rfl ⟨1,rfl,rfl,rfl,.arg k l hk (by omega)⟩
  ·have g : ¬ l ≤ i := g
   conv => cbv
   refine RetF.mk [i6 0] [hpB 0 1 3 3 W,hpC 1 2 137 2 n,hpP 2 L,hpP 3 D] 4 (Re.at [(0,0),(1,1),(2,2),(3,3)] []) rfl ⟨0,rfl,rfl,rfl,.ok k l hk (by omega)⟩
inductive Loaded (R : List Rw) (ws : List Int) (at_ i : Int) : Int → Int → Prop
 | none (h : ¬ IsObj R at_) : Loaded R ws at_ i 0 8
 | arg (k l : Int) (h : Kept R ws at_ k l) (hi : ¬ (0 ≤ i ∧ i < l)) : Loaded R ws at_ i 0 1
 | ok (k l x : Int) (h : Kept R ws at_ k l) (hi : 0 ≤ i ∧ i < l) (hx : ws[(at_ + 1 + i).toNat]? = some x) : Loaded R ws at_ i x 0
theorem Kept.bounds {R : List Rw} {ws : List Int} (hA : AOk R ws) {a k l : Int} (h : Kept R ws a k l) : 0 ≤ a ∧ 0 ≤ l ∧ a + 1 + l ≤ 32 * R.length ∧ l < 32 := by
 obtain ⟨w,h1,_,_,_,h2,h3⟩ := h
 obtain ⟨h4,h5,h6,_⟩ := h1.facts hA.rows
 omega
theorem load_lx (i : Int) (R : List Rw) (ws : List Int) (n at_ W : Int) (L D : List PV) (hL : L = rpv R) (hD : D = ipv ws) (hn : n = R.length) (hR : R.length ≤ 1000) (hA : AOk R ws) (hW : W = 32 * n) : CallF (fun _ => Tryz.prog) 81 [.ptr 0 (.lit 0),i6 at_,i6 i] [hpB 0 1 3 3 W,hpC 1 2 137 2 n,hpP 2 L,hpP 3 D] 4
  (fun r h n' => ∃ x e : Int,r = .tup [i6 x,i6 e] ∧ h = [hpB 0 1 3 3 W,hpC 1 2 137 2 n,hpP 2 L,hpP 3 D] ∧ n' = 4 ∧ Loaded R ws at_ i x e) := by
 have hlen := hA.len
 refine callF_of_body tok Tryz.func81 (by kernel_rfl) rfl rfl rfl ?_; conv => cbv
 refine cfr (judge_lx i R ws n at_ W L D hL hD hn hR hA hW) [(0,0),(1,1),(2,2),(3,3)] (fun r h' n' hrr => ?_)
 obtain ⟨v,e1,e2,e3,hJ⟩ := hrr
 subst e1 e2 e3
 cases hJ with
 | none hno =>
  conv => cbv
  refine Br.mk (fun g => ?_) (fun g => ?_)
  case refine_2 =>
   have gf : False := g (by decide)
   cases gf
  conv => cbv
  refine RetF.mk [i6 0,i6 8] [hpB 0 1 3 3 W,hpC 1 2 137 2 n,hpP 2 L,hpP 3 D] 4 (Re.at [(0,0),(1,1),(2,2),(3,3)] []) rfl ⟨0,8,rfl,rfl,rfl,.none hno⟩
 | arg k l hk hi =>
  conv => cbv
  refine Br.mk (fun g => ?_) (fun g => ?_)
  case refine_2 =>
   have gf : False := g (by decide)
   cases gf
  conv => cbv
  refine RetF.mk [i6 0,i6 1] [hpB 0 1 3 3 W,hpC 1 2 137 2 n,hpP 2 L,hpP 3 D] 4 (Re.at [(0,0),(1,1),(2,2),(3,3)] []) rfl ⟨0,1,rfl,rfl,rfl,.arg k l hk hi⟩
 | ok k l hk hi =>
  conv => cbv
  refine Br.mk (fun g => ?_) (fun g => ?_)
  case refine_1 =>
   have gf : False := g rfl
   cases gf
  conv => cbv
  have hb := hk.bounds hA
  obtain ⟨x,hx⟩ : ∃ x,ws[(at_ + 1 + i).toNat]? = some x := ⟨_,List.getElem?_eq_getElem (by omega)⟩
  have hc := ipv_get hx
  rw [← hD] at hc
  refine Fit.mk (by show (-9223372036854775808 : Int) ≤ at_ + 1; omega) (by show at_ + 1 ≤ 9223372036854775807; omega) fun a1 ha1 => ?_
  have ha1 : a1 = at_ + 1 := ha1
  conv => cbv
  refine Fit.mk (by show (-9223372036854775808 : Int) ≤ a1 + i; omega) (by show a1 + i ≤ 9223372036854775807; omega) fun a2 ha2 => ?_
  have ha2 : a2 = a1 + i := ha2
  have ha2 : a2 = at_ + 1 + i := by omega
  conv => cbv
  refine Need.mk ⟨by show 0 ≤ a2; omega,by show a2 < W; omega⟩ ?_
  conv => cbv
  refine Cell.at a2 _ hc (by simp [I.val]) (by omega) ?_
  conv => cbv
  refine RetF.mk [i6 x,i6 0] [hpB 0 1 3 3 W,hpC 1 2 137 2 n,hpP 2 L,hpP 3 D] 4 (Re.at [(0,0),(1,1),(2,2),(3,3)] []) rfl ⟨x,0,rfl,rfl,rfl,.ok k l x hk hi hx⟩
theorem updL_ipv (ws : List Int) (j : Nat) (x : Int) : updL (ipv ws) j [.int .i64 (.sym x)] = ipv (ws.set j x) := by
 show (ipv ws).set j _ = _
 rw [ipv,ipv,List.map_set]
inductive Stored (R : List Rw) (ws : List Int) (at_ i x : Int) : Int → List Int → Prop
 | none (h : ¬ IsObj R at_) : Stored R ws at_ i x 8 ws
 | arg (k l : Int) (h : Kept R ws at_ k l) (hi : ¬ (0 ≤ i ∧ i < l)) : Stored R ws at_ i x 1 ws
 | ok (k l : Int) (h : Kept R ws at_ k l) (hi : 0 ≤ i ∧ i < l) : Stored R ws at_ i x 0 (ws.set (at_ + 1 + i).toNat x)
theorem store_lx (i x : Int) (R : List Rw) (ws : List Int) (n at_ W : Int) (L D : List PV) (hL : L = rpv R) (hD : D = ipv ws) (hn : n = R.length) (hR : R.length ≤ 1000) (hA : AOk R ws) (hW : W = 32 * n) : CallF (fun _ => Tryz.prog) 51 [.ptr 0 (.lit 0),i6 at_,i6 i,i6 x] [hpB 0 1 3 3 W,hpC 1 2 137 2 n,hpP 2 L,hpP 3 D] 4
  (fun r h n' => ∃ (e : Int) (ws' : List Int) (D' : List PV),r = .p (.int .i64 (.sym e)) ∧ h = [hpB 0 1 3 3 W,hpC 1 2 137 2 n,hpP 2 L,hpP 3 D'] ∧ n' = 4 ∧ D' = ipv ws' ∧ Stored R ws at_ i x e ws') := by
 have hlen := hA.len
 have hDl : D.length = ws.length := by rw [hD,ipv_length]
 refine callF_of_body tok Tryz.func51 (by kernel_rfl) rfl rfl rfl ?_; conv => cbv
 refine cfr (judge_lx i R ws n at_ W L D hL hD hn hR hA hW) [(0,0),(1,1),(2,2),(3,3)] (fun r h' n' hrr => ?_)
 obtain ⟨v,e1,e2,e3,hJ⟩ := hrr
 subst e1 e2 e3
 cases hJ with
 | none hno =>
  conv => cbv
  refine Br.mk (fun g => ?_) (fun g => ?_)
  case refine_2 =>
   have gf : False := g (by decide)
   cases gf
  conv => cbv
  refine RetF.mk [i6 8] [hpB 0 1 3 3 W,hpC 1 2 137 2 n,hpP 2 L,hpP 3 D] 4 (Re.at [(0,0),(1,1),(2,2),(3,3)] []) rfl ⟨8,ws,D,rfl,rfl,rfl,hD,.none hno⟩
 | arg k l hk hi =>
  conv => cbv
  refine Br.mk (fun g => ?_) (fun g => ?_)
  case refine_2 =>
   have gf : False := g (by decide)
   cases gf
  conv => cbv
  refine RetF.mk [i6 1] [hpB 0 1 3 3 W,hpC 1 2 137 2 n,hpP 2 L,hpP 3 D] 4 (Re.at [(0,0),(1,1),(2,2),(3,3)] []) rfl ⟨1,ws,D,rfl,rfl,rfl,hD,.arg k l hk hi⟩
 | ok k l hk hi =>
  conv => cbv
  refine Br.mk (fun g => ?_) (fun g => ?_)
  case refine_1 =>
   have gf : False := g rfl
   cases gf
  conv => cbv
  have hb := hk.bounds hA
  refine Fit.mk (by show (-9223372036854775808 : Int) ≤ at_ + 1; omega) (by show at_ + 1 ≤ 9223372036854775807; omega) fun a1 ha1 => ?_
  have ha1 : a1 = at_ + 1 := ha1
  conv => cbv
  refine Fit.mk (by show (-9223372036854775808 : Int) ≤ a1 + i; omega) (by show a1 + i ≤ 9223372036854775807; omega) fun a2 ha2 => ?_
  have ha2 : a2 = a1 + i := ha2
  have ha2 : a2 = at_ + 1 + i := by omega
  conv => cbv
  refine Need.mk ⟨by show 0 ≤ a2; omega,by show a2 < W; omega⟩ ?_
  conv => cbv
  refine Need.mk (by show a2 + ((1 : Nat) : Int) ≤ (D.length : Int); omega) ?_
  conv => cbv
  refine Upd.mk fun D2 hD2 => ?_
  have hD2 : D2 = updL D a2.toNat [.int .i64 (.sym x)] := hD2
  have hD3 : D2 = ipv (ws.set (at_ + 1 + i).toNat x) := by rw [hD2,hD,updL_ipv,ha2]
  clear hD2
  conv => cbv
  refine RetF.mk [i6 0] [hpB 0 1 3 3 W,hpC 1 2 137 2 n,hpP 2 L,hpP 3 D2] 4 (Re.at [(0,0),(1,1),(2,2),(3,3)] []) rfl ⟨0,_,D2,rfl,rfl,rfl,hD3,.ok k l hk hi⟩
theorem header_lx (k l : Int) (hk : 0 ≤ k ∧ k ≤ 100) (hl : 0 ≤ l ∧ l ≤ 100) (v : Int) (hv : v = k + 16 * l) : CallF (fun _ => Tryz.prog) 137 [.agg [i6 k,i6 l]] [] 0 (fun r h n' => r = .p (.int .i64 (.sym v)) ∧ h = [] ∧ n' = 0) := by
 refine callF_of_body tok Tryz.func137 (by kernel_rfl) rfl rfl rfl ?_; conv => cbv
 refine Fit.mk (by show (-9223372036854775808 : Int) ≤ 16 * l; omega) (by show 16 * l ≤ 9223372036854775807; omega) fun a ha => ?_
 have ha : a = 16 * l := ha
 conv => cbv
 refine Fit.mk (by show (-9223372036854775808 : Int) ≤ k + a; omega) (by show k + a ≤ 9223372036854775807; omega) fun b hb => ?_
 have hb : b = k + a := hb
 have hbv : b = v := by omega
 conv => cbv
 refine RetF.mk [i6 v] [] 0 (Re.at [] []) rfl ⟨rfl,rfl,rfl⟩
def zer : List Int → Nat → Nat → List Int
 | ws,_,0 => ws
 | ws,j,n + 1 => zer (ws.set j 0) (j + 1) n
theorem zer_length : ∀ (n : Nat) (ws : List Int) (j : Nat),(zer ws j n).length = ws.length
 | 0,_,_ => rfl
 | n + 1,ws,j => by rw [zer,zer_length n,List.length_set]
theorem zer_get : ∀ (n : Nat) (ws : List Int) (j i : Nat),i < ws.length → (zer ws j n)[i]? = if j ≤ i ∧ i < j + n then some 0 else ws[i]?
 | 0,ws,j,i,h => by rw [zer,if_neg (by omega)]
 | n + 1,ws,j,i,h => by
  rw [zer,zer_get n _ _ _ (by rw [List.length_set]; exact h)]
  by_cases h1 : j + 1 ≤ i ∧ i < j + 1 + n
  ·rw [if_pos h1,if_pos (by omega)]
  ·rw [if_neg h1]
   by_cases h2 : j = i
   ·subst h2
    rw [List.getElem?_set_self h,if_pos (by omega)]
   ·rw [List.getElem?_set_ne h2,if_neg (by omega)]
theorem pvles_set : ∀ (L M : List PV) (j : Nat) (u v : PV),pvles L M → pvle u v → pvles (L.set j u) (M.set j v)
 | [],[],_,_,_,_,_ => trivial
 | x :: L,y :: M,0,u,v,h,k => ⟨k,h.2⟩
 | x :: L,y :: M,j + 1,u,v,h,k => ⟨h.1,pvles_set L M j u v h.2 k⟩
theorem upd_zer : ∀ (n : Nat) (L : List PV) (ws : List Int) (j : Nat),pvles L (ipv ws) → pvles (updL L j (repsP [.int .i64 (.lit 0)] n)) (ipv (zer ws j n))
 | 0,_,_,_,h => h
 | n + 1,L,ws,j,h => by
  show pvles (updL (L.set j _) (j + 1) (repsP [.int .i64 (.lit 0)] n)) (ipv (zer (ws.set j 0) (j + 1) n))
  refine upd_zer n _ _ _ ?_
  rw [ipv,List.map_set]
  exact pvles_set _ _ _ _ _ h (by simp [pvle,I.val])
inductive Alloct (R : List Rw) (ws : List Int) (kind n : Int) : Int → Int → List Rw → List Int → Prop
 | arg (h : ¬ (0 ≤ n ∧ n ≤ 31 ∧ 1 ≤ kind ∧ kind ≤ 6)) : Alloct R ws kind n 0 1 R ws
 | room (i s : Int) (R' : List Rw) (h : 0 ≤ n ∧ n ≤ 31 ∧ 1 ≤ kind ∧ kind ≤ 6) (ha : Alloced R (ofN n) i s false R') : Alloct R ws kind n 0 9 R' ws
 | ok (i s at_ : Int) (R' : List Rw) (h : 0 ≤ n ∧ n ≤ 31 ∧ 1 ≤ kind ∧ kind ≤ 6) (ha : Alloced R (ofN n) i s true R') (hi : 0 ≤ i ∧ i < R.length ∧ 0 ≤ s ∧ s < slotsOf (ofN n)) (hat : at_ = 32 * i + s * wordsOf (ofN n)) :
   Alloct R ws kind n at_ 0 R' (zer (ws.set at_.toNat (kind + 16 * n)) (at_.toNat + 1) n.toNat)
theorem ofN_bd (n : Int) : 0 ≤ ofN n ∧ ofN n ≤ 3 := by
 unfold ofN
 split
 ·omega
 ·split
  ·omega
  ·split <;> omega
theorem ofN_words {n : Int} (h : 0 ≤ n ∧ n ≤ 31) : n < wordsOf (ofN n) ∧ wordsOf (ofN n) ≠ 0 := by
 unfold ofN
 split
 ·exact ⟨by rw [show wordsOf 0 = 4 from rfl]; omega,by decide⟩
 ·split
  ·exact ⟨by rw [show wordsOf 1 = 8 from rfl]; omega,by decide⟩
  ·split
   ·exact ⟨by rw [show wordsOf 2 = 16 from rfl]; omega,by decide⟩
   ·exact ⟨by rw [show wordsOf 3 = 32 from rfl]; omega,by decide⟩
theorem ofN_slots (n : Int) : slotsOf (ofN n) ≠ 0 := by
 unfold ofN
 split
 ·decide
 ·split
  ·decide
  ·split <;> decide
theorem alloced_in {R R' : List Rw} {c i s : Int} (hR : RowsOk R) (h : Alloced R c i s true R') : 0 ≤ i ∧ i < R.length ∧ 0 ≤ s ∧ s < slotsOf c := by
 cases h with
 | old i s l h0 hi hs h1 h2 =>
  have hq := (List.getElem?_eq_some_iff.1 hi).1
  have hs1 := (List.getElem?_eq_some_iff.1 hs).1
  have hne : l ≠ [] := by intro e; subst e; simp at hs
  have h4 : l.length = slotsOf c := ((hR _ (List.mem_of_getElem? hi)).2 hne).2.1
  omega
 | fresh i d h0 h2 hi h3 =>
  have hq := (List.getElem?_eq_some_iff.1 hi).1
  omega
theorem allocA_lx (kind m : Int) (R : List Rw) (ws : List Int) (n W : Int) (L D : List PV) (hL : L = rpv R) (hD : D = ipv ws) (hn : n = R.length) (hR : R.length ≤ 1000) (hA : AOk R ws) (hW : W = 32 * n) : CallF (fun _ => Tryz.prog) 123 [.ptr 0 (.lit 0),i6 kind,i6 m] [hpB 0 1 3 3 W,hpC 1 2 137 2 n,hpP 2 L,hpP 3 D] 4
  (fun r h n' => ∃ (at_ e : Int) (R' : List Rw) (ws' : List Int) (L' D' : List PV),r = .tup [i6 at_,i6 e] ∧ h = [hpB 0 1 3 3 W,hpC 1 2 137 2 n,hpP 2 L',hpP 3 D'] ∧ n' = 4 ∧ L' = rpv R' ∧ D' = ipv ws' ∧ Alloct R ws kind m at_ e R' ws') := by
 have hlen := hA.len
 have hDl : D.length = ws.length := by rw [hD,ipv_length]
 have hm8 : ∀ e ∈ R,e.2.length ≤ 8 := fun e he => (hA.rows e he).1
 refine callF_of_body tok Tryz.func123 (by kernel_rfl) rfl rfl rfl ?_; conv => cbv
 refine callF_frame (of_lx m) [] rfl trivial rfl rfl (fun r h' n' hrr => ?_)
 obtain ⟨c,b,e1,e2,e3,hO⟩ := hrr
 subst e1 e2 e3
 cases hO with
 | no hno =>
  conv => cbv
  refine RetF.mk [i6 0,i6 1] [hpB 0 1 3 3 W,hpC 1 2 137 2 n,hpP 2 L,hpP 3 D] 4 (Re.at [(0,0),(1,1),(2,2),(3,3)] []) rfl ⟨0,1,R,ws,L,D,rfl,rfl,rfl,hL,hD,.arg (fun h => hno ⟨h.1,h.2.1⟩)⟩
 | yes _ hc hyes =>
  conv => cbv
  refine Br.mk (fun g => ?_) (fun g => ?_)
  ·have g : kind < 1 := g
   have hno : ¬ (0 ≤ m ∧ m ≤ 31 ∧ 1 ≤ kind ∧ kind ≤ 6) := fun h => by omega
   conv => cbv
   refine RetF.mk [i6 0,i6 1] [hpB 0 1 3 3 W,hpC 1 2 137 2 n,hpP 2 L,hpP 3 D] 4 (Re.at [(0,0),(1,1),(2,2),(3,3)] []) rfl ⟨0,1,R,ws,L,D,rfl,rfl,rfl,hL,hD,.arg hno⟩
  have g : ¬ kind < 1 := g
  conv => cbv
  refine Br.mk (fun g2 => ?_) (fun g2 => ?_)
  ·have g2 : 6 < kind := g2
   have hno : ¬ (0 ≤ m ∧ m ≤ 31 ∧ 1 ≤ kind ∧ kind ≤ 6) := fun h => by omega
   conv => cbv
   refine RetF.mk [i6 0,i6 1] [hpB 0 1 3 3 W,hpC 1 2 137 2 n,hpP 2 L,hpP 3 D] 4 (Re.at [(0,0),(1,1),(2,2),(3,3)] []) rfl ⟨0,1,R,ws,L,D,rfl,rfl,rfl,hL,hD,.arg hno⟩
  have g2 : ¬ 6 < kind := g2
  have hyk : 0 ≤ m ∧ m ≤ 31 ∧ 1 ≤ kind ∧ kind ≤ 6 := by omega
  conv => cbv
  refine cfr (alloc_lx R n c L hL hn hR hm8) [(0,1),(1,2)] (fun r h' n' hrr => ?_)
  obtain ⟨i,s,b,L2,R2,e1,e2,e3,hL2,hAl⟩ := hrr
  subst e1 e2 e3
  cases b with
  | false =>
   conv => cbv
   rw [hc] at hAl
   refine RetF.mk [i6 0,i6 9] [hpB 0 1 3 3 W,hpC 1 2 137 2 n,hpP 2 L2,hpP 3 D] 4 (Re.at [(0,0),(1,1),(2,2),(3,3)] []) rfl ⟨0,9,R2,ws,L2,D,rfl,rfl,rfl,hL2,hD,.room i s R2 hyk hAl⟩
  | true =>
   conv => cbv
   obtain ⟨hi0,hi1,hs0,hs1⟩ := alloced_in hA.rows hAl
   obtain ⟨w,hw⟩ : ∃ w,w = wordsOf c := ⟨_,rfl⟩
   have hmw : m < w ∧ w ≠ 0 := by rw [hw,hc]; exact ofN_words hyes
   have hsw : (s.toNat : Int) * w + w ≤ 32 := by rw [hw]; exact slots_words (by rw [← hw]; exact hmw.2) (by omega)
   rw [show (s.toNat : Int) = s by omega] at hsw
   obtain ⟨sw,hsw2⟩ : ∃ sw,sw = s * w := ⟨_,rfl⟩
   have hsw0 : 0 ≤ sw := by rw [hsw2]; exact Int.mul_nonneg hs0 (by rw [hw]; exact (wordsOf_bd _).1)
   rw [← hsw2] at hsw
   refine Fit.mk (by show (-9223372036854775808 : Int) ≤ i * 32; omega) (by show i * 32 ≤ 9223372036854775807; omega) fun i32 hi32 => ?_
   have hi32 : i32 = i * 32 := hi32
   conv => cbv
   refine callF_frame (words_lx c w hw) [] rfl trivial rfl rfl (fun r h' n' ⟨e1,e2,e3⟩ => ?_)
   subst e1 e2 e3
   conv => cbv
   refine Fit.mk (by show (-9223372036854775808 : Int) ≤ s * w; rw [← hsw2]; omega) (by show s * w ≤ 9223372036854775807; rw [← hsw2]; omega) fun sw' hsw' => ?_
   have hsw' : sw' = sw := by rw [hsw2]; exact hsw'
   conv => cbv
   refine Fit.mk (by show (-9223372036854775808 : Int) ≤ i32 + sw'; omega) (by show i32 + sw' ≤ 9223372036854775807; omega) fun at_ hat => ?_
   have hat : at_ = i32 + sw' := hat
   have hat2 : at_ = 32 * i + sw := by omega
   conv => cbv
   obtain ⟨hv,hhv⟩ : ∃ hv,hv = kind + 16 * m := ⟨_,rfl⟩
   obtain ⟨ws2,hws2⟩ : ∃ ws2,ws2 = ws.set at_.toNat hv := ⟨_,rfl⟩
   have hws2l : ws2.length = ws.length := by rw [hws2,List.length_set]
   refine drawn_sound tok (by kernel_rfl) [(8,[4,3,2,1,0]),(10,[])] [0,1,2,3,4,5,6,7,8,9,10] (by kernel_rfl) ?_; conv => cbv
   refine callF_frame (header_lx kind m (by omega) (by omega) hv hhv) [] rfl trivial rfl rfl (fun r h' n' ⟨e1,e2,e3⟩ => ?_)
   subst e1 e2 e3
   conv => cbv
   refine Need.mk ⟨by show 0 ≤ at_; omega,by show at_ < W; omega⟩ ?_
   conv => cbv
   refine Need.mk (by show at_ + ((1 : Nat) : Int) ≤ (D.length : Int); omega) ?_
   conv => cbv
   refine Upd.mk fun D2 hD2 => ?_
   have hD2 : D2 = updL D at_.toNat [.int .i64 (.sym hv)] := hD2
   have hD2 : D2 = ipv ws2 := by rw [hD2,hD,updL_ipv,hws2]
   have hD2l : D2.length = ws.length := by rw [hD2,ipv_length,hws2l]
   conv => cbv
   refine Fit.mk (by show (-9223372036854775808 : Int) ≤ at_ + 1; omega) (by show at_ + 1 ≤ 9223372036854775807; omega) fun a1 ha1 => ?_
   have ha1 : a1 = at_ + 1 := ha1
   conv => cbv
   refine Fit.mk (by show (-9223372036854775808 : Int) ≤ at_ + 1; omega) (by show at_ + 1 ≤ 9223372036854775807; omega) fun a2 ha2 => ?_
   have ha2 : a2 = at_ + 1 := ha2
   conv => cbv
   refine Fit.mk (by show (-9223372036854775808 : Int) ≤ a2 + m; omega) (by show a2 + m ≤ 9223372036854775807; omega) fun a3 ha3 => ?_
   have ha3 : a3 = a2 + m := ha3
   conv => cbv
   by_cases hm0 : m = 0
   ·have hz : ipv ws2 = ipv (zer (ws.set at_.toNat (kind + 16 * m)) (at_.toNat + 1) m.toNat) := by rw [hws2,hhv,hm0]; rfl
    refine Room.within ⟨by show 0 ≤ a1; omega,by show a1 = a3; omega,by show a3 ≤ W; omega⟩ ?_
    conv => cbv
    refine Need.mk rfl ?_
    conv => cbv
    have hres := Alloct.ok (ws := ws) i s at_ R2 hyk (hc ▸ hAl) (hc ▸ ⟨hi0,hi1,hs0,hs1⟩) (by rw [hat2,hsw2,hw,hc])
    refine RetF.mk [i6 at_,i6 0] [hpB 0 1 3 3 W,hpC 1 2 137 2 n,hpP 2 L2,hpP 3 D2] 4 (Re.at [(0,0),(1,1),(2,2),(3,3)] []) rfl ⟨at_,0,R2,_,L2,D2,rfl,rfl,rfl,hL2,hD2.trans hz,hres⟩
   ·refine Room.new ⟨by show 0 ≤ a1; omega,by show a1 < a3; omega,by show a3 ≤ W; omega⟩ ?_
    conv => cbv
    refine Sum.mk fun z hz => ?_
    have hz : z = a3 - a1 := hz
    obtain ⟨ws3,hws3⟩ : ∃ ws3,ws3 = zer ws2 (at_.toNat + 1) m.toNat := ⟨_,rfl⟩
    obtain ⟨D9,hD9⟩ : ∃ D9,D9 = ipv ws3 := ⟨_,rfl⟩
    conv => cbv
    refine Need.mk ⟨by show 0 ≤ a1; omega,by show 0 ≤ z; omega,by show a1 + z * ((1 : Nat) : Int) ≤ (D2.length : Int); omega⟩ ?_
    conv => cbv
    refine Upd.mk fun D3 hD3 => ?_
    have hle : pvles D3 D9 := by
     have hD3 : D3 = updL D2 a1.toNat (repsP [.int .i64 (.lit 0)] z.toNat) := hD3
     rw [hD3,hD9,hws3,show a1.toNat = at_.toNat + 1 by omega,show z.toNat = m.toNat by omega,hD2]
     exact upd_zer _ _ _ _ (pvles_self _)
    clear hD3
    unfold pvles at hle
    have hz9 : D9 = ipv (zer (ws.set at_.toNat (kind + 16 * m)) (at_.toNat + 1) m.toNat) := by rw [hD9,hws3,hws2,hhv]
    have hres := Alloct.ok (ws := ws) i s at_ R2 hyk (hc ▸ hAl) (hc ▸ ⟨hi0,hi1,hs0,hs1⟩) (by rw [hat2,hsw2,hw,hc])
    conv => cbv
    refine RetF.mk [i6 at_,i6 0] [hpB 0 1 3 3 W,hpC 1 2 137 2 n,hpP 2 L2,hpP 3 D9] 4 (Re.at [(0,0),(1,1),(2,2),(3,3)] []) rfl ⟨at_,0,R2,_,L2,D9,rfl,rfl,rfl,hL2,hz9,hres⟩
inductive Freet (R : List Rw) (at_ : Int) : Int → List Rw → Prop
 | none (h : ¬ IsObj R at_) : Freet R at_ 8 R
 | ok (q s : Nat) (e : Rw) (he : R[q]? = some e) (hs : e.2[s]? = some true) (hat : at_ = 32 * q + s * wordsOf e.1) : Freet R at_ 0 (freed R q e.1 (e.2.set s false))
theorem freeA_lx (at_ : Int) (R : List Rw) (ws : List Int) (n W : Int) (L D : List PV) (hL : L = rpv R) (hD : D = ipv ws) (hn : n = R.length) (hR : R.length ≤ 1000) (hA : AOk R ws) (hW : W = 32 * n) : CallF (fun _ => Tryz.prog) 116 [.ptr 0 (.lit 0),i6 at_] [hpB 0 1 3 3 W,hpC 1 2 137 2 n,hpP 2 L,hpP 3 D] 4
  (fun r h n' => ∃ (e : Int) (R' : List Rw) (L' : List PV),r = .p (.int .i64 (.sym e)) ∧ h = [hpB 0 1 3 3 W,hpC 1 2 137 2 n,hpP 2 L',hpP 3 D] ∧ n' = 4 ∧ L' = rpv R' ∧ Freet R at_ e R') := by
 refine callF_of_body tok Tryz.func116 (by kernel_rfl) rfl rfl rfl ?_; conv => cbv
 refine cfr (slotB_lx R n at_ W L D hL hn hR hA.rows hW) [(0,0),(1,1),(2,2),(3,3)] (fun r h' n' hrr => ?_)
 obtain ⟨q,s,b,e1,e2,e3,hS⟩ := hrr
 subst e1 e2 e3
 cases hS with
 | no hno =>
  conv => cbv
  refine RetF.mk [i6 8] [hpB 0 1 3 3 W,hpC 1 2 137 2 n,hpP 2 L,hpP 3 D] 4 (Re.at [(0,0),(1,1),(2,2),(3,3)] []) rfl ⟨8,R,L,rfl,rfl,rfl,hL,.none hno⟩
 | off e hq0 hs0 he hu hno =>
  conv => cbv
  refine cfr (free_no_lx R n q s e.1 e.2 L hL hn hq0 he (hA.rows e (List.mem_of_getElem? he)).1 (fun _ => hu)) [(0,1),(1,2)] (fun r h' n' ⟨e1,e2,e3⟩ => ?_)
  subst e1 e2 e3
  conv => cbv
  refine RetF.mk [i6 8] [hpB 0 1 3 3 W,hpC 1 2 137 2 n,hpP 2 L,hpP 3 D] 4 (Re.at [(0,0),(1,1),(2,2),(3,3)] []) rfl ⟨8,R,L,rfl,rfl,rfl,hL,.none hno⟩
 | on e hq0 hs0 he hu hobj ha0 ha1 hat =>
  conv => cbv
  obtain ⟨R',hR'⟩ : ∃ R',R' = freed R q.toNat e.1 (e.2.set s.toNat false) := ⟨_,rfl⟩
  have hF : Freet R at_ 0 R' := by
   rw [hR']
   exact .ok q.toNat s.toNat e he hu (by rw [hat,show (s.toNat : Int) = s by omega,show (q.toNat : Int) = q by omega])
  refine cfr (free_lx R R' n q s e.1 e.2 L hL hn hR hq0 he (hA.rows e (List.mem_of_getElem? he)).1 hs0 hu hR') [(0,1),(1,2)] (fun r h' n' hrr => ?_)
  obtain ⟨L',e1,e2,e3,hL'⟩ := hrr
  subst e1 e2 e3
  conv => cbv
  refine RetF.mk [i6 0] [hpB 0 1 3 3 W,hpC 1 2 137 2 n,hpP 2 L',hpP 3 D] 4 (Re.at [(0,0),(1,1),(2,2),(3,3)] []) rfl ⟨0,R',L',rfl,rfl,rfl,hL',hF⟩
theorem usedA_lx (R : List Rw) (ws : List Int) (n W : Int) (L D : List PV) (hL : L = rpv R) (hD : D = ipv ws) (hn : n = R.length) (hR : R.length ≤ 1000) (hA : AOk R ws) (hW : W = 32 * n) (v : Int) (hv : v = (R.map fun e => (e.2.count true : Int) * wordsOf e.1).sum) : CallF (fun _ => Tryz.prog) 37 [.ptr 0 (.lit 0)] [hpB 0 1 3 3 W,hpC 1 2 137 2 n,hpP 2 L,hpP 3 D] 4
  (fun r h n' => r = .p (.int .i64 (.sym v)) ∧ h = [hpB 0 1 3 3 W,hpC 1 2 137 2 n,hpP 2 L,hpP 3 D] ∧ n' = 4) := by
 have hm8 : ∀ e ∈ R,e.2.length ≤ 8 := fun e he => (hA.rows e he).1
 refine callF_of_body tok Tryz.func37 (by kernel_rfl) rfl rfl rfl ?_; conv => cbv
 refine cfr (wordsS_lx R n L hL hn hR hm8 v hv) [(0,1),(1,2)] (fun r h' n' ⟨e1,e2,e3⟩ => ?_)
 subst e1 e2 e3
 conv => cbv
 refine RetF.mk [i6 v] [hpB 0 1 3 3 W,hpC 1 2 137 2 n,hpP 2 L,hpP 3 D] 4 (Re.at [(0,0),(1,1),(2,2),(3,3)] []) rfl ⟨rfl,rfl,rfl⟩
theorem wordsA_lx (R : List Rw) (ws : List Int) (n W : Int) (L D : List PV) (hL : L = rpv R) (hD : D = ipv ws) (hn : n = R.length) (hR : R.length ≤ 1000) (hA : AOk R ws) (hW : W = 32 * n) : CallF (fun _ => Tryz.prog) 38 [.ptr 0 (.lit 0)] [hpB 0 1 3 3 W,hpC 1 2 137 2 n,hpP 2 L,hpP 3 D] 4
  (fun r h n' => r = .p (.int .i64 (.sym W)) ∧ h = [hpB 0 1 3 3 W,hpC 1 2 137 2 n,hpP 2 L,hpP 3 D] ∧ n' = 4) := by
 refine callF_of_body tok Tryz.func38 (by kernel_rfl) rfl rfl rfl ?_; conv => cbv
 refine cfr (lenS_lx n L) [(0,1),(1,2)] (fun r h' n' ⟨e1,e2,e3⟩ => ?_)
 subst e1 e2 e3
 conv => cbv
 refine Fit.mk (by show (-9223372036854775808 : Int) ≤ n * 32; omega) (by show n * 32 ≤ 9223372036854775807; omega) fun v hv => ?_
 have hv : v = n * 32 := hv
 have hvW : v = W := by omega
 conv => cbv
 refine RetF.mk [i6 W] [hpB 0 1 3 3 W,hpC 1 2 137 2 n,hpP 2 L,hpP 3 D] 4 (Re.at [(0,0),(1,1),(2,2),(3,3)] []) rfl ⟨rfl,rfl,rfl⟩
theorem newA_bad (n : Int) (hn : n < 2 ∨ 128 < n) : CallF (fun _ => Tryz.prog) 82 [i6 n] [] 0 (fun r h m => (∃ e : Int,r = .tup [.p .nilp,i6 e] ∧ e ≠ 0) ∧ h = [] ∧ m = 0) := by
 refine callF_of_body tok Tryz.func82 (by kernel_rfl) rfl rfl rfl ?_; conv => cbv
 refine callF_frame (spanNew_bad n hn) [] rfl trivial rfl rfl (fun r h' n' hrr => ?_)
 obtain ⟨⟨e,e1,he⟩,e2,e3⟩ := hrr
 subst e1 e2 e3
 conv => cbv
 refine Br.mk (fun g => ?_) (fun g => ?_)
 case refine_2 =>
  have gf : False := g he
  cases gf
 conv => cbv
 refine RetF.mk [.p .nilp,i6 e] [] 0 (Re.at [] []) rfl ⟨⟨e,rfl,he⟩,rfl,rfl⟩
theorem zero_ipv : ∀ k,pvles (repsP [.int .i64 (.lit 0)] k) (ipv (List.replicate k 0))
 | 0 => trivial
 | k + 1 => by
  rw [repsP,List.replicate_succ,ipv,List.map_cons]
  exact ⟨by simp [pvle,I.val],zero_ipv k⟩
theorem newA_lx (n W : Int) (h2 : 2 ≤ n) (h8 : n ≤ 128) (hW : W = 32 * n) (L D : List PV) (hL : L = rpv (List.replicate n.toNat (0,[]))) (hD : D = ipv (List.replicate W.toNat 0)) : CallF (fun _ => Tryz.prog) 82 [i6 n] [] 0
  (fun r h m => r = .tup [.ptr 0 (.lit 0),.p (.int .i64 (.lit 0))] ∧ h = [hpB 0 1 3 3 W,hpC 1 2 137 2 n,hpP 2 L,hpP 3 D] ∧ m = 4) := by
 refine callF_of_body tok Tryz.func82 (by kernel_rfl) rfl rfl rfl ?_; conv => cbv
 refine callF_frame (spanNew_lx n h2 h8 L hL) [] rfl trivial rfl rfl (fun r h' n' ⟨e1,e2,e3⟩ => ?_)
 subst e1 e2 e3
 conv => cbv
 refine Fit.mk (by show (-9223372036854775808 : Int) ≤ n * 32; omega) (by show n * 32 ≤ 9223372036854775807; omega) fun v hv => ?_
 have hv : v = n * 32 := hv
 have hvW : v = W := by omega
 conv => cbv
 refine Need.mk ⟨by show 0 ≤ v; omega,Int.le_refl _,by show v * 8 ≤ 140737488355328; omega,by show v ≤ 9223372036854775807; omega⟩ ?_
 conv => cbv
 refine Upd.mk fun D0 hD0 => ?_
 have hle : pvles D0 D := by
  have hD0 : D0 = repsP [.int .i64 (.lit 0)] v.toNat := hD0
  rw [hD0,hD,hvW]; exact zero_ipv _
 clear hD0 hD
 unfold pvles at hle
 conv => cbv
 refine RetF.mk [.ptr 0 (.lit 0),.p (.int .i64 (.lit 0))] [hpB 0 1 3 3 W,hpC 1 2 137 2 n,hpP 2 L,hpP 3 D] 4 (Re.at [(3,0),(0,1),(1,2),(2,3)] []) rfl ⟨rfl,rfl,rfl⟩
theorem set_get {α : Type} {l : List α} {i j : Nat} {x y : α} (hi : i < l.length) (h : (l.set i x)[j]? = some y) : (j = i ∧ y = x) ∨ (j ≠ i ∧ l[j]? = some y) := by
 by_cases e : i = j
 ·subst e
  rw [List.getElem?_set_self hi] at h
  exact .inl ⟨rfl,(Option.some.inj h).symm⟩
 ·rw [List.getElem?_set_ne e] at h
  exact .inr ⟨fun h => e h.symm,h⟩
def objCount (R : List Rw) : Nat := (R.map fun e => e.2.count true).sum
theorem sum_set : ∀ (l : List Nat) (i y x : Nat),l[i]? = some x → (l.set i y).sum + x = l.sum + y
 | [],i,y,x,h => by simp at h
 | z :: l,0,y,x,h => by
  have h : z = x := Option.some.inj h
  subst h
  simp only [List.set_cons_zero,List.sum_cons]; omega
 | z :: l,i + 1,y,x,h => by
  have := sum_set l i y x h
  simp only [List.set_cons_succ,List.sum_cons]; omega
theorem objCount_set {R : List Rw} {i : Nat} {e e' : Rw} (h : R[i]? = some e) : objCount (R.set i e') + e.2.count true = objCount R + e'.2.count true := by
 unfold objCount
 rw [List.map_set]
 exact sum_set _ _ _ _ (by rw [List.getElem?_map,h]; rfl)
theorem count_set {l : List Bool} : ∀ {s : Nat},l[s]? = some false → (l.set s true).count true = l.count true + 1 := by
 induction l with
 | nil => intro s h; simp at h
 | cons b l ih =>
  intro s h
  cases s with
  | zero =>
   have h : b = false := Option.some.inj h
   subst h
   simp
  | succ s =>
   have := ih (s := s) h
   rw [List.set_cons_succ,List.count_cons,List.count_cons,this]; omega
theorem count_unset {l : List Bool} : ∀ {s : Nat},l[s]? = some true → (l.set s false).count true + 1 = l.count true := by
 induction l with
 | nil => intro s h; simp at h
 | cons b l ih =>
  intro s h
  cases s with
  | zero =>
   have h : b = true := Option.some.inj h
   subst h
   simp
  | succ s =>
   have := ih (s := s) h
   rw [List.set_cons_succ,List.count_cons,List.count_cons,← this]; omega
theorem words_of_slots {c : Int} (h : slotsOf c ≠ 0) : wordsOf c ≠ 0 := by
 have := (slots_iff c).1 h
 have : c = 0 ∨ c = 1 ∨ c = 2 ∨ c = 3 := by omega
 rcases this with e | e | e | e <;> (subst e; decide)
theorem slots_le (c : Int) : slotsOf c ≤ 8 := by
 unfold slotsOf; split
 ·omega
 ·split
  ·omega
  ·split
   ·omega
   ·split <;> omega
theorem alloc_objs {R R' : List Rw} {c i s : Int} (hR : RowsOk R) (h : Alloced R c i s true R') (at_ w : Int) (hat : at_ = 32 * i + s * wordsOf c) (hw : w = wordsOf c) :
  RowsOk R' ∧ R'.length = R.length ∧ objCount R' = objCount R + 1 ∧ ¬ IsObj R at_ ∧ ∀ a v,ObjAt R' a v ↔ ObjAt R a v ∨ (a = at_ ∧ v = w) := by
 have hRn : ∀ {q : Nat} {e : Rw} {s : Nat},R[q]? = some e → e.2[s]? = some true → wordsOf e.1 ≠ 0 ∧ s < slotsOf e.1 := by
  intro q e s he hs
  have hne : e.2 ≠ [] := by intro e0; rw [e0] at hs; simp at hs
  obtain ⟨h1,h2,_⟩ := (hR e (List.mem_of_getElem? he)).2 hne
  exact ⟨h1,by have := (List.getElem?_eq_some_iff.1 hs).1; omega⟩
 have hnot : ∀ {e0 : Rw} {i s : Nat},wordsOf c ≠ 0 → s < slotsOf c → R[i]? = some e0 → (e0.2 = [] ∨ e0.1 = c ∧ e0.2[s]? = some false) → ¬ IsObj R (32 * i + s * wordsOf c) := by
  rintro e0 i s hw hsl hi hcase ⟨q,s',e,he,hs',hat'⟩
  obtain ⟨h1,h2⟩ := hRn he hs'
  have h3 := slots_words h1 h2
  have h3' := slots_words hw hsl
  have h4 : 0 ≤ (s' : Int) * wordsOf e.1 := Int.mul_nonneg (by omega) (wordsOf_bd _).1
  have h4' : 0 ≤ (s : Int) * wordsOf c := Int.mul_nonneg (by omega) (wordsOf_bd _).1
  have h5 : q = i := by have := (wordsOf_bd e.1).1; have := (wordsOf_bd c).1; omega
  subst h5
  rw [hi] at he
  cases he
  rcases hcase with h | ⟨h6,h7⟩
  ·rw [h] at hs'; simp at hs'
  ·rw [h6] at hat'
   have h8 : (s : Int) * wordsOf c = s' * wordsOf c := by omega
   have h9 := Int.eq_of_mul_eq_mul_right hw h8
   rw [show s' = s by omega,h7] at hs'
   cases hs'
 cases h with
 | old i s l h0 hi hs h1 h2 =>
  have hil := (List.getElem?_eq_some_iff.1 hi).1
  have hsl := (List.getElem?_eq_some_iff.1 hs).1
  have hne : l ≠ [] := by intro e; subst e; simp at hs
  obtain ⟨g1,g2,g3⟩ := (hR _ (List.mem_of_getElem? hi)).2 hne
  have g4 := (hR _ (List.mem_of_getElem? hi)).1
  dsimp only at g1 g2 g3 g4
  refine ⟨?_,List.length_set,?_,?_,fun a v => ⟨?_,?_⟩⟩
  ·intro e he
   rcases List.mem_or_eq_of_mem_set he with he | rfl
   ·exact hR e he
   ·refine ⟨by rw [List.length_set]; exact g4,fun _ => ⟨g1,by rw [List.length_set]; exact g2,?_⟩⟩
    exact List.mem_of_getElem? (i := s) (List.getElem?_set_self hsl)
  ·have := objCount_set (e' := (c,l.set s true)) hi
   have h5 := count_set hs
   dsimp only at this
   omega
  ·rw [hat]; exact hnot g1 (by omega) hi (.inr ⟨rfl,hs⟩)
  ·rintro ⟨q,s',e,he,hs',ha,hv⟩
   rcases set_get hil he with ⟨rfl,rfl⟩ | ⟨_,he⟩
   ·rcases set_get hsl hs' with ⟨rfl,_⟩ | ⟨_,hs'⟩
    ·exact .inr ⟨by rw [ha,hat],by rw [hv,hw]⟩
    ·exact .inl ⟨q,s',(c,l),hi,hs',ha,hv⟩
   ·exact .inl ⟨q,s',e,he,hs',ha,hv⟩
  ·rintro (⟨q,s',e,he,hs',ha,hv⟩ | ⟨rfl,rfl⟩)
   ·by_cases hq : q = i
    ·subst hq
     rw [hi] at he
     cases he
     have hss : s ≠ s' := by rintro rfl; rw [hs] at hs'; cases hs'
     exact ⟨q,s',_,List.getElem?_set_self hil,by rw [List.getElem?_set_ne hss]; exact hs',ha,hv⟩
    ·exact ⟨q,s',e,by rw [List.getElem?_set_ne (fun h => hq h.symm)]; exact he,hs',ha,hv⟩
   ·exact ⟨i,s,_,List.getElem?_set_self hil,List.getElem?_set_self hsl,hat,hw⟩
 | fresh i d h0 h2 hi h3 =>
  have hil := (List.getElem?_eq_some_iff.1 hi).1
  have g1 := words_of_slots h0
  have hk : 0 < slotsOf c := Nat.pos_of_ne_zero h0
  have hrl : (List.replicate (slotsOf c) false).length = slotsOf c := List.length_replicate
  have h00 : (List.replicate (slotsOf c) false)[0]? = some false := by rw [List.getElem?_replicate,if_pos hk]
  refine ⟨?_,List.length_set,?_,?_,fun a v => ⟨?_,?_⟩⟩
  ·intro e he
   rcases List.mem_or_eq_of_mem_set he with he | rfl
   ·exact hR e he
   ·refine ⟨by rw [List.length_set,hrl]; exact slots_le c,fun _ => ⟨g1,by rw [List.length_set,hrl],?_⟩⟩
    exact List.mem_of_getElem? (i := 0) (List.getElem?_set_self (by rw [hrl]; exact hk))
  ·have := objCount_set (e' := (c,(List.replicate (slotsOf c) false).set 0 true)) hi
   have h5 := count_set h00
   have h6 : (List.replicate (slotsOf c) false).count true = 0 := by rw [List.count_eq_zero]; intro h; rw [List.mem_replicate] at h; cases h.2
   dsimp only [List.count_nil] at this
   omega
  ·have := hnot (i := i) (s := 0) g1 hk hi (.inl rfl)
   rw [hat]; exact this
  ·rintro ⟨q,s',e,he,hs',ha,hv⟩
   rcases set_get hil he with ⟨rfl,rfl⟩ | ⟨_,he⟩
   ·rcases set_get (by rw [hrl]; exact hk) hs' with ⟨rfl,_⟩ | ⟨_,hs'⟩
    ·exact .inr ⟨by rw [ha,hat]; rfl,by rw [hv,hw]⟩
    ·rw [List.getElem?_replicate] at hs'
     split at hs' <;> cases hs'
   ·exact .inl ⟨q,s',e,he,hs',ha,hv⟩
  ·rintro (⟨q,s',e,he,hs',ha,hv⟩ | ⟨rfl,rfl⟩)
   ·by_cases hq : q = i
    ·subst hq
     rw [hi] at he
     cases he
     simp at hs'
    ·exact ⟨q,s',e,by rw [List.getElem?_set_ne (fun h => hq h.symm)]; exact he,hs',ha,hv⟩
   ·exact ⟨i,0,_,List.getElem?_set_self hil,List.getElem?_set_self (by rw [hrl]; exact hk),by rw [hat]; rfl,hw⟩
theorem full_count {R R' : List Rw} {c i s : Int} (hR : RowsOk R) (hc : slotsOf c ≠ 0) (h : Alloced R c i s false R') : R' = R ∧ R.length ≤ objCount R := by
 cases h with
 | no h => exact absurd h hc
 | full h0 h2 h3 =>
  refine ⟨rfl,?_⟩
  clear h2
  induction R with
  | nil => simp
  | cons e R ih =>
   have h5 : e.2 ≠ [] := by
    intro h
    exact h3 0 e.1 (by rw [← h]; rfl)
   have h6 := ((hR e List.mem_cons_self).2 h5).2.2
   have h7 : 0 < e.2.count true := List.count_pos_iff.2 h6
   have h8 := ih (fun x hx => hR x (List.mem_cons_of_mem _ hx)) (fun j d => h3 (j + 1) d)
   unfold objCount at h8 ⊢
   simp only [List.length_cons,List.map_cons,List.sum_cons]; omega
theorem free_objs {R : List Rw} (hR : RowsOk R) {q s : Nat} {e : Rw} (he : R[q]? = some e) (hs : e.2[s]? = some true) (at_ : Int) (hat : at_ = 32 * q + s * wordsOf e.1) :
  RowsOk (freed R q e.1 (e.2.set s false)) ∧ (freed R q e.1 (e.2.set s false)).length = R.length ∧ objCount (freed R q e.1 (e.2.set s false)) + 1 = objCount R ∧ ∀ a v,ObjAt (freed R q e.1 (e.2.set s false)) a v ↔ ObjAt R a v ∧ a ≠ at_ := by
 have hql := (List.getElem?_eq_some_iff.1 he).1
 have hsl := (List.getElem?_eq_some_iff.1 hs).1
 have hne : e.2 ≠ [] := by intro e0; rw [e0] at hs; simp at hs
 obtain ⟨g1,g2,g3⟩ := (hR _ (List.mem_of_getElem? he)).2 hne
 have g4 := (hR _ (List.mem_of_getElem? he)).1
 have hcu := count_unset hs
 have hkey : ∀ a v,ObjAt R a v → a = at_ → ∀ (q' s' : Nat) (e' : Rw),R[q']? = some e' → e'.2[s']? = some true → a = 32 * q' + s' * wordsOf e'.1 → q' = q ∧ s' = s := by
  intro a v _ ha q' s' e' he' hs' ha'
  have hne' : e'.2 ≠ [] := by intro e0; rw [e0] at hs'; simp at hs'
  obtain ⟨k1,k2,_⟩ := (hR _ (List.mem_of_getElem? he')).2 hne'
  have hsl' := (List.getElem?_eq_some_iff.1 hs').1
  have h3 := slots_words g1 (show s < slotsOf e.1 by omega)
  have h3' := slots_words k1 (show s' < slotsOf e'.1 by omega)
  have h4 : 0 ≤ (s' : Int) * wordsOf e'.1 := Int.mul_nonneg (by omega) (wordsOf_bd _).1
  have h4' : 0 ≤ (s : Int) * wordsOf e.1 := Int.mul_nonneg (by omega) (wordsOf_bd _).1
  have h5 : q' = q := by have := (wordsOf_bd e.1).1; have := (wordsOf_bd e'.1).1; omega
  subst h5
  rw [he] at he'
  cases he'
  have h8 : (s : Int) * wordsOf e.1 = s' * wordsOf e.1 := by omega
  have h9 := Int.eq_of_mul_eq_mul_right g1 h8
  exact ⟨rfl,by omega⟩
 obtain ⟨e2,he2⟩ : ∃ e2 : Rw,e2 = if (e.2.set s false).count true = 0 then (0,[]) else (e.1,e.2.set s false) := ⟨_,rfl⟩
 have hfr : freed R q e.1 (e.2.set s false) = R.set q e2 := by rw [freed,he2]
 have h2cnt : e2.2.count true = (e.2.set s false).count true := by
  rw [he2]; split
  ·rename_i h; rw [h]; rfl
  ·rfl
 have h2mark : ∀ s',e2.2[s']? = some true ↔ (e.2[s']? = some true ∧ s' ≠ s) := by
  intro s'
  have hset : (e.2.set s false)[s']? = some true ↔ (e.2[s']? = some true ∧ s' ≠ s) := by
   constructor
   ·intro h
    rcases set_get hsl h with ⟨_,h⟩ | ⟨h1,h2⟩
    ·cases h
    ·exact ⟨h2,h1⟩
   ·rintro ⟨h1,h2⟩
    rw [List.getElem?_set_ne (fun h => h2 h.symm)]; exact h1
  rw [he2]
  split
  ·rename_i h0
   rw [List.count_eq_zero] at h0
   constructor
   ·intro h; simp at h
   ·intro h; exact absurd (List.mem_of_getElem? (hset.2 h)) h0
  ·exact hset
 have h2cls : e2.2 ≠ [] → e2.1 = e.1 := by
  rw [he2]; split
  ·intro h; exact absurd rfl h
  ·intro _; rfl
 rw [hfr]
 refine ⟨?_,List.length_set,?_,fun a v => ⟨?_,?_⟩⟩
 ·intro x hx
  rcases List.mem_or_eq_of_mem_set hx with hx | rfl
  ·exact hR x hx
  ·rw [he2]
   split
   ·exact ⟨by simp,fun h => absurd rfl h⟩
   ·rename_i h0
    refine ⟨by rw [List.length_set]; exact g4,fun _ => ⟨g1,by rw [List.length_set]; exact g2,?_⟩⟩
    exact List.count_pos_iff.1 (Nat.pos_of_ne_zero h0)
 ·have := objCount_set (e' := e2) he
  omega
 ·rintro ⟨q',s',e',he',hs',ha,hv⟩
  rcases set_get hql he' with ⟨rfl,rfl⟩ | ⟨hqq,he'⟩
  ·obtain ⟨k1,k2⟩ := (h2mark s').1 hs'
   have hcl := h2cls (by intro e0; rw [e0] at hs'; simp at hs')
   rw [hcl] at ha hv
   have hob : ObjAt R a v := ⟨q',s',e,he,k1,ha,hv⟩
   exact ⟨hob,fun h => k2 (hkey a v hob h q' s' e he k1 ha).2⟩
  ·have hob : ObjAt R a v := ⟨q',s',e',he',hs',ha,hv⟩
   exact ⟨hob,fun h => hqq (hkey a v hob h q' s' e' he' hs' ha).1⟩
 ·rintro ⟨⟨q',s',e',he',hs',ha,hv⟩,hne2⟩
  by_cases hqq : q' = q
  ·subst hqq
   rw [he] at he'
   cases he'
   have hss : s' ≠ s := by rintro rfl; exact hne2 (by rw [ha,hat])
   have hm := (h2mark s').2 ⟨hs',hss⟩
   have hcl := h2cls (by intro e0; rw [e0] at hm; simp at hm)
   exact ⟨q',s',e2,List.getElem?_set_self hql,hm,by rw [hcl]; exact ha,by rw [hcl]; exact hv⟩
  ·exact ⟨q',s',e',by rw [List.getElem?_set_ne (fun h => hqq h.symm)]; exact he',hs',ha,hv⟩
theorem within_not {R : List Rw} (hR : RowsOk R) {a w b v : Int} (h : ObjAt R a w) (k : ObjAt R b v) {j : Int} (h1 : a < j) (h2 : j < a + w) : b ≠ j := by
 intro e
 subst e
 have := (k.facts hR).2.2.1
 rcases h.apart hR k with ⟨h3,_⟩ | h3 | h3 <;> omega
theorem AOk.alloct {R R' : List Rw} {ws ws' : List Int} {kind n at_ e : Int} (hA : AOk R ws) (h : Alloct R ws kind n at_ e R' ws') : AOk R' ws' ∧ R'.length = R.length := by
 cases h with
 | arg h => exact ⟨hA,rfl⟩
 | room i s R' h ha =>
  obtain ⟨rfl,_⟩ := full_count hA.rows (ofN_slots n) ha
  exact ⟨hA,rfl⟩
 | ok i s _ R' h ha hi hat =>
  obtain ⟨w,hw⟩ : ∃ w,w = wordsOf (ofN n) := ⟨_,rfl⟩
  obtain ⟨h1,h2,h3,h4,h5⟩ := alloc_objs hA.rows ha at_ w (by rw [hat]) hw
  have hobj : ObjAt R' at_ w := (h5 _ _).2 (.inr ⟨rfl,rfl⟩)
  obtain ⟨f1,f2,f3,_⟩ := hobj.facts h1
  have hnw : n < w := by rw [hw]; exact (ofN_words ⟨h.1,h.2.1⟩).1
  have hlen := hA.len
  refine ⟨⟨h1,by rw [zer_length,List.length_set,h2]; exact hlen,?_,?_⟩,h2⟩
  ·intro x hx
   obtain ⟨j,hj⟩ := List.getElem?_of_mem hx
   have hjl : j < ws.length := by have := (List.getElem?_eq_some_iff.1 hj).1; rw [zer_length,List.length_set] at this; exact this
   rw [zer_get _ _ _ _ (by rw [List.length_set]; exact hjl)] at hj
   split at hj
   ·cases hj; omega
   ·rcases set_get (by omega) hj with ⟨_,rfl⟩ | ⟨_,hj⟩
    ·omega
    ·exact hA.bd x (List.mem_of_getElem? hj)
  ·intro a v hav
   obtain ⟨k1,k2,k3,_⟩ := hav.facts h1
   have hal : a.toNat < ws.length := by omega
   rw [zer_get _ _ _ _ (by rw [List.length_set]; exact hal)]
   rcases (h5 _ _).1 hav with hold | ⟨rfl,rfl⟩
   ·have hne : a ≠ at_ := fun e => h4 (isObj_iff.2 ⟨v,e ▸ hold⟩)
    have hap := hobj.apart h1 hav
    rw [if_neg (by rcases hap with ⟨h,_⟩ | h | h <;> omega),List.getElem?_set_ne (by omega)]
    exact hA.hdr a v hold
   ·rw [if_neg (by omega),List.getElem?_set_self hal]
    exact ⟨kind,n,rfl,by omega,by omega,by omega,hnw⟩
theorem AOk.set {R : List Rw} {ws : List Int} {at_ i x k l : Int} (hA : AOk R ws) (hk : Kept R ws at_ k l) (hi : 0 ≤ i ∧ i < l) (hx : -9223372036854775808 ≤ x ∧ x ≤ 9223372036854775807) : AOk R (ws.set (at_ + 1 + i).toNat x) := by
 have hb := hk.bounds hA
 obtain ⟨w,h1,h2,h3,h4,h5,h6⟩ := hk
 have hlen := hA.len
 refine ⟨hA.rows,by rw [List.length_set]; exact hlen,?_,?_⟩
 ·intro y hy
  rcases List.mem_or_eq_of_mem_set hy with hy | rfl
  ·exact hA.bd y hy
  ·exact hx
 ·intro a v hav
  obtain ⟨k1,_⟩ := hav.facts hA.rows
  have := within_not hA.rows h1 hav (j := at_ + 1 + i) (by omega) (by omega)
  rw [List.getElem?_set_ne (by omega)]
  exact hA.hdr a v hav
theorem AOk.stored {R : List Rw} {ws ws' : List Int} {at_ i x e : Int} (hA : AOk R ws) (hx : -9223372036854775808 ≤ x ∧ x ≤ 9223372036854775807) (h : Stored R ws at_ i x e ws') : AOk R ws' := by
 cases h with
 | none h => exact hA
 | arg k l h hi => exact hA
 | ok k l h hi => exact hA.set h hi hx
theorem AOk.freet {R R' : List Rw} {ws : List Int} {at_ e : Int} (hA : AOk R ws) (h : Freet R at_ e R') : AOk R' ws ∧ R'.length = R.length := by
 cases h with
 | none h => exact ⟨hA,rfl⟩
 | ok q s e he hs hat =>
  obtain ⟨h1,h2,h3,h4⟩ := free_objs hA.rows he hs at_ hat
  exact ⟨⟨h1,by rw [h2]; exact hA.len,hA.bd,fun a v hav => hA.hdr a v ((h4 a v).1 hav).1⟩,h2⟩
theorem AOk.new (n : Nat) : AOk (List.replicate n (0,[])) (List.replicate (32 * n) 0) := by
 refine ⟨?_,by simp,?_,?_⟩
 ·intro e he
  obtain ⟨_,rfl⟩ := List.mem_replicate.1 he
  exact ⟨by simp,fun h => absurd rfl h⟩
 ·intro x hx
  obtain ⟨_,rfl⟩ := List.mem_replicate.1 hx
  omega
 ·rintro a w ⟨q,s,e,he,hs,_⟩
  obtain ⟨_,rfl⟩ := List.mem_replicate.1 (List.mem_of_getElem? he)
  simp at hs
theorem new_none (n : Nat) (a : Int) : ¬ IsObj (List.replicate n (0,[])) a := by
 rintro ⟨q,s,e,he,hs,_⟩
 obtain ⟨_,rfl⟩ := List.mem_replicate.1 (List.mem_of_getElem? he)
 simp at hs
theorem new_count (n : Nat) : objCount (List.replicate n (0,[])) = 0 := by
 unfold objCount
 induction n with
 | zero => rfl
 | succ n ih => rw [List.replicate_succ,List.map_cons,List.sum_cons,ih]; rfl
theorem slotAt_nil (a : I) : CallF (fun _ => Tryz.prog) 106 [.p .nilp,.p (.int .i64 a)] [] 0 (fun r h n => r = .tup [i6 0,i6 0,.p (.bool false)] ∧ h = [] ∧ n = 0) := by
 refine callF_of_body tok Tryz.func106 (by kernel_rfl) rfl rfl rfl ?_; conv => cbv
 refine RetF.mk [i6 0,i6 0,.p (.bool false)] [] 0 (Re.at [] []) rfl ⟨rfl,rfl,rfl⟩
theorem look_nil (a : I) : CallF (fun _ => Tryz.prog) 80 [.p .nilp,.p (.int .i64 a)] [] 0 (fun r h n => r = .iface 142 (.agg []) ∧ h = [] ∧ n = 0) := by
 refine callF_of_body tok Tryz.func80 (by kernel_rfl) rfl rfl rfl ?_; conv => cbv
 refine callF_frame (slotAt_nil a) [] rfl trivial rfl rfl (fun r h' n' ⟨e1,e2,e3⟩ => ?_)
 subst e1 e2 e3
 conv => cbv
 refine RetF.mk [.iface 142 (.agg [])] [] 0 (Re.at [] []) rfl ⟨rfl,rfl,rfl⟩
theorem kind_nil (a : I) : CallF (fun _ => Tryz.prog) 41 [.p .nilp,.p (.int .i64 a)] [] 0 (fun r h n => r = .p (.int .i64 (.sym 0)) ∧ h = [] ∧ n = 0) := by
 refine callF_of_body tok Tryz.func41 (by kernel_rfl) rfl rfl rfl ?_; conv => cbv
 refine callF_frame (look_nil a) [] rfl trivial rfl rfl (fun r h' n' ⟨e1,e2,e3⟩ => ?_)
 subst e1 e2 e3
 conv => cbv
 refine RetF.mk [i6 0] [] 0 (Re.at [] []) rfl ⟨rfl,rfl,rfl⟩
theorem lenA_nil (a : I) : CallF (fun _ => Tryz.prog) 133 [.p .nilp,.p (.int .i64 a)] [] 0 (fun r h n => r = .p (.int .i64 (.sym 0)) ∧ h = [] ∧ n = 0) := by
 refine callF_of_body tok Tryz.func133 (by kernel_rfl) rfl rfl rfl ?_; conv => cbv
 refine callF_frame (look_nil a) [] rfl trivial rfl rfl (fun r h' n' ⟨e1,e2,e3⟩ => ?_)
 subst e1 e2 e3
 conv => cbv
 refine RetF.mk [i6 0] [] 0 (Re.at [] []) rfl ⟨rfl,rfl,rfl⟩
theorem judge_nil (a i : I) : CallF (fun _ => Tryz.prog) 91 [.p .nilp,.p (.int .i64 a),.p (.int .i64 i)] [] 0 (fun r h n => r = .p (.int .i64 (.sym 2)) ∧ h = [] ∧ n = 0) := by
 refine callF_of_body tok Tryz.func91 (by kernel_rfl) rfl rfl rfl ?_; conv => cbv
 refine RetF.mk [i6 2] [] 0 (Re.at [] []) rfl ⟨rfl,rfl,rfl⟩
theorem loadA_nil (a i : I) : CallF (fun _ => Tryz.prog) 81 [.p .nilp,.p (.int .i64 a),.p (.int .i64 i)] [] 0 (fun r h n => r = .tup [i6 0,i6 2] ∧ h = [] ∧ n = 0) := by
 refine callF_of_body tok Tryz.func81 (by kernel_rfl) rfl rfl rfl ?_; conv => cbv
 refine callF_frame (judge_nil a i) [] rfl trivial rfl rfl (fun r h' n' ⟨e1,e2,e3⟩ => ?_)
 subst e1 e2 e3
 conv => cbv
 refine Br.mk (fun g => ?_) (fun g => ?_)
 case refine_2 =>
  have gf : False := g (by decide)
  cases gf
 conv => cbv
 refine RetF.mk [i6 0,i6 2] [] 0 (Re.at [] []) rfl ⟨rfl,rfl,rfl⟩
theorem storeA_nil (a i x : I) : CallF (fun _ => Tryz.prog) 51 [.p .nilp,.p (.int .i64 a),.p (.int .i64 i),.p (.int .i64 x)] [] 0 (fun r h n => r = .p (.int .i64 (.sym 2)) ∧ h = [] ∧ n = 0) := by
 refine callF_of_body tok Tryz.func51 (by kernel_rfl) rfl rfl rfl ?_; conv => cbv
 refine callF_frame (judge_nil a i) [] rfl trivial rfl rfl (fun r h' n' ⟨e1,e2,e3⟩ => ?_)
 subst e1 e2 e3
 conv => cbv
 refine Br.mk (fun g => ?_) (fun g => ?_)
 case refine_2 =>
  have gf : False := g (by decide)
  cases gf
 conv => cbv
 refine RetF.mk [i6 2] [] 0 (Re.at [] []) rfl ⟨rfl,rfl,rfl⟩
theorem allocA_nil (a i : I) : CallF (fun _ => Tryz.prog) 123 [.p .nilp,.p (.int .i64 a),.p (.int .i64 i)] [] 0 (fun r h n => r = .tup [i6 0,i6 2] ∧ h = [] ∧ n = 0) := by
 refine callF_of_body tok Tryz.func123 (by kernel_rfl) rfl rfl rfl ?_; conv => cbv
 refine RetF.mk [i6 0,i6 2] [] 0 (Re.at [] []) rfl ⟨rfl,rfl,rfl⟩
theorem freeA_nil (a : I) : CallF (fun _ => Tryz.prog) 116 [.p .nilp,.p (.int .i64 a)] [] 0 (fun r h n => r = .p (.int .i64 (.sym 2)) ∧ h = [] ∧ n = 0) := by
 refine callF_of_body tok Tryz.func116 (by kernel_rfl) rfl rfl rfl ?_; conv => cbv
 refine RetF.mk [i6 2] [] 0 (Re.at [] []) rfl ⟨rfl,rfl,rfl⟩
theorem objects_nil : CallF (fun _ => Tryz.prog) 33 [.p .nilp] [] 0 (fun r h n => r = .p .nils ∧ h = [] ∧ n = 0) := by
 refine callF_of_body tok Tryz.func33 (by kernel_rfl) rfl rfl rfl ?_; conv => cbv
 refine RetF.mk [.p .nils] [] 0 (Re.at [] []) rfl ⟨rfl,rfl,rfl⟩
theorem usedA_nil : CallF (fun _ => Tryz.prog) 37 [.p .nilp] [] 0 (fun r h n => r = .p (.int .i64 (.sym 0)) ∧ h = [] ∧ n = 0) := by
 refine callF_of_body tok Tryz.func37 (by kernel_rfl) rfl rfl rfl ?_; conv => cbv
 refine RetF.mk [i6 0] [] 0 (Re.at [] []) rfl ⟨rfl,rfl,rfl⟩
theorem wordsA_nil : CallF (fun _ => Tryz.prog) 38 [.p .nilp] [] 0 (fun r h n => r = .p (.int .i64 (.sym 0)) ∧ h = [] ∧ n = 0) := by
 refine callF_of_body tok Tryz.func38 (by kernel_rfl) rfl rfl rfl ?_; conv => cbv
 refine RetF.mk [i6 0] [] 0 (Re.at [] []) rfl ⟨rfl,rfl,rfl⟩
def rowPart (q : Nat) (e : Rw) : Nat → List Int
 | 0 => []
 | s + 1 => rowPart q e s ++ (if e.2[s]? = some true then [32 * (q : Int) + s * wordsOf e.1] else [])
def objsTo (R : List Rw) : Nat → List Int
 | 0 => []
 | q + 1 => objsTo R q ++ (match R[q]? with | some e => rowPart q e (slotsOf (clsOf e)) | none => [])
theorem rowPart_length (q : Nat) (e : Rw) : ∀ s,(rowPart q e s).length = (e.2.take s).count true
 | 0 => by simp [rowPart]
 | s + 1 => by
  rw [rowPart,List.length_append,rowPart_length q e s,List.take_add_one,List.count_append]
  congr 1
  cases h : e.2[s]? with
  | none => rfl
  | some b => cases b <;> rfl
theorem objsTo_length {R : List Rw} (hR : RowsOk R) : ∀ q,(objsTo R q).length = objCount (R.take q)
 | 0 => rfl
 | q + 1 => by
  rw [objsTo,List.length_append,objsTo_length hR q,List.take_add_one]
  unfold objCount
  rw [List.map_append,List.sum_append]
  congr 1
  cases h : R[q]? with
  | none => rfl
  | some e =>
   show (rowPart q e (slotsOf (clsOf e))).length = e.2.count true + 0
   rw [rowPart_length,Nat.add_zero]
   by_cases h0 : e.2 = []
   ·rw [h0]; simp
   ·have hcl : clsOf e = e.1 := if_neg h0
    rw [hcl,List.take_of_length_le]
    rw [((hR e (List.mem_of_getElem? h)).2 h0).2.1]
    exact Nat.le_refl _
theorem objs_length {R : List Rw} (hR : RowsOk R) : (objsTo R R.length).length = objCount R := by
 rw [objsTo_length hR,List.take_length]
theorem rowPart_le (q : Nat) (e : Rw) : ∀ s,(rowPart q e s).length ≤ s
 | 0 => Nat.le_refl _
 | s + 1 => by
  have := rowPart_le q e s
  rw [rowPart,List.length_append]
  split
  ·simp; omega
  ·simp; omega
theorem objsTo_le (R : List Rw) : ∀ q,(objsTo R q).length ≤ 8 * q
 | 0 => Nat.le_refl _
 | q + 1 => by
  have := objsTo_le R q
  rw [objsTo,List.length_append]
  split
  ·rename_i e he
   have h1 := rowPart_le q e (slotsOf (clsOf e))
   have h2 := slots_le (clsOf e)
   omega
  ·simp; omega
theorem ipv_app (a b : List Int) : ipv a ++ ipv b = ipv (a ++ b) := by rw [ipv,ipv,ipv,List.map_append]
theorem objects_lx (m : Int) (R : List Rw) (n W : Int) (L D : List PV) (hL : L = rpv R) (hn : n = R.length) (hR : R.length ≤ 1000) (hok : RowsOk R) (hW : W = 32 * n) (hm : m = objCount R) : CallF (fun _ => Tryz.prog) 33 [.ptr 0 (.lit 0)] [hpB 0 1 3 3 W,hpC 1 2 137 2 n,hpP 2 L,hpP 3 D] 4
  (fun r h n' => ∃ O : List PV,r = .sl 4 3 1 (.lit 0) (.sym m) ∧ h = [hpB 0 1 3 3 W,hpC 1 2 137 2 n,hpP 2 L,hpP 3 D,hpP 4 O] ∧ n' = 5 ∧ O = ipv (objsTo R R.length)) := by
 refine callF_of_body tok Tryz.func33 (by kernel_rfl) rfl rfl rfl ?_; conv => cbv
 refine cfr (lenS_lx n L) [(0,1),(1,2)] (fun r h' n' ⟨e1,e2,e3⟩ => ?_)
 subst e1 e2 e3
 conv => cbv
 obtain ⟨f,hf⟩ : ∃ f : Nat → List Int,∀ q,f q = objsTo R q := ⟨_,fun _ => rfl⟩
 obtain ⟨g,hg⟩ : ∃ g : Nat → Int,∀ q,g q = (f q).length := ⟨_,fun _ => rfl⟩
 have f0 : f 0 = [] := hf 0
 have g0 : g 0 = 0 := by rw [hg,f0]; rfl
 have o0 : ([] : List PV) = ipv (f 0) := by rw [f0]; rfl
 refine LoopF.mk (fun k s => ∃ (i j : Int) (O : List PV),s = ⟨.ptr 0 (.lit 0) :: (undefs 2 ++ .sl 4 3 1 (.lit 0) (.sym j) :: (undefs 9 ++ .p (.int .i64 (.sym n)) :: .p (.int .i64 (.sym i)) :: undefs 33)),[hpB 0 1 3 3 W,hpC 1 2 137 2 n,hpP 2 L,hpP 3 D,hpP 4 O],5⟩ ∧ 0 ≤ i ∧ i ≤ n ∧ O = ipv (f i.toNat) ∧ j = g i.toNat ∧ k = (n - i).toNat) n.toNat _
  (Re.at [(0,0),(1,1),(2,2),(3,3)] [4]) ⟨0,0,[],rfl,by omega,by omega,o0,g0.symm,by omega⟩ ?_
 clear f0 g0 o0
 rintro k s ⟨i,j,O,rfl,hi0,hi1,hO,hj,hk⟩
 conv => cbv
 refine Br.mk (fun gi => ?_) (fun gi => ?_)
 ·have gi : i < n := gi
  obtain ⟨k',rfl⟩ : ∃ k',k = k' + 1 := ⟨k - 1,by omega⟩
  obtain ⟨e,he⟩ : ∃ e,R[i.toNat]? = some e := ⟨_,List.getElem?_eq_getElem (by omega)⟩
  obtain ⟨v,hv⟩ : ∃ v,v = clsOf e := ⟨_,rfl⟩
  obtain ⟨sn,hsn⟩ : ∃ sn,sn = slotsOf v := ⟨_,rfl⟩
  obtain ⟨sl,hsl⟩ : ∃ sl : Int,sl = sn := ⟨_,rfl⟩
  have hsn8 : sn ≤ 8 := by rw [hsn]; exact slots_le v
  conv => cbv
  refine cfr (classA_lx R n i v e L hL hn hi0 he hv) [(0,1),(1,2)] (fun r h' n' ⟨e1,e2,e3⟩ => ?_)
  subst e1 e2 e3
  conv => cbv
  refine callF_frame (slots_lx v sl (by rw [hsl,hsn])) [] rfl trivial rfl rfl (fun r h' n' ⟨e1,e2,e3⟩ => ?_)
  subst e1 e2 e3
  conv => cbv
  obtain ⟨w,hw⟩ : ∃ w,w = wordsOf v := ⟨_,rfl⟩
  have hwb := wordsOf_bd v
  rw [← hw] at hwb
  obtain ⟨p,hp⟩ : ∃ p : Nat → List Int,∀ t,p t = f i.toNat ++ rowPart i.toNat e t := ⟨_,fun _ => rfl⟩
  obtain ⟨pl,hpl⟩ : ∃ pl : Nat → Int,∀ t,pl t = (p t).length := ⟨_,fun _ => rfl⟩
  have hplb : ∀ t,t ≤ 8 → 0 ≤ pl t ∧ pl t ≤ 8008 := fun t ht => by
   have h1 := rowPart_le i.toNat e t
   have h2 := objsTo_le R i.toNat
   rw [hpl,hp,List.length_append,hf]; omega
  have p0 : O = ipv (p 0) := by rw [hO,hp,rowPart,List.append_nil]
  have pl0 : j = pl 0 := by rw [hj,hg,hpl,hp,rowPart,List.append_nil]
  have hpn : p sn = f (i.toNat + 1) := by
   rw [hp,hf,hf,objsTo,he,hsn,hv]
  refine LoopF.mk (fun k s => ∃ (t j : Int) (O2 : List PV),s = ⟨.ptr 0 (.lit 0) :: (undefs 2 ++ .sl 4 3 1 (.lit 0) (.sym j) :: .p (.int .i64 (.sym i)) :: .p (.int .i64 (.sym v)) :: (undefs 7 ++ .p (.int .i64 (.sym n)) :: .p (.int .i64 (.sym i)) :: (undefs 9 ++ .p (.int .i64 (.sym sl)) :: .p (.int .i64 (.sym t)) :: undefs 22))),[hpB 0 1 3 3 W,hpC 1 2 137 2 n,hpP 2 L,hpP 3 D,hpP 4 O2],5⟩ ∧ 0 ≤ t ∧ t ≤ sl ∧ O2 = ipv (p t.toNat) ∧ j = pl t.toNat ∧ k = (sl - t).toNat) sl.toNat _
   (Re.at [(0,0),(1,1),(2,2),(3,3),(4,4)] []) ⟨0,j,O,rfl,by omega,by omega,p0,pl0,by omega⟩ ?_
  clear p0 pl0 hO hj
  rintro k s ⟨t,j,O2,rfl,ht0,ht1,hO2,hj,hk2⟩
  conv => cbv
  refine Br.mk (fun gt => ?_) (fun gt => ?_)
  ·have gt : t < sl := gt
   obtain ⟨k'',rfl⟩ : ∃ k',k = k' + 1 := ⟨k - 1,by omega⟩
   have hjb := hplb t.toNat (by omega)
   rw [← hj] at hjb
   have hm8 := (hok e (List.mem_of_getElem? he)).1
   by_cases hu : e.2[t.toNat]? = some true
   ·have hne : e.2 ≠ [] := by intro e0; rw [e0] at hu; simp at hu
    have hve : v = e.1 := by rw [hv]; exact if_neg hne
    conv => cbv
    refine cfr (used_lx R n i t e.1 e.2 L hL hn hi0 he true ht0 hu) [(0,1),(1,2)] (fun r h' n' ⟨e1,e2,e3⟩ => ?_)
    subst e1 e2 e3
    conv => cbv
    have hwe : w = wordsOf e.1 := by rw [hw,hve]
    have hp1 : p (t.toNat + 1) = p t.toNat ++ [32 * ((i.toNat : Nat) : Int) + ((t.toNat : Nat) : Int) * wordsOf e.1] := by rw [hp,hp,rowPart,if_pos hu,List.append_assoc]
    rw [show ((i.toNat : Nat) : Int) = i by omega,show ((t.toNat : Nat) : Int) = t by omega,← hwe] at hp1
    obtain ⟨tw,htw⟩ : ∃ tw,tw = t * w := ⟨_,rfl⟩
    have htw0 : 0 ≤ tw := by rw [htw]; exact Int.mul_nonneg ht0 hwb.1
    have htw1 : tw ≤ 256 := by
     rw [htw]
     exact Int.le_trans (Int.mul_le_mul (show t ≤ 8 by omega) hwb.2 hwb.1 (by decide)) (by decide)
    refine Fit.mk (by show (-9223372036854775808 : Int) ≤ i * 32; omega) (by show i * 32 ≤ 9223372036854775807; omega) fun i32 hi32 => ?_
    have hi32 : i32 = i * 32 := hi32
    conv => cbv
    refine callF_frame (words_lx v w hw) [] rfl trivial rfl rfl (fun r h' n' ⟨e1,e2,e3⟩ => ?_)
    subst e1 e2 e3
    conv => cbv
    refine Fit.mk (by show (-9223372036854775808 : Int) ≤ t * w; rw [← htw]; omega) (by show t * w ≤ 9223372036854775807; rw [← htw]; omega) fun tw' htw' => ?_
    have htw' : tw' = tw := by rw [htw]; exact htw'
    conv => cbv
    refine Fit.mk (by show (-9223372036854775808 : Int) ≤ i32 + tw'; omega) (by show i32 + tw' ≤ 9223372036854775807; omega) fun a ha => ?_
    have ha : a = i32 + tw' := ha
    have ha2 : 32 * i + t * w = a := by rw [← htw]; omega
    rw [ha2] at hp1
    have hol : (O2.length : Int) = j := by rw [hO2,ipv_length,hj,hpl]
    conv => cbv
    refine Room.new rfl ?_
    conv => cbv
    refine Room.new ⟨?_,?_,?_⟩ ?_
    ·show (O2.length : Int) = j * 1; omega
    ·show (j + 1) * 8 ≤ 140737488355328; omega
    ·show j + 1 ≤ 9223372036854775807; omega
    conv => cbv
    refine Upd.mk fun O3 hO3 => ?_
    have hO3 : O3 = O2 ++ [.int .i64 (.sym a)] := hO3
    have hO3 : O3 = ipv (p (t.toNat + 1)) := by rw [hO3,hO2,hp1,← ipv_app]; rfl
    conv => cbv
    refine Sum.mk fun j2 hj2 => ?_
    have hj2 : j2 = j + 1 := hj2
    have hj3 : j2 = pl (t.toNat + 1) := by rw [hj2,hj,hpl,hpl,hp1,List.length_append]; rfl
    conv => cbv
    refine Fit.mk (by show (-9223372036854775808 : Int) ≤ t + 1; omega) (by show t + 1 ≤ 9223372036854775807; omega) fun t2 ht2 => ?_
    have ht2 : t2 = t + 1 := ht2
    have htt : t2.toNat = t.toNat + 1 := by omega
    rw [← htt] at hO3 hj3
    conv => cbv
    refine Again.mk k'' _ (Nat.lt_succ_self _) (Re.at [(0,0),(1,1),(2,2),(3,3),(6,4)] []) ⟨t2,j2,O3,rfl,by omega,by omega,hO3,hj3,by omega⟩
   ·have hp1 : p (t.toNat + 1) = p t.toNat := by rw [hp,hp,rowPart,if_neg hu,List.append_nil]
    conv => cbv
    refine cfr (used_no_lx R n i t e.1 e.2 L hL hn hi0 he hm8 (fun _ => hu)) [(0,1),(1,2)] (fun r h' n' ⟨e1,e2,e3⟩ => ?_)
    subst e1 e2 e3
    conv => cbv
    refine Fit.mk (by show (-9223372036854775808 : Int) ≤ t + 1; omega) (by show t + 1 ≤ 9223372036854775807; omega) fun t2 ht2 => ?_
    have ht2 : t2 = t + 1 := ht2
    have hO3 : O2 = ipv (p t2.toNat) := by rw [hO2,show t2.toNat = t.toNat + 1 by omega,hp1]
    have hj3 : j = pl t2.toNat := by rw [hj,hpl,hpl,show t2.toNat = t.toNat + 1 by omega,hp1]
    conv => cbv
    refine Again.mk k'' _ (Nat.lt_succ_self _) (Re.at [(0,0),(1,1),(2,2),(3,3),(4,4)] []) ⟨t2,j,O2,rfl,by omega,by omega,hO3,hj3,by omega⟩
  ·have gt : ¬ t < sl := gt
   have hts : t.toNat = sn := by omega
   rw [hts,hpn] at hO2
   have hj3 : j = g (i.toNat + 1) := by rw [hj,hts,hpl,hpn,hg]
   conv => cbv
   refine Fit.mk (by show (-9223372036854775808 : Int) ≤ i + 1; omega) (by show i + 1 ≤ 9223372036854775807; omega) fun i2 hi2 => ?_
   have hi2 : i2 = i + 1 := hi2
   have hii : i2.toNat = i.toNat + 1 := by omega
   rw [← hii] at hO2 hj3
   conv => cbv
   refine Again.mk k' _ (Nat.lt_succ_self _) (Re.at [(0,0),(1,1),(2,2),(3,3),(4,4)] []) ⟨i2,j,O2,rfl,by omega,by omega,hO2,hj3,by omega⟩
 ·have gi : ¬ i < n := gi
  have hend : i.toNat = R.length := by omega
  have hjm : j = m := by rw [hj,hg,hf,hend,hm,objs_length hok]
  rw [hend,hf] at hO
  conv => cbv
  refine RetF.mk [.sl 4 3 1 (.lit 0) (.sym m)] [hpB 0 1 3 3 W,hpC 1 2 137 2 n,hpP 2 L,hpP 3 D,hpP 4 O] 5 (Re.at [(0,0),(1,1),(2,2),(3,3),(4,4)] []) rfl ⟨O,rfl,rfl,rfl,hO⟩
theorem asc_eq : ∀ {a b : List Int},a.Pairwise (· < ·) → b.Pairwise (· < ·) → (∀ x,x ∈ a ↔ x ∈ b) → a = b
 | [],[],_,_,_ => rfl
 | [],y :: b,_,_,h => by have := (h y).2 List.mem_cons_self; cases this
 | x :: a,[],_,_,h => by have := (h x).1 List.mem_cons_self; cases this
 | x :: a,y :: b,ha,hb,h => by
  obtain ⟨ha1,ha2⟩ := List.pairwise_cons.1 ha
  obtain ⟨hb1,hb2⟩ := List.pairwise_cons.1 hb
  have hxy : x = y := by
   rcases List.mem_cons.1 ((h x).1 List.mem_cons_self) with e | hx
   ·exact e
   ·rcases List.mem_cons.1 ((h y).2 List.mem_cons_self) with e | hy
    ·exact e.symm
    ·have h1 := hb1 x hx
     have h2 := ha1 y hy
     omega
  subst hxy
  rw [asc_eq ha2 hb2 fun z => ⟨fun hz => ?_,fun hz => ?_⟩]
  ·rcases List.mem_cons.1 ((h z).1 (List.mem_cons_of_mem _ hz)) with e | hz'
   ·have := ha1 z hz; omega
   ·exact hz'
  ·rcases List.mem_cons.1 ((h z).2 (List.mem_cons_of_mem _ hz)) with e | hz'
   ·have := hb1 z hz; omega
   ·exact hz'
theorem rowPart_mem (q : Nat) (e : Rw) : ∀ (s : Nat) (x : Int),x ∈ rowPart q e s ↔ ∃ t : Nat,t < s ∧ e.2[t]? = some true ∧ x = 32 * (q : Int) + t * wordsOf e.1
 | 0,x => by simp [rowPart]
 | s + 1,x => by
  rw [rowPart,List.mem_append,rowPart_mem q e s x]
  constructor
  ·rintro (⟨t,h1,h2,h3⟩ | h)
   ·exact ⟨t,by omega,h2,h3⟩
   ·split at h
    ·rename_i hs
     exact ⟨s,by omega,hs,List.mem_singleton.1 h⟩
    ·cases h
  ·rintro ⟨t,h1,h2,h3⟩
   by_cases e1 : t = s
   ·subst e1
    right
    rw [if_pos h2]; exact List.mem_singleton.2 h3
   ·exact .inl ⟨t,by omega,h2,h3⟩
theorem rowPart_asc (q : Nat) (e : Rw) (hw : e.2 ≠ [] → wordsOf e.1 ≠ 0) : ∀ s : Nat,(rowPart q e s).Pairwise (· < ·)
 | 0 => .nil
 | s + 1 => by
  rw [rowPart]
  refine List.pairwise_append.2 ⟨rowPart_asc q e hw s,?_,?_⟩
  ·split
   ·exact List.pairwise_singleton _ _
   ·exact .nil
  ·intro x hx y hy
   split at hy
   ·rename_i hs
    obtain ⟨t,h1,_,h3⟩ := (rowPart_mem q e s x).1 hx
    have hy := List.mem_singleton.1 hy
    have hne : e.2 ≠ [] := by intro e0; rw [e0] at hs; simp at hs
    have hw0 := hw hne
    have := wordsOf_cases e.1
    have h4 : ((t : Int) + 1) * wordsOf e.1 ≤ (s : Int) * wordsOf e.1 := Int.mul_le_mul_of_nonneg_right (by omega) (by omega)
    rw [Int.add_mul,Int.one_mul] at h4
    omega
   ·cases hy
theorem objsTo_mem {R : List Rw} (hR : RowsOk R) : ∀ (q : Nat) (x : Int),x ∈ objsTo R q ↔ ∃ (q' t : Nat) (e : Rw),q' < q ∧ R[q']? = some e ∧ e.2[t]? = some true ∧ x = 32 * (q' : Int) + t * wordsOf e.1
 | 0,x => by simp [objsTo]
 | q + 1,x => by
  rw [objsTo,List.mem_append,objsTo_mem hR q x]
  constructor
  ·rintro (⟨q',t,e,h1,h2,h3,h4⟩ | h)
   ·exact ⟨q',t,e,by omega,h2,h3,h4⟩
   ·split at h
    ·rename_i e he
     obtain ⟨t,_,h2,h3⟩ := (rowPart_mem q e _ x).1 h
     exact ⟨q,t,e,by omega,he,h2,h3⟩
    ·cases h
  ·rintro ⟨q',t,e,h1,h2,h3,h4⟩
   by_cases e1 : q' = q
   ·subst e1
    right
    rw [h2]
    have hne : e.2 ≠ [] := by intro e0; rw [e0] at h3; simp at h3
    refine (rowPart_mem q' e _ x).2 ⟨t,?_,h3,h4⟩
    have hcl : clsOf e = e.1 := if_neg hne
    rw [hcl,← ((hR e (List.mem_of_getElem? h2)).2 hne).2.1]
    exact (List.getElem?_eq_some_iff.1 h3).1
   ·exact .inl ⟨q',t,e,by omega,h2,h3,h4⟩
theorem objsTo_asc {R : List Rw} (hR : RowsOk R) : ∀ q : Nat,(objsTo R q).Pairwise (· < ·)
 | 0 => .nil
 | q + 1 => by
  rw [objsTo]
  refine List.pairwise_append.2 ⟨objsTo_asc hR q,?_,?_⟩
  ·split
   ·rename_i e he
    exact rowPart_asc q e (fun hne => ((hR e (List.mem_of_getElem? he)).2 hne).1) _
   ·exact .nil
  ·intro x hx y hy
   obtain ⟨q',t,e,h1,h2,h3,h4⟩ := (objsTo_mem hR q x).1 hx
   have hne : e.2 ≠ [] := by intro e0; rw [e0] at h3; simp at h3
   obtain ⟨g1,g2,_⟩ := (hR e (List.mem_of_getElem? h2)).2 hne
   have g3 := slots_words g1 (show t < slotsOf e.1 by have := (List.getElem?_eq_some_iff.1 h3).1; omega)
   have g4 := (wordsOf_bd e.1).1
   split at hy
   ·rename_i e' he'
    obtain ⟨t',_,h2',h3'⟩ := (rowPart_mem q e' _ y).1 hy
    have g5 : 0 ≤ (t' : Int) * wordsOf e'.1 := Int.mul_nonneg (by omega) (wordsOf_bd _).1
    have hne0 : wordsOf e.1 ≠ 0 := g1
    omega
   ·cases hy
theorem objs_mem {R : List Rw} (hR : RowsOk R) (x : Int) : x ∈ objsTo R R.length ↔ IsObj R x := by
 rw [objsTo_mem hR]
 constructor
 ·rintro ⟨q,t,e,_,h2,h3,h4⟩; exact ⟨q,t,e,h2,h3,h4⟩
 ·rintro ⟨q,t,e,h2,h3,h4⟩; exact ⟨q,t,e,(List.getElem?_eq_some_iff.1 h2).1,h2,h3,h4⟩
theorem objs_is {R : List Rw} (hR : RowsOk R) {l : List Int} (h1 : l.Pairwise (· < ·)) (h2 : ∀ x,x ∈ l ↔ IsObj R x) : l = objsTo R R.length :=
 asc_eq h1 (objsTo_asc hR _) fun x => by rw [h2,objs_mem hR]
theorem Kept.det6 {R : List Rw} {ws : List Int} {a k l k' l' : Int} (h : Kept R ws a k l) (h' : Kept R ws a k' l') : k' = k ∧ l' = l := by
 obtain ⟨w,_,h1,h2,h3,h4,_⟩ := h
 obtain ⟨w',_,h1',h2',h3',h4',_⟩ := h'
 rw [h1] at h1'
 have h1' : k + 16 * l = k' + 16 * l' := Option.some.inj h1'
 omega
theorem Kept.obj6 {R : List Rw} {ws : List Int} {a k l : Int} (h : Kept R ws a k l) : IsObj R a := by
 obtain ⟨w,h,_⟩ := h
 exact isObj_iff.2 ⟨w,h⟩
theorem kindR_of6 {R : List Rw} {ws : List Int} {a k l v : Int} (h : Kept R ws a k l) (hv : KindR R ws a v) : v = k := by
 cases hv with
 | no hn => exact absurd h.obj6 hn
 | is k' l' h' => exact (h.det6 h').1
theorem lenR_of6 {R : List Rw} {ws : List Int} {a k l v : Int} (h : Kept R ws a k l) (hv : LenR R ws a v) : v = l := by
 cases hv with
 | no hn => exact absurd h.obj6 hn
 | is k' l' h' => exact (h.det6 h').2
structure Sim (R : List Rw) (ws vs : List Int) : Prop where
 a : AOk R ws
 b : AOk R vs
 hdr : ∀ x k l,Kept R ws x k l → Kept R vs x k l
 in_ : ∀ x k l i,Kept R ws x k l → 0 ≤ i → i < l → vs[(x + 1 + i).toNat]? = ws[(x + 1 + i).toNat]?
theorem Sim.kind {R : List Rw} {ws vs : List Int} (h : Sim R ws vs) {x v u : Int} (hv : KindR R ws x v) (hu : KindR R vs x u) : v = u := by
 cases hv with
 | no hn => cases hu with
  | no _ => rfl
  | is k l hk => exact absurd hk.obj6 hn
 | is k l hk => exact (kindR_of6 (h.hdr x v l hk) hu).symm
theorem Sim.len {R : List Rw} {ws vs : List Int} (h : Sim R ws vs) {x v u : Int} (hv : LenR R ws x v) (hu : LenR R vs x u) : v = u := by
 cases hv with
 | no hn => cases hu with
  | no _ => rfl
  | is k l hk => exact absurd hk.obj6 hn
 | is k l hk => exact (lenR_of6 (h.hdr x k v hk) hu).symm
theorem Sim.load {R : List Rw} {ws vs : List Int} (h : Sim R ws vs) {a i x e y f : Int} (hv : Loaded R ws a i x e) (hu : Loaded R vs a i y f) : x = y ∧ e = f := by
 cases hv with
 | none hn => cases hu with
  | none _ => exact ⟨rfl,rfl⟩
  | arg k l hk _ => exact absurd hk.obj6 hn
  | ok k l _ hk _ _ => exact absurd hk.obj6 hn
 | arg k l hk hi => cases hu with
  | none hn => exact absurd hk.obj6 hn
  | arg _ _ _ _ => exact ⟨rfl,rfl⟩
  | ok k' l' _ hk' hi' _ => exact absurd (by rw [(h.hdr _ _ _ hk).det6 hk' |>.2] at hi'; exact hi') hi
 | ok k l _ hk hi hx => cases hu with
  | none hn => exact absurd hk.obj6 hn
  | arg k' l' hk' hi' => exact absurd hi (by rw [(h.hdr _ _ _ hk).det6 hk' |>.2] at hi'; exact hi')
  | ok k' l' _ hk' hi' hy =>
   rw [h.in_ a k l i hk hi.1 hi.2,hx] at hy
   exact ⟨Option.some.inj hy,rfl⟩
def ROk (R : List Rw) : Prop := ∀ e ∈ R,e.2.length ≤ 8 ∧ (e.2 ≠ [] → slotsOf e.1 ≠ 0 ∧ e.2.length = slotsOf e.1)
def okAt (m : List Bool) (k : Nat) : Bool := decide (m[k]? = some true)
def flags (m : List Bool) : List PV := (List.range 8).map fun k => .bool (okAt m k)
def cpv (R : List Rw) : List PV := R.map fun e => .int .i64 (.sym (clsOf e))
def bpv : List Rw → List PV
 | [] => []
 | e :: R => flags e.2 ++ bpv R
theorem flags_length (m : List Bool) : (flags m).length = 8 := by simp [flags]
theorem flags_get {m : List Bool} {k : Nat} (h : k < 8) : (flags m)[k]? = some (.bool (okAt m k)) := by
 rw [flags,List.getElem?_map,List.getElem?_range h]; rfl
theorem cpv_get {R : List Rw} {q : Nat} {e : Rw} (h : R[q]? = some e) : (cpv R)[q]? = some (.int .i64 (.sym (clsOf e))) := by rw [cpv,List.getElem?_map,h]; rfl
theorem bpv_length : ∀ R : List Rw,(bpv R).length = 8 * R.length
 | [] => rfl
 | e :: R => by rw [bpv,List.length_append,flags_length,bpv_length R,List.length_cons]; omega
theorem bpv_get : ∀ {R : List Rw} {q : Nat} {e : Rw} {k : Nat},R[q]? = some e → k < 8 → (bpv R)[8 * q + k]? = some (.bool (okAt e.2 k))
 | [],q,e,k,h,_ => by simp at h
 | x :: R,0,e,k,h,hk => by
  have h : x = e := Option.some.inj h
  subst h
  rw [bpv,List.getElem?_append_left (by rw [flags_length]; omega)]
  simpa using flags_get (m := x.2) hk
 | x :: R,q + 1,e,k,h,hk => by
  rw [bpv,List.getElem?_append_right (by rw [flags_length]; omega),flags_length,show 8 * (q + 1) + k - 8 = 8 * q + k by omega]
  exact bpv_get (by simpa using h) hk
def UsedAt (R : List Rw) (i j : Int) : Prop := ∃ e : Rw,0 ≤ i ∧ R[i.toNat]? = some e ∧ 0 ≤ j ∧ e.2[j.toNat]? = some true
theorem rused_lx (i j : Int) (R : List Rw) (n : Int) (C B : List PV) (hC : C = cpv R) (hB : B = bpv R) (hn : n = R.length) (hR : R.length ≤ 1000) (hok : ROk R) : CallF (fun _ => Tryz.prog) 119 [.ptr 0 (.lit 0),i6 i,i6 j] [hpD 0 1 3 1 n 2 131 8 n,hpP 1 C,hpP 2 B] 3
  (fun r h n' => ∃ b : Bool,r = .p (.bool b) ∧ h = [hpD 0 1 3 1 n 2 131 8 n,hpP 1 C,hpP 2 B] ∧ n' = 3 ∧ (b = true ↔ UsedAt R i j)) := by
 refine callF_of_body tok Tryz.func119 (by kernel_rfl) rfl rfl rfl ?_; conv => cbv
 have hBl : B.length = 8 * R.length := by rw [hB,bpv_length]
 refine Br.mk (fun g1 => ?_) (fun g1 => ?_)
 case refine_2 =>
  have g1 : ¬ 0 ≤ i := g1
  have hno : ¬ UsedAt R i j := fun ⟨e,h,_⟩ => g1 h
  conv => cbv
  refine RetF.mk [.p (.bool false)] [hpD 0 1 3 1 n 2 131 8 n,hpP 1 C,hpP 2 B] 3 (Re.at [(0,0),(1,1),(2,2)] []) rfl ⟨false,rfl,rfl,rfl,by simp [hno]⟩
 have g1 : 0 ≤ i := g1
 conv => cbv
 refine Br.mk (fun g2 => ?_) (fun g2 => ?_)
 case refine_2 =>
  have g2 : ¬ i < n := g2
  have hno : ¬ UsedAt R i j := fun ⟨e,_,he,_⟩ => by have := (List.getElem?_eq_some_iff.1 he).1; omega
  conv => cbv
  refine RetF.mk [.p (.bool false)] [hpD 0 1 3 1 n 2 131 8 n,hpP 1 C,hpP 2 B] 3 (Re.at [(0,0),(1,1),(2,2)] []) rfl ⟨false,rfl,rfl,rfl,by simp [hno]⟩
 have g2 : i < n := g2
 conv => cbv
 refine Br.mk (fun g3 => ?_) (fun g3 => ?_)
 case refine_2 =>
  have g3 : ¬ 0 ≤ j := g3
  have hno : ¬ UsedAt R i j := fun ⟨e,_,_,h,_⟩ => g3 h
  conv => cbv
  refine RetF.mk [.p (.bool false)] [hpD 0 1 3 1 n 2 131 8 n,hpP 1 C,hpP 2 B] 3 (Re.at [(0,0),(1,1),(2,2)] []) rfl ⟨false,rfl,rfl,rfl,by simp [hno]⟩
 have g3 : 0 ≤ j := g3
 conv => cbv
 refine Br.mk (fun g4 => ?_) (fun g4 => ?_)
 case refine_2 =>
  have g4 : ¬ j < 8 := g4
  have hno : ¬ UsedAt R i j := fun ⟨e,_,he,_,h⟩ => by
   have := (List.getElem?_eq_some_iff.1 h).1
   have := (hok e (List.mem_of_getElem? he)).1
   omega
  conv => cbv
  refine RetF.mk [.p (.bool false)] [hpD 0 1 3 1 n 2 131 8 n,hpP 1 C,hpP 2 B] 3 (Re.at [(0,0),(1,1),(2,2)] []) rfl ⟨false,rfl,rfl,rfl,by simp [hno]⟩
 have g4 : j < 8 := g4
 obtain ⟨e,he⟩ : ∃ e,R[i.toNat]? = some e := ⟨_,List.getElem?_eq_getElem (by omega)⟩
 have hc := bpv_get (k := j.toNat) he (by omega)
 rw [← hB] at hc
 obtain ⟨b,hb⟩ : ∃ b,b = okAt e.2 j.toNat := ⟨_,rfl⟩
 have hbi : b = true ↔ UsedAt R i j := by
  rw [hb,okAt,decide_eq_true_eq]
  constructor
  ·intro h; exact ⟨e,g1,he,g3,h⟩
  ·rintro ⟨e',_,he',_,h⟩
   rw [he] at he'; cases he'; exact h
 rw [← hb] at hc
 conv => cbv
 refine Need.mk ⟨g1,by show i < n; omega⟩ ?_
 conv => cbv
 refine Sum.mk fun a ha => ?_
 have ha : a = i * 8 := ha
 conv => cbv
 refine Need.mk ⟨g3,by show j < ((8 : Nat) : Int); omega⟩ ?_
 conv => cbv
 refine Sum.mk fun a2 ha2 => ?_
 have ha2 : a2 = a + j := ha2
 conv => cbv
 refine Cell.at a2 _ hc (by simp [I.val]) (by omega) ?_
 conv => cbv
 refine RetF.mk [.p (.bool b)] [hpD 0 1 3 1 n 2 131 8 n,hpP 1 C,hpP 2 B] 3 (Re.at [(0,0),(1,1),(2,2)] []) rfl ⟨b,rfl,rfl,rfl,hbi⟩
inductive Freed6 (R : List Rw) (i j : Int) : Bool → List Rw → Prop
 | no (h : ¬ UsedAt R i j) : Freed6 R i j false R
 | yes (e : Rw) (h0 : 0 ≤ i) (he : R[i.toNat]? = some e) (h1 : 0 ≤ j) (hs : e.2[j.toNat]? = some true) : Freed6 R i j true (freed R i.toNat e.1 (e.2.set j.toNat false))
theorem slots_le6 (c : Int) : slotsOf c ≤ 8 := by
 unfold slotsOf; split
 ·omega
 ·split
  ·omega
  ·split
   ·omega
   ·split <;> omega
theorem Freed6.det {R R1 R2 : List Rw} {i j : Int} {b1 b2 : Bool} (h : Freed6 R i j b1 R1) (k : Freed6 R i j b2 R2) : b1 = b2 ∧ R1 = R2 := by
 cases h with
 | no h =>
  cases k with
  | no k => exact ⟨rfl,rfl⟩
  | yes e h0 he h1 hs => exact absurd ⟨e,h0,he,h1,hs⟩ h
 | yes e h0 he h1 hs =>
  cases k with
  | no k => exact absurd ⟨e,h0,he,h1,hs⟩ k
  | yes e' _ he' _ hs' =>
   rw [he] at he'; cases he'
   exact ⟨rfl,rfl⟩
theorem Alloced.det {R R1 R2 : List Rw} {c i1 s1 i2 s2 : Int} {b1 b2 : Bool} (h : Alloced R c i1 s1 b1 R1) (k : Alloced R c i2 s2 b2 R2) : i1 = i2 ∧ s1 = s2 ∧ b1 = b2 ∧ R1 = R2 := by
 cases h with
 | no h =>
  cases k with
  | no _ => exact ⟨rfl,rfl,rfl,rfl⟩
  | old _ _ _ h0 => exact absurd h h0
  | fresh _ _ h0 => exact absurd h h0
  | full h0 => exact absurd h h0
 | old i s l h0 hi hs h1 h2 =>
  have hf : false ∈ l := List.mem_of_getElem? hs
  cases k with
  | no h => exact absurd h h0
  | old i' s' l' h0' hi' hs' h1' h2' =>
   have hf' : false ∈ l' := List.mem_of_getElem? hs'
   have e : i = i' := by
    rcases Nat.lt_trichotomy i i' with h | h | h
    ·exact absurd hf (h2' i h l hi)
    ·exact h
    ·exact absurd hf' (h2 i' h l' hi')
   subst e
   rw [hi] at hi'
   cases hi'
   have e : s = s' := by
    rcases Nat.lt_trichotomy s s' with h | h | h
    ·rw [h1' s h] at hs; cases hs
    ·exact h
    ·rw [h1 s' h] at hs'; cases hs'
   subst e
   exact ⟨rfl,rfl,rfl,rfl⟩
  | fresh i' d h0' h2' hi' h3' => exact absurd hf (h2' i l hi)
  | full h0' h2' h3' => exact absurd hf (h2' i l hi)
 | fresh i d h0 h2 hi h3 =>
  cases k with
  | no h => exact absurd h h0
  | old i' s' l' h0' hi' hs' h1' h2' => exact absurd (List.mem_of_getElem? hs') (h2 i' l' hi')
  | fresh i' d' h0' h2' hi' h3' =>
   have e : i = i' := by
    rcases Nat.lt_trichotomy i i' with h | h | h
    ·exact absurd hi (h3' i h d)
    ·exact h
    ·exact absurd hi' (h3 i' h d')
   subst e
   exact ⟨rfl,rfl,rfl,rfl⟩
  | full h0' h2' h3' => exact absurd hi (h3' i d)
 | full h0 h2 h3 =>
  cases k with
  | no h => exact absurd h h0
  | old i' s' l' h0' hi' hs' h1' h2' => exact absurd (List.mem_of_getElem? hs') (h2 i' l' hi')
  | fresh i' d' h0' h2' hi' h3' => exact absurd hi' (h3 i' d')
  | full _ _ _ => exact ⟨rfl,rfl,rfl,rfl⟩
theorem ROk.free {R R' : List Rw} {i j : Int} {b : Bool} (h : ROk R) (hF : Freed6 R i j b R') : ROk R' ∧ R'.length = R.length := by
 cases hF with
 | no _ => exact ⟨h,rfl⟩
 | yes e h0 he h1 hs =>
  have hne : e.2 ≠ [] := by intro e0; rw [e0] at hs; simp at hs
  obtain ⟨g1,g2⟩ := h e (List.mem_of_getElem? he)
  refine ⟨?_,by rw [freed,List.length_set]⟩
  intro x hx
  rw [freed] at hx
  rcases List.mem_or_eq_of_mem_set hx with hx | rfl
  ·exact h x hx
  ·split
   ·exact ⟨by simp,fun h => absurd rfl h⟩
   ·exact ⟨by rw [List.length_set]; exact g1,fun _ => ⟨(g2 hne).1,by rw [List.length_set]; exact (g2 hne).2⟩⟩
theorem ROk.alloc {R R' : List Rw} {c i s : Int} {b : Bool} (h : ROk R) (hA : Alloced R c i s b R') : ROk R' ∧ R'.length = R.length := by
 cases hA with
 | no _ => exact ⟨h,rfl⟩
 | full _ _ _ => exact ⟨h,rfl⟩
 | old i s l h0 hi hs h1 h2 =>
  have hne : l ≠ [] := by intro e0; rw [e0] at hs; simp at hs
  obtain ⟨g1,g2⟩ := h _ (List.mem_of_getElem? hi)
  refine ⟨?_,by rw [List.length_set]⟩
  intro x hx
  rcases List.mem_or_eq_of_mem_set hx with hx | rfl
  ·exact h x hx
  ·exact ⟨by rw [List.length_set]; exact g1,fun _ => ⟨h0,by rw [List.length_set]; exact (g2 hne).2⟩⟩
 | fresh i d h0 h2 hi h3 =>
  refine ⟨?_,by rw [List.length_set]⟩
  intro x hx
  rcases List.mem_or_eq_of_mem_set hx with hx | rfl
  ·exact h x hx
  ·exact ⟨by rw [List.length_set,List.length_replicate]; exact slots_le6 c,fun _ => ⟨h0,by rw [List.length_set,List.length_replicate]⟩⟩
theorem alloc_gen {R R' : List Rw} {xs xs' : List Int} {kind n i s a w : Int} (hA : AOk R xs) (h : 0 ≤ n ∧ n ≤ 31 ∧ 1 ≤ kind ∧ kind ≤ 6) (ha : Alloced R (ofN n) i s true R') (hat : a = 32 * i + s * wordsOf (ofN n)) (hw : w = wordsOf (ofN n)) (hl : xs'.length = xs.length)
  (hh : xs'[a.toNat]? = some (kind + 16 * n)) (hf : ∀ j : Nat,(j : Int) < a ∨ a + w ≤ j → xs'[j]? = xs[j]?) (hbd : ∀ x ∈ xs',-9223372036854775808 ≤ x ∧ x ≤ 9223372036854775807) :
  AOk R' xs' ∧ Kept R' xs' a kind n ∧ (∀ b k l,Kept R xs b k l → Kept R' xs' b k l ∧ b ≠ a ∧ ∀ i,0 ≤ i → i < l → xs'[(b + 1 + i).toNat]? = xs[(b + 1 + i).toNat]?) ∧ (∀ b,IsObj R' b → b = a ∨ IsObj R b) := by
 obtain ⟨h1,h2,h3,h4,h5⟩ := alloc_objs hA.rows ha a w hat hw
 have hobj : ObjAt R' a w := (h5 _ _).2 (.inr ⟨rfl,rfl⟩)
 obtain ⟨f1,f2,f3,_⟩ := hobj.facts h1
 have hnw : n < w := by rw [hw]; exact (ofN_words ⟨h.1,h.2.1⟩).1
 have hlen := hA.len
 have hold : ∀ b k l,Kept R xs b k l → Kept R' xs' b k l ∧ b ≠ a ∧ ∀ i,0 ≤ i → i < l → xs'[(b + 1 + i).toNat]? = xs[(b + 1 + i).toNat]? := by
  rintro b k l ⟨v,hb,hx,g1,g2,g3,g4⟩
  have hb' := (h5 b v).2 (.inl hb)
  have hne : b ≠ a := fun e => h4 (isObj_iff.2 ⟨v,e ▸ hb⟩)
  obtain ⟨q1,q2,q3,_⟩ := hb'.facts h1
  have hap := hobj.apart h1 hb'
  refine ⟨.mk k l v hb' ?_ g1 g2 g3 g4,hne,fun j hj0 hj1 => ?_⟩
  ·rw [hf _ (by rcases hap with ⟨h,_⟩ | h | h <;> omega)]; exact hx
  ·exact hf _ (by rcases hap with ⟨h,_⟩ | h | h <;> omega)
 have hnew : Kept R' xs' a kind n := .mk kind n w hobj hh (by omega) (by omega) h.1 hnw
 refine ⟨⟨h1,by rw [hl,h2]; exact hlen,hbd,?_⟩,hnew,hold,?_⟩
 ·intro b v hb
  rcases (h5 b v).1 hb with hb1 | ⟨rfl,rfl⟩
  ·obtain ⟨k,l,g1,g2,g3,g4,g5⟩ := hA.hdr b v hb1
   obtain ⟨⟨v',g6,g7,_⟩,_⟩ := hold b k l (.mk k l v hb1 g1 g2 g3 g4 g5)
   exact ⟨k,l,g7,g2,g3,g4,g5⟩
  ·exact ⟨kind,n,hh,by omega,by omega,h.1,hnw⟩
 ·intro b hb
  obtain ⟨v,hb⟩ := isObj_iff.1 hb
  rcases (h5 b v).1 hb with hb | ⟨hb,_⟩
  ·exact .inr (isObj_iff.2 ⟨v,hb⟩)
  ·exact .inl hb
inductive AlloctV (R : List Rw) (vs : List Int) (kind n : Int) : Int → Int → List Rw → List Int → Prop
 | arg (h : ¬ (0 ≤ n ∧ n ≤ 31 ∧ 1 ≤ kind ∧ kind ≤ 6)) : AlloctV R vs kind n 0 1 R vs
 | room (i s : Int) (R' : List Rw) (h : 0 ≤ n ∧ n ≤ 31 ∧ 1 ≤ kind ∧ kind ≤ 6) (ha : Alloced R (ofN n) i s false R') : AlloctV R vs kind n 0 9 R' vs
 | ok (i s at_ : Int) (R' : List Rw) (h : 0 ≤ n ∧ n ≤ 31 ∧ 1 ≤ kind ∧ kind ≤ 6) (ha : Alloced R (ofN n) i s true R') (hat : at_ = 32 * i + s * wordsOf (ofN n)) :
   AlloctV R vs kind n at_ 0 R' ((zer vs at_.toNat (wordsOf (ofN n)).toNat).set at_.toNat (kind + 16 * n))
theorem Sim.alloc {R R1 R2 : List Rw} {ws vs ws' vs' : List Int} {kind n a1 e1 a2 e2 : Int} (h : Sim R ws vs) (h1 : Alloct R ws kind n a1 e1 R1 ws') (h2 : AlloctV R vs kind n a2 e2 R2 vs') : a1 = a2 ∧ e1 = e2 ∧ R1 = R2 ∧ Sim R1 ws' vs' ∧ R1.length = R.length := by
 cases h1 with
 | arg h1 => cases h2 with
  | arg _ => exact ⟨rfl,rfl,rfl,h,rfl⟩
  | room _ _ _ k _ => exact absurd k h1
  | ok _ _ _ _ k _ _ => exact absurd k h1
 | room i s R' hc ha => cases h2 with
  | arg k => exact absurd hc k
  | room i2 s2 R2 k ha2 =>
   obtain ⟨_,_,_,eR⟩ := ha.det ha2
   subst eR
   obtain ⟨rfl,_⟩ := full_count h.a.rows (ofN_slots n) ha
   exact ⟨rfl,rfl,rfl,h,rfl⟩
  | ok i2 s2 _ R2 k ha2 hat2 => obtain ⟨_,_,hb,_⟩ := ha.det ha2; cases hb
 | ok i s _ R' hc ha hi hat => cases h2 with
  | arg k => exact absurd hc k
  | room i2 s2 R2 k ha2 => obtain ⟨_,_,hb,_⟩ := ha.det ha2; cases hb
  | ok i2 s2 _ R2 k ha2 hat2 =>
   obtain ⟨ei,es,_,eR⟩ := ha.det ha2
   subst ei es eR
   obtain rfl : a2 = a1 := by rw [hat,hat2]
   obtain ⟨w,hw⟩ : ∃ w,w = wordsOf (ofN n) := ⟨_,rfl⟩
   obtain ⟨q1,q2,q3,q4,q5⟩ := alloc_objs h.a.rows ha a2 w hat hw
   have hobj : ObjAt R1 a2 w := (q5 _ _).2 (.inr ⟨rfl,rfl⟩)
   obtain ⟨f1,f2,f3,_⟩ := hobj.facts q1
   have hnw : n < w := by rw [hw]; exact (ofN_words ⟨hc.1,hc.2.1⟩).1
   have hlw := h.a.len
   have hlv := h.b.len
   have hA1 := (h.a.alloct (Alloct.ok i s a2 R1 hc ha hi hat)).1
   have gw : ∀ j : Nat,j < ws.length → (zer (ws.set a2.toNat (kind + 16 * n)) (a2.toNat + 1) n.toNat)[j]? = if a2.toNat + 1 ≤ j ∧ j < a2.toNat + 1 + n.toNat then some 0 else (ws.set a2.toNat (kind + 16 * n))[j]? := fun j hj => zer_get _ _ _ _ (by rw [List.length_set]; exact hj)
   have gv : ∀ j : Nat,j < vs.length → j ≠ a2.toNat → ((zer vs a2.toNat (wordsOf (ofN n)).toNat).set a2.toNat (kind + 16 * n))[j]? = if a2.toNat ≤ j ∧ j < a2.toNat + (wordsOf (ofN n)).toNat then some 0 else vs[j]? := fun j hj hne => by
    rw [List.getElem?_set_ne (fun e => hne e.symm),zer_get _ _ _ _ hj]
   rw [← hw] at gv ⊢
   have farw : ∀ j : Nat,(j : Int) < a2 ∨ a2 + w ≤ j → (zer (ws.set a2.toNat (kind + 16 * n)) (a2.toNat + 1) n.toNat)[j]? = ws[j]? := fun j hj => by
    by_cases hjl : j < ws.length
    ·rw [gw j hjl,if_neg (by omega),List.getElem?_set_ne (by omega)]
    ·rw [List.getElem?_eq_none (by rw [zer_length,List.length_set]; omega),List.getElem?_eq_none (by omega)]
   have farv : ∀ j : Nat,(j : Int) < a2 ∨ a2 + w ≤ j → ((zer vs a2.toNat w.toNat).set a2.toNat (kind + 16 * n))[j]? = vs[j]? := fun j hj => by
    by_cases hjl : j < vs.length
    ·rw [gv j hjl (by omega),if_neg (by omega)]
    ·rw [List.getElem?_eq_none (by rw [List.length_set,zer_length]; omega),List.getElem?_eq_none (by omega)]
   obtain ⟨p1,p2,p3,p4⟩ := alloc_gen h.a hc ha hat hw (by rw [zer_length,List.length_set]) (by rw [gw _ (by omega),if_neg (by omega),List.getElem?_set_self (by omega)]) farw hA1.bd
   have hbdv : ∀ x ∈ (zer vs a2.toNat w.toNat).set a2.toNat (kind + 16 * n),-9223372036854775808 ≤ x ∧ x ≤ 9223372036854775807 := by
    intro x hx
    rcases List.mem_or_eq_of_mem_set hx with hx | rfl
    ·obtain ⟨j,hj⟩ := List.getElem?_of_mem hx
     have hjl : j < vs.length := by have := (List.getElem?_eq_some_iff.1 hj).1; rw [zer_length] at this; exact this
     rw [zer_get _ _ _ _ hjl] at hj
     split at hj
     ·cases hj; omega
     ·exact h.b.bd x (List.mem_of_getElem? hj)
    ·omega
   obtain ⟨r1,r2,r3,r4⟩ := alloc_gen h.b hc ha hat hw (by rw [List.length_set,zer_length]) (by rw [List.getElem?_set_self (by rw [zer_length]; omega)]) farv hbdv
   refine ⟨rfl,rfl,rfl,⟨p1,r1,?_,?_⟩,q2⟩
   ·intro x k' l hk
    rcases p4 x hk.obj6 with rfl | hx
    ·obtain ⟨e1,e2⟩ := p2.det6 hk
     rw [e1,e2]; exact r2
    ·obtain ⟨k0,l0,hk0⟩ := Kept.of h.a hx
     obtain ⟨e1,e2⟩ := (p3 x k0 l0 hk0).1.det6 hk
     rw [e1,e2]; exact (r3 x k0 l0 (h.hdr x k0 l0 hk0)).1
   ·intro x k' l j hk hj0 hj1
    rcases p4 x hk.obj6 with rfl | hx
    ·obtain ⟨e1,e2⟩ := p2.det6 hk
     rw [e2] at hj1
     rw [gv _ (by omega) (by omega),if_pos (by omega),gw _ (by omega),if_pos (by omega)]
    ·obtain ⟨k0,l0,hk0⟩ := Kept.of h.a hx
     obtain ⟨e1,e2⟩ := (p3 x k0 l0 hk0).1.det6 hk
     rw [e2] at hj1
     rw [(p3 x k0 l0 hk0).2.2 j hj0 hj1,(r3 x k0 l0 (h.hdr x k0 l0 hk0)).2.2 j hj0 hj1]
     exact h.in_ x k0 l0 j hk0 hj0 hj1
theorem Freet.det {R R1 R2 : List Rw} {a e1 e2 : Int} (hR : RowsOk R) (h1 : Freet R a e1 R1) (h2 : Freet R a e2 R2) : e1 = e2 ∧ R1 = R2 := by
 cases h1 with
 | none h => cases h2 with
  | none _ => exact ⟨rfl,rfl⟩
  | ok q s e he hs hat => exact absurd ⟨q,s,e,he,hs,hat⟩ h
 | ok q s e he hs hat => cases h2 with
  | none h => exact absurd ⟨q,s,e,he,hs,hat⟩ h
  | ok q' s' e' he' hs' hat' =>
   have key : ∀ {q s : Nat} {e : Rw},R[q]? = some e → e.2[s]? = some true → wordsOf e.1 ≠ 0 ∧ (s : Int) * wordsOf e.1 + wordsOf e.1 ≤ 32 ∧ 0 ≤ (s : Int) * wordsOf e.1 := fun {q s e} he hs => by
    have hne : e.2 ≠ [] := by intro e0; rw [e0] at hs; simp at hs
    obtain ⟨g1,g2,_⟩ := (hR _ (List.mem_of_getElem? he)).2 hne
    exact ⟨g1,slots_words g1 (by have := (List.getElem?_eq_some_iff.1 hs).1; omega),Int.mul_nonneg (by omega) (wordsOf_bd _).1⟩
   obtain ⟨k1,k2,k3⟩ := key he hs
   obtain ⟨k1',k2',k3'⟩ := key he' hs'
   have w1 := wordsOf_cases e.1
   have w2 := wordsOf_cases e'.1
   obtain rfl : q = q' := by omega
   rw [he] at he'
   cases he'
   have h8 : (s : Int) * wordsOf e.1 = s' * wordsOf e.1 := by omega
   have h9 := Int.eq_of_mul_eq_mul_right k1 h8
   obtain rfl : s = s' := by omega
   exact ⟨rfl,rfl⟩
theorem Sim.free {R R' : List Rw} {ws vs : List Int} {a e : Int} (h : Sim R ws vs) (hF : Freet R a e R') : Sim R' ws vs ∧ R'.length = R.length := by
 obtain ⟨h1,h2⟩ := h.a.freet hF
 obtain ⟨h3,_⟩ := h.b.freet hF
 have key : (∀ xs x k l,Kept R' xs x k l → Kept R xs x k l) ∧ (∀ xs ys x k l,Kept R' xs x k l → Kept R ys x k l → Kept R' ys x k l) := by
  cases hF with
  | none _ => exact ⟨fun _ _ _ _ hk => hk,fun _ _ _ _ _ _ hk => hk⟩
  | ok q s e he hs hat =>
   obtain ⟨_,_,_,g4⟩ := free_objs h.a.rows he hs a hat
   constructor
   ·rintro xs x k l ⟨w,q1,q2,q3,q4,q5,q6⟩
    exact .mk k l w ((g4 x w).1 q1).1 q2 q3 q4 q5 q6
   rintro xs ys x k l ⟨w,q1,q2,q3,q4,q5,q6⟩ ⟨w',r1,r2,r3,r4,r5,r6⟩
   exact .mk k l w' ((g4 x w').2 ⟨r1,((g4 x w).1 q1).2⟩) r2 r3 r4 r5 r6
 exact ⟨⟨h1,h3,fun x k l hk => key.2 ws vs x k l hk (h.hdr x k l (key.1 ws x k l hk)),fun x k l i hk => h.in_ x k l i (key.1 ws x k l hk)⟩,h2⟩
theorem kept_set6 {R : List Rw} {ws : List Int} (hA : AOk R ws) {x d k a d' k' q y : Int} (h : Kept R ws x d k) (h' : Kept R ws a d' k') (hq : 0 ≤ q ∧ q < k') : Kept R (ws.set (a + 1 + q).toNat y) x d k := by
 obtain ⟨w,q1,q2,q3,q4,q5,q6⟩ := h
 obtain ⟨w',r1,r2,r3,r4,r5,r6⟩ := h'
 have f1 := q1.facts hA.rows
 have f2 := r1.facts hA.rows
 have := within_not hA.rows r1 q1 (j := a + 1 + q) (by omega) (by omega)
 refine .mk d k w q1 ?_ q3 q4 q5 q6
 rw [List.getElem?_set_ne (by omega)]; exact q2
theorem Sim.store {R : List Rw} {ws vs ws' vs' : List Int} {a i x e f : Int} (h : Sim R ws vs) (hx : -9223372036854775808 ≤ x ∧ x ≤ 9223372036854775807) (h1 : Stored R ws a i x e ws') (h2 : Stored R vs a i x f vs') : e = f ∧ Sim R ws' vs' := by
 cases h1 with
 | none hn => cases h2 with
  | none _ => exact ⟨rfl,h⟩
  | arg k l hk _ => exact absurd hk.obj6 hn
  | ok k l hk _ => exact absurd hk.obj6 hn
 | arg k l hk hi => cases h2 with
  | none hn => exact absurd hk.obj6 hn
  | arg _ _ _ _ => exact ⟨rfl,h⟩
  | ok k' l' hk' hi' => exact absurd (by rw [(h.hdr _ _ _ hk).det6 hk' |>.2] at hi'; exact hi') hi
 | ok k l hk hi => cases h2 with
  | none hn => exact absurd hk.obj6 hn
  | arg k' l' hk' hi' => exact absurd hi (by rw [(h.hdr _ _ _ hk).det6 hk' |>.2] at hi'; exact hi')
  | ok k' l' hk' hi' =>
   have hkv := h.hdr _ _ _ hk
   have hA1 := h.a.set hk hi hx
   have hb := hk.bounds h.a
   have hlw := h.a.len
   have hlv := h.b.len
   have back : ∀ y k2 l2,Kept R (ws.set (a + 1 + i).toNat x) y k2 l2 → Kept R ws y k2 l2 := fun y k2 l2 hy => by
    obtain ⟨k0,l0,h0⟩ := Kept.of h.a hy.obj6
    obtain ⟨e1,e2⟩ := (kept_set6 h.a h0 hk hi).det6 hy
    rw [e1,e2]; exact h0
   refine ⟨rfl,⟨hA1,h.b.set hkv hi hx,fun y k2 l2 hy => kept_set6 h.b (h.hdr y k2 l2 (back y k2 l2 hy)) hkv hi,fun y k2 l2 j hy hj0 hj1 => ?_⟩⟩
   have hy0 := back y k2 l2 hy
   by_cases e : (a + 1 + i).toNat = (y + 1 + j).toNat
   ·rw [← e,List.getElem?_set_self (by omega),List.getElem?_set_self (by omega)]
   ·rw [List.getElem?_set_ne e,List.getElem?_set_ne e]
    exact h.in_ y k2 l2 j hy0 hj0 hj1
end Go.Proofs.YtpbhcdbkmmjimaaGreatDoor
namespace Go.Proofs.YtpbhcdbkmmjimaaGreatDoor
open Go Go.LX
set_option maxRecDepth 100000
set_option linter.unusedVariables false
set_option maxHeartbeats 32000000
def IsPow (o : Unit → Obj) : Prop := ∃ t fr,o () = .cells (Lib.pow10Tab.map fun z => Value.int .u64 z).toArray t fr
theorem one_arg {c : Ctx} {w : World} {u : LV} {xs : Array Value} (hl : [u].length = xs.size) (hrel : ∀ (i : Nat) (v : LV),[u][i]? = some v → LR c w v (xs.getD i Go.undef)) : ∃ x,xs = #[x] ∧ LR c w u x := by
 have h0 := hrel 0 u rfl
 rcases xs with ⟨l⟩
 match l,hl with
 | [x],_ => exact ⟨x,rfl,h0⟩
theorem two_args {c : Ctx} {w : World} {u v : LV} {xs : Array Value} (hl : [u,v].length = xs.size) (hrel : ∀ (i : Nat) (z : LV),[u,v][i]? = some z → LR c w z (xs.getD i Go.undef)) : ∃ x y,xs = #[x,y] ∧ LR c w u x ∧ LR c w v y := by
 have h0 := hrel 0 u rfl
 have h1 := hrel 1 v rfl
 rcases xs with ⟨l⟩
 match l,hl with
 | [x,y],_ => exact ⟨x,y,rfl,h0,h1⟩
theorem grow_below (w : World) (k : Nat) (os : Array Obj) : RowKit.Below w.heap.size w (Go.Sort.grow (w.drewN k) os) := by
 refine ⟨rfl,rfl,rfl,by simp [Go.Sort.grow],fun i hi => ?_⟩
 show (w.heap ++ os)[i]? = w.heap[i]?
 rw [Array.getElem?_append_left hi]
theorem itoa_lx (n : Int) (h0 : -9223372036854775808 ≤ n) (h1 : n ≤ 9223372036854775807) (o : Unit → Obj) (ho : IsPow o) :
  CallF (fun _ => Tryz.prog) 128 [i6 n] [(0,.fix 0 o)] 1 (fun r h n' => (∃ z : ByteArray,r = .p (.str fun _ => z) ∧ z = ⟨(Lib.itoa n).toArray⟩) ∧ h = [(0,.fix 0 o)] ∧ n' = 1) := by
 refine callF_calls (K := fun r => ∃ z : ByteArray,r = .p (.str fun _ => z) ∧ z = ⟨(Lib.itoa n).toArray⟩) ⟨_,_,Tryz.func128,by kernel_rfl,rfl⟩ fun c w xs hr hN hl hrel => ?_
 obtain ⟨x,rfl,hx⟩ := one_arg hl hrel
 have hx : x = .int .i64 n := hx.inv_int
 subst hx
 obtain ⟨m,hm,hB⟩ := hr.live 0 _ rfl
 cases m with
 | some r => exact hB.elim
 | none =>
  obtain ⟨hheap,_⟩ := hB
  obtain ⟨t,fr,hot⟩ := ho
  have htab : Lib.TabIs Tryz.prog w "internal/strconv.uint64pow10" .u64 Lib.pow10Tab := by
   have hg : Tryz.prog.globalNamed "internal/strconv.uint64pow10" = some 0 := by kernel_rfl
   unfold Lib.TabIs World.var?
   rw [hg]
   simp only [Option.bind_some,hheap,hot]
  refine (Tryz.strconv_Itoa n h0 h1 w htab).mono fun e w' ⟨he,k,os,hw⟩ => ?_
  subst hw
  exact ⟨_,_,he,⟨_,rfl,rfl⟩,grow_below w k os,fun c' => .p _ _ (.str _)⟩
theorem atoi_lx (z : ByteArray) (v : Int) (hz : z.size ≤ 9223372036854775806) (hv : Lib.atoiAll z.data.toList = .ok v) :
  CallF (fun _ => Tryz.prog) 141 [.p (.str fun _ => z)] [] 0 (fun r h n' => r = .tup [i6 v,.p .nilif] ∧ h = [] ∧ n' = 0) := by
 refine callF_calls (K := fun r => r = .tup [i6 v,.p .nilif]) ⟨_,_,Tryz.func141,by kernel_rfl,rfl⟩ fun c w xs hr hN hl hrel => ?_
 obtain ⟨x,rfl,hx⟩ := one_arg hl hrel
 have hx : x = .string z := hx.inv_str
 subst hx
 refine (Tryz.strconv_Atoi_ok z hz v hv w).mono fun e w' ⟨he,hw⟩ => ?_
 refine ⟨_,_,he,rfl,?_,fun c' => .tup _ _ rfl fun j u hj => ?_⟩
 ·rcases hw with rfl | ⟨t,rfl⟩
  ·exact RowKit.Below.refl _ _
  ·exact Lib.bytesWorld_below w _ t
 ·rcases j with _ | _ | j
  ·simp at hj; subst hj; exact .p _ _ (.int _ _ _ rfl)
  ·simp at hj; subst hj; exact .p _ _ .nilif
  ·simp at hj
theorem trimSuffix_lx (z p : ByteArray) (hz : z.size ≤ 9223372036854775807) :
  CallF (fun _ => Tryz.prog) 146 [.p (.str fun _ => z),.p (.str fun _ => p)] [] 0 (fun r h n' => (∃ y : ByteArray,r = .p (.str fun _ => y) ∧ y = ⟨(Lib.trimSuffix z.data.toList p.data.toList).toArray⟩) ∧ h = [] ∧ n' = 0) := by
 refine callF_calls (K := fun r => ∃ y : ByteArray,r = .p (.str fun _ => y) ∧ y = ⟨(Lib.trimSuffix z.data.toList p.data.toList).toArray⟩) ⟨_,_,Tryz.func146,by kernel_rfl,rfl⟩ fun c w xs hr hN hl hrel => ?_
 obtain ⟨x,y,rfl,hx,hy⟩ := two_args hl hrel
 have hx : x = .string z := hx.inv_str
 have hy : y = .string p := hy.inv_str
 subst hx hy
 refine (Tryz.strings_TrimSuffix z p w hz).mono fun e w' ⟨he,hw⟩ => ?_
 subst hw
 exact ⟨_,_,he,⟨_,rfl,rfl⟩,RowKit.Below.refl _ _,fun c' => .p _ _ (.str _)⟩
end Go.Proofs.YtpbhcdbkmmjimaaGreatDoor
