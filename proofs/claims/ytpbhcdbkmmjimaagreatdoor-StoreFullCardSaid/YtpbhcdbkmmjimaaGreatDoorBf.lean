/-
  The ground of the proof, part 6: the calculus and what is proved with it.
-/
import Derived.Test.YtpbhcdbkmmjimaaGreatDoorBe
import Derived.Laws.RangeAny
import Derived.Lib.ItoaLen
import Derived.WalkKit
import Derived.ProofKit
import Derived.OpenShut
import Derived.IntWalk
import Derived.Below
import Derived.Deep.Draws
import Derived.Laws.BitsLemmas
import Derived.Laws.BitsAllLaws
import Derived.Laws.OwnMore
import Derived.Deep.AppendLies
import Derived.Lib.Hide
import Derived.Carry
import Derived.SliceStrings
import Derived.ChangeSlices
import Derived.Test.YtpbhcdbkmmjimaaGreatDoorBd
import Derived.ChangeArms
import Derived.Test.YtpbhcdbkmmjimaaGreatDoorRows
namespace Go.Proofs.YtpbhcdbkmmjimaaGreatDoor
open Go Go.LX
set_option maxRecDepth 100000
set_option linter.unusedVariables false
set_option maxHeartbeats 32000000
theorem dec_small {u : Nat} (h : u < 10) : Lib.decDigits u = [UInt8.ofNat (48 + u)] := Lib.decDigits_one h
theorem dec_big {u : Nat} (h : ¬ u < 10) : Lib.decDigits u = Lib.decDigits (u / 10) ++ [UInt8.ofNat (48 + u % 10)] := by
 rw [Lib.decDigits,dif_neg h]
theorem digit_nat {d : Nat} (h : d < 10) : (UInt8.ofNat (48 + d)).toNat = 48 + d := by
 simp; omega
theorem parse_dec : ∀ (u : Nat),u ≤ 9223372036854775808 → ∀ r,Lib.parseUint10 0 (Lib.decDigits u ++ r) = Lib.parseUint10 u r := by
 intro u
 induction u using Nat.strongRecOn with
 | ind u ih =>
  intro hu r
  by_cases h : u < 10
  ·rw [dec_small h,List.cons_append,List.nil_append,Lib.parseUint10,digit_nat h,if_pos (by omega),if_neg (by omega),if_neg (by omega)]
   congr 1; omega
  ·rw [dec_big h,List.append_assoc,ih (u / 10) (by omega) (by omega),List.cons_append,List.nil_append,Lib.parseUint10,digit_nat (Nat.mod_lt _ (by omega)),if_pos (by omega),if_neg (by omega),if_neg (by omega)]
   congr 1; omega
theorem dec_ne (u : Nat) : Lib.decDigits u ≠ [] := by
 by_cases h : u < 10
 ·rw [dec_small h]; simp
 ·rw [dec_big h]; simp
theorem dec_dig : ∀ (u : Nat),∀ c ∈ Lib.decDigits u,48 ≤ c.toNat ∧ c.toNat ≤ 57 := by
 intro u
 induction u using Nat.strongRecOn with
 | ind u ih =>
  intro c hc
  by_cases h : u < 10
  ·rw [dec_small h] at hc
   rw [List.mem_singleton.1 hc,digit_nat h]; omega
  ·rw [dec_big h] at hc
   rcases List.mem_append.1 hc with hc | hc
   ·exact ih _ (by omega) c hc
   ·rw [List.mem_singleton.1 hc,digit_nat (Nat.mod_lt _ (by omega))]; omega
theorem itoa_dig (a : Int) : ∀ c ∈ Lib.itoa a,c.toNat = 45 ∨ (48 ≤ c.toNat ∧ c.toNat ≤ 57) := by
 intro c hc
 unfold Lib.itoa at hc
 split at hc
 ·rcases List.mem_cons.1 hc with rfl | hc
  ·exact .inl rfl
  ·exact .inr (dec_dig _ c hc)
 ·exact .inr (dec_dig _ c hc)
theorem itoa_ne (a : Int) : Lib.itoa a ≠ [] := by
 unfold Lib.itoa
 split
 ·simp
 ·exact dec_ne _
theorem atoi_itoa (a : Int) (h0 : -9223372036854775808 ≤ a) (h1 : a ≤ 9223372036854775807) : Lib.atoiAll (Lib.itoa a) = .ok a := by
 unfold Lib.itoa
 by_cases h : a < 0
 ·rw [if_pos h]
  have hp : Lib.parseMag (Lib.decDigits a.natAbs) = .ok a.natAbs := by
   rw [Lib.parseMag,if_neg (dec_ne _)]
   have := parse_dec a.natAbs (by omega) []
   rw [List.append_nil] at this
   rw [this]; rfl
  have h45 : (45 : UInt8).toNat = 45 := rfl
  have h43 : ¬ ((45 : Nat) = 43) := by omega
  simp only [Lib.atoiAll,h45,h43,or_true,if_true,hp,not_true,false_and,if_false,true_and]
  rw [if_neg (by omega)]
  congr 1; omega
 ·rw [if_neg h]
  have hp : Lib.parseMag (Lib.decDigits a.toNat) = .ok a.toNat := by
   rw [Lib.parseMag,if_neg (dec_ne _)]
   have := parse_dec a.toNat (by omega) []
   rw [List.append_nil] at this
   rw [this]; rfl
  cases e : Lib.decDigits a.toNat with
  | nil => exact absurd e (dec_ne _)
  | cons c r =>
   have hc := dec_dig a.toNat c (by rw [e]; exact List.mem_cons_self)
   rw [e] at hp
   have h43 : ¬ (c.toNat = 43) := by omega
   have h45 : ¬ (c.toNat = 45) := by omega
   simp only [Lib.atoiAll,h43,h45,or_false,if_false,hp,not_false_iff,true_and,false_and]
   rw [if_neg (by omega)]
   congr 1; omega
def enc : List Int → List UInt8
 | [] => []
 | a :: A => Lib.itoa a ++ 32 :: enc A
theorem enc_append : ∀ A B,enc (A ++ B) = enc A ++ enc B
 | [],B => rfl
 | a :: A,B => by simp [enc,enc_append A B]
theorem enc_low : ∀ (A : List Int),∀ c ∈ enc A,c.toNat < 128
 | [],c,h => by cases h
 | a :: A,c,h => by
  rw [enc] at h
  rcases List.mem_append.1 h with h | h
  ·have := itoa_dig a c h; omega
  ·rcases List.mem_cons.1 h with rfl | h
   ·decide
   ·exact enc_low A c h
theorem count_itoa (a : Int) : (Lib.itoa a).count 32 = 0 := by
 rw [List.count_eq_zero]
 intro h
 have := itoa_dig a 32 h
 have h32 : (32 : UInt8).toNat = 32 := rfl
 omega
theorem enc_count : ∀ (A : List Int),(enc A).count 32 = A.length
 | [] => rfl
 | a :: A => by rw [enc,List.count_append,count_itoa,List.count_cons,enc_count A]; simp
theorem dec_atE (l : List UInt8) (hl : ∀ c ∈ l,c.toNat < 128) (i : Nat) (c : UInt8) (h : l[i]? = some c) : Utf8.decode ⟨l.toArray⟩ i = (c.toNat,1) := by
 have hi := (List.getElem?_eq_some_iff.1 h).1
 have hc : l[i] = c := (List.getElem?_eq_some_iff.1 h).2
 have hsz : i < (ByteArray.mk l.toArray).size := by show i < l.toArray.size; simpa using hi
 have hg : (ByteArray.mk l.toArray)[i]'hsz = c := by show l.toArray[i]'_ = c; simpa using hc
 have := decode_ascii ⟨l.toArray⟩ i hsz (by rw [hg]; exact hl c (List.mem_of_getElem? h))
 rw [this,hg]
theorem greyLen_lx (A : List Int) (z : ByteArray) (ov : Bool) (hz : z = ⟨(enc A).toArray⟩) (hA : (enc A).length < 1000000) :
  CallF (fun _ => Tryz.prog) 127 [.ptr 0 (.lit 0)] [hpF 0 z ov] 1 (fun r h n => ∃ m : Int,r = .p (.int .i64 (.sym m)) ∧ m = A.length ∧ h = [hpF 0 z ov] ∧ n = 1) := by
 refine callF_of_body tok Tryz.func127 (by kernel_rfl) rfl rfl rfl ?_; conv => cbv
 obtain ⟨N,hN⟩ : ∃ N : Int,N = (enc A).length := ⟨_,rfl⟩
 refine LoopF.mk (fun k s => ∃ (pos cnt : Int),s = ⟨.ptr 0 (.lit 0) :: .undef :: .undef :: .p (.int .i64 (.sym cnt)) :: (undefs 8 ++ .ptr 1 (.lit 0) :: undefs 8),[(1,.iter (fun _ => z) (.sym pos)),hpF 0 z ov],2⟩ ∧ 0 ≤ pos ∧ pos ≤ N ∧ cnt = ((enc A).take pos.toNat).count 32 ∧ k = (N - pos).toNat) N.toNat _
  (Re.at [(0,0),(1,1)] []) ⟨0,0,rfl,by omega,by omega,by simp,by omega⟩ ?_
 rintro k s ⟨pos,cnt,rfl,hp0,hp1,hcnt,hk⟩
 have hzs : (z.size : Int) = (enc A).length := by rw [hz]; show ((enc A).toArray.size : Int) = _; simp
 conv => cbv
 by_cases hend : pos = N
 ·refine NextS.over (by show (z.size : Int) ≤ pos; omega) ?_
  conv => cbv
  refine RetF.mk [i6 cnt] [hpF 0 z ov] 1 (Re.at [(0,0)] []) rfl ⟨cnt,rfl,?_,rfl,rfl⟩
  rw [hcnt,show pos.toNat = (enc A).length by omega,List.take_length,enc_count]
 ·obtain ⟨c,hc⟩ : ∃ c,(enc A)[pos.toNat]? = some c := ⟨_,List.getElem?_eq_getElem (by omega)⟩
  have hlow := enc_low A c (List.mem_of_getElem? hc)
  have hd := dec_atE (enc A) (enc_low A) pos.toNat c hc
  rw [← hz] at hd
  refine NextS.more (by show pos < (z.size : Int); omega) ?_
  intro r p' hr hp
  have hr : r = (c.toNat : Int) := by
   have : r = ((Utf8.decode z pos.toNat).1 : Int) := hr
   rw [this,hd]
  have hp : p' = pos + 1 := by
   have : p' = pos + ((Utf8.decode z pos.toNat).2 : Int) := hp
   rw [this,hd]; rfl
  have htake : (enc A).take p'.toNat = (enc A).take pos.toNat ++ [c] := by
   rw [show p'.toNat = pos.toNat + 1 by omega,List.take_add_one,hc]; rfl
  have hcl := List.count_le_length (a := (32 : UInt8)) (l := (enc A).take pos.toNat)
  have htl : ((enc A).take pos.toNat).length ≤ (enc A).length := by rw [List.length_take]; omega
  obtain ⟨k',rfl⟩ : ∃ k',k = k' + 1 := ⟨k - 1,by omega⟩
  conv => cbv
  refine Br.mk (fun g => ?_) (fun g => ?_)
  ·have g : r = 32 := g
   have hc32 : c = 32 := UInt8.toNat_inj.1 (by show c.toNat = 32; omega)
   conv => cbv
   refine Fit.mk (by show (-9223372036854775808 : Int) ≤ cnt + 1; omega) (by show cnt + 1 ≤ 9223372036854775807; omega) ?_
   intro c2 hc2
   have hc2 : c2 = cnt + 1 := hc2
   conv => cbv
   refine Again.mk k' _ (Nat.lt_succ_self _) (Re.at [(0,0),(1,1)] []) ⟨p',c2,rfl,by omega,by omega,?_,by omega⟩
   rw [htake,List.count_append,hc32,hc2,hcnt]; simp
  ·have g : ¬ r = 32 := g
   have hc32 : ¬ c = 32 := fun h => g (by rw [hr,h]; rfl)
   conv => cbv
   refine Again.mk k' _ (Nat.lt_succ_self _) (Re.at [(0,0),(1,1)] []) ⟨p',cnt,rfl,by omega,by omega,?_,by omega⟩
   rw [htake,List.count_append,hcnt]
   have : List.count (32 : UInt8) [c] = 0 := by rw [List.count_eq_zero]; simp; exact fun h => hc32 h.symm
   rw [this]; simp
theorem ext_from (l : List UInt8) (k : Nat) : (ByteArray.mk l.toArray).extract k (ByteArray.mk l.toArray).size = ⟨(l.drop k).toArray⟩ := by
 apply ByteArray.ext
 apply Array.ext'
 rw [ByteArray.data_extract]
 show (l.toArray.extract k l.toArray.size).toList = _
 simp
 exact List.take_of_length_le (by simp)
theorem ext_upto (l : List UInt8) (k : Nat) : (ByteArray.mk l.toArray).extract 0 k = ⟨(l.take k).toArray⟩ := by
 apply ByteArray.ext
 apply Array.ext'
 rw [ByteArray.data_extract]
 show (l.toArray.extract 0 k).toList = _
 simp
theorem enc_last : ∀ (A : List Int),A ≠ [] → (enc A)[(enc A).length - 1]? = some 32
 | [],h => absurd rfl h
 | [a],_ => by simp [enc]
 | a :: b :: A,_ => by
  have ih := enc_last (b :: A) (by simp)
  have hne : 0 < (enc (b :: A)).length := by simp [enc]; omega
  rw [enc]
  have hl : (Lib.itoa a ++ 32 :: enc (b :: A)).length - 1 = (Lib.itoa a).length + (((enc (b :: A)).length - 1) + 1) := by simp; omega
  rw [hl,List.getElem?_append_right (by omega),Nat.add_sub_cancel_left,List.getElem?_cons_succ]
  exact ih
theorem enc_end (A : List Int) (a : Int) : enc (A ++ [a]) = enc A ++ (Lib.itoa a ++ [32]) := by rw [enc_append]; rfl
theorem partLast_lx (A : List Int) (a : Int) (z : ByteArray) (hz : z = ⟨(enc (A ++ [a])).toArray⟩) (hA : (enc (A ++ [a])).length < 1000000) :
  CallF (fun _ => Tryz.prog) 140 [.p (.str fun _ => z)] [] 0 (fun r h n => (∃ x y : ByteArray,r = .tup [.p (.str fun _ => x),.p (.str fun _ => y)] ∧ x = ⟨(enc A).toArray⟩ ∧ y = ⟨(Lib.itoa a).toArray⟩) ∧ h = [] ∧ n = 0) := by
 generalize hE : enc (A ++ [a]) = E at hz hA
 have hE2 := hE
 rw [enc_end] at hE2
 obtain ⟨T,hT⟩ : ∃ T : Int,T = E.length := ⟨_,rfl⟩
 obtain ⟨L,hL⟩ : ∃ L : Int,L = (enc A).length := ⟨_,rfl⟩
 obtain ⟨D,hD⟩ : ∃ D : Int,D = (Lib.itoa a).length := ⟨_,rfl⟩
 have hTL : T = L + D + 1 := by rw [hT,← hE2,hL,hD]; simp; omega
 have hD1 : 1 ≤ D := by
  have := itoa_ne a
  have : 0 < (Lib.itoa a).length := List.length_pos_iff.2 this
  omega
 have F1 : 0 < L → E[(L - 1).toNat]? = some 32 := fun h => by
  have hne : A ≠ [] := by rintro rfl; simp [enc] at hL; omega
  have := enc_last A hne
  rw [← hE2,List.getElem?_append_left (by omega),← this]; congr 1; omega
 have F2 : ∀ (p : Int) (c : UInt8),L ≤ p → p < L + D → E[p.toNat]? = some c → c ≠ 32 := fun p c h1 h2 h3 h4 => by
  rw [← hE2,List.getElem?_append_right (by omega),List.getElem?_append_left (by omega)] at h3
  have := itoa_dig a c (List.mem_of_getElem? h3)
  subst h4
  have h32 : (32 : UInt8).toNat = 32 := rfl
  omega
 have F3 : E[(T - 1).toNat]? = some 32 := by
  rw [← hE2,List.getElem?_append_right (by omega),List.getElem?_append_right (by omega),show (T - 1).toNat - (enc A).length - (Lib.itoa a).length = 0 by omega]; rfl
 have hlowE : ∀ c ∈ E,c.toNat < 128 := by rw [← hE]; exact enc_low _
 have hzs : (z.size : Int) = T := by rw [hz,hT]; show (E.toArray.size : Int) = _; simp
 refine callF_of_body tok Tryz.func140 (by kernel_rfl) rfl rfl rfl ?_; conv => cbv
 refine LoopF.mk (fun k s => ∃ (pos fr nx : Int),s = ⟨.p (.str fun _ => z) :: .undef :: .undef :: .undef :: .p (.int .i64 (.sym fr)) :: .p (.int .i64 (.sym nx)) :: .undef :: .undef :: .undef :: .ptr 0 (.lit 0) :: undefs 16,[(0,.iter (fun _ => z) (.sym pos))],1⟩ ∧ 0 ≤ pos ∧ pos ≤ T ∧ 0 ≤ fr ∧ fr ≤ T ∧ 0 ≤ nx ∧ nx ≤ T ∧ (pos = 0 → nx = 0) ∧ (0 < pos → E[(pos - 1).toNat]? = some 32 → nx = pos) ∧ (L ≤ pos → pos < T → nx = L) ∧ (pos = T → fr = L) ∧ k = (T - pos).toNat) T.toNat _
  (Re.at [(0,0)] []) ⟨0,0,0,rfl,by omega,by omega,by omega,by omega,by omega,by omega,by omega,by omega,by omega,by omega,by omega⟩ ?_
 rintro k s ⟨pos,fr,nx,rfl,hp0,hp1,hf0,hf1,hn0,hn1,P1,P2,P3,P4,hk⟩
 conv => cbv
 by_cases hend : pos = T
 ·refine NextS.over (by show (z.size : Int) ≤ pos; omega) ?_
  have hfr := P4 hend
  conv => cbv
  refine drawn_sound tok (by kernel_rfl) [(6,[2,1,0])] [0,1,2,3,4,5,6,7,8] (by kernel_rfl) ?_; conv => cbv
  refine Need.mk ⟨by simp only [I.val]; omega,by simp only [I.val]; omega,by show fr ≤ (z.size : Int); omega⟩ ?_
  conv => cbv
  refine Str.mk fun x hx => ?_
  have hx : x = z.extract 0 fr.toNat := hx
  conv => cbv
  refine Need.mk ⟨by simp only [I.val]; omega,by show fr ≤ (z.size : Int); omega⟩ ?_
  conv => cbv
  refine Str.mk fun y hy => ?_
  have hy : y = z.extract fr.toNat z.size := hy
  have hfn : fr.toNat = (enc A).length := by omega
  have hx2 : x = ⟨(enc A).toArray⟩ := by rw [hx,hz,ext_upto,hfn,← hE2,List.take_left]
  have hy2 : y = ⟨(Lib.itoa a ++ [32]).toArray⟩ := by rw [hy,hz,ext_from,hfn,← hE2,List.drop_left]
  have hys : (y.size : Int) ≤ 9223372036854775807 := by rw [hy2]; show (((Lib.itoa a ++ [32]).toArray.size : Nat) : Int) ≤ _; simp; omega
  conv => cbv
  refine callF_val (trimSuffix_lx y ⟨#[32]⟩ (by omega)) (by simp [ales,ale,renVs,renV,pvle_refl]) rfl (fun r ⟨u,hr,_⟩ => by subst hr; rfl) (fun r ⟨u,hr,hu⟩ => ?_)
  subst hr
  have hu2 : u = ⟨(Lib.itoa a).toArray⟩ := by
   rw [hu,hy2]
   have hs : Lib.hasSuffix (Lib.itoa a ++ [32]) [32] = true := by
    unfold Lib.hasSuffix; rw [List.isSuffixOf_iff_suffix]; exact List.suffix_append _ _
   show (⟨(Lib.trimSuffix (Lib.itoa a ++ [32]) [32]).toArray⟩ : ByteArray) = _
   unfold Lib.trimSuffix
   rw [if_pos hs]
   simp
  conv => cbv
  refine RetF.mk [.p (.str fun _ => x),.p (.str fun _ => u)] [] 0 (Re.at [] []) rfl ⟨⟨x,u,rfl,hx2,hu2⟩,rfl,rfl⟩
 ·obtain ⟨c,hc⟩ : ∃ c,E[pos.toNat]? = some c := ⟨_,List.getElem?_eq_getElem (by omega)⟩
  have hlow := hlowE c (List.mem_of_getElem? hc)
  have hd := dec_atE E hlowE pos.toNat c hc
  rw [← hz] at hd
  refine NextS.more (by show pos < (z.size : Int); omega) ?_
  intro r p' hr hp
  have hr : r = (c.toNat : Int) := by
   have : r = ((Utf8.decode z pos.toNat).1 : Int) := hr
   rw [this,hd]
  have hp : p' = pos + 1 := by
   have : p' = pos + ((Utf8.decode z pos.toNat).2 : Int) := hp
   rw [this,hd]; rfl
  obtain ⟨k',rfl⟩ : ∃ k',k = k' + 1 := ⟨k - 1,by omega⟩
  conv => cbv
  refine Br.mk (fun g => ?_) (fun g => ?_)
  ·have g : r = 32 := g
   have hc32 : c = 32 := UInt8.toNat_inj.1 (by show c.toNat = 32; omega)
   conv => cbv
   refine Fit.mk (by show (-9223372036854775808 : Int) ≤ pos + 1; omega) (by show pos + 1 ≤ 9223372036854775807; omega) ?_
   intro q hq
   have hq : q = pos + 1 := hq
   conv => cbv
   refine Again.mk k' _ (Nat.lt_succ_self _) (Re.at [(0,0)] []) ⟨p',nx,q,rfl,by omega,by omega,by omega,by omega,by omega,by omega,by omega,fun _ _ => by omega,fun h1 h2 => ?_,fun h1 => P3 (by omega) (by omega),by omega⟩
   have h1 : L ≤ p' := h1
   have h2 : p' < T := h2
   by_cases h3 : L ≤ pos
   ·exact absurd hc32 (F2 pos c h3 (by omega) hc)
   ·omega
  ·have g : ¬ r = 32 := g
   have hc32 : ¬ c = 32 := fun h => g (by rw [hr,h]; rfl)
   conv => cbv
   refine Again.mk k' _ (Nat.lt_succ_self _) (Re.at [(0,0)] []) ⟨p',fr,nx,rfl,by omega,by omega,by omega,by omega,by omega,by omega,by omega,fun _ h2 => ?_,fun h1 h2 => ?_,fun h1 => ?_,by omega⟩
   ·have h2 : E[(p' - 1).toNat]? = some 32 := h2
    rw [show (p' - 1).toNat = pos.toNat by omega,hc] at h2
    exact absurd (Option.some.inj h2) hc32
   ·have h1 : L ≤ p' := h1
    have h2 : p' < T := h2
    by_cases h3 : L ≤ pos
    ·exact P3 h3 (by omega)
    ·exfalso
     have h4 := F1 (by omega)
     rw [show (L - 1).toNat = pos.toNat by omega,hc] at h4
     exact hc32 (Option.some.inj h4)
   ·exfalso
    have h1 : p' = T := h1
    rw [show (T - 1).toNat = pos.toNat by omega,hc] at F3
    exact hc32 (Option.some.inj F3)
end Go.Proofs.YtpbhcdbkmmjimaaGreatDoor
namespace Go.Proofs.YtpbhcdbkmmjimaaGreatDoor
open Go Go.LX
set_option maxRecDepth 100000
set_option linter.unusedVariables false
set_option maxHeartbeats 32000000
def i64 (a : Int) : Prop := -9223372036854775808 ≤ a ∧ a ≤ 9223372036854775807
theorem enc_len : ∀ (A : List Int),(∀ a ∈ A,i64 a) → (enc A).length ≤ 22 * A.length
 | [],_ => Nat.le_refl _
 | a :: A,h => by
  have h1 := enc_len A fun x hx => h x (List.mem_cons_of_mem _ hx)
  have h2 := h a List.mem_cons_self
  have h3 := Lib.itoa_length_le a h2.1 h2.2
  rw [enc,List.length_append,List.length_cons,List.length_cons]; omega
theorem greyNew_lx : CallF (fun _ => Tryz.prog) 83 [] [] 0 (fun r h n => ∃ z : ByteArray,r = .ptr 0 (.lit 0) ∧ h = [hpF 0 z false] ∧ n = 1 ∧ z = ⟨(enc []).toArray⟩) := by
 refine callF_of_body tok Tryz.func83 (by kernel_rfl) rfl rfl rfl ?_; conv => cbv
 obtain ⟨z,hz⟩ : ∃ z : ByteArray,z = ⟨(enc []).toArray⟩ := ⟨_,rfl⟩
 have hz2 : (⟨#[]⟩ : ByteArray) = z := hz.symm
 refine RetF.mk [.ptr 0 (.lit 0)] [hpF 0 z false] 1 (Re.at [(0,0)] []) rfl ⟨z,rfl,rfl,rfl,hz⟩
theorem greyOver_lx (z : ByteArray) (ov : Bool) : CallF (fun _ => Tryz.prog) 130 [.ptr 0 (.lit 0)] [hpF 0 z ov] 1 (fun r h n => r = .p (.bool ov) ∧ h = [hpF 0 z ov] ∧ n = 1) := by
 refine callF_of_body tok Tryz.func130 (by kernel_rfl) rfl rfl rfl ?_; conv => cbv
 refine RetF.mk [.p (.bool ov)] [hpF 0 z ov] 1 (Re.at [(0,0)] []) rfl ⟨rfl,rfl,rfl⟩
theorem greyOver_nil : CallF (fun _ => Tryz.prog) 130 [.p .nilp] [] 0 (fun r h n => r = .p (.bool false) ∧ h = [] ∧ n = 0) := by
 refine callF_of_body tok Tryz.func130 (by kernel_rfl) rfl rfl rfl ?_; conv => cbv
 refine RetF.mk [.p (.bool false)] [] 0 (Re.at [] []) rfl ⟨rfl,rfl,rfl⟩
theorem greySettle_lx (z : ByteArray) (ov : Bool) : CallF (fun _ => Tryz.prog) 131 [.ptr 0 (.lit 0)] [hpF 0 z ov] 1 (fun r h n => r = .tup [] ∧ h = [hpF 0 z false] ∧ n = 1) := by
 refine callF_of_body tok Tryz.func131 (by kernel_rfl) rfl rfl rfl ?_; conv => cbv
 refine RetF.mk [] [hpF 0 z false] 1 (Re.at [(0,0)] []) rfl ⟨rfl,rfl,rfl⟩
theorem greySettle_nil : CallF (fun _ => Tryz.prog) 131 [.p .nilp] [] 0 (fun r h n => r = .tup [] ∧ h = [] ∧ n = 0) := by
 refine callF_of_body tok Tryz.func131 (by kernel_rfl) rfl rfl rfl ?_; conv => cbv
 refine RetF.mk [] [] 0 (Re.at [] []) rfl ⟨rfl,rfl,rfl⟩
theorem greyLen_nil : CallF (fun _ => Tryz.prog) 127 [.p .nilp] [] 0 (fun r h n => r = .p (.int .i64 (.sym 0)) ∧ h = [] ∧ n = 0) := by
 refine callF_of_body tok Tryz.func127 (by kernel_rfl) rfl rfl rfl ?_; conv => cbv
 refine RetF.mk [i6 0] [] 0 (Re.at [] []) rfl ⟨rfl,rfl,rfl⟩
theorem greyPush_lx (A : List Int) (a : Int) (z : ByteArray) (ov : Bool) (o : Unit → Obj) (ho : IsPow o) (hz : z = ⟨(enc A).toArray⟩) (hA : ∀ x ∈ A,i64 x) (hA8 : A.length ≤ 8) (ha : i64 a) :
  CallF (fun _ => Tryz.prog) 110 [.ptr 1 (.lit 0),i6 a] [hpF 1 z ov,(0,.fix 0 o)] 2 (fun r h n => ∃ (b ov' : Bool) (z' : ByteArray) (A' : List Int),r = .p (.bool b) ∧ h = [hpF 1 z' ov',(0,.fix 0 o)] ∧ n = 2 ∧ z' = ⟨(enc A').toArray⟩ ∧ (A.length < 8 → b = true ∧ A' = A ++ [a] ∧ ov' = ov) ∧ (8 ≤ A.length → b = false ∧ A' = A ∧ ov' = true)) := by
 have hle := enc_len A hA
 refine callF_of_body tok Tryz.func110 (by kernel_rfl) rfl rfl rfl ?_; conv => cbv
 refine callF_frame (greyLen_lx A z ov hz (by omega)) [(0,1)] rfl (by simp [hmapOk,nget,hget,renB,okB]) rfl rfl (fun r h' n' ⟨m,e1,hm,e2,e3⟩ => ?_)
 subst e1 e2 e3
 conv => cbv
 refine Br.mk (fun g => ?_) (fun g => ?_)
 ·have g : 8 ≤ m := g
  conv => cbv
  refine RetF.mk [.p (.bool false)] [hpF 1 z true,(0,.fix 0 o)] 2 (Re.at [(0,0),(1,1)] []) rfl ⟨false,true,z,A,rfl,rfl,rfl,hz,fun h => by omega,fun _ => ⟨rfl,rfl,rfl⟩⟩
 ·have g : ¬ 8 ≤ m := g
  conv => cbv
  refine drawn_sound tok (by kernel_rfl) [(5,[3,2,1,0]),(10,[])] [0,1,2,3,4,5,6,7,8,9,10] (by kernel_rfl) ?_; conv => cbv
  refine callF_frame (itoa_lx a ha.1 ha.2 o ho) [(0,0)] rfl (by simp [hmapOk,nget,hget,renB,okB]) rfl rfl (fun r h' n' ⟨⟨y,e1,hy⟩,e2,e3⟩ => ?_)
  subst e1 e2 e3
  have hyl : (y.size : Int) ≤ 21 := by
   rw [hy]
   have := Lib.itoa_length_le a ha.1 ha.2
   show ((Lib.itoa a).toArray.size : Int) ≤ 21
   simp; omega
  have hzl : (z.size : Int) ≤ 1000000 := by rw [hz]; show ((enc A).toArray.size : Int) ≤ _; simp; omega
  conv => cbv
  refine Need.mk (by show y.size + 1 ≤ 9223372036854775807; omega) ?_
  conv => cbv
  refine Str.mk fun u hu => ?_
  have hu : u = y ++ ⟨#[32]⟩ := hu
  have hus : (u.size : Int) ≤ 22 := by rw [hu,ByteArray.size_append]; show ((y.size + 1 : Nat) : Int) ≤ 22; omega
  conv => cbv
  refine Need.mk (by show z.size + u.size ≤ 9223372036854775807; omega) ?_
  conv => cbv
  refine Str.mk fun z2 hz2 => ?_
  have hz2 : z2 = z ++ u := hz2
  have hz3 : z2 = ⟨(enc (A ++ [a])).toArray⟩ := by
   rw [hz2,hz,hu,hy,enc_end]
   apply ByteArray.ext
   simp
  conv => cbv
  refine RetF.mk [.p (.bool true)] [hpF 1 z2 ov,(0,.fix 0 o)] 2 (Re.at [(0,0),(1,1)] []) rfl ⟨true,ov,z2,A ++ [a],rfl,rfl,rfl,hz3,fun _ => ⟨rfl,rfl,rfl⟩,fun h => by omega⟩
theorem greyPop_lx (A : List Int) (z : ByteArray) (ov : Bool) (hz : z = ⟨(enc A).toArray⟩) (hA : ∀ x ∈ A,i64 x) (hA8 : A.length ≤ 8) :
  CallF (fun _ => Tryz.prog) 129 [.ptr 0 (.lit 0)] [hpF 0 z ov] 1 (fun r h n => (∃ (v : Int) (b : Bool) (z' : ByteArray) (A' : List Int),r = .tup [i6 v,.p (.bool b)] ∧ h = [hpF 0 z' ov] ∧ n = 1 ∧ z' = ⟨(enc A').toArray⟩ ∧ (A = [] ∧ v = 0 ∧ b = false ∧ A' = [] ∨ A = A' ++ [v] ∧ b = true))) := by
 have hle := enc_len A hA
 refine callF_of_body tok Tryz.func129 (by kernel_rfl) rfl rfl rfl ?_; conv => cbv
 refine callF_frame (greyLen_lx A z ov hz (by omega)) [(0,0)] rfl (by simp [hmapOk,nget,hget,renB,okB]) rfl rfl (fun r h' n' ⟨m,e1,hm,e2,e3⟩ => ?_)
 subst e1 e2 e3
 conv => cbv
 refine Br.mk (fun g => ?_) (fun g => ?_)
 ·have g : m = 0 := g
  have hA0 : A = [] := List.eq_nil_of_length_eq_zero (by omega)
  conv => cbv
  refine RetF.mk [i6 0,.p (.bool false)] [hpF 0 z ov] 1 (Re.at [(0,0)] []) rfl ⟨0,false,z,A,rfl,rfl,rfl,hz,.inl ⟨hA0,rfl,rfl,hA0⟩⟩
 ·have g : ¬ m = 0 := g
  obtain ⟨B,a,rfl⟩ : ∃ B a,A = B ++ [a] := ⟨_,_,(List.dropLast_concat_getLast (by rintro rfl; simp at hm; omega)).symm⟩
  conv => cbv
  refine callF_val (partLast_lx B a z hz (by rw [List.length_append] at *; omega)) (by simp [ales,ale,renVs,renV,pvle_refl]) rfl (fun r ⟨x,y,hr,_⟩ => by subst hr; rfl) (fun r ⟨x,y,hr,hx,hy⟩ => ?_)
  subst hr
  have haa := hA a (by simp)
  conv => cbv
  refine callF_val (atoi_lx y a (by rw [hy]; have := Lib.itoa_length_le a haa.1 haa.2; show (Lib.itoa a).toArray.size ≤ _; simp; omega) (by rw [hy]; exact atoi_itoa a haa.1 haa.2)) (by simp [ales,ale,renVs,renV,pvle_refl]) rfl (fun r hr => by subst hr; rfl) (fun r hr => ?_)
  subst hr
  conv => cbv
  refine RetF.mk [i6 a,.p (.bool true)] [hpF 0 x ov] 1 (Re.at [(0,0)] []) rfl ⟨a,true,x,B,rfl,rfl,rfl,hx,.inr ⟨rfl,rfl⟩⟩
theorem greyPop_nil : CallF (fun _ => Tryz.prog) 129 [.p .nilp] [] 0 (fun r h n => r = .tup [i6 0,.p (.bool false)] ∧ h = [] ∧ n = 0) := by
 refine callF_of_body tok Tryz.func129 (by kernel_rfl) rfl rfl rfl ?_; conv => cbv
 refine callF_val greyLen_nil (by simp [ales,ale,renVs,renV,pvle]) rfl (fun r hr => by subst hr; rfl) (fun r hr => ?_)
 subst hr
 conv => cbv
 refine Br.mk (fun g => ?_) (fun g => ?_)
 case refine_2 =>
  have g : ¬ ((0 : Int) = 0) := g
  exfalso
  exact g rfl
 conv => cbv
 refine RetF.mk [i6 0,.p (.bool false)] [] 0 (Re.at [] []) rfl ⟨rfl,rfl,rfl⟩
theorem greyPush_nil (a : I) : CallF (fun _ => Tryz.prog) 110 [.p .nilp,.p (.int .i64 a)] [] 0 (fun r h n => r = .p (.bool false) ∧ h = [] ∧ n = 0) := by
 refine callF_of_body tok Tryz.func110 (by kernel_rfl) rfl rfl rfl ?_; conv => cbv
 refine RetF.mk [.p (.bool false)] [] 0 (Re.at [] []) rfl ⟨rfl,rfl,rfl⟩
end Go.Proofs.YtpbhcdbkmmjimaaGreatDoor
namespace Go.Proofs.YtpbhcdbkmmjimaaGreatDoor
open Go.RowKit Go.WideShapes Go.ChangeShapes
set_option maxHeartbeats 32000000
theorem and1_i64 (x : Int) : bits .and .i64 x 1 = x % 2 := by
 have h : ((BitVec.ofInt 64 x &&& BitVec.ofInt 64 1).toNat : Int) = x % 2 := by
  rw [BitVec.toNat_and]
  have e1 : (BitVec.ofInt 64 1).toNat = 1 := by decide
  rw [e1,nat_mask1,BitVec.toNat_ofInt]
  omega
 show IntKind.i64.wrap ((BitVec.ofInt 64 x &&& BitVec.ofInt 64 1).toNat : Int) = _
 rw [h,IntKind.wrap_i64]
 omega
theorem umod_bd (a k : Int) (h : 0 < k) (h2 : k ≤ 9223372036854775807) : 0 ≤ wrap64 ((IntKind.u64.wrap a).tmod k) ∧ wrap64 ((IntKind.u64.wrap a).tmod k) < k := by
 have hw : 0 ≤ IntKind.u64.wrap a := by rw [IntKind.wrap_u64]; omega
 have h3 : 0 ≤ (IntKind.u64.wrap a).tmod k := Int.tmod_nonneg _ hw
 have h4 : (IntKind.u64.wrap a).tmod k < k := Int.tmod_lt_of_pos _ h
 unfold wrap64
 omega
theorem i64_bd {x : Int} (h : (Lit.int .i64 x).wf = true) : -9223372036854775808 ≤ x ∧ x ≤ 9223372036854775807 := by
 simpa [Lit.wf,IntKind.min,IntKind.max,IntKind.signed,IntKind.bits] using h
theorem size_iter (w : World) (s : ByteArray) (p : Nat) : (w.iter s p).heap.size = w.heap.size + 1 := World.size_alloc _ _
theorem size_drewN (w : World) (n : Nat) : (w.drewN n).heap.size = w.heap.size := rfl
theorem below_drewN {B : Nat} {a w : World} (h : Below B a w) (n : Nat) : Below B a (w.drewN n) := ⟨h.os,h.tape,h.output,h.size,h.block⟩
theorem below_iter {B : Nat} {a w : World} (h : Below B a w) (hB : B ≤ w.heap.size) (s : ByteArray) (p : Nat) : Below B a (w.iter s p) := h.alloc hB _
theorem below_cells {W w' : World} (hb : Below W.heap.size W w') : (∀ b o,b < W.heap.size → w'.cell? ⟨b,o,none⟩ = W.cell? ⟨b,o,none⟩) ∧ (∀ b o,b < W.heap.size → w'.frozen? ⟨b,o,none⟩ = W.frozen? ⟨b,o,none⟩) :=
 ⟨fun b o h => hb.cell (p := ⟨b,o,none⟩) h,fun b o h => hb.frozen (p := ⟨b,o,none⟩) h⟩
theorem below_step {B : Nat} {a b c : World} (h : Below B a b) (hB : B ≤ b.heap.size) (k : Below b.heap.size b c) : Below B a c := h.trans (k.mono hB)
theorem quiet_same {P : Program} {f : FuncId} {args : Array Value} {w : World} {n : Nat} {v : Value} (h : Calls P f args (w.drewN n) fun e w' => e = .returned v ∧ w.drewN n = w') :
  Calls P f args (w.drewN n) fun e w'' => e = .returned v ∧ ∃ m,w'' = w.drewN m := h.mono fun _ _ ⟨he,hm⟩ => ⟨he,n,hm.symm⟩
theorem quiet_sum {P : Program} {f : FuncId} {args : Array Value} {w : World} {a n : Nat} {v : Value} (h : Calls P f args (w.drewN (a + n)) fun e w' => e = .returned v ∧ w.drewN (a + n) = w') :
  Calls P f args (w.drewN (a + n)) fun e w'' => e = .returned v ∧ ∃ m,w'' = w.drewN (a + m) := h.mono fun _ _ ⟨he,hm⟩ => ⟨he,n,hm.symm⟩
section
variable {H : Type} {enc : TypeId × Value → H} {P : Program}
theorem law_post {f : Func} {s : ChangeSpec} {apart fresh handsOn again : Bool} {W W' : World} {args : Array Value} {v : Value} {ds gs : List (DataW H)} {before pa pv : List MemPlace}
  (hW : DataW.Whole enc P f.params.toList s.vars apart W args.toList ds gs before)
  (hres : ∀ (b : Nat) (sp : Nat → Bool) (hd : Bool),DataW.TrodAll enc P W' b sp hd f.resultTypes.toList (v.resultList f.resultTypes.size) (s.fn H (ds ++ gs)).results [])
  (hargs : ∀ sp : Nat → Bool,(∀ p ∈ before,sp p.block = true) → DataW.TrodAll enc P W' 0 sp true f.params.toList args.toList (s.fn H (ds ++ gs)).args pa)
  (hvars : ∀ sp : Nat → Bool,(∀ p ∈ before,sp p.block = true) → DataW.TrodVars enc P W' sp s.vars (s.fn H (ds ++ gs)).vars pv)
  (hps : before = pa ++ pv) (hb : Below W.heap.size W W')
  (hok : ∀ (j : Nat) (t : TypeId) (r : Value),f.resultTypes[j]? = some t → (v.resultList f.resultTypes.size)[j]? = some r → Value.okWide P W' .any 0 t r) :
  s.post enc P f apart fresh handsOn again W args v W' := by
 have hlt : ∀ p ∈ before,p.block < W.heap.size := fun p hp => hW.lt p hp
 have hold : ∀ p ∈ before,(fun b => decide (b < W.heap.size)) p.block = true := fun p hp => decide_eq_true (hlt p hp)
 obtain ⟨p0,q0,h1,h2,h3,hz,hn⟩ := id hW
 refine ⟨ds,gs,before,[],pa,pv,hW,hres _ _ _,hargs _ hold,hvars _ hold,World.keptBut_mono (fun p hp => ⟨hp,Or.inr (List.mem_append.1 (hps ▸ hp))⟩) (hb.frame (· ∈ before)),fun _ => ?_⟩
 refine ⟨hok,_,_,([] ++ pa) ++ pv,⟨[] ++ pa,pv,trodAll_append (hargs _ (fun _ _ => rfl)) (hres _ _ _),hvars _ (fun _ _ => rfl),rfl,?_,?_⟩,?_⟩
 ·intro b off hp
  have hin : MemPlace.cell b off ∈ before := by rw [hps]; simpa using hp
  exact (hb.frozen (p := ⟨b,off,none⟩) (hlt _ hin)).trans (hz b off hin)
 ·intro ha
  have hd := hn ha
  rw [hps] at hd
  simpa using hd
 ·intro p hp _
  rw [hps]
  simpa using hp
end
end Go.Proofs.YtpbhcdbkmmjimaaGreatDoor
namespace Go.Proofs.YtpbhcdbkmmjimaaGreatDoor
open Go.RowKit
set_option maxHeartbeats 32000000
theorem add_block (a : Addr) (n : Nat) : (a.add n).block = a.block := by
 unfold Addr.add; split <;> rfl
structure Sl (w : World) (B size : Nat) (v : Value) (n : Nat) (xs : List Value) : Prop where
 len : xs.length = n * size
 max : n ≤ maxLen
 form : (v = .slice none 0 0 ∧ n = 0) ∨ ∃ a c,v = .slice (some a) n c ∧ n ≤ c ∧ c ≤ maxLen ∧ (0 < n → a.block < B) ∧ ∀ j u,xs[j]? = some u → w.cell? (a.add j) = some u
section
variable {w w' : World} {B B' size n : Nat} {v : Value} {xs : List Value}
theorem Sl.nil : Sl w B size (.slice none 0 0) 0 [] := ⟨by simp,Nat.zero_le _,.inl ⟨rfl,rfl⟩⟩
theorem Sl.pos (h : Sl w B size v n xs) {j : Nat} {u : Value} (hu : xs[j]? = some u) : 0 < n := by
 have h1 := (List.getElem?_eq_some_iff.1 hu).1
 rw [h.len] at h1
 rcases Nat.eq_zero_or_pos n with rfl | h2
 ·simp at h1
 ·exact h2
theorem Sl.keep (h : Sl w B size v n xs) (hk : ∀ p : Addr,p.block < B → w'.cell? p = w.cell? p) : Sl w' B size v n xs := by
 refine ⟨h.len,h.max,?_⟩
 rcases h.form with e | ⟨a,c,e,h1,h2,h3,h4⟩
 ·exact .inl e
 ·exact .inr ⟨a,c,e,h1,h2,h3,fun j u hu => (hk _ (by rw [add_block]; exact h3 (h.pos hu))).trans (h4 j u hu)⟩
theorem Sl.below (h : Sl w B size v n xs) (hb : Below B w w') : Sl w' B size v n xs := h.keep fun _ hp => hb.cell hp
theorem Sl.step (h : Sl w B size v n xs) (hB : B ≤ w.heap.size) (k : Below w.heap.size w w') : Sl w' B size v n xs := h.keep fun _ hp => k.cell (Nat.lt_of_lt_of_le hp hB)
theorem Sl.drewN (h : Sl w B size v n xs) (k : Nat) : Sl (w.drewN k) B size v n xs := h.keep fun _ _ => rfl
theorem Sl.more (h : Sl w B size v n xs) (hB : B ≤ B') : Sl w B' size v n xs := by
 refine ⟨h.len,h.max,?_⟩
 rcases h.form with e | ⟨a,c,e,h1,h2,h3,h4⟩
 ·exact .inl e
 ·exact .inr ⟨a,c,e,h1,h2,fun h => Nat.lt_of_lt_of_le (h3 h) hB,h4⟩
theorem Sl.alloc (h : Sl w B size v n xs) (hB : B ≤ w.heap.size) (o : Obj) : Sl (w.alloc o) B size v n xs := h.keep fun p hp => World.cell?_alloc_lt w o p (by omega)
theorem Sl.take {a : Addr} {c : Nat} (h : Sl w B 1 (.slice (some a) n c) n xs) {k : Nat} (hk : k ≤ n) : Sl w B 1 (.slice (some a) k c) k (xs.take k) := by
 have hl := h.len
 refine ⟨by rw [List.length_take,hl]; omega,by have := h.max; omega,?_⟩
 rcases h.form with ⟨e,_⟩ | ⟨a',c',e,h1,h2,h3,h4⟩
 ·cases e
 ·cases e
  exact .inr ⟨a,c,rfl,by omega,h2,fun hh => h3 (by omega),fun j u hu => h4 j u (by rw [List.getElem?_take] at hu; split at hu; exact hu; cases hu)⟩
theorem Sl.cell {a : Addr} {c : Nat} (h : Sl w B size (.slice (some a) n c) n xs) {k : Nat} {u : Value} (hk : xs[k]? = some u) : w.cell? (a.add k) = some u := by
 rcases h.form with ⟨e,_⟩ | ⟨a',c',e,h1,h2,h3,h4⟩
 ·cases e
 ·cases e; exact h4 k u hk
theorem Sl.cap {a : Addr} {c : Nat} (h : Sl w B size (.slice (some a) n c) n xs) : n ≤ c ∧ c ≤ maxLen ∧ (0 < n → a.block < B) := by
 rcases h.form with ⟨e,_⟩ | ⟨a',c',e,h1,h2,h3,h4⟩
 ·cases e
 ·cases e; exact ⟨h1,h2,h3⟩
theorem Sl.some_ (h : Sl w B size v n xs) (hn : 0 < n) : ∃ a c,v = .slice (some a) n c := by
 rcases h.form with ⟨_,rfl⟩ | ⟨a,c,e,_⟩
 ·omega
 ·exact ⟨a,c,e⟩
theorem Sl.is_slice (h : Sl w B size v n xs) : ∃ A c,v = .slice A n c := by
 rcases h.form with ⟨rfl,rfl⟩ | ⟨a,c,rfl,_⟩
 ·exact ⟨_,_,rfl⟩
 ·exact ⟨_,_,rfl⟩
theorem Sl.of_own {base : Nat} {e : TypeId} (h : w.ownsRow base e size v n xs) : Sl w w.heap.size size v n xs := by
 obtain ⟨h1,h2⟩ := h
 rcases h2 with ⟨rfl,rfl⟩ | ⟨g,cap,cur,rfl,hb,hh,hn,hc,hz,ht⟩
 ·exact ⟨h1,Nat.zero_le _,.inl ⟨rfl,rfl⟩⟩
 ·have hg : g < w.heap.size := by
   rcases Nat.lt_or_ge g w.heap.size with hlt | hge
   ·exact hlt
   ·rw [Array.getElem?_eq_none hge] at hh; cases hh
  refine ⟨h1,Nat.le_trans hn hc,.inr ⟨⟨g,0,none⟩,cap,rfl,hn,hc,fun _ => hg,fun j u hu => ?_⟩⟩
  have hj : (Addr.add ⟨g,0,none⟩ j) = ⟨g,j,none⟩ := by
   unfold Addr.add; split
   ·rename_i h0; rw [h0]
   ·simp
  rw [hj,cell_of_row w g j cur e (0,0) hh]
  rw [← ht,List.getElem?_take] at hu
  split at hu
  ·simpa using hu
  ·cases hu
theorem add_zero_off (g j : Nat) : (Addr.add ⟨g,0,none⟩ j) = ⟨g,j,none⟩ := by
 unfold Addr.add; split
 ·rename_i h0; rw [h0]
 ·simp
theorem Sl.lit (w : World) (cs : Array Value) (t : TypeId) (c : Nat) (hn : n * size = cs.size) (hc : n ≤ c) (hm : c ≤ maxLen) : Sl (w.alloc (.cells cs t)) (w.heap.size + 1) size (.slice (some ⟨w.heap.size,0,none⟩) n c) n cs.toList := by
 refine ⟨by simp [hn],Nat.le_trans hc hm,.inr ⟨_,c,rfl,hc,hm,fun _ => Nat.lt_succ_self _,fun j u hu => ?_⟩⟩
 rw [add_zero_off,cell_of_row (w.alloc (.cells cs t)) w.heap.size j cs t (0,0) (heap_alloc_new w _)]
 simpa using hu
end
end Go.Proofs.YtpbhcdbkmmjimaaGreatDoor
namespace Go.Proofs.YtpbhcdbkmmjimaaGreatDoor
open Go.RowKit Go.ChangeShapes Go.WideShapes
set_option maxHeartbeats 32000000
section
variable {H : Type} {enc : TypeId × Value → H} {P : Program} {W : World}
theorem lt_of_cell {w : World} {a : Addr} {v : Value} (h : w.cell? a = some v) : a.block < w.heap.size := by
 rcases Nat.lt_or_ge a.block w.heap.size with h1 | h1
 ·exact h1
 ·simp [World.cell?,Array.getElem?_eq_none h1] at h
theorem open_ints_sl {t e : TypeId} {k : IntKind} {base : Nat} {v : Value} {d : DataW H} {ps : List MemPlace} (ht : P.underlying t = some (.slice e)) (he : P.underlying e = some (.int k)) (hc : P.cellsOf e = 1)
  (hval : Value.okWide P W .any base t v) (h : DataW.Trod enc P W 0 (fun _ => true) true t v d ps) : ∃ zs : List Int,Sl W W.heap.size 1 v zs.length (zs.map (Value.int k)) ∧ ∀ n ∈ zs,(Lit.int k n).wf = true := by
 obtain ⟨a0,len,cap,rfl⟩ := okWide_slice ht hval
 obtain ⟨fuel,hf⟩ := h
 rcases open_ints ht he hc hf with ⟨hcs,_⟩ | ⟨a,len',cap',zs,hcs,_,hl,hm,hz,_,hcell,hwz⟩
 ·simp only [Value.cells] at hcs
  cases hcs
  exact ⟨[],Sl.nil,by simp⟩
 ·simp only [Value.cells] at hcs
  cases hcs
  simp only [if_true] at hz
  have hlt : (zs.take len).length = len := by rw [List.length_take]; omega
  refine ⟨zs.take len,?_,fun n hn => hwz n (List.mem_of_mem_take hn)⟩
  rw [hlt]
  refine ⟨by rw [List.length_map,hlt]; omega,Nat.le_trans hl hm,.inr ⟨a,cap,rfl,hl,hm,fun hp => lt_of_cell (a := a.add 0) (hcell 0 (by omega)),fun j u hu => ?_⟩⟩
  rw [List.getElem?_map] at hu
  obtain ⟨z,hz2,rfl⟩ := Option.map_eq_some_iff.1 hu
  rw [List.getElem?_take] at hz2
  split at hz2
  ·have hj : j < zs.length := (List.getElem?_eq_some_iff.1 hz2).1
   rw [hcell j hj,List.getD_eq_getElem?_getD,hz2]; rfl
  ·cases hz2
theorem open_strs_sl {t e : TypeId} {base : Nat} {v : Value} {d : DataW H} {ps : List MemPlace} (ht : P.underlying t = some (.slice e)) (he : P.underlying e = some .string) (hc : P.cellsOf e = 1)
  (hval : Value.okWide P W .any base t v) (h : DataW.Trod enc P W 0 (fun _ => true) true t v d ps) : ∃ ss : List ByteArray,Sl W W.heap.size 1 v ss.length (ss.map Value.string) ∧ ∀ s ∈ ss,s.size ≤ maxLen := by
 obtain ⟨a0,len,cap,rfl⟩ := okWide_slice ht hval
 obtain ⟨fuel,hf⟩ := h
 rcases open_strings ht he hc hf with ⟨hcs,_⟩ | ⟨a,len',cap',zs,hcs,_,hl,hm,hz,_,hcell,hwz⟩
 ·simp only [Value.cells] at hcs
  cases hcs
  exact ⟨[],Sl.nil,by simp⟩
 ·simp only [Value.cells] at hcs
  cases hcs
  simp only [if_true] at hz
  have hlt : (zs.take len).length = len := by rw [List.length_take]; omega
  refine ⟨zs.take len,?_,fun n hn => hwz n (List.mem_of_mem_take hn)⟩
  rw [hlt]
  refine ⟨by rw [List.length_map,hlt]; omega,Nat.le_trans hl hm,.inr ⟨a,cap,rfl,hl,hm,fun hp => lt_of_cell (a := a.add 0) (hcell 0 (by omega)),fun j u hu => ?_⟩⟩
  rw [List.getElem?_map] at hu
  obtain ⟨z,hz2,rfl⟩ := Option.map_eq_some_iff.1 hu
  rw [List.getElem?_take] at hz2
  split at hz2
  ·have hj : j < zs.length := (List.getElem?_eq_some_iff.1 hz2).1
   rw [hcell j hj,List.getD_eq_getElem?_getD,hz2]; rfl
  ·cases hz2
end
end Go.Proofs.YtpbhcdbkmmjimaaGreatDoor
namespace Go.Proofs.YtpbhcdbkmmjimaaGreatDoor
open Go Go.LX Go.RowKit
set_option maxHeartbeats 32000000
theorem vsl_gen {w : World} {size n : Nat} {v : Value} {xs : List Value} (hsz : 0 < size) (h : Sl w w.heap.size size v n xs) {m : Int} {l : List PV} (hm : m = n) (hl : l.length = n * size) (hrel : ∀ (j : Nat) (u : PV),l[j]? = some u → ∃ x,xs[j]? = some x ∧ PR Ctx.empty.mut w u x) :
  LR Ctx.empty w (.p (.vsl (.sym m) true l)) v := by
 have h0 : (I.sym m).val = n := hm
 rcases h.form with ⟨rfl,rfl⟩ | ⟨a,c,rfl,h1,h2,h3,h4⟩
 ·exact .p _ _ (.vsl0 _ _ _ _ _ h0 (Nat.zero_le _))
 ·rcases Nat.eq_zero_or_pos n with rfl | hn
  ·exact .p _ _ (.vsl0 _ _ _ _ _ h0 h2)
  ·have hlen : 0 < l.length := by rw [hl]; exact Nat.mul_pos hn hsz
   obtain ⟨x0,hx0,_⟩ := hrel 0 l[0] (List.getElem?_eq_getElem hlen)
   have hc := h4 0 x0 hx0
   have hsp : a.spot = none := by
    have : w.cell? a = some x0 := hc
    unfold World.cell? at this
    split at this
    ·split at this
     ·cases this
     ·rename_i hns
      cases hs : a.spot with
      | none => rfl
      | some _ => rw [hs] at hns; exact absurd rfl hns
    ·cases this
   refine .p _ _ (.vsl _ _ _ a n c (fun j => xs.getD j Go.undef) h0 hsp (fun hM => ?_) (h3 hn) h1 h2 (fun j u hu => ?_) (fun j u hu => ?_))
   ·rcases hM with hx | ⟨b,hb⟩
    ·exact hx
    ·cases hb
   ·obtain ⟨x,hx,_⟩ := hrel j u hu
    rw [h4 j x hx,List.getD_eq_getElem?_getD,hx]; rfl
   ·obtain ⟨x,hx,hp⟩ := hrel j u hu
    rw [List.getD_eq_getElem?_getD,hx]; exact hp
theorem vsl_ints {w : World} {k : IntKind} {v : Value} {zs : List Int} (h : Sl w w.heap.size 1 v zs.length (zs.map (Value.int k))) {m : Int} {l : List PV} (hm : m = zs.length) (hl : l = zs.map fun z => PV.int k (.sym z)) : LR Ctx.empty w (.p (.vsl (.sym m) true l)) v := by
 subst hl
 refine vsl_gen Nat.one_pos h hm (by simp) fun j u hu => ?_
 rw [List.getElem?_map] at hu
 cases hz : zs[j]? with
 | none => rw [hz] at hu; cases hu
 | some z =>
  rw [hz] at hu
  cases hu
  exact ⟨.int k z,by rw [List.getElem?_map,hz]; rfl,.int k _ z rfl⟩
end Go.Proofs.YtpbhcdbkmmjimaaGreatDoor
namespace Go.Proofs.YtpbhcdbkmmjimaaGreatDoor
open Go Go.LX Go.RowKit Go.ChangeShapes Go.WideShapes
set_option maxHeartbeats 32000000
inductive CK where
 | i (k : IntKind)
 | b
 | s
def CK.is : CK → Option TypeDesc → Bool
 | .i k,some (.int k') => decide (k = k')
 | .b,some .bool => true
 | .s,some .string => true
 | _,_ => false
def CK.ok : CK → Value → Prop
 | .i k,x => ∃ n,x = .int k n ∧ (Lit.int k n).wf = true
 | .b,x => ∃ b,x = .bool b
 | .s,x => ∃ s,x = .string s ∧ s.size ≤ maxLen
def rowOK (P : Program) (e : TypeId) (sh : List CK) : Bool :=
 match P.underlying e with
 | some (.struct fs) => P.cellsOf e == sh.length && fs.size == sh.length && (List.range sh.length).all fun i => match fs[i]?,sh[i]? with
  | some f,some k => f.offset == i && P.cellsOf f.type == 1 && k.is (P.underlying f.type)
  | _,_ => false
 | _ => false
section
variable {H : Type} {enc : TypeId × Value → H} {P : Program} {W : World}
theorem ck_trod {k : CK} {t : TypeId} {base fuel : Nat} {spare : Nat → Bool} {held : Bool} {cs : List Value} {x : DataW H × List MemPlace} (hk : k.is (P.underlying t) = true) (h : DataW.trod enc P W base spare held fuel t cs = some x) : ∃ c,cs = [c] ∧ k.ok c := by
 unfold CK.is at hk
 split at hk
 ·rename_i k1 k2 hu
  have hk := of_decide_eq_true hk
  subst hk
  obtain ⟨n,h1,_,h2⟩ := DataW.trod_int hu h
  exact ⟨_,h1,n,rfl,h2⟩
 ·rename_i hu
  obtain ⟨b,h1,_⟩ := DataW.trod_bool hu h
  exact ⟨_,h1,b,rfl⟩
 ·rename_i hu
  obtain ⟨s,h1,_,h2⟩ := DataW.trod_string hu h
  exact ⟨_,h1,s,rfl,h2⟩
 ·cases hk
theorem row_trod {sh : List CK} {e : TypeId} {base fuel : Nat} {spare : Nat → Bool} {held : Bool} {cs : List Value} {x : DataW H × List MemPlace} (hk : rowOK P e sh = true) (h : DataW.trod enc P W base spare held fuel e cs = some x) :
  cs.length = sh.length ∧ P.cellsOf e = sh.length ∧ ∀ (j : Nat) (c : Value),cs[j]? = some c → ∃ k,sh[j]? = some k ∧ k.ok c := by
 unfold rowOK at hk
 split at hk
 ·rename_i fs hu
  simp only [Bool.and_eq_true,beq_iff_eq,List.all_eq_true,List.mem_range] at hk
  obtain ⟨⟨h1,h2⟩,h3⟩ := hk
  obtain ⟨xs,n,_,_,h4,h5,h6⟩ := DataW.trod_struct hu h
  refine ⟨by omega,h1,fun j c hj => ?_⟩
  have hlt := (List.getElem?_eq_some_iff.1 hj).1
  have h7 := h3 j (by omega)
  split at h7
  ·rename_i f k hf hk
   simp only [Bool.and_eq_true,beq_iff_eq] at h7
   obtain ⟨⟨h8,h9⟩,h10⟩ := h7
   have h11 := h6 j f hf
   rw [h8,h9,List.getElem?_eq_getElem (by omega : j < xs.length)] at h11
   obtain ⟨c',h12,h13⟩ := ck_trod h10 h11
   have : c' = c := by
    have e1 : ((cs.drop j).take 1)[0]? = some c' := by rw [h12]; rfl
    rw [List.getElem?_take,if_pos (by omega),List.getElem?_drop,Nat.add_zero,hj] at e1
    exact (Option.some.inj e1).symm
   subst this
   exact ⟨k,hk,h13⟩
  ·cases h7
 ·cases hk
theorem spot_of_cell {w : World} {a : Addr} {x : Value} (h : w.cell? a = some x) : a.spot = none := by
 unfold World.cell? at h
 split at h
 ·split at h
  ·cases h
  ·rename_i hns
   cases hs : a.spot with
   | none => rfl
   | some _ => rw [hs] at hns; exact absurd rfl hns
 ·cases h
theorem open_rows {t e : TypeId} (sh : List CK) {base : Nat} {v : Value} {d : DataW H} {ps : List MemPlace} (ht : P.underlying t = some (.slice e)) (hk : rowOK P e sh = true) (hsz : 0 < sh.length)
  (hval : Value.okWide P W .any base t v) (h : DataW.Trod enc P W 0 (fun _ => true) true t v d ps) : ∃ (n : Nat) (xs : List Value),Sl W W.heap.size sh.length v n xs ∧ ∀ (j : Nat) (c : Value),xs[j]? = some c → ∃ k,sh[j % sh.length]? = some k ∧ k.ok c := by
 obtain ⟨a0,len,cap,rfl⟩ := okWide_slice ht hval
 obtain ⟨fuel,hf⟩ := h
 rcases DataW.trod_slice ht hf with ⟨hcs,_⟩ | ⟨a,len',cap',elems,rest,n,_,hcs,_,hb,hl,hm,hlen,hel,_⟩
 ·simp only [Value.cells] at hcs
  cases hcs
  exact ⟨0,[],⟨by simp,Nat.zero_le _,.inl ⟨rfl,rfl⟩⟩,fun j c hj => by simp at hj⟩
 ·simp only [Value.cells] at hcs
  cases hcs
  have each : ∀ i,i < len → ∀ r,r < sh.length → ∃ c k,W.cell? ((a.add (i * sh.length)).add r) = some c ∧ sh[r]? = some k ∧ k.ok c := by
   intro i hi r hr
   have h1 := hel i hi
   rw [List.getElem?_eq_getElem (by omega : i < elems.length),Option.bind_eq_some_iff] at h1
   obtain ⟨cs,h2,h3⟩ := h1
   obtain ⟨h4,h5,h6⟩ := row_trod hk h3
   rw [h5] at h2
   obtain ⟨_,h7,h8⟩ := World.cells?_some h2
   have h9 : cs[r]? = some cs[r] := List.getElem?_eq_getElem (by omega)
   obtain ⟨k,h10,h11⟩ := h6 r _ h9
   exact ⟨_,k,(h8 r hr).trans h9,h10,h11⟩
  have cell : ∀ j,j < len * sh.length → ∃ c k,W.cell? (a.add j) = some c ∧ sh[j % sh.length]? = some k ∧ k.ok c := by
   intro j hj
   have hi : j / sh.length < len := (Nat.div_lt_iff_lt_mul hsz).2 hj
   have hr := Nat.mod_lt j hsz
   have hsp : a.spot = none := by
    obtain ⟨c,_,h1,_⟩ := each 0 (Nat.lt_of_le_of_lt (Nat.zero_le _) hi) 0 hsz
    have := spot_of_cell h1
    simpa [Addr.add] using this
   obtain ⟨c,k,h1,h2,h3⟩ := each _ hi _ hr
   rw [Addr.add_off hsp] at h1
   have : j / sh.length * sh.length + j % sh.length = j := by rw [Nat.mul_comm]; exact Nat.div_add_mod j sh.length
   rw [this] at h1
   exact ⟨c,k,h1,h2,h3⟩
  refine ⟨len,(List.range (len * sh.length)).map fun j => (W.cell? (a.add j)).getD Go.undef,⟨by simp,Nat.le_trans hl hm,.inr ⟨a,cap,rfl,hl,hm,fun hp => ?_,fun j u hu => ?_⟩⟩,fun j c hj => ?_⟩
  ·obtain ⟨c,_,h1,_⟩ := cell 0 (Nat.mul_pos hp hsz)
   have := lt_of_cell h1
   simpa [Addr.add] using this
  ·rw [List.getElem?_map] at hu
   by_cases hj : j < len * sh.length
   ·rw [List.getElem?_range hj] at hu
    obtain ⟨c,_,h1,_⟩ := cell j hj
    simp only [Option.map_some,h1,Option.getD_some] at hu
    rw [h1]; exact hu
   ·rw [List.getElem?_eq_none (by simp; omega)] at hu; cases hu
  ·rw [List.getElem?_map] at hj
   by_cases hjl : j < len * sh.length
   ·rw [List.getElem?_range hjl] at hj
    obtain ⟨c',k,h1,h2,h3⟩ := cell j hjl
    simp only [Option.map_some,h1,Option.getD_some] at hj
    cases hj
    exact ⟨k,h2,h3⟩
   ·rw [List.getElem?_eq_none (by simp; omega)] at hj; cases hj
theorem open_threes {t e : TypeId} {base : Nat} {v : Value} {d : DataW H} {ps : List MemPlace} (ht : P.underlying t = some (.slice e)) (hk : rowOK P e [.i .i64,.i .i64,.i .i64] = true)
  (hval : Value.okWide P W .any base t v) (h : DataW.Trod enc P W 0 (fun _ => true) true t v d ps) : ∃ A : List (Int × Int × Int),Sl W W.heap.size 3 v A.length (A.flatMap fun e => [.int .i64 e.1,.int .i64 e.2.1,.int .i64 e.2.2]) ∧ ∀ e ∈ A,(Lit.int .i64 e.1).wf = true ∧ (Lit.int .i64 e.2.1).wf = true ∧ (Lit.int .i64 e.2.2).wf = true := by
 obtain ⟨n,xs,h1,h2⟩ := open_rows [.i .i64,.i .i64,.i .i64] ht hk (by decide) hval h
 have h3 : ∀ (j : Nat) (c : Value),xs[j]? = some c → ∃ z,c = .int .i64 z ∧ (Lit.int .i64 z).wf = true := by
  intro j c hj
  obtain ⟨k,h4,h5⟩ := h2 j c hj
  have : j % 3 < 3 := Nat.mod_lt _ (by omega)
  have h6 : ∀ r,r < 3 → ([.i .i64,.i .i64,.i .i64] : List CK)[r]? = some (.i .i64) := by
   intro r hr
   rcases r with _ | _ | _ | r
   ·rfl
   ·rfl
   ·rfl
   ·omega
  have h4 : ([.i .i64,.i .i64,.i .i64] : List CK)[j % 3]? = some k := h4
  rw [h6 _ this] at h4; cases h4; exact h5
 have chunk : ∀ (n : Nat) (xs : List Value),xs.length = n * 3 → (∀ (j : Nat) (c : Value),xs[j]? = some c → ∃ z,c = .int .i64 z ∧ (Lit.int .i64 z).wf = true) → ∃ A : List (Int × Int × Int),A.length = n ∧ xs = (A.flatMap fun e => [.int .i64 e.1,.int .i64 e.2.1,.int .i64 e.2.2]) ∧ ∀ e ∈ A,(Lit.int .i64 e.1).wf = true ∧ (Lit.int .i64 e.2.1).wf = true ∧ (Lit.int .i64 e.2.2).wf = true := by
  intro n
  induction n with
  | zero => intro xs hl _; exact ⟨[],rfl,by simpa using hl,by simp⟩
  | succ n ih =>
   intro xs hl hx
   match xs,hl,hx with
   | x :: y :: z :: xs,hl,hx =>
    obtain ⟨a,rfl,ha⟩ := hx 0 x rfl
    obtain ⟨b,rfl,hb⟩ := hx 1 y rfl
    obtain ⟨c,rfl,hc⟩ := hx 2 z rfl
    obtain ⟨A,g1,g2,g3⟩ := ih xs (by simp at hl; omega) (fun j c hj => hx (j + 3) c (by simpa using hj))
    refine ⟨(a,b,c) :: A,by simp [g1],by rw [g2]; simp,fun e he => ?_⟩
    rcases List.mem_cons.1 he with rfl | he
    ·exact ⟨ha,hb,hc⟩
    ·exact g3 e he
   | [],hl,_ => simp at hl
   | [_],hl,_ => simp at hl; omega
   | [_,_],hl,_ => simp at hl; omega
 obtain ⟨A,g1,g2,g3⟩ := chunk n xs h1.len h3
 exact ⟨A,by rw [g1,← g2]; exact h1,g3⟩
theorem open_twos {t e : TypeId} {base : Nat} {v : Value} {d : DataW H} {ps : List MemPlace} (ht : P.underlying t = some (.slice e)) (hk : rowOK P e [.i .i64,.i .i64] = true)
  (hval : Value.okWide P W .any base t v) (h : DataW.Trod enc P W 0 (fun _ => true) true t v d ps) : ∃ A : List (Int × Int),Sl W W.heap.size 2 v A.length (A.flatMap fun e => [.int .i64 e.1,.int .i64 e.2]) ∧ ∀ e ∈ A,(Lit.int .i64 e.1).wf = true ∧ (Lit.int .i64 e.2).wf = true := by
 obtain ⟨n,xs,h1,h2⟩ := open_rows [.i .i64,.i .i64] ht hk (by decide) hval h
 have h3 : ∀ (j : Nat) (c : Value),xs[j]? = some c → ∃ z,c = .int .i64 z ∧ (Lit.int .i64 z).wf = true := by
  intro j c hj
  obtain ⟨k,h4,h5⟩ := h2 j c hj
  have : j % 2 < 2 := Nat.mod_lt _ (by omega)
  have h6 : ∀ r,r < 2 → ([.i .i64,.i .i64] : List CK)[r]? = some (.i .i64) := by
   intro r hr
   rcases r with _ | _ | r
   ·rfl
   ·rfl
   ·omega
  have h4 : ([.i .i64,.i .i64] : List CK)[j % 2]? = some k := h4
  rw [h6 _ this] at h4; cases h4; exact h5
 have chunk : ∀ (n : Nat) (xs : List Value),xs.length = n * 2 → (∀ (j : Nat) (c : Value),xs[j]? = some c → ∃ z,c = .int .i64 z ∧ (Lit.int .i64 z).wf = true) → ∃ A : List (Int × Int),A.length = n ∧ xs = (A.flatMap fun e => [.int .i64 e.1,.int .i64 e.2]) ∧ ∀ e ∈ A,(Lit.int .i64 e.1).wf = true ∧ (Lit.int .i64 e.2).wf = true := by
  intro n
  induction n with
  | zero => intro xs hl _; exact ⟨[],rfl,by simpa using hl,by simp⟩
  | succ n ih =>
   intro xs hl hx
   match xs,hl,hx with
   | x :: y :: xs,hl,hx =>
    obtain ⟨a,rfl,ha⟩ := hx 0 x rfl
    obtain ⟨b,rfl,hb⟩ := hx 1 y rfl
    obtain ⟨A,g1,g2,g3⟩ := ih xs (by simp at hl; omega) (fun j c hj => hx (j + 2) c (by simpa using hj))
    refine ⟨(a,b) :: A,by simp [g1],by rw [g2]; simp,fun e he => ?_⟩
    rcases List.mem_cons.1 he with rfl | he
    ·exact ⟨ha,hb⟩
    ·exact g3 e he
   | [],hl,_ => simp at hl
   | [_],hl,_ => simp at hl; omega
 obtain ⟨A,g1,g2,g3⟩ := chunk n xs h1.len h3
 exact ⟨A,by rw [g1,← g2]; exact h1,g3⟩
end
end Go.Proofs.YtpbhcdbkmmjimaaGreatDoor
namespace Go.Proofs.YtpbhcdbkmmjimaaGreatDoor
open Go Go.LX
set_option maxRecDepth 100000
set_option linter.unusedVariables false
set_option linter.unusedSimpArgs false
set_option maxHeartbeats 32000000
inductive Meant (w : Int) : LV → Prop
 | place (x : Int) (h : w % 2 = 1) (hx : x = (w - 1) / 2) : Meant w (.iface 156 (.p (.int .i64 (.sym x))))
 | number (x : Int) (h : ¬ w % 2 = 1) (hx : x = w / 2) : Meant w (.iface 164 (.p (.int .i64 (.sym x))))
theorem and1_bv (x : Int) : IntKind.i64.wrap ((BitVec.ofInt 64 x &&& BitVec.ofInt 64 1).toNat : Int) = x % 2 := and1_i64 x
theorem meaning_lx (w : Int) (hw : -9223372036854775808 ≤ w ∧ w ≤ 9223372036854775807) : CallF (fun _ => Tryz.prog) 120 [i6 w] [] 0 (fun r h n => Meant w r ∧ h = [] ∧ n = 0) := by
 refine callF_of_body tok Tryz.func120 (by kernel_rfl) rfl rfl rfl ?_; conv => cbv
 refine Sum.mk fun u hu => ?_
 have hu : u = w % 2 := hu.trans (and1_bv w)
 conv => cbv
 refine Br.mk (fun g => ?_) (fun g => ?_)
 ·have g : u = 1 := g
  conv => cbv
  refine Fit.mk (by show (-9223372036854775808 : Int) ≤ w - 1; omega) (by show w - 1 ≤ 9223372036854775807; omega) fun v hv => ?_
  have hv : v = w - 1 := hv
  conv => cbv
  have hdv : v.tdiv 2 = (w - 1) / 2 := by rw [hv]; exact Int.tdiv_eq_ediv_of_dvd (by omega)
  refine Fit.mk (by show (-9223372036854775808 : Int) ≤ v.tdiv 2; omega) (by show v.tdiv 2 ≤ 9223372036854775807; omega) fun y hy => ?_
  have hy : y = (w - 1) / 2 := hy.trans hdv
  conv => cbv
  refine RetF.mk [.iface 156 (.p (.int .i64 (.sym y)))] [] 0 (Re.at [] []) rfl ⟨.place y (by omega) hy,rfl,rfl⟩
 ·have g : ¬ u = 1 := g
  conv => cbv
  have hdv : w.tdiv 2 = w / 2 := Int.tdiv_eq_ediv_of_dvd (by omega)
  refine Fit.mk (by show (-9223372036854775808 : Int) ≤ w.tdiv 2; omega) (by show w.tdiv 2 ≤ 9223372036854775807; omega) fun y hy => ?_
  conv => cbv
  refine RetF.mk [.iface 164 (.p (.int .i64 (.sym y)))] [] 0 (Re.at [] []) rfl ⟨.number y (by omega) (hy.trans hdv),rfl,rfl⟩
theorem isPtr_lx (w : Int) (hw : -9223372036854775808 ≤ w ∧ w ≤ 9223372036854775807) : CallF (fun _ => Tryz.prog) 92 [i6 w] [] 0 (fun r h n => ∃ b : Bool,r = .p (.bool b) ∧ h = [] ∧ n = 0 ∧ (b = true ↔ w % 2 = 1)) := by
 refine callF_of_body tok Tryz.func92 (by kernel_rfl) rfl rfl rfl ?_; conv => cbv
 refine callF_frame (meaning_lx w hw) [] rfl trivial rfl rfl (fun r h' n' hrr => ?_)
 obtain ⟨hm,e2,e3⟩ := hrr
 subst e2 e3
 cases hm with
 | place x h hx =>
  conv => cbv
  refine RetF.mk [.p (.bool true)] [] 0 (Re.at [] []) rfl ⟨true,rfl,rfl,rfl,fun _ => h,fun _ => rfl⟩
 | number x h hx =>
  conv => cbv
  refine RetF.mk [.p (.bool false)] [] 0 (Re.at [] []) rfl ⟨false,rfl,rfl,rfl,fun k => (by cases k),fun k => absurd k h⟩
theorem atV_lx (w : Int) (hw : -9223372036854775808 ≤ w ∧ w ≤ 9223372036854775807) : CallF (fun _ => Tryz.prog) 93 [i6 w] [] 0 (fun r h n => ∃ x : Int,r = .p (.int .i64 (.sym x)) ∧ h = [] ∧ n = 0 ∧ (w % 2 = 1 → x = (w - 1) / 2) ∧ (¬ w % 2 = 1 → x = -1)) := by
 refine callF_of_body tok Tryz.func93 (by kernel_rfl) rfl rfl rfl ?_; conv => cbv
 refine callF_frame (meaning_lx w hw) [] rfl trivial rfl rfl (fun r h' n' hrr => ?_)
 obtain ⟨hm,e2,e3⟩ := hrr
 subst e2 e3
 cases hm with
 | place x h hx =>
  conv => cbv
  refine RetF.mk [i6 x] [] 0 (Re.at [] []) rfl ⟨x,rfl,rfl,rfl,fun _ => hx,fun k => absurd h k⟩
 | number x h hx =>
  conv => cbv
  refine RetF.mk [i6 (-1)] [] 0 (Re.at [] []) rfl ⟨-1,rfl,rfl,rfl,fun k => absurd k h,fun _ => rfl⟩
end Go.Proofs.YtpbhcdbkmmjimaaGreatDoor
namespace Go.Proofs.YtpbhcdbkmmjimaaGreatDoor
open Go Go.LX
set_option maxRecDepth 100000
set_option linter.unusedVariables false
set_option linter.unusedSimpArgs false
set_option maxHeartbeats 32000000
def objs (R : List Rw) : List Int := objsTo R R.length
def K1 (R : List Rw) (ws : List Int) : Prop := ∀ a k l,Kept R ws a k l → 1 ≤ k
structure HM (R : List Rw) (ws C G : List Int) (N W : Int) (L D Q : List PV) (z : ByteArray) : Prop where
 a : AOk R ws
 k : K1 R ws
 n : N = R.length
 r : R.length ≤ 1000
 w : W = 32 * N
 l : L = rpv R
 d : D = ipv ws
 q : Q = ipv C
 c : (C.length : Int) = W
 z : z = ⟨(enc G).toArray⟩
 g : ∀ x ∈ G,0 ≤ x ∧ x < W
 g8 : G.length ≤ 8
def shade (R : List Rw) (ph a : Int) (s : List Int × List Int × Bool) : List Int × List Int × Bool :=
 if ph = 1 ∧ a ∈ objs R ∧ s.1[a.toNat]? = some 0 then (s.1.set a.toNat 1,if s.2.1.length < 8 then (s.2.1 ++ [a],s.2.2) else (s.2.1,true)) else s
theorem obj_iff {R : List Rw} {ws : List Int} (hA : AOk R ws) (a : Int) : a ∈ objs R ↔ IsObj R a := objs_mem hA.rows a
theorem obj_bd {R : List Rw} {ws : List Int} (hA : AOk R ws) {a : Int} (h : a ∈ objs R) : 0 ≤ a ∧ a < 32 * R.length := by
 obtain ⟨k,l,hk⟩ := Kept.of hA ((obj_iff hA a).1 h)
 have := hk.bounds hA
 omega
theorem HM.g64 {R : List Rw} {ws C G : List Int} {N W : Int} {L D Q : List PV} {z : ByteArray} (h : HM R ws C G N W L D Q z) : ∀ x ∈ G,i64 x := by
 intro x hx
 have h1 := h.g x hx; have h2 := h.w; have h3 := h.n; have h4 := h.r
 exact ⟨by omega,by omega⟩
theorem HM.shade {R : List Rw} {ws C G C' G' : List Int} {N W : Int} {L D Q Q' : List PV} {z z' : ByteArray} {ph a : Int} {ov ov' : Bool} (h : HM R ws C G N W L D Q z) (hs : (C',G',ov') = shade R ph a (C,G,ov)) (hQ : Q' = ipv C') (hz : z' = ⟨(enc G').toArray⟩) : HM R ws C' G' N W L D Q' z' := by
 unfold Go.Proofs.YtpbhcdbkmmjimaaGreatDoor.shade at hs
 split at hs
 ·rename_i hc
  have hb := obj_bd h.a hc.2.1
  have hn := h.n; have hw := h.w
  split at hs
  ·rename_i h8
   have h8 : G.length < 8 := h8
   have hl8 : (G ++ [a]).length ≤ 8 := by rw [List.length_append]; show G.length + 1 ≤ 8; omega
   cases hs
   refine ⟨h.a,h.k,h.n,h.r,h.w,h.l,h.d,hQ,by rw [List.length_set]; exact h.c,hz,fun x hx => ?_,hl8⟩
   rcases List.mem_append.1 hx with hx | hx
   ·exact h.g x hx
   ·rw [List.mem_singleton.1 hx]; omega
  ·cases hs
   exact ⟨h.a,h.k,h.n,h.r,h.w,h.l,h.d,hQ,by rw [List.length_set]; exact h.c,hz,h.g,h.g8⟩
 ·cases hs
  exact ⟨h.a,h.k,h.n,h.r,h.w,h.l,h.d,hQ,h.c,hz,h.g,h.g8⟩
theorem ipv_set (l : List Int) (i : Nat) (x : Int) : (ipv l).set i (.int .i64 (.sym x)) = ipv (l.set i x) := by
 unfold ipv
 rw [List.map_set]
theorem arena_lx (R : List Rw) (ws C G : List Int) (N W ph sp cy : Int) (L D Q : List PV) (z : ByteArray) (ov : Bool) : CallF (fun _ => Tryz.prog) 32 [.ptr 0 (.lit 0)] [hpA 0 1 5 6 3 W ph sp cy,hpB 1 2 4 3 W,hpC 2 3 137 2 N,hpP 3 L,hpP 4 D,hpF 5 z ov,hpP 6 Q] 7 (fun r h n => r = .ptr 1 (.lit 0) ∧ h = [hpA 0 1 5 6 3 W ph sp cy,hpB 1 2 4 3 W,hpC 2 3 137 2 N,hpP 3 L,hpP 4 D,hpF 5 z ov,hpP 6 Q] ∧ n = 7) := by
 refine callF_of_body tok Tryz.func32 (by kernel_rfl) rfl rfl rfl ?_; conv => cbv
 refine RetF.mk [.ptr 1 (.lit 0)] [hpA 0 1 5 6 3 W ph sp cy,hpB 1 2 4 3 W,hpC 2 3 137 2 N,hpP 3 L,hpP 4 D,hpF 5 z ov,hpP 6 Q] 7 (Re.at [(0,0),(1,1),(2,2),(3,3),(4,4),(5,5),(6,6)] []) rfl ⟨rfl,rfl,rfl⟩
theorem arenaNil_lx : CallF (fun _ => Tryz.prog) 32 [.p .nilp] [] 0 (fun r h n => r = .p .nilp ∧ h = [] ∧ n = 0) := by
 refine callF_of_body tok Tryz.func32 (by kernel_rfl) rfl rfl rfl ?_; conv => cbv
 refine RetF.mk [.p .nilp] [] 0 (Re.at [] []) rfl ⟨rfl,rfl,rfl⟩
theorem phase_lx (R : List Rw) (ws C G : List Int) (N W ph sp cy : Int) (L D Q : List PV) (z : ByteArray) (ov : Bool) : CallF (fun _ => Tryz.prog) 31 [.ptr 0 (.lit 0)] [hpA 0 1 5 6 3 W ph sp cy,hpB 1 2 4 3 W,hpC 2 3 137 2 N,hpP 3 L,hpP 4 D,hpF 5 z ov,hpP 6 Q] 7 (fun r h n => r = .p (.int .i64 (.sym ph)) ∧ h = [hpA 0 1 5 6 3 W ph sp cy,hpB 1 2 4 3 W,hpC 2 3 137 2 N,hpP 3 L,hpP 4 D,hpF 5 z ov,hpP 6 Q] ∧ n = 7) := by
 refine callF_of_body tok Tryz.func31 (by kernel_rfl) rfl rfl rfl ?_; conv => cbv
 refine RetF.mk [i6 ph] [hpA 0 1 5 6 3 W ph sp cy,hpB 1 2 4 3 W,hpC 2 3 137 2 N,hpP 3 L,hpP 4 D,hpF 5 z ov,hpP 6 Q] 7 (Re.at [(0,0),(1,1),(2,2),(3,3),(4,4),(5,5),(6,6)] []) rfl ⟨rfl,rfl,rfl⟩
theorem phaseNil_lx : CallF (fun _ => Tryz.prog) 31 [.p .nilp] [] 0 (fun r h n => r = .p (.int .i64 (.sym 0)) ∧ h = [] ∧ n = 0) := by
 refine callF_of_body tok Tryz.func31 (by kernel_rfl) rfl rfl rfl ?_; conv => cbv
 refine RetF.mk [i6 0] [] 0 (Re.at [] []) rfl ⟨rfl,rfl,rfl⟩
theorem cyclesH_lx (R : List Rw) (ws C G : List Int) (N W ph sp cy : Int) (L D Q : List PV) (z : ByteArray) (ov : Bool) : CallF (fun _ => Tryz.prog) 39 [.ptr 0 (.lit 0)] [hpA 0 1 5 6 3 W ph sp cy,hpB 1 2 4 3 W,hpC 2 3 137 2 N,hpP 3 L,hpP 4 D,hpF 5 z ov,hpP 6 Q] 7 (fun r h n => r = .p (.int .i64 (.sym cy)) ∧ h = [hpA 0 1 5 6 3 W ph sp cy,hpB 1 2 4 3 W,hpC 2 3 137 2 N,hpP 3 L,hpP 4 D,hpF 5 z ov,hpP 6 Q] ∧ n = 7) := by
 refine callF_of_body tok Tryz.func39 (by kernel_rfl) rfl rfl rfl ?_; conv => cbv
 refine RetF.mk [i6 cy] [hpA 0 1 5 6 3 W ph sp cy,hpB 1 2 4 3 W,hpC 2 3 137 2 N,hpP 3 L,hpP 4 D,hpF 5 z ov,hpP 6 Q] 7 (Re.at [(0,0),(1,1),(2,2),(3,3),(4,4),(5,5),(6,6)] []) rfl ⟨rfl,rfl,rfl⟩
theorem cyclesNil_lx : CallF (fun _ => Tryz.prog) 39 [.p .nilp] [] 0 (fun r h n => r = .p (.int .i64 (.sym 0)) ∧ h = [] ∧ n = 0) := by
 refine callF_of_body tok Tryz.func39 (by kernel_rfl) rfl rfl rfl ?_; conv => cbv
 refine RetF.mk [i6 0] [] 0 (Re.at [] []) rfl ⟨rfl,rfl,rfl⟩
theorem is_lx (R : List Rw) (ws C G : List Int) (N W ph sp cy : Int) (L D Q : List PV) (z : ByteArray) (ov : Bool) (h : HM R ws C G N W L D Q z) (a c : Int) : CallF (fun _ => Tryz.prog) 109 [.ptr 0 (.lit 0),i6 a,i6 c] [hpA 0 1 5 6 3 W ph sp cy,hpB 1 2 4 3 W,hpC 2 3 137 2 N,hpP 3 L,hpP 4 D,hpF 5 z ov,hpP 6 Q] 7 (fun r h n => ∃ b : Bool,r = .p (.bool b) ∧ h = [hpA 0 1 5 6 3 W ph sp cy,hpB 1 2 4 3 W,hpC 2 3 137 2 N,hpP 3 L,hpP 4 D,hpF 5 z ov,hpP 6 Q] ∧ n = 7 ∧ (b = true ↔ a ∈ objs R ∧ C[a.toNat]? = some c)) := by
 have hCl := h.c; have hWn := h.w; have hNr := h.n
 have hQl : Q.length = C.length := by rw [h.q,ipv_length]
 refine callF_of_body tok Tryz.func109 (by kernel_rfl) rfl rfl rfl ?_; conv => cbv
 refine cfr (arena_lx R ws C G N W ph sp cy L D Q z ov) [(0,0),(1,1),(2,2),(3,3),(4,4),(5,5),(6,6)] (fun r h' n' ⟨e1,e2,e3⟩ => ?_)
 subst e1 e2 e3
 conv => cbv
 refine cfr (kind_lx R ws N a W L D h.l h.d h.n h.r h.a h.w) [(0,1),(1,2),(2,3),(3,4)] (fun r h' n' hrr => ?_)
 obtain ⟨v,e1,e2,e3,hv⟩ := hrr
 subst e1 e2 e3
 conv => cbv
 refine Br.mk (fun g => ?_) (fun g => ?_)
 ·have g : v ≠ 0 := g
  obtain ⟨l,hk⟩ : ∃ l,Kept R ws a v l := by
   cases hv with
   | no hn => exact absurd rfl g
   | is k l hk => exact ⟨l,hk⟩
  have hb := hk.bounds h.a
  have ho : a ∈ objs R := (obj_iff h.a a).2 hk.obj6
  obtain ⟨x,hx⟩ : ∃ x,C[a.toNat]? = some x := ⟨_,List.getElem?_eq_getElem (by omega)⟩
  have hq : Q[a.toNat]? = some (.int .i64 (.sym x)) := by rw [h.q]; exact ipv_get hx
  conv => cbv
  refine Need.mk ⟨by show 0 ≤ a; omega,by show a < W; omega⟩ ?_
  conv => cbv
  refine Cell.at a _ hq (by simp [I.val]) rfl ?_
  conv => cbv
  refine Br.mk (fun g2 => ?_) (fun g2 => ?_)
  ·have g2 : x = c := g2
   conv => cbv
   refine RetF.mk [.p (.bool true)] [hpA 0 1 5 6 3 W ph sp cy,hpB 1 2 4 3 W,hpC 2 3 137 2 N,hpP 3 L,hpP 4 D,hpF 5 z ov,hpP 6 Q] 7 (Re.at [(0,0),(1,1),(2,2),(3,3),(4,4),(5,5),(6,6)] []) rfl ⟨true,rfl,rfl,rfl,fun _ => ⟨ho,by rw [hx,g2]⟩,fun _ => rfl⟩
  ·have g2 : ¬ x = c := g2
   conv => cbv
   refine RetF.mk [.p (.bool false)] [hpA 0 1 5 6 3 W ph sp cy,hpB 1 2 4 3 W,hpC 2 3 137 2 N,hpP 3 L,hpP 4 D,hpF 5 z ov,hpP 6 Q] 7 (Re.at [(0,0),(1,1),(2,2),(3,3),(4,4),(5,5),(6,6)] []) rfl ⟨false,rfl,rfl,rfl,fun k => (by cases k),fun h => absurd (Option.some.inj (hx.symm.trans h.2)) g2⟩
 ·have g : ¬ v ≠ 0 := g
  have hno : ¬ a ∈ objs R := by
   intro ho
   cases hv with
   | no hn => exact hn ((obj_iff h.a a).1 ho)
   | is k l hk => have := h.k a v l hk; omega
  conv => cbv
  refine RetF.mk [.p (.bool false)] [hpA 0 1 5 6 3 W ph sp cy,hpB 1 2 4 3 W,hpC 2 3 137 2 N,hpP 3 L,hpP 4 D,hpF 5 z ov,hpP 6 Q] 7 (Re.at [(0,0),(1,1),(2,2),(3,3),(4,4),(5,5),(6,6)] []) rfl ⟨false,rfl,rfl,rfl,fun k => (by cases k),fun h => absurd h.1 hno⟩
theorem shade_lx (R : List Rw) (ws C G : List Int) (N W ph sp cy : Int) (L D Q : List PV) (z : ByteArray) (ov : Bool) (h : HM R ws C G N W L D Q z) (o : Unit → Obj) (ho : IsPow o) (a : Int) : CallF (fun _ => Tryz.prog) 85 [.ptr 0 (.lit 0),i6 a] [hpA 0 1 5 6 3 W ph sp cy,hpB 1 2 4 3 W,hpC 2 3 137 2 N,hpP 3 L,hpP 4 D,hpF 5 z ov,hpP 6 Q,(7,.fix 0 o)] 8 (fun r h n => ∃ (C' G' : List Int) (ov' : Bool) (Q' : List PV) (z' : ByteArray),r = .tup [] ∧ h = [hpA 0 1 5 6 3 W ph sp cy,hpB 1 2 4 3 W,hpC 2 3 137 2 N,hpP 3 L,hpP 4 D,hpF 5 z' ov',hpP 6 Q',(7,.fix 0 o)] ∧ n = 8 ∧ HM R ws C' G' N W L D Q' z' ∧ (C',G',ov') = shade R ph a (C,G,ov)) := by
 have hCl := h.c; have hWn := h.w; have hNr := h.n; have hRr := h.r
 have hQl : Q.length = C.length := by rw [h.q,ipv_length]
 refine callF_of_body tok Tryz.func85 (by kernel_rfl) rfl rfl rfl ?_; conv => cbv
 refine cfr (phase_lx R ws C G N W ph sp cy L D Q z ov) [(0,0),(1,1),(2,2),(3,3),(4,4),(5,5),(6,6)] (fun r h' n' ⟨e1,e2,e3⟩ => ?_)
 subst e1 e2 e3
 conv => cbv
 refine Br.mk (fun g => ?_) (fun g => ?_)
 ·have g : ph ≠ 1 := g
  conv => cbv
  refine RetF.mk [] [hpA 0 1 5 6 3 W ph sp cy,hpB 1 2 4 3 W,hpC 2 3 137 2 N,hpP 3 L,hpP 4 D,hpF 5 z ov,hpP 6 Q,(7,.fix 0 o)] 8 (Re.at [(0,0),(1,1),(2,2),(3,3),(4,4),(5,5),(6,6),(7,7)] []) rfl ⟨C,G,ov,Q,z,rfl,rfl,rfl,h,by unfold Go.Proofs.YtpbhcdbkmmjimaaGreatDoor.shade; rw [if_neg (fun k => g k.1)]⟩
 ·have g : ¬ ph ≠ 1 := g
  have g : ph = 1 := by omega
  conv => cbv
  refine CallF.le (args0 := [.ptr 0 (.lit 0),i6 a,i6 0]) (cfr (is_lx R ws C G N W ph sp cy L D Q z ov h a 0) [(0,0),(1,1),(2,2),(3,3),(4,4),(5,5),(6,6)] (fun r h' n' hrr => ?_)) (by simp [ales,ale,pvle,I.val])
  obtain ⟨b,e1,e2,e3,hb⟩ := hrr
  subst e1 e2 e3
  cases b with
  | false =>
   conv => cbv
   refine RetF.mk [] [hpA 0 1 5 6 3 W ph sp cy,hpB 1 2 4 3 W,hpC 2 3 137 2 N,hpP 3 L,hpP 4 D,hpF 5 z ov,hpP 6 Q,(7,.fix 0 o)] 8 (Re.at [(0,0),(1,1),(2,2),(3,3),(4,4),(5,5),(6,6),(7,7)] []) rfl ⟨C,G,ov,Q,z,rfl,rfl,rfl,h,by unfold Go.Proofs.YtpbhcdbkmmjimaaGreatDoor.shade; rw [if_neg (fun k => by have := hb.2 k.2; cases this)]⟩
  | true =>
   have hbd := obj_bd h.a (hb.1 rfl).1
   conv => cbv
   refine Need.mk ⟨by show 0 ≤ a; omega,by show a < W; omega⟩ ?_
   conv => cbv
   refine Need.mk (by show a + 1 ≤ (Q.length : Int); omega) ?_
   conv => cbv
   refine Upd.mk fun Q2 hQ2 => ?_
   obtain ⟨Q3,hQ3⟩ : ∃ Q3,Q3 = ipv (C.set a.toNat 1) := ⟨_,rfl⟩
   have hle : pvles Q2 Q3 := by
    have hQ2 : Q2 = Q.set a.toNat (.int .i64 (.lit 1)) := hQ2
    rw [hQ2,hQ3,h.q,← ipv_set]
    exact pvles_set _ _ _ _ _ (pvles_refl _) (by simp [pvle,I.val])
   unfold pvles at hle
   clear hQ2
   conv => cbv
   refine cfr (greyPush_lx G a z ov o ho h.z h.g64 h.g8 ⟨by omega,by omega⟩) [(0,7),(1,5)] (fun r h' n' hrr => ?_)
   obtain ⟨b2,ov',z',G',e1,e2,e3,hz',hp1,hp2⟩ := hrr
   subst e1 e2 e3
   have hsh : (C.set a.toNat 1,G',ov') = Go.Proofs.YtpbhcdbkmmjimaaGreatDoor.shade R ph a (C,G,ov) := by
    unfold Go.Proofs.YtpbhcdbkmmjimaaGreatDoor.shade
    rw [if_pos ⟨g,hb.1 rfl⟩]
    dsimp only
    split
    ·obtain ⟨_,q1,q2⟩ := hp1 (by assumption)
     rw [q1,q2]
    ·obtain ⟨_,q1,q2⟩ := hp2 (by omega)
     rw [q1,q2]
   conv => cbv
   refine RetF.mk [] [hpA 0 1 5 6 3 W ph sp cy,hpB 1 2 4 3 W,hpC 2 3 137 2 N,hpP 3 L,hpP 4 D,hpF 5 z' ov',hpP 6 Q3,(7,.fix 0 o)] 8 (Re.at [(0,0),(1,1),(2,2),(3,3),(4,4),(5,5),(6,6),(7,7)] []) rfl ⟨_,G',ov',Q3,z',rfl,rfl,rfl,h.shade hsh hQ3 hz',hsh⟩
def shadeW (R : List Rw) (ph w : Int) (s : List Int × List Int × Bool) : List Int × List Int × Bool := if w % 2 = 1 then shade R ph ((w - 1) / 2) s else s
theorem shadeWord_lx (R : List Rw) (ws C G : List Int) (N W ph sp cy : Int) (L D Q : List PV) (z : ByteArray) (ov : Bool) (h : HM R ws C G N W L D Q z) (o : Unit → Obj) (ho : IsPow o) (w : Int) (hw : -9223372036854775808 ≤ w ∧ w ≤ 9223372036854775807) : CallF (fun _ => Tryz.prog) 52 [.ptr 0 (.lit 0),i6 w] [hpA 0 1 5 6 3 W ph sp cy,hpB 1 2 4 3 W,hpC 2 3 137 2 N,hpP 3 L,hpP 4 D,hpF 5 z ov,hpP 6 Q,(7,.fix 0 o)] 8 (fun r h n => ∃ (C' G' : List Int) (ov' : Bool) (Q' : List PV) (z' : ByteArray),r = .tup [] ∧ h = [hpA 0 1 5 6 3 W ph sp cy,hpB 1 2 4 3 W,hpC 2 3 137 2 N,hpP 3 L,hpP 4 D,hpF 5 z' ov',hpP 6 Q',(7,.fix 0 o)] ∧ n = 8 ∧ HM R ws C' G' N W L D Q' z' ∧ (C',G',ov') = shadeW R ph w (C,G,ov)) := by
 refine callF_of_body tok Tryz.func52 (by kernel_rfl) rfl rfl rfl ?_; conv => cbv
 refine callF_frame (isPtr_lx w hw) [] rfl trivial rfl rfl (fun r h' n' hrr => ?_)
 obtain ⟨b,e1,e2,e3,hb⟩ := hrr
 subst e1 e2 e3
 cases b with
 | false =>
  have hb : ¬ w % 2 = 1 := fun k => by have := hb.2 k; cases this
  conv => cbv
  refine RetF.mk [] [hpA 0 1 5 6 3 W ph sp cy,hpB 1 2 4 3 W,hpC 2 3 137 2 N,hpP 3 L,hpP 4 D,hpF 5 z ov,hpP 6 Q,(7,.fix 0 o)] 8 (Re.at [(0,0),(1,1),(2,2),(3,3),(4,4),(5,5),(6,6),(7,7)] []) rfl ⟨C,G,ov,Q,z,rfl,rfl,rfl,h,by unfold shadeW; rw [if_neg (by omega)]⟩
 | true =>
  have hb : w % 2 = 1 := hb.1 rfl
  conv => cbv
  refine callF_frame (atV_lx w hw) [] rfl trivial rfl rfl (fun r h' n' hrr => ?_)
  obtain ⟨x,e1,e2,e3,hx⟩ := hrr
  subst e1 e2 e3
  have hx : x = (w - 1) / 2 := hx.1 hb
  conv => cbv
  refine cfr (shade_lx R ws C G N W ph sp cy L D Q z ov h o ho x) [(0,0),(1,1),(2,2),(3,3),(4,4),(5,5),(6,6),(7,7)] (fun r h' n' hrr => ?_)
  obtain ⟨C',G',ov',Q',z',e1,e2,e3,h2,hs⟩ := hrr
  subst e1 e2 e3
  conv => cbv
  refine RetF.mk [] [hpA 0 1 5 6 3 W ph sp cy,hpB 1 2 4 3 W,hpC 2 3 137 2 N,hpP 3 L,hpP 4 D,hpF 5 z' ov',hpP 6 Q',(7,.fix 0 o)] 8 (Re.at [(0,0),(1,1),(2,2),(3,3),(4,4),(5,5),(6,6),(7,7)] []) rfl ⟨C',G',ov',Q',z',rfl,rfl,rfl,h2,by unfold shadeW; rw [if_pos hb,← hx]; exact hs⟩
end Go.Proofs.YtpbhcdbkmmjimaaGreatDoor
namespace Go.Proofs.YtpbhcdbkmmjimaaGreatDoor
open Go Go.LX
set_option maxRecDepth 100000
set_option linter.unusedVariables false
set_option linter.unusedSimpArgs false
set_option maxHeartbeats 32000000
def Wrds (R : List Rw) (ws : List Int) (a : Int) (X : List Int) : Prop := LenR R ws a X.length ∧ ∀ (i : Nat) (x : Int),X[i]? = some x → Loaded R ws a i x 0
theorem Kept.det9 {R : List Rw} {ws : List Int} {a k l k' l' : Int} (h : Kept R ws a k l) (h' : Kept R ws a k' l') : k = k' ∧ l = l' := by
 obtain ⟨w,_,h1,h2,h3,h4,h5⟩ := h
 obtain ⟨w',_,k1,k2,k3,k4,k5⟩ := h'
 rw [h1] at k1
 have := Option.some.inj k1
 omega
theorem wrds_ex {R : List Rw} {ws : List Int} {a l : Int} (hA : AOk R ws) (h : LenR R ws a l) : ∃ X,Wrds R ws a X ∧ l = X.length ∧ X.length ≤ 31 := by
 cases h with
 | no hn => exact ⟨[],⟨.no hn,fun i x hx => by simp at hx⟩,rfl,by simp⟩
 | is k l hk =>
  have hb := hk.bounds hA
  have hlen := hA.len
  refine ⟨(ws.drop (a + 1).toNat).take l.toNat,⟨?_,fun i x hx => ?_⟩,?_,?_⟩
  ·have : (((ws.drop (a + 1).toNat).take l.toNat).length : Int) = l := by rw [List.length_take,List.length_drop]; omega
   rw [this]; exact .is k l hk
  ·rw [List.getElem?_take] at hx
   split at hx
   ·rw [List.getElem?_drop] at hx
    refine .ok k l x hk ⟨by omega,by omega⟩ ?_
    rw [show (a + 1 + (i : Int)).toNat = (a + 1).toNat + i by omega]; exact hx
   ·cases hx
  ·rw [List.length_take,List.length_drop]; omega
  ·rw [List.length_take]; omega
theorem loaded_det {R : List Rw} {ws : List Int} {a i x e y f : Int} (h : Loaded R ws a i x e) (h' : Loaded R ws a i y f) : x = y ∧ e = f := by
 cases h with
 | none hn => cases h' with
  | none _ => exact ⟨rfl,rfl⟩
  | arg k l hk _ => exact absurd hk.obj6 hn
  | ok k l x hk _ _ => exact absurd hk.obj6 hn
 | arg k l hk hi => cases h' with
  | none hn => exact absurd hk.obj6 hn
  | arg _ _ _ _ => exact ⟨rfl,rfl⟩
  | ok k' l' x hk' hi' _ => obtain ⟨_,rfl⟩ := hk.det9 hk'; exact absurd hi' hi
 | ok k l x hk hi hx => cases h' with
  | none hn => exact absurd hk.obj6 hn
  | arg k' l' hk' hi' => obtain ⟨_,rfl⟩ := hk.det9 hk'; exact absurd hi hi'
  | ok k' l' y hk' hi' hy => rw [hx] at hy; exact ⟨Option.some.inj hy,rfl⟩
theorem Wrds.bd {R : List Rw} {ws X : List Int} {a : Int} (hA : AOk R ws) (h : Wrds R ws a X) : ∀ x ∈ X,-9223372036854775808 ≤ x ∧ x ≤ 9223372036854775807 := by
 intro x hx
 obtain ⟨i,hi⟩ := List.getElem?_of_mem hx
 cases h.2 i x hi with
 | ok k l _ hk hi hx => exact hA.bd x (List.mem_of_getElem? hx)
theorem wordsH_lx (R : List Rw) (ws C G : List Int) (N W ph sp cy : Int) (L D Q : List PV) (z : ByteArray) (ov : Bool) (h : HM R ws C G N W L D Q z) (a : Int) : CallF (fun _ => Tryz.prog) 115 [.ptr 0 (.lit 0),i6 a] [hpA 0 1 5 6 3 W ph sp cy,hpB 1 2 4 3 W,hpC 2 3 137 2 N,hpP 3 L,hpP 4 D,hpF 5 z ov,hpP 6 Q] 7 (fun r h n => ∃ (X : List Int) (m : Int) (O : List PV),r = .sl 7 3 1 (.lit 0) (.sym m) ∧ h = [hpA 0 1 5 6 3 W ph sp cy,hpB 1 2 4 3 W,hpC 2 3 137 2 N,hpP 3 L,hpP 4 D,hpF 5 z ov,hpP 6 Q,hpP 7 O] ∧ n = 8 ∧ O = ipv X ∧ m = X.length ∧ Wrds R ws a X) := by
 refine callF_of_body tok Tryz.func115 (by kernel_rfl) rfl rfl rfl ?_; conv => cbv
 refine cfr (len_lx R ws N a W L D h.l h.d h.n h.r h.a h.w) [(0,1),(1,2),(2,3),(3,4)] (fun r h' n' hrr => ?_)
 obtain ⟨v,e1,e2,e3,hv⟩ := hrr
 subst e1 e2 e3
 conv => cbv
 obtain ⟨X,hX,hvX,hX31⟩ := wrds_ex h.a hv
 refine LoopF.mk (fun k s => ∃ (i : Int) (O : List PV),s = ⟨.ptr 0 (.lit 0) :: .p (.int .i64 (.sym a)) :: (undefs 3 ++ .sl 7 3 1 (.lit 0) (.sym i) :: (undefs 8 ++ .p (.int .i64 (.sym v)) :: .p (.int .i64 (.sym i)) :: undefs 18)),[hpA 0 1 5 6 3 W ph sp cy,hpB 1 2 4 3 W,hpC 2 3 137 2 N,hpP 3 L,hpP 4 D,hpF 5 z ov,hpP 6 Q,hpP 7 O],8⟩ ∧ 0 ≤ i ∧ i ≤ v ∧ O = ipv (X.take i.toNat) ∧ k = (v - i).toNat) v.toNat _
  (Re.at [(0,0),(1,1),(2,2),(3,3),(4,4),(5,5),(6,6)] [7]) ⟨0,[],rfl,by omega,by omega,by simp [ipv],by omega⟩ ?_
 rintro k s ⟨i,O,rfl,hi0,hi1,hO,hk⟩
 have hOl : (O.length : Int) = i := by rw [hO,ipv_length,List.length_take]; omega
 conv => cbv
 refine Br.mk (fun gi => ?_) (fun gi => ?_)
 ·have gi : i < v := gi
  obtain ⟨k',rfl⟩ : ∃ k',k = k' + 1 := ⟨k - 1,by omega⟩
  obtain ⟨x0,hx0⟩ : ∃ x0,X[i.toNat]? = some x0 := ⟨_,List.getElem?_eq_getElem (by omega)⟩
  have hld := hX.2 _ _ hx0
  rw [show ((i.toNat : Nat) : Int) = i by omega] at hld
  conv => cbv
  refine cfr (load_lx i R ws N a W L D h.l h.d h.n h.r h.a h.w) [(0,1),(1,2),(2,3),(3,4)] (fun r h' n' hrr => ?_)
  obtain ⟨x,e,e1,e2,e3,hx⟩ := hrr
  subst e1 e2 e3
  obtain ⟨rfl,rfl⟩ := loaded_det hx hld
  conv => cbv
  refine Room.new rfl ?_
  conv => cbv
  refine Room.new ⟨?_,?_,?_⟩ ?_
  ·show (O.length : Int) = i * 1; omega
  ·show (i + 1) * 8 ≤ 140737488355328; omega
  ·show i + 1 ≤ 9223372036854775807; omega
  conv => cbv
  refine Upd.mk fun O3 hO3 => ?_
  have hO3 : O3 = O ++ [.int .i64 (.sym x)] := hO3
  have hO3 : O3 = ipv (X.take (i.toNat + 1)) := by
   rw [hO3,hO,List.take_add_one,hx0]
   simp [ipv]
  conv => cbv
  refine Sum.mk fun j2 hj2 => ?_
  have hj2 : j2 = i + 1 := hj2
  conv => cbv
  refine Fit.mk (by show (-9223372036854775808 : Int) ≤ i + 1; omega) (by show i + 1 ≤ 9223372036854775807; omega) fun i2 hi2 => ?_
  have hi2 : i2 = i + 1 := hi2
  obtain rfl : j2 = i2 := by omega
  have htt : j2.toNat = i.toNat + 1 := by omega
  rw [← htt] at hO3
  conv => cbv
  refine Again.mk k' _ (Nat.lt_succ_self _) (Re.at [(0,0),(1,1),(2,2),(3,3),(4,4),(5,5),(6,6),(9,7)] []) ⟨j2,O3,rfl,by omega,by omega,hO3,by omega⟩
 ·have gi : ¬ i < v := gi
  obtain rfl : i = v := by omega
  have hOX : O = ipv X := by rw [hO,List.take_of_length_le (by omega)]
  conv => cbv
  refine RetF.mk [.sl 7 3 1 (.lit 0) (.sym i)] [hpA 0 1 5 6 3 W ph sp cy,hpB 1 2 4 3 W,hpC 2 3 137 2 N,hpP 3 L,hpP 4 D,hpF 5 z ov,hpP 6 Q,hpP 7 O] 8 (Re.at [(0,0),(1,1),(2,2),(3,3),(4,4),(5,5),(6,6),(7,7)] []) rfl ⟨X,i,O,rfl,rfl,rfl,hOX,hvX,hX⟩
theorem load9_lx (R : List Rw) (ws C G : List Int) (N W ph sp cy : Int) (L D Q : List PV) (z : ByteArray) (ov : Bool) (h : HM R ws C G N W L D Q z) (a i : Int) : CallF (fun _ => Tryz.prog) 42 [.ptr 0 (.lit 0),i6 a,i6 i] [hpA 0 1 5 6 3 W ph sp cy,hpB 1 2 4 3 W,hpC 2 3 137 2 N,hpP 3 L,hpP 4 D,hpF 5 z ov,hpP 6 Q] 7 (fun r h n => ∃ x e : Int,r = .tup [i6 x,i6 e] ∧ h = [hpA 0 1 5 6 3 W ph sp cy,hpB 1 2 4 3 W,hpC 2 3 137 2 N,hpP 3 L,hpP 4 D,hpF 5 z ov,hpP 6 Q] ∧ n = 7 ∧ Loaded R ws a i x e) := by
 refine callF_of_body tok Tryz.func42 (by kernel_rfl) rfl rfl rfl ?_; conv => cbv
 refine cfr (arena_lx R ws C G N W ph sp cy L D Q z ov) [(0,0),(1,1),(2,2),(3,3),(4,4),(5,5),(6,6)] (fun r h' n' ⟨e1,e2,e3⟩ => ?_)
 subst e1 e2 e3
 conv => cbv
 refine cfr (load_lx i R ws N a W L D h.l h.d h.n h.r h.a h.w) [(0,1),(1,2),(2,3),(3,4)] (fun r h' n' hrr => ?_)
 obtain ⟨x,e,e1,e2,e3,hx⟩ := hrr
 subst e1 e2 e3
 conv => cbv
 refine RetF.mk [i6 x,i6 e] [hpA 0 1 5 6 3 W ph sp cy,hpB 1 2 4 3 W,hpC 2 3 137 2 N,hpP 3 L,hpP 4 D,hpF 5 z ov,hpP 6 Q] 7 (Re.at [(0,0),(1,1),(2,2),(3,3),(4,4),(5,5),(6,6)] []) rfl ⟨x,e,rfl,rfl,rfl,hx⟩
theorem loadNil9_lx (a i : I) : CallF (fun _ => Tryz.prog) 42 [.p .nilp,.p (.int .i64 a),.p (.int .i64 i)] [] 0 (fun r h n => r = .tup [i6 0,i6 2] ∧ h = [] ∧ n = 0) := by
 refine callF_of_body tok Tryz.func42 (by kernel_rfl) rfl rfl rfl ?_; conv => cbv
 refine callF_frame arenaNil_lx [] rfl trivial rfl rfl (fun r h' n' ⟨e1,e2,e3⟩ => ?_)
 subst e1 e2 e3
 conv => cbv
 refine callF_frame (loadA_nil a i) [] rfl trivial rfl rfl (fun r h' n' ⟨e1,e2,e3⟩ => ?_)
 subst e1 e2 e3
 conv => cbv
 refine RetF.mk [i6 0,i6 2] [] 0 (Re.at [] []) rfl ⟨rfl,rfl,rfl⟩
theorem colour_lx (R : List Rw) (ws C G : List Int) (N W ph sp cy : Int) (L D Q : List PV) (z : ByteArray) (ov : Bool) (h : HM R ws C G N W L D Q z) (a : Int) : CallF (fun _ => Tryz.prog) 69 [.ptr 0 (.lit 0),i6 a] [hpA 0 1 5 6 3 W ph sp cy,hpB 1 2 4 3 W,hpC 2 3 137 2 N,hpP 3 L,hpP 4 D,hpF 5 z ov,hpP 6 Q] 7 (fun r h n => ∃ c : Int,r = .p (.int .i64 (.sym c)) ∧ h = [hpA 0 1 5 6 3 W ph sp cy,hpB 1 2 4 3 W,hpC 2 3 137 2 N,hpP 3 L,hpP 4 D,hpF 5 z ov,hpP 6 Q] ∧ n = 7 ∧ (a ∈ objs R → C[a.toNat]? = some c) ∧ (¬ a ∈ objs R → c = 0)) := by
 have hCl := h.c; have hWn := h.w; have hNr := h.n
 have hQl : Q.length = C.length := by rw [h.q,ipv_length]
 refine callF_of_body tok Tryz.func69 (by kernel_rfl) rfl rfl rfl ?_; conv => cbv
 refine cfr (arena_lx R ws C G N W ph sp cy L D Q z ov) [(0,0),(1,1),(2,2),(3,3),(4,4),(5,5),(6,6)] (fun r h' n' ⟨e1,e2,e3⟩ => ?_)
 subst e1 e2 e3
 conv => cbv
 refine cfr (kind_lx R ws N a W L D h.l h.d h.n h.r h.a h.w) [(0,1),(1,2),(2,3),(3,4)] (fun r h' n' hrr => ?_)
 obtain ⟨v,e1,e2,e3,hv⟩ := hrr
 subst e1 e2 e3
 conv => cbv
 refine Br.mk (fun g => ?_) (fun g => ?_)
 ·have g : v = 0 := g
  have hno : ¬ a ∈ objs R := by
   intro ho
   cases hv with
   | no hn => exact hn ((obj_iff h.a a).1 ho)
   | is k l hk => have := h.k a v l hk; omega
  conv => cbv
  refine RetF.mk [i6 0] [hpA 0 1 5 6 3 W ph sp cy,hpB 1 2 4 3 W,hpC 2 3 137 2 N,hpP 3 L,hpP 4 D,hpF 5 z ov,hpP 6 Q] 7 (Re.at [(0,0),(1,1),(2,2),(3,3),(4,4),(5,5),(6,6)] []) rfl ⟨0,rfl,rfl,rfl,fun k => absurd k hno,fun _ => rfl⟩
 ·have g : ¬ v = 0 := g
  obtain ⟨l,hk⟩ : ∃ l,Kept R ws a v l := by
   cases hv with
   | no hn => exact absurd rfl g
   | is k l hk => exact ⟨l,hk⟩
  have hb := hk.bounds h.a
  have ho : a ∈ objs R := (obj_iff h.a a).2 hk.obj6
  obtain ⟨x,hx⟩ : ∃ x,C[a.toNat]? = some x := ⟨_,List.getElem?_eq_getElem (by omega)⟩
  have hq : Q[a.toNat]? = some (.int .i64 (.sym x)) := by rw [h.q]; exact ipv_get hx
  conv => cbv
  refine Need.mk ⟨by show 0 ≤ a; omega,by show a < W; omega⟩ ?_
  conv => cbv
  refine Cell.at a _ hq (by simp [I.val]) rfl ?_
  conv => cbv
  refine RetF.mk [i6 x] [hpA 0 1 5 6 3 W ph sp cy,hpB 1 2 4 3 W,hpC 2 3 137 2 N,hpP 3 L,hpP 4 D,hpF 5 z ov,hpP 6 Q] 7 (Re.at [(0,0),(1,1),(2,2),(3,3),(4,4),(5,5),(6,6)] []) rfl ⟨x,rfl,rfl,rfl,fun _ => hx,fun k => absurd ho k⟩
theorem colourNil_lx (a : I) : CallF (fun _ => Tryz.prog) 69 [.p .nilp,.p (.int .i64 a)] [] 0 (fun r h n => r = .p (.int .i64 (.sym 0)) ∧ h = [] ∧ n = 0) := by
 refine callF_of_body tok Tryz.func69 (by kernel_rfl) rfl rfl rfl ?_; conv => cbv
 refine callF_frame arenaNil_lx [] rfl trivial rfl rfl (fun r h' n' ⟨e1,e2,e3⟩ => ?_)
 subst e1 e2 e3
 conv => cbv
 refine callF_frame (kind_nil a) [] rfl trivial rfl rfl (fun r h' n' ⟨e1,e2,e3⟩ => ?_)
 subst e1 e2 e3
 conv => cbv
 refine Br.mk (fun g => ?_) (fun g => ?_)
 case refine_2 =>
  have g : ¬ (0 : Int) = 0 := g
  exfalso
  exact g rfl
 conv => cbv
 refine RetF.mk [i6 0] [] 0 (Re.at [] []) rfl ⟨rfl,rfl,rfl⟩
def storeS (R : List Rw) (ph e x : Int) (s : List Int × List Int × Bool) : List Int × List Int × Bool := if e = 0 then shadeW R ph x s else s
theorem K1.stored {R : List Rw} {ws ws' : List Int} {a i x e : Int} (hA : AOk R ws) (hk : K1 R ws) (h : Stored R ws a i x e ws') : K1 R ws' := by
 cases h with
 | none _ => exact hk
 | arg _ _ _ _ => exact hk
 | ok k l hka hi =>
  intro b k' l' hb
  have hbn := hka.bounds hA
  obtain ⟨w,q1,q2,q3,q4,q5,q6⟩ := hb
  have hne : (a + 1 + i).toNat ≠ b.toNat := by
   obtain ⟨wa,p1,p2,p3,p4,p5,p6⟩ := hka
   have := within_not hA.rows p1 q1 (j := a + 1 + i) (by omega) (by omega)
   have := q1.facts hA.rows
   omega
  rw [List.getElem?_set_ne hne] at q2
  exact hk b k' l' (.mk k' l' w q1 q2 q3 q4 q5 q6)
theorem HM.stored {R : List Rw} {ws ws' C G : List Int} {N W : Int} {L D D' Q : List PV} {z : ByteArray} {a i x e : Int} (h : HM R ws C G N W L D Q z) (hx : -9223372036854775808 ≤ x ∧ x ≤ 9223372036854775807) (hs : Stored R ws a i x e ws') (hD : D' = ipv ws') : HM R ws' C G N W L D' Q z :=
 ⟨h.a.stored hx hs,h.k.stored h.a hs,h.n,h.r,h.w,h.l,hD,h.q,h.c,h.z,h.g,h.g8⟩
theorem store9_lx (R : List Rw) (ws C G : List Int) (N W ph sp cy : Int) (L D Q : List PV) (z : ByteArray) (ov : Bool) (h : HM R ws C G N W L D Q z) (o : Unit → Obj) (ho : IsPow o) (a i x : Int) (hx : -9223372036854775808 ≤ x ∧ x ≤ 9223372036854775807) : CallF (fun _ => Tryz.prog) 21 [.ptr 0 (.lit 0),i6 a,i6 i,i6 x] [hpA 0 1 5 6 3 W ph sp cy,hpB 1 2 4 3 W,hpC 2 3 137 2 N,hpP 3 L,hpP 4 D,hpF 5 z ov,hpP 6 Q,(7,.fix 0 o)] 8 (fun r h n => ∃ (e : Int) (ws' C' G' : List Int) (ov' : Bool) (D' Q' : List PV) (z' : ByteArray),r = .p (.int .i64 (.sym e)) ∧ h = [hpA 0 1 5 6 3 W ph sp cy,hpB 1 2 4 3 W,hpC 2 3 137 2 N,hpP 3 L,hpP 4 D',hpF 5 z' ov',hpP 6 Q',(7,.fix 0 o)] ∧ n = 8 ∧ HM R ws' C' G' N W L D' Q' z' ∧ Stored R ws a i x e ws' ∧ (C',G',ov') = storeS R ph e x (C,G,ov)) := by
 refine callF_of_body tok Tryz.func21 (by kernel_rfl) rfl rfl rfl ?_; conv => cbv
 refine cfr (arena_lx R ws C G N W ph sp cy L D Q z ov) [(0,0),(1,1),(2,2),(3,3),(4,4),(5,5),(6,6)] (fun r h' n' ⟨e1,e2,e3⟩ => ?_)
 subst e1 e2 e3
 conv => cbv
 refine cfr (store_lx i x R ws N a W L D h.l h.d h.n h.r h.a h.w) [(0,1),(1,2),(2,3),(3,4)] (fun r h' n' hrr => ?_)
 obtain ⟨e,ws',D',e1,e2,e3,hD',hT⟩ := hrr
 subst e1 e2 e3
 conv => cbv
 have h2 := h.stored hx hT hD'
 refine Br.mk (fun g => ?_) (fun g => ?_)
 ·have g : e = 0 := g
  conv => cbv
  refine cfr (shadeWord_lx R ws' C G N W ph sp cy L D' Q z ov h2 o ho x hx) [(0,0),(1,1),(2,2),(3,3),(4,4),(5,5),(6,6),(7,7)] (fun r h' n' hrr => ?_)
  obtain ⟨C',G',ov',Q',z',e1,e2,e3,h3,hs⟩ := hrr
  subst e1 e2 e3
  conv => cbv
  refine RetF.mk [i6 e] [hpA 0 1 5 6 3 W ph sp cy,hpB 1 2 4 3 W,hpC 2 3 137 2 N,hpP 3 L,hpP 4 D',hpF 5 z' ov',hpP 6 Q',(7,.fix 0 o)] 8 (Re.at [(0,0),(1,1),(2,2),(3,3),(4,4),(5,5),(6,6),(7,7)] []) rfl ⟨e,ws',C',G',ov',D',Q',z',rfl,rfl,rfl,h3,hT,by unfold storeS; rw [if_pos g]; exact hs⟩
 ·have g : ¬ e = 0 := g
  conv => cbv
  refine RetF.mk [i6 e] [hpA 0 1 5 6 3 W ph sp cy,hpB 1 2 4 3 W,hpC 2 3 137 2 N,hpP 3 L,hpP 4 D',hpF 5 z ov,hpP 6 Q,(7,.fix 0 o)] 8 (Re.at [(0,0),(1,1),(2,2),(3,3),(4,4),(5,5),(6,6),(7,7)] []) rfl ⟨e,ws',C,G,ov,D',Q,z,rfl,rfl,rfl,h2,hT,by unfold storeS; rw [if_neg g]⟩
theorem storeNil9_lx (a i x : I) : CallF (fun _ => Tryz.prog) 21 [.p .nilp,.p (.int .i64 a),.p (.int .i64 i),.p (.int .i64 x)] [] 0 (fun r h n => r = .p (.int .i64 (.sym 2)) ∧ h = [] ∧ n = 0) := by
 refine callF_of_body tok Tryz.func21 (by kernel_rfl) rfl rfl rfl ?_; conv => cbv
 refine callF_frame arenaNil_lx [] rfl trivial rfl rfl (fun r h' n' ⟨e1,e2,e3⟩ => ?_)
 subst e1 e2 e3
 conv => cbv
 refine callF_frame (storeA_nil a i x) [] rfl trivial rfl rfl (fun r h' n' ⟨e1,e2,e3⟩ => ?_)
 subst e1 e2 e3
 conv => cbv
 refine Br.mk (fun g => ?_) (fun g => ?_)
 case refine_1 =>
  have g : (2 : Int) = 0 := g
  exfalso
  omega
 conv => cbv
 refine RetF.mk [i6 2] [] 0 (Re.at [] []) rfl ⟨rfl,rfl,rfl⟩
end Go.Proofs.YtpbhcdbkmmjimaaGreatDoor
namespace Go.Proofs.YtpbhcdbkmmjimaaGreatDoor
open Go Go.LX
set_option maxRecDepth 100000
set_option linter.unusedVariables false
set_option linter.unusedSimpArgs false
set_option maxHeartbeats 32000000
theorem alloct_gen9 {R R' : List Rw} {ws ws' : List Int} {kind n a e : Int} (hA : AOk R ws) (h : Alloct R ws kind n a e R' ws') :
  (e ≠ 0 ∧ a = 0 ∧ R' = R ∧ ws' = ws) ∨ (e = 0 ∧ (0 ≤ n ∧ n ≤ 31 ∧ 1 ≤ kind ∧ kind ≤ 6) ∧ Kept R' ws' a kind n ∧ (∀ b k l,Kept R ws b k l → Kept R' ws' b k l ∧ b ≠ a ∧ ∀ i,0 ≤ i → i < l → ws'[(b + 1 + i).toNat]? = ws[(b + 1 + i).toNat]?) ∧ (∀ b,IsObj R' b → b = a ∨ IsObj R b)) := by
 have hA1 := (hA.alloct h).1
 cases h with
 | arg h => exact .inl ⟨by decide,rfl,rfl,rfl⟩
 | room i s R' hc ha =>
  obtain ⟨rfl,_⟩ := full_count hA.rows (ofN_slots n) ha
  exact .inl ⟨by decide,rfl,rfl,rfl⟩
 | ok i s _ R' hc ha hi hat =>
  right
  obtain ⟨w,hw⟩ : ∃ w,w = wordsOf (ofN n) := ⟨_,rfl⟩
  obtain ⟨q1,q2,q3,q4,q5⟩ := alloc_objs hA.rows ha a w hat hw
  have hobj : ObjAt R' a w := (q5 _ _).2 (.inr ⟨rfl,rfl⟩)
  obtain ⟨f1,f2,f3,_⟩ := hobj.facts q1
  have hnw : n < w := by rw [hw]; exact (ofN_words ⟨hc.1,hc.2.1⟩).1
  have hlw := hA.len
  have gw : ∀ j : Nat,j < ws.length → (zer (ws.set a.toNat (kind + 16 * n)) (a.toNat + 1) n.toNat)[j]? = if a.toNat + 1 ≤ j ∧ j < a.toNat + 1 + n.toNat then some 0 else (ws.set a.toNat (kind + 16 * n))[j]? := fun j hj => zer_get _ _ _ _ (by rw [List.length_set]; exact hj)
  have farw : ∀ j : Nat,(j : Int) < a ∨ a + w ≤ j → (zer (ws.set a.toNat (kind + 16 * n)) (a.toNat + 1) n.toNat)[j]? = ws[j]? := fun j hj => by
   by_cases hjl : j < ws.length
   ·rw [gw j hjl,if_neg (by omega),List.getElem?_set_ne (by omega)]
   ·rw [List.getElem?_eq_none (by rw [zer_length,List.length_set]; omega),List.getElem?_eq_none (by omega)]
  obtain ⟨p1,p2,p3,p4⟩ := alloc_gen hA hc ha hat hw (by rw [zer_length,List.length_set]) (by rw [gw _ (by omega),if_neg (by omega),List.getElem?_set_self (by omega)]) farw hA1.bd
  exact ⟨rfl,hc,p2,p3,p4⟩
theorem K1.alloct {R R' : List Rw} {ws ws' : List Int} {kind n a e : Int} (hA : AOk R ws) (hk : K1 R ws) (h : Alloct R ws kind n a e R' ws') : K1 R' ws' := by
 rcases alloct_gen9 hA h with ⟨_,_,rfl,rfl⟩ | ⟨_,hc,h1,h2,h3⟩
 ·exact hk
 ·intro b k l hb
  rcases h3 b hb.obj6 with rfl | ho
  ·obtain ⟨rfl,_⟩ := h1.det9 hb; omega
  ·obtain ⟨k',l',hk'⟩ := Kept.of hA ho
   obtain ⟨rfl,_⟩ := (h2 b k' l' hk').1.det9 hb
   exact hk b k' l' hk'
theorem HM.alloct {R R' : List Rw} {ws ws' C C' G : List Int} {N W : Int} {L L' D D' Q Q' : List PV} {z : ByteArray} {kind n a e : Int} (h : HM R ws C G N W L D Q z) (hs : Alloct R ws kind n a e R' ws') (hL : L' = rpv R') (hD : D' = ipv ws') (hC : C'.length = C.length) (hQ : Q' = ipv C') : HM R' ws' C' G N W L' D' Q' z := by
 obtain ⟨h1,h2⟩ := h.a.alloct hs
 exact ⟨h1,h.k.alloct h.a hs,by rw [h2]; exact h.n,by rw [h2]; exact h.r,h.w,hL,hD,hQ,by rw [hC]; exact h.c,h.z,h.g,h.g8⟩
def allocC (ph a e : Int) (C : List Int) : List Int := if e = 0 then C.set a.toNat (if ph = 0 then 0 else 2) else C
theorem allocC_length (ph a e : Int) (C : List Int) : (allocC ph a e C).length = C.length := by
 unfold allocC; split
 ·rw [List.length_set]
 ·rfl
theorem alloc9_lx (R : List Rw) (ws C G : List Int) (N W ph sp cy : Int) (L D Q : List PV) (z : ByteArray) (ov : Bool) (h : HM R ws C G N W L D Q z) (kind m : Int) : CallF (fun _ => Tryz.prog) 96 [.ptr 0 (.lit 0),i6 kind,i6 m] [hpA 0 1 5 6 3 W ph sp cy,hpB 1 2 4 3 W,hpC 2 3 137 2 N,hpP 3 L,hpP 4 D,hpF 5 z ov,hpP 6 Q] 7 (fun r h n => ∃ (a e : Int) (R' : List Rw) (ws' C' : List Int) (L' D' Q' : List PV),r = .tup [i6 a,i6 e] ∧ h = [hpA 0 1 5 6 3 W ph sp cy,hpB 1 2 4 3 W,hpC 2 3 137 2 N,hpP 3 L',hpP 4 D',hpF 5 z ov,hpP 6 Q'] ∧ n = 7 ∧ HM R' ws' C' G N W L' D' Q' z ∧ Alloct R ws kind m a e R' ws' ∧ C' = allocC ph a e C) := by
 have hCl := h.c; have hWn := h.w; have hNr := h.n; have hRr := h.r
 have hQl : Q.length = C.length := by rw [h.q,ipv_length]
 refine callF_of_body tok Tryz.func96 (by kernel_rfl) rfl rfl rfl ?_; conv => cbv
 refine cfr (arena_lx R ws C G N W ph sp cy L D Q z ov) [(0,0),(1,1),(2,2),(3,3),(4,4),(5,5),(6,6)] (fun r h' n' ⟨e1,e2,e3⟩ => ?_)
 subst e1 e2 e3
 conv => cbv
 refine cfr (allocA_lx kind m R ws N W L D h.l h.d h.n h.r h.a h.w) [(0,1),(1,2),(2,3),(3,4)] (fun r h' n' hrr => ?_)
 obtain ⟨a,e,R',ws',L',D',e1,e2,e3,hL',hD',hT⟩ := hrr
 subst e1 e2 e3
 conv => cbv
 have hgen := alloct_gen9 h.a hT
 refine Br.mk (fun g => ?_) (fun g => ?_)
 ·have g : e ≠ 0 := g
  have ha0 : a = 0 := by
              rcases hgen with h | h; · exact h.2.1
              ·exact absurd h.1 g
  conv => cbv
  refine RetF.mk [i6 a,i6 e] [hpA 0 1 5 6 3 W ph sp cy,hpB 1 2 4 3 W,hpC 2 3 137 2 N,hpP 3 L',hpP 4 D',hpF 5 z ov,hpP 6 Q] 7 (Re.at [(0,0),(1,1),(2,2),(3,3),(4,4),(5,5),(6,6)] []) rfl ⟨a,e,R',ws',C,L',D',Q,rfl,rfl,rfl,h.alloct hT hL' hD' rfl h.q,hT,by unfold allocC; rw [if_neg g]⟩
 ·have g : ¬ e ≠ 0 := g
  have g : e = 0 := by omega
  have hA1 := (h.a.alloct hT).1
  have hlR := (h.a.alloct hT).2
  have hb : 0 ≤ a ∧ a < W := by
   rcases hgen with h | h
   ·exact absurd g h.1
   ·have h1 := (h.2.2.1).bounds hA1
    omega
  obtain ⟨C',hC'⟩ : ∃ C',C' = allocC ph a e C := ⟨_,rfl⟩
  obtain ⟨Q',hQ'⟩ : ∃ Q',Q' = ipv C' := ⟨_,rfl⟩
  have hfin := h.alloct hT hL' hD' (by rw [hC']; exact allocC_length _ _ _ _) hQ'
  conv => cbv
  refine Need.mk ⟨by show 0 ≤ a; omega,by show a < W; omega⟩ ?_
  conv => cbv
  refine Need.mk (by show a + 1 ≤ (Q.length : Int); omega) ?_
  conv => cbv
  refine Upd.mk fun Q2 hQ2 => ?_
  have hQ2 : Q2 = Q.set a.toNat (.int .i64 (.lit 0)) := hQ2
  conv => cbv
  refine Br.mk (fun gp => ?_) (fun gp => ?_)
  ·have gp : ph ≠ 0 := gp
   conv => cbv
   refine Need.mk ⟨by show 0 ≤ a; omega,by show a < W; omega⟩ ?_
   conv => cbv
   refine Need.mk (by show a + 1 ≤ (Q2.length : Int); rw [hQ2,List.length_set]; omega) ?_
   conv => cbv
   refine Upd.mk fun Q3 hQ3 => ?_
   have hle : pvles Q3 Q' := by
    have hQ3 : Q3 = Q2.set a.toNat (.int .i64 (.lit 2)) := hQ3
    rw [hQ3,hQ2,hQ',hC',allocC,if_pos g,if_neg gp,h.q,← ipv_set,List.set_set]
    exact pvles_set _ _ _ _ _ (pvles_refl _) (by simp [pvle,I.val])
   unfold pvles at hle
   clear hQ3 hQ2
   conv => cbv
   refine RetF.mk [i6 a,i6 e] [hpA 0 1 5 6 3 W ph sp cy,hpB 1 2 4 3 W,hpC 2 3 137 2 N,hpP 3 L',hpP 4 D',hpF 5 z ov,hpP 6 Q'] 7 (Re.at [(0,0),(1,1),(2,2),(3,3),(4,4),(5,5),(6,6)] []) rfl ⟨a,e,R',ws',C',L',D',Q',rfl,rfl,rfl,hfin,hT,hC'⟩
  ·have gp : ¬ ph ≠ 0 := gp
   have gp : ph = 0 := by omega
   have hle : pvles Q2 Q' := by
    rw [hQ2,hQ',hC',allocC,if_pos g,if_pos gp,h.q,← ipv_set]
    exact pvles_set _ _ _ _ _ (pvles_refl _) (by simp [pvle,I.val])
   unfold pvles at hle
   clear hQ2
   conv => cbv
   refine RetF.mk [i6 a,i6 e] [hpA 0 1 5 6 3 W ph sp cy,hpB 1 2 4 3 W,hpC 2 3 137 2 N,hpP 3 L',hpP 4 D',hpF 5 z ov,hpP 6 Q'] 7 (Re.at [(0,0),(1,1),(2,2),(3,3),(4,4),(5,5),(6,6)] []) rfl ⟨a,e,R',ws',C',L',D',Q',rfl,rfl,rfl,hfin,hT,hC'⟩
theorem allocNil9_lx (a m : I) : CallF (fun _ => Tryz.prog) 96 [.p .nilp,.p (.int .i64 a),.p (.int .i64 m)] [] 0 (fun r h n => r = .tup [i6 0,i6 2] ∧ h = [] ∧ n = 0) := by
 refine callF_of_body tok Tryz.func96 (by kernel_rfl) rfl rfl rfl ?_; conv => cbv
 refine callF_frame arenaNil_lx [] rfl trivial rfl rfl (fun r h' n' ⟨e1,e2,e3⟩ => ?_)
 subst e1 e2 e3
 conv => cbv
 refine callF_frame (allocA_nil a m) [] rfl trivial rfl rfl (fun r h' n' ⟨e1,e2,e3⟩ => ?_)
 subst e1 e2 e3
 conv => cbv
 refine Br.mk (fun g => ?_) (fun g => ?_)
 case refine_2 =>
  have g : ¬ (2 : Int) ≠ 0 := g
  exfalso
  omega
 conv => cbv
 refine RetF.mk [i6 0,i6 2] [] 0 (Re.at [] []) rfl ⟨rfl,rfl,rfl⟩
end Go.Proofs.YtpbhcdbkmmjimaaGreatDoor
namespace Go.Proofs.YtpbhcdbkmmjimaaGreatDoor
open Go Go.LX
set_option maxRecDepth 100000
set_option linter.unusedVariables false
set_option linter.unusedSimpArgs false
set_option maxHeartbeats 32000000
theorem spanNew_arg (n : Int) (hn : n < 2) : CallF (fun _ => Tryz.prog) 107 [i6 n] [] 0 (fun r h m => r = .tup [.p .nilp,i6 1] ∧ h = [] ∧ m = 0) := by
 refine callF_of_body tok Tryz.func107 (by kernel_rfl) rfl rfl rfl ?_; conv => cbv
 refine Br.mk (fun g => ?_) (fun g => ?_)
 ·conv => cbv
  refine RetF.mk [.p .nilp,i6 1] [] 0 (Re.at [] []) rfl ⟨rfl,rfl,rfl⟩
 ·have gf : False := g hn
  cases gf
theorem newA_arg (n : Int) (hn : n < 2) : CallF (fun _ => Tryz.prog) 82 [i6 n] [] 0 (fun r h m => r = .tup [.p .nilp,i6 1] ∧ h = [] ∧ m = 0) := by
 refine callF_of_body tok Tryz.func82 (by kernel_rfl) rfl rfl rfl ?_; conv => cbv
 refine callF_frame (spanNew_arg n hn) [] rfl trivial rfl rfl (fun r h' n' ⟨e1,e2,e3⟩ => ?_)
 subst e1 e2 e3
 conv => cbv
 refine Br.mk (fun g => ?_) (fun g => ?_)
 case refine_2 =>
  have gf : False := g (by decide)
  cases gf
 conv => cbv
 refine RetF.mk [.p .nilp,i6 1] [] 0 (Re.at [] []) rfl ⟨rfl,rfl,rfl⟩
theorem Kept.det {R : List Rw} {ws : List Int} {a k l k' l' : Int} (h : Kept R ws a k l) (h' : Kept R ws a k' l') : k' = k ∧ l' = l := by
 obtain ⟨w,_,h1,h2,h3,h4,_⟩ := h
 obtain ⟨w',_,h1',h2',h3',h4',_⟩ := h'
 rw [h1] at h1'
 have h1' : k + 16 * l = k' + 16 * l' := Option.some.inj h1'
 omega
theorem Kept.obj {R : List Rw} {ws : List Int} {a k l : Int} (h : Kept R ws a k l) : IsObj R a := by
 obtain ⟨w,h,_⟩ := h
 exact isObj_iff.2 ⟨w,h⟩
theorem kindR_of {R : List Rw} {ws : List Int} {a k l v : Int} (h : Kept R ws a k l) (hv : KindR R ws a v) : v = k := by
 cases hv with
 | no hn => exact absurd h.obj hn
 | is k' l' h' => exact (h.det h').1
theorem lenR_of {R : List Rw} {ws : List Int} {a k l v : Int} (h : Kept R ws a k l) (hv : LenR R ws a v) : v = l := by
 cases hv with
 | no hn => exact absurd h.obj hn
 | is k' l' h' => exact (h.det h').2
theorem stored_of {R : List Rw} {ws ws' : List Int} {a k l i x e : Int} (h : Kept R ws a k l) (hi : 0 ≤ i ∧ i < l) (hv : Stored R ws a i x e ws') : e = 0 ∧ ws' = ws.set (a + 1 + i).toNat x := by
 cases hv with
 | none hn => exact absurd h.obj hn
 | arg k' l' h' hi' => rw [(h.det h').2] at hi'; exact absurd hi hi'
 | ok k' l' h' hi' => exact ⟨rfl,rfl⟩
theorem loaded_of {R : List Rw} {ws : List Int} {a k l i x e : Int} (h : Kept R ws a k l) (hi : 0 ≤ i ∧ i < l) (hv : Loaded R ws a i x e) : e = 0 ∧ ws[(a + 1 + i).toNat]? = some x := by
 cases hv with
 | none hn => exact absurd h.obj hn
 | arg k' l' h' hi' => rw [(h.det h').2] at hi'; exact absurd hi hi'
 | ok k' l' x' h' hi' hx => exact ⟨rfl,hx⟩
theorem alloct_ok {R R' : List Rw} {ws ws' : List Int} {kind n a e : Int} (hA : AOk R ws) (h : Alloct R ws kind n a e R' ws') (he : e = 0) :
  Kept R' ws' a kind n ∧ ¬ IsObj R a ∧ objCount R' = objCount R + 1 ∧ (∀ i,0 ≤ i → i < n → ws'[(a + 1 + i).toNat]? = some 0) ∧ (∀ b k l,Kept R ws b k l → Kept R' ws' b k l) ∧ (∀ b,IsObj R' b → b = a ∨ IsObj R b) ∧ (∀ b k l i,Kept R ws b k l → 0 ≤ i → i < l → ws'[(b + 1 + i).toNat]? = ws[(b + 1 + i).toNat]?) := by
 cases h with
 | arg h => exact absurd he (by decide)
 | room i s R' h ha => exact absurd he (by decide)
 | ok i s _ R' h ha hi hat =>
  have hA' := (AOk.alloct hA (Alloct.ok i s a R' h ha hi hat)).1
  obtain ⟨w,hw⟩ : ∃ w,w = wordsOf (ofN n) := ⟨_,rfl⟩
  obtain ⟨h1,h2,h3,h4,h5⟩ := alloc_objs hA.rows ha a w (by rw [hat]) hw
  have hobj : ObjAt R' a w := (h5 _ _).2 (.inr ⟨rfl,rfl⟩)
  obtain ⟨f1,f2,f3,_⟩ := hobj.facts h1
  have hnw : n < w := by rw [hw]; exact (ofN_words ⟨h.1,h.2.1⟩).1
  have hlen := hA.len
  have hget : ∀ j,j < ws.length → (zer (ws.set a.toNat (kind + 16 * n)) (a.toNat + 1) n.toNat)[j]? = if a.toNat + 1 ≤ j ∧ j < a.toNat + 1 + n.toNat then some 0 else (ws.set a.toNat (kind + 16 * n))[j]? := fun j hj => zer_get _ _ _ _ (by rw [List.length_set]; exact hj)
  have hfar : ∀ j,j < ws.length → (j : Int) < a ∨ a + w ≤ j → (zer (ws.set a.toNat (kind + 16 * n)) (a.toNat + 1) n.toNat)[j]? = ws[j]? := by
   intro j hj hfar
   rw [hget j hj,if_neg (by omega),List.getElem?_set_ne (by omega)]
  refine ⟨?_,h4,h3,?_,?_,?_,?_⟩
  ·refine .mk kind n w hobj ?_ (by omega) (by omega) h.1 hnw
   rw [hget _ (by omega),if_neg (by omega),List.getElem?_set_self (by omega)]
  ·intro j hj0 hj1
   rw [hget _ (by omega),if_pos (by omega)]
  ·rintro b k l ⟨v,hb,hx,g1,g2,g3,g4⟩
   have hb' := (h5 b v).2 (.inl hb)
   have hne : b ≠ a := fun e => h4 (isObj_iff.2 ⟨v,e ▸ hb⟩)
   obtain ⟨q1,q2,q3,_⟩ := hb'.facts h1
   refine .mk k l v hb' ?_ g1 g2 g3 g4
   rw [hfar _ (by omega) (by rcases hobj.apart h1 hb' with ⟨h,_⟩ | h | h <;> omega)]
   exact hx
  ·intro b hb
   obtain ⟨v,hb⟩ := isObj_iff.1 hb
   rcases (h5 b v).1 hb with hb | ⟨hb,_⟩
   ·exact .inr (isObj_iff.2 ⟨v,hb⟩)
   ·exact .inl hb
  ·rintro b k l j ⟨v,hb,hx,g1,g2,g3,g4⟩ hj0 hj1
   have hb' := (h5 b v).2 (.inl hb)
   have hne : b ≠ a := fun e => h4 (isObj_iff.2 ⟨v,e ▸ hb⟩)
   obtain ⟨q1,q2,q3,_⟩ := hb'.facts h1
   exact hfar _ (by omega) (by rcases hobj.apart h1 hb' with ⟨h,_⟩ | h | h <;> omega)
theorem alloct_err {R R' : List Rw} {ws ws' : List Int} {kind n a e : Int} (hA : AOk R ws) (h : Alloct R ws kind n a e R' ws') (hroom : objCount R < R.length) : e = if 0 ≤ n ∧ n ≤ 31 ∧ 1 ≤ kind ∧ kind ≤ 6 then 0 else 1 := by
 cases h with
 | arg h => rw [if_neg h]
 | room i s R' h ha => obtain ⟨_,h2⟩ := full_count hA.rows (ofN_slots n) ha; omega
 | ok i s _ R' h ha hi hat => rw [if_pos h]
theorem freet_none {R R' : List Rw} {a e : Int} (h : Freet R a e R') (hn : ¬ IsObj R a) : e = 8 ∧ R = R' := by
 cases h with
 | none h => exact ⟨rfl,rfl⟩
 | ok q s e he hs hat => exact absurd ⟨q,s,e,he,hs,hat⟩ hn
theorem stored_none {R : List Rw} {ws ws' : List Int} {a i x e : Int} (h : Stored R ws a i x e ws') (hn : ¬ IsObj R a) : e = 8 := by
 cases h with
 | none h => rfl
 | arg k l h hi => exact absurd h.obj hn
 | ok k l h hi => exact absurd h.obj hn
theorem rep2 : (List.replicate (2 : Int).toNat ((0,[]) : Rw)) = List.replicate 2 (0,[]) := rfl
end Go.Proofs.YtpbhcdbkmmjimaaGreatDoor
namespace Go.Proofs.YtpbhcdbkmmjimaaGreatDoor
open Go Go.LX
set_option maxRecDepth 100000
set_option linter.unusedVariables false
set_option linter.unusedSimpArgs false
set_option maxHeartbeats 32000000
theorem zer_all (ws : List Int) : zer ws 0 ws.length = List.replicate ws.length 0 := by
 apply List.ext_getElem?
 intro i
 by_cases h : i < ws.length
 ·rw [zer_get _ _ _ _ h,if_pos (by omega),List.getElem?_replicate,if_pos h]
 ·rw [List.getElem?_eq_none (by rw [zer_length]; omega),List.getElem?_eq_none (by rw [List.length_replicate]; omega)]
theorem HM.new {N W : Int} (h2 : 2 ≤ N) (h8 : N ≤ 128) (hW : W = 32 * N) {L D Q : List PV} {z : ByteArray} (hL : L = rpv (List.replicate N.toNat (0,[]))) (hD : D = ipv (List.replicate W.toNat 0)) (hQ : Q = ipv (List.replicate W.toNat 0)) (hz : z = ⟨(enc []).toArray⟩) :
  HM (List.replicate N.toNat (0,[])) (List.replicate W.toNat 0) (List.replicate W.toNat 0) [] N W L D Q z :=
 ⟨by rw [show W.toNat = 32 * N.toNat by omega]; exact AOk.new _,fun a k l hk => absurd hk.obj6 (new_none _ _),by rw [List.length_replicate]; omega,by rw [List.length_replicate]; omega,hW,hL,hD,hQ,by rw [List.length_replicate]; omega,hz,fun x hx => (by cases hx),Nat.zero_le _⟩
theorem newH_lx (N W : Int) (h2 : 2 ≤ N) (h8 : N ≤ 128) (hW : W = 32 * N) (L D Q : List PV) (z : ByteArray) (hL : L = rpv (List.replicate N.toNat (0,[]))) (hD : D = ipv (List.replicate W.toNat 0)) (hQ : Q = ipv (List.replicate W.toNat 0)) (hz : z = ⟨(enc []).toArray⟩) : CallF (fun _ => Tryz.prog) 44 [i6 N] [] 0 (fun r h n => r = .tup [.ptr 0 (.lit 0),.p (.int .i64 (.lit 0))] ∧ h = [hpA 0 1 5 6 3 W 0 0 0,hpB 1 2 4 3 W,hpC 2 3 137 2 N,hpP 3 L,hpP 4 D,hpF 5 z false,hpP 6 Q] ∧ n = 7) := by
 refine callF_of_body tok Tryz.func44 (by kernel_rfl) rfl rfl rfl ?_; conv => cbv
 refine callF_frame (newA_lx N W h2 h8 hW L D hL hD) [] rfl trivial rfl rfl (fun r h' n' ⟨e1,e2,e3⟩ => ?_)
 subst e1 e2 e3
 conv => cbv
 refine callF_frame greyNew_lx [] rfl trivial rfl rfl (fun r h' n' hrr => ?_)
 obtain ⟨z1,e1,e2,e3,hz1⟩ := hrr
 subst e1 e2 e3
 obtain rfl : z1 = z := by rw [hz1,hz]
 have hA0 : AOk (List.replicate N.toNat ((0,[]) : Rw)) (List.replicate W.toNat 0) := by rw [show W.toNat = 32 * N.toNat by omega]; exact AOk.new _
 conv => cbv
 refine cfr (wordsA_lx (List.replicate N.toNat ((0,[]) : Rw)) (List.replicate W.toNat 0) N W L D hL hD (by rw [List.length_replicate]; omega) (by rw [List.length_replicate]; omega) hA0 hW) [(0,0),(1,1),(2,2),(3,3)] (fun r h' n' ⟨e1,e2,e3⟩ => ?_)
 subst e1 e2 e3
 conv => cbv
 refine Need.mk ⟨by show 0 ≤ W; omega,Int.le_refl _,by show W * 8 ≤ 140737488355328; omega,by show W ≤ 9223372036854775807; omega⟩ ?_
 conv => cbv
 refine Upd.mk fun Q0 hQ0 => ?_
 have hle : pvles Q0 Q := by
  have hQ0 : Q0 = repsP [.int .i64 (.lit 0)] W.toNat := hQ0
  rw [hQ0,hQ]; exact zero_ipv _
 unfold pvles at hle
 clear hQ0
 conv => cbv
 refine RetF.mk [.ptr 0 (.lit 0),.p (.int .i64 (.lit 0))] [hpA 0 1 5 6 3 W 0 0 0,hpB 1 2 4 3 W,hpC 2 3 137 2 N,hpP 3 L,hpP 4 D,hpF 5 z1 false,hpP 6 Q] 7 (Re.at [(6,0),(0,1),(1,2),(2,3),(3,4),(4,5),(5,6)] []) rfl ⟨rfl,rfl,rfl⟩
theorem newHArg_lx (n : Int) (h : n < 2) : CallF (fun _ => Tryz.prog) 44 [i6 n] [] 0 (fun r h m => r = .tup [.p .nilp,.p (.int .i64 (.lit 1))] ∧ h = [] ∧ m = 0) := by
 refine callF_of_body tok Tryz.func44 (by kernel_rfl) rfl rfl rfl ?_; conv => cbv
 refine callF_frame (newA_arg n h) [] rfl trivial rfl rfl (fun r h' n' ⟨e1,e2,e3⟩ => ?_)
 subst e1 e2 e3
 conv => cbv
 refine Br.mk (fun g => ?_) (fun g => ?_)
 case refine_2 =>
  have g : ¬ (1 : Int) ≠ 0 := g
  exfalso
  omega
 conv => cbv
 refine RetF.mk [.p .nilp,.p (.int .i64 (.lit 1))] [] 0 (Re.at [] []) rfl ⟨rfl,rfl,rfl⟩
def begS (R : List Rw) (W : Int) (A : List Int) : List Int × List Int × Bool := A.foldl (fun s a => shade R 1 a s) (List.replicate W.toNat 0,[],false)
theorem begin_lx (R : List Rw) (ws C G : List Int) (N W ph sp cy : Int) (L D Q : List PV) (z : ByteArray) (ov : Bool) (h : HM R ws C G N W L D Q z) (o : Unit → Obj) (ho : IsPow o) (A : List Int) (k : Int) (rs : List PV) (hrs : rs = ipv A) (hk : k = A.length) (hA : (A.length : Int) < 1000000) (hph : ph = 0) : CallF (fun _ => Tryz.prog) 46 [.ptr 0 (.lit 0),.p (.vsl (.sym k) true rs)] [hpA 0 1 5 6 3 W ph sp cy,hpB 1 2 4 3 W,hpC 2 3 137 2 N,hpP 3 L,hpP 4 D,hpF 5 z ov,hpP 6 Q,(7,.fix 0 o)] 8 (fun r h n => ∃ (C' G' : List Int) (ov' : Bool) (Q' : List PV) (z' : ByteArray),r = .p (.int .i64 (.lit 0)) ∧ h = [hpA 0 1 8 6 3 W 1 sp cy,hpB 1 2 4 3 W,hpC 2 3 137 2 N,hpP 3 L,hpP 4 D,hpF 8 z' ov',hpP 6 Q',(7,.fix 0 o)] ∧ n = 9 ∧ HM R ws C' G' N W L D Q' z' ∧ (C',G',ov') = begS R W A) := by
 have hCl := h.c; have hWn := h.w; have hNr := h.n; have hRr := h.r
 have hQl : Q.length = C.length := by rw [h.q,ipv_length]
 refine callF_of_body tok Tryz.func46 (by kernel_rfl) rfl rfl rfl ?_; conv => cbv
 refine cfr (arena_lx R ws C G N W ph sp cy L D Q z ov) [(0,0),(1,1),(2,2),(3,3),(4,4),(5,5),(6,6)] (fun r h' n' ⟨e1,e2,e3⟩ => ?_)
 subst e1 e2 e3
 conv => cbv
 refine Br.mk (fun g => ?_) (fun g => ?_)
 case refine_1 =>
  have g : ph ≠ 0 := g
  exact absurd hph g
 conv => cbv
 refine Need.mk ⟨Int.le_refl _,by show 0 ≤ W; omega,by show 0 + W * 1 ≤ (Q.length : Int); omega⟩ ?_
 conv => cbv
 obtain ⟨Q0,hQ0⟩ : ∃ Q0,Q0 = ipv (List.replicate W.toNat 0) := ⟨_,rfl⟩
 refine Upd.mk fun Q2 hQ2 => ?_
 have hle : pvles Q2 Q0 := by
  have hQ2 : Q2 = updL Q 0 (repsP [.int .i64 (.lit 0)] W.toNat) := hQ2
  rw [hQ2,hQ0,h.q,show W.toNat = C.length by omega,← zer_all]
  exact upd_zer _ _ _ _ (pvles_refl _)
 unfold pvles at hle
 clear hQ2
 conv => cbv
 refine callF_frame greyNew_lx [] rfl trivial rfl rfl (fun r h' n' hrr => ?_)
 obtain ⟨z1,e1,e2,e3,hz1⟩ := hrr
 subst e1 e2 e3
 have hM0 : HM R ws (List.replicate W.toNat 0) [] N W L D Q0 z1 := ⟨h.a,h.k,h.n,h.r,h.w,h.l,h.d,hQ0,by rw [List.length_replicate]; omega,hz1,fun x hx => (by cases hx),Nat.zero_le _⟩
 conv => cbv
 refine LoopF.mk (fun kk s => ∃ (i : Int) (C' G' : List Int) (ov' : Bool) (Q' : List PV) (z' : ByteArray),s = ⟨.ptr 0 (.lit 0) :: (undefs 25 ++ .p (.vsl (.sym k) true rs) :: .p (.int .i64 (.sym k)) :: .p (.int .i64 (.sym i)) :: undefs 7),[hpA 0 1 8 6 3 W 1 sp cy,hpB 1 2 4 3 W,hpC 2 3 137 2 N,hpP 3 L,hpP 4 D,hpF 8 z' ov',hpP 6 Q',(7,.fix 0 o)],9⟩ ∧ 0 ≤ i ∧ i ≤ k ∧ HM R ws C' G' N W L D Q' z' ∧ (C',G',ov') = begS R W (A.take i.toNat) ∧ kk = (k - i).toNat) k.toNat _
  (Re.at [(0,0),(1,1),(2,2),(3,3),(4,4),(6,6),(7,7),(8,8)] []) ⟨0,_,_,_,Q0,z1,rfl,by omega,by omega,hM0,rfl,by omega⟩ ?_
 rintro kk s ⟨i,C',G',ov',Q',z',rfl,hi0,hi1,h2,hS,hk2⟩
 conv => cbv
 refine Br.mk (fun gi => ?_) (fun gi => ?_)
 ·have gi : i < k := gi
  obtain ⟨k',rfl⟩ : ∃ k',kk = k' + 1 := ⟨kk - 1,by omega⟩
  obtain ⟨a,ha⟩ : ∃ a,A[i.toNat]? = some a := ⟨_,List.getElem?_eq_getElem (by omega)⟩
  have hc : rs[i.toNat]? = some (.int .i64 (.sym a)) := by rw [hrs]; exact ipv_get ha
  conv => cbv
  refine Need.mk ⟨hi0,gi⟩ ?_
  conv => cbv
  refine Cell.at i _ hc (by simp [I.val]) rfl ?_
  conv => cbv
  refine cfr (shade_lx R ws C' G' N W 1 sp cy L D Q' z' ov' h2 o ho a) [(0,0),(1,1),(2,2),(3,3),(4,4),(5,8),(6,6),(7,7)] (fun r h' n' hrr => ?_)
  obtain ⟨C2,G2,ov2,Q2,z2,e1,e2,e3,h3,hS2⟩ := hrr
  subst e1 e2 e3
  have hS3 : (C2,G2,ov2) = begS R W (A.take (i.toNat + 1)) := by
   rw [hS2,hS]
   unfold begS
   rw [List.take_add_one,ha,Option.toList_some,List.foldl_append]; rfl
  conv => cbv
  refine Fit.mk (by show (-9223372036854775808 : Int) ≤ i + 1; omega) (by show i + 1 ≤ 9223372036854775807; omega) fun i2 hi2 => ?_
  have hi2 : i2 = i + 1 := hi2
  rw [show i.toNat + 1 = i2.toNat by omega] at hS3
  conv => cbv
  refine Again.mk k' _ (Nat.lt_succ_self _) (Re.at [(0,0),(1,1),(2,2),(3,3),(4,4),(6,6),(7,7),(8,8)] []) ⟨i2,C2,G2,ov2,Q2,z2,rfl,by omega,by omega,h3,hS3,by omega⟩
 ·have gi : ¬ i < k := gi
  rw [List.take_of_length_le (by omega)] at hS
  conv => cbv
  refine RetF.mk [.p (.int .i64 (.lit 0))] [hpA 0 1 8 6 3 W 1 sp cy,hpB 1 2 4 3 W,hpC 2 3 137 2 N,hpP 3 L,hpP 4 D,hpF 8 z' ov',hpP 6 Q',(7,.fix 0 o)] 9 (Re.at [(0,0),(1,1),(2,2),(3,3),(4,4),(6,6),(7,7),(8,8)] []) rfl ⟨C',G',ov',Q',z',rfl,rfl,rfl,h2,hS⟩
theorem beginState_lx (R : List Rw) (ws C G : List Int) (N W ph sp cy : Int) (L D Q : List PV) (z : ByteArray) (ov : Bool) (h : HM R ws C G N W L D Q z) (hph : ph ≠ 0) : CallF (fun _ => Tryz.prog) 46 [.ptr 0 (.lit 0),.p .nils] [hpA 0 1 5 6 3 W ph sp cy,hpB 1 2 4 3 W,hpC 2 3 137 2 N,hpP 3 L,hpP 4 D,hpF 5 z ov,hpP 6 Q] 7 (fun r h n => r = .p (.int .i64 (.lit 11)) ∧ h = [hpA 0 1 5 6 3 W ph sp cy,hpB 1 2 4 3 W,hpC 2 3 137 2 N,hpP 3 L,hpP 4 D,hpF 5 z ov,hpP 6 Q] ∧ n = 7) := by
 refine callF_of_body tok Tryz.func46 (by kernel_rfl) rfl rfl rfl ?_; conv => cbv
 refine cfr (arena_lx R ws C G N W ph sp cy L D Q z ov) [(0,0),(1,1),(2,2),(3,3),(4,4),(5,5),(6,6)] (fun r h' n' ⟨e1,e2,e3⟩ => ?_)
 subst e1 e2 e3
 conv => cbv
 refine Br.mk (fun g => ?_) (fun g => ?_)
 case refine_2 =>
  have g : ¬ ph ≠ 0 := g
  exact absurd hph g
 conv => cbv
 refine RetF.mk [.p (.int .i64 (.lit 11))] [hpA 0 1 5 6 3 W ph sp cy,hpB 1 2 4 3 W,hpC 2 3 137 2 N,hpP 3 L,hpP 4 D,hpF 5 z ov,hpP 6 Q] 7 (Re.at [(0,0),(1,1),(2,2),(3,3),(4,4),(5,5),(6,6)] []) rfl ⟨rfl,rfl,rfl⟩
theorem beginNil_lx : CallF (fun _ => Tryz.prog) 46 [.p .nilp,.p .nils] [] 0 (fun r h n => r = .p (.int .i64 (.sym 2)) ∧ h = [] ∧ n = 0) := by
 refine callF_of_body tok Tryz.func46 (by kernel_rfl) rfl rfl rfl ?_; conv => cbv
 refine callF_frame arenaNil_lx [] rfl trivial rfl rfl (fun r h' n' ⟨e1,e2,e3⟩ => ?_)
 subst e1 e2 e3
 conv => cbv
 refine RetF.mk [i6 2] [] 0 (Re.at [] []) rfl ⟨rfl,rfl,rfl⟩
def scanS (R : List Rw) (ph a : Int) (X : List Int) (s : List Int × List Int × Bool) : List Int × List Int × Bool := ((X.foldl (fun s w => shadeW R ph w s) s).1.set a.toNat 2,(X.foldl (fun s w => shadeW R ph w s) s).2)
theorem scan_lx (R : List Rw) (ws C G : List Int) (N W ph sp cy : Int) (L D Q : List PV) (z : ByteArray) (ov : Bool) (h : HM R ws C G N W L D Q z) (o : Unit → Obj) (ho : IsPow o) (a : Int) (ha : 0 ≤ a ∧ a < W) : CallF (fun _ => Tryz.prog) 112 [.ptr 0 (.lit 0),i6 a] [hpA 0 1 5 6 3 W ph sp cy,hpB 1 2 4 3 W,hpC 2 3 137 2 N,hpP 3 L,hpP 4 D,hpF 5 z ov,hpP 6 Q,(7,.fix 0 o)] 8 (fun r h n => ∃ (X C' G' : List Int) (ov' : Bool) (Q' : List PV) (z' : ByteArray),r = .tup [] ∧ h = [hpA 0 1 5 6 3 W ph sp cy,hpB 1 2 4 3 W,hpC 2 3 137 2 N,hpP 3 L,hpP 4 D,hpF 5 z' ov',hpP 6 Q',(7,.fix 0 o)] ∧ n = 8 ∧ HM R ws C' G' N W L D Q' z' ∧ Wrds R ws a X ∧ (C',G',ov') = scanS R ph a X (C,G,ov)) := by
 refine callF_of_body tok Tryz.func112 (by kernel_rfl) rfl rfl rfl ?_; conv => cbv
 refine cfr (wordsH_lx R ws C G N W ph sp cy L D Q z ov h a) [(0,0),(1,1),(2,2),(3,3),(4,4),(5,5),(6,6)] (fun r h' n' hrr => ?_)
 obtain ⟨X,m,O,e1,e2,e3,hO,hm,hX⟩ := hrr
 subst e1 e2 e3
 conv => cbv
 have hXb := hX.bd h.a
 have hX31 : X.length ≤ 31 := by
  have hle := hX.1
  generalize hxl : (X.length : Int) = xl at hle
  cases hle with
  | no _ => omega
  | is k l hk => have := hk.bounds h.a; omega
 refine LoopF.mk (fun k s => ∃ (i : Int) (C' G' : List Int) (ov' : Bool) (Q' : List PV) (z' : ByteArray),s = ⟨.ptr 0 (.lit 0) :: .p (.int .i64 (.sym a)) :: (undefs 6 ++ .sl 8 3 1 (.lit 0) (.sym m) :: .p (.int .i64 (.sym m)) :: .p (.int .i64 (.sym i)) :: undefs 13),[hpA 0 1 5 6 3 W ph sp cy,hpB 1 2 4 3 W,hpC 2 3 137 2 N,hpP 3 L,hpP 4 D,hpF 5 z' ov',hpP 6 Q',(7,.fix 0 o),hpP 8 O],9⟩ ∧ 0 ≤ i ∧ i ≤ m ∧ HM R ws C' G' N W L D Q' z' ∧ (C',G',ov') = (X.take i.toNat).foldl (fun s w => shadeW R ph w s) (C,G,ov) ∧ k = (m - i).toNat) m.toNat _
  (Re.at [(0,0),(1,1),(2,2),(3,3),(4,4),(5,5),(6,6),(7,7),(8,8)] []) ⟨0,C,G,ov,Q,z,rfl,by omega,by omega,h,rfl,by omega⟩ ?_
 rintro k s ⟨i,C',G',ov',Q',z',rfl,hi0,hi1,h2,hS,hk⟩
 conv => cbv
 refine Br.mk (fun gi => ?_) (fun gi => ?_)
 ·have gi : i < m := gi
  obtain ⟨k',rfl⟩ : ∃ k',k = k' + 1 := ⟨k - 1,by omega⟩
  obtain ⟨w,hw⟩ : ∃ w,X[i.toNat]? = some w := ⟨_,List.getElem?_eq_getElem (by omega)⟩
  have hc : O[i.toNat]? = some (.int .i64 (.sym w)) := by rw [hO]; exact ipv_get hw
  conv => cbv
  refine Need.mk ⟨hi0,gi⟩ ?_
  conv => cbv
  refine Cell.at i _ hc (by simp [I.val]) rfl ?_
  conv => cbv
  refine cfr (shadeWord_lx R ws C' G' N W ph sp cy L D Q' z' ov' h2 o ho w (hXb w (List.mem_of_getElem? hw))) [(0,0),(1,1),(2,2),(3,3),(4,4),(5,5),(6,6),(7,7)] (fun r h' n' hrr => ?_)
  obtain ⟨C2,G2,ov2,Q2,z2,e1,e2,e3,h3,hS2⟩ := hrr
  subst e1 e2 e3
  have hS3 : (C2,G2,ov2) = (X.take (i.toNat + 1)).foldl (fun s w => shadeW R ph w s) (C,G,ov) := by
   rw [List.take_add_one,hw,Option.toList_some,List.foldl_append,← hS,hS2]; rfl
  conv => cbv
  refine Fit.mk (by show (-9223372036854775808 : Int) ≤ i + 1; omega) (by show i + 1 ≤ 9223372036854775807; omega) fun i2 hi2 => ?_
  have hi2 : i2 = i + 1 := hi2
  rw [show i.toNat + 1 = i2.toNat by omega] at hS3
  conv => cbv
  refine Again.mk k' _ (Nat.lt_succ_self _) (Re.at [(0,0),(1,1),(2,2),(3,3),(4,4),(5,5),(6,6),(7,7),(8,8)] []) ⟨i2,C2,G2,ov2,Q2,z2,rfl,by omega,by omega,h3,hS3,by omega⟩
 ·have gi : ¬ i < m := gi
  rw [List.take_of_length_le (by omega)] at hS
  have hCl := h2.c; have hWn := h.w; have hNr := h.n; have hRr := h.r
  have hQl : Q'.length = C'.length := by rw [h2.q,ipv_length]
  obtain ⟨Q3,hQ3⟩ : ∃ Q3,Q3 = ipv (C'.set a.toNat 2) := ⟨_,rfl⟩
  have hfin : HM R ws (C'.set a.toNat 2) G' N W L D Q3 z' := ⟨h2.a,h2.k,h2.n,h2.r,h2.w,h2.l,h2.d,hQ3,by rw [List.length_set]; exact h2.c,h2.z,h2.g,h2.g8⟩
  conv => cbv
  refine Need.mk ⟨by show 0 ≤ a; omega,by show a < W; omega⟩ ?_
  conv => cbv
  refine Need.mk (by show a + 1 ≤ (Q'.length : Int); omega) ?_
  conv => cbv
  refine Upd.mk fun Q2 hQ2 => ?_
  have hle : pvles Q2 Q3 := by
   have hQ2 : Q2 = Q'.set a.toNat (.int .i64 (.lit 2)) := hQ2
   rw [hQ2,hQ3,h2.q,← ipv_set]
   exact pvles_set _ _ _ _ _ (pvles_refl _) (by simp [pvle,I.val])
  unfold pvles at hle
  clear hQ2
  conv => cbv
  refine RetF.mk [] [hpA 0 1 5 6 3 W ph sp cy,hpB 1 2 4 3 W,hpC 2 3 137 2 N,hpP 3 L,hpP 4 D,hpF 5 z' ov',hpP 6 Q3,(7,.fix 0 o)] 8 (Re.at [(0,0),(1,1),(2,2),(3,3),(4,4),(5,5),(6,6),(7,7)] []) rfl ⟨X,_,G',ov',Q3,z',rfl,rfl,rfl,hfin,hX,by unfold scanS; rw [← hS]⟩
end Go.Proofs.YtpbhcdbkmmjimaaGreatDoor
namespace Go.Proofs.YtpbhcdbkmmjimaaGreatDoor
open Go Go.LX
set_option maxRecDepth 100000
set_option linter.unusedVariables false
set_option linter.unusedSimpArgs false
set_option maxHeartbeats 32000000
theorem HM.pop {R : List Rw} {ws C A : List Int} {v : Int} {N W : Int} {L D Q : List PV} {z z' : ByteArray} (h : HM R ws C (A ++ [v]) N W L D Q z) (hz : z' = ⟨(enc A).toArray⟩) : HM R ws C A N W L D Q z' ∧ 0 ≤ v ∧ v < W :=
 ⟨⟨h.a,h.k,h.n,h.r,h.w,h.l,h.d,h.q,h.c,hz,fun x hx => h.g x (List.mem_append_left _ hx),by have := h.g8; rw [List.length_append] at this; omega⟩,h.g v (by simp)⟩
theorem nextGreyPop_lx (R : List Rw) (ws C G : List Int) (N W ph sp cy : Int) (L D Q : List PV) (z : ByteArray) (ov : Bool) (h : HM R ws C G N W L D Q z) (A : List Int) (v : Int) (hG : G = A ++ [v]) : CallF (fun _ => Tryz.prog) 111 [.ptr 0 (.lit 0)] [hpA 0 1 5 6 3 W ph sp cy,hpB 1 2 4 3 W,hpC 2 3 137 2 N,hpP 3 L,hpP 4 D,hpF 5 z ov,hpP 6 Q] 7 (fun r h n => ∃ (z' : ByteArray),r = .tup [i6 v,.p (.bool true)] ∧ h = [hpA 0 1 5 6 3 W ph sp cy,hpB 1 2 4 3 W,hpC 2 3 137 2 N,hpP 3 L,hpP 4 D,hpF 5 z' ov,hpP 6 Q] ∧ n = 7 ∧ HM R ws C A N W L D Q z') := by
 refine callF_of_body tok Tryz.func111 (by kernel_rfl) rfl rfl rfl ?_; conv => cbv
 refine cfr (greyPop_lx G z ov h.z h.g64 h.g8) [(0,5)] (fun r h' n' hrr => ?_)
 obtain ⟨v2,b,z',A',e1,e2,e3,hz',h4⟩ := hrr
 subst e1 e2 e3
 obtain ⟨hGA,rfl⟩ : G = A' ++ [v2] ∧ b = true := by
  rcases h4 with ⟨e,_⟩ | h4
  ·rw [e] at hG; exact absurd hG.symm (by simp)
  ·exact h4
 obtain ⟨rfl,hv2⟩ := List.append_inj' (hG.symm.trans hGA) rfl
 obtain rfl : v = v2 := by simpa using hv2
 conv => cbv
 refine RetF.mk [i6 v,.p (.bool true)] [hpA 0 1 5 6 3 W ph sp cy,hpB 1 2 4 3 W,hpC 2 3 137 2 N,hpP 3 L,hpP 4 D,hpF 5 z' ov,hpP 6 Q] 7 (Re.at [(0,0),(1,1),(2,2),(3,3),(4,4),(5,5),(6,6)] []) rfl ⟨z',rfl,rfl,rfl,(HM.pop (hG ▸ h) hz').1⟩
theorem markPop_lx (R : List Rw) (ws C G : List Int) (N W ph sp cy : Int) (L D Q : List PV) (z : ByteArray) (ov : Bool) (h : HM R ws C G N W L D Q z) (o : Unit → Obj) (ho : IsPow o) (A : List Int) (v : Int) (hG : G = A ++ [v]) : CallF (fun _ => Tryz.prog) 86 [.ptr 0 (.lit 0)] [hpA 0 1 5 6 3 W ph sp cy,hpB 1 2 4 3 W,hpC 2 3 137 2 N,hpP 3 L,hpP 4 D,hpF 5 z ov,hpP 6 Q,(7,.fix 0 o)] 8 (fun r h n => ∃ (X C' G' : List Int) (ov' : Bool) (Q' : List PV) (z' : ByteArray),r = .p .nils ∧ h = [hpA 0 1 5 6 3 W ph sp cy,hpB 1 2 4 3 W,hpC 2 3 137 2 N,hpP 3 L,hpP 4 D,hpF 5 z' ov',hpP 6 Q',(7,.fix 0 o)] ∧ n = 8 ∧ HM R ws C' G' N W L D Q' z' ∧ Wrds R ws v X ∧ (C',G',ov') = scanS R ph v X (C,A,ov)) := by
 have hv := (HM.pop (z' := ⟨(enc A).toArray⟩) (hG ▸ h) rfl).2
 refine callF_of_body tok Tryz.func86 (by kernel_rfl) rfl rfl rfl ?_; conv => cbv
 refine cfr (nextGreyPop_lx R ws C G N W ph sp cy L D Q z ov h A v hG) [(0,0),(1,1),(2,2),(3,3),(4,4),(5,5),(6,6)] (fun r h' n' hrr => ?_)
 obtain ⟨z1,e1,e2,e3,h1⟩ := hrr
 subst e1 e2 e3
 conv => cbv
 refine cfr (scan_lx R ws C A N W ph sp cy L D Q z1 ov h1 o ho v hv) [(0,0),(1,1),(2,2),(3,3),(4,4),(5,5),(6,6),(7,7)] (fun r h' n' hrr => ?_)
 obtain ⟨X,C',G',ov',Q',z',e1,e2,e3,h2,hX,hS⟩ := hrr
 subst e1 e2 e3
 conv => cbv
 refine RetF.mk [.p .nils] [hpA 0 1 5 6 3 W ph sp cy,hpB 1 2 4 3 W,hpC 2 3 137 2 N,hpP 3 L,hpP 4 D,hpF 5 z' ov',hpP 6 Q',(7,.fix 0 o)] 8 (Re.at [(0,0),(1,1),(2,2),(3,3),(4,4),(5,5),(6,6),(7,7)] []) rfl ⟨X,C',G',ov',Q',z',rfl,rfl,rfl,h2,hX,hS⟩
theorem stepPop_lx (R : List Rw) (ws C G : List Int) (N W ph sp cy : Int) (L D Q : List PV) (z : ByteArray) (ov : Bool) (h : HM R ws C G N W L D Q z) (o : Unit → Obj) (ho : IsPow o) (A : List Int) (v : Int) (hG : G = A ++ [v]) (hph : ph = 1) : CallF (fun _ => Tryz.prog) 47 [.ptr 0 (.lit 0)] [hpA 0 1 5 6 3 W ph sp cy,hpB 1 2 4 3 W,hpC 2 3 137 2 N,hpP 3 L,hpP 4 D,hpF 5 z ov,hpP 6 Q,(7,.fix 0 o)] 8 (fun r h n => ∃ (X C' G' : List Int) (ov' : Bool) (Q' : List PV) (z' : ByteArray),r = .p .nils ∧ h = [hpA 0 1 5 6 3 W ph sp cy,hpB 1 2 4 3 W,hpC 2 3 137 2 N,hpP 3 L,hpP 4 D,hpF 5 z' ov',hpP 6 Q',(7,.fix 0 o)] ∧ n = 8 ∧ HM R ws C' G' N W L D Q' z' ∧ Wrds R ws v X ∧ (C',G',ov') = scanS R ph v X (C,A,ov)) := by
 refine callF_of_body tok Tryz.func47 (by kernel_rfl) rfl rfl rfl ?_; conv => cbv
 refine cfr (phase_lx R ws C G N W ph sp cy L D Q z ov) [(0,0),(1,1),(2,2),(3,3),(4,4),(5,5),(6,6)] (fun r h' n' ⟨e1,e2,e3⟩ => ?_)
 subst e1 e2 e3
 conv => cbv
 refine Br.mk (fun g => ?_) (fun g => ?_)
 case refine_2 =>
  have g : ¬ ph = 1 := g
  exact absurd hph g
 conv => cbv
 refine cfr (markPop_lx R ws C G N W ph sp cy L D Q z ov h o ho A v hG) [(0,0),(1,1),(2,2),(3,3),(4,4),(5,5),(6,6),(7,7)] (fun r h' n' hrr => ?_)
 obtain ⟨X,C',G',ov',Q',z',e1,e2,e3,h2,hX,hS⟩ := hrr
 subst e1 e2 e3
 conv => cbv
 refine RetF.mk [.p .nils] [hpA 0 1 5 6 3 W ph sp cy,hpB 1 2 4 3 W,hpC 2 3 137 2 N,hpP 3 L,hpP 4 D,hpF 5 z' ov',hpP 6 Q',(7,.fix 0 o)] 8 (Re.at [(0,0),(1,1),(2,2),(3,3),(4,4),(5,5),(6,6),(7,7)] []) rfl ⟨X,C',G',ov',Q',z',rfl,rfl,rfl,h2,hX,hS⟩
theorem stepIdle_lx (R : List Rw) (ws C G : List Int) (N W ph sp cy : Int) (L D Q : List PV) (z : ByteArray) (ov : Bool) (h : HM R ws C G N W L D Q z) (hph : ph = 0) : CallF (fun _ => Tryz.prog) 47 [.ptr 0 (.lit 0)] [hpA 0 1 5 6 3 W ph sp cy,hpB 1 2 4 3 W,hpC 2 3 137 2 N,hpP 3 L,hpP 4 D,hpF 5 z ov,hpP 6 Q] 7 (fun r h n => r = .p .nils ∧ h = [hpA 0 1 5 6 3 W ph sp cy,hpB 1 2 4 3 W,hpC 2 3 137 2 N,hpP 3 L,hpP 4 D,hpF 5 z ov,hpP 6 Q] ∧ n = 7) := by
 refine callF_of_body tok Tryz.func47 (by kernel_rfl) rfl rfl rfl ?_; conv => cbv
 refine cfr (phase_lx R ws C G N W ph sp cy L D Q z ov) [(0,0),(1,1),(2,2),(3,3),(4,4),(5,5),(6,6)] (fun r h' n' ⟨e1,e2,e3⟩ => ?_)
 subst e1 e2 e3
 conv => cbv
 refine Br.mk (fun g => ?_) (fun g => ?_)
 case refine_1 =>
  have g : ph = 1 := g
  exfalso
  omega
 conv => cbv
 refine Br.mk (fun g => ?_) (fun g => ?_)
 case refine_1 =>
  have g : ph = 2 := g
  exfalso
  omega
 conv => cbv
 refine RetF.mk [.p .nils] [hpA 0 1 5 6 3 W ph sp cy,hpB 1 2 4 3 W,hpC 2 3 137 2 N,hpP 3 L,hpP 4 D,hpF 5 z ov,hpP 6 Q] 7 (Re.at [(0,0),(1,1),(2,2),(3,3),(4,4),(5,5),(6,6)] []) rfl ⟨rfl,rfl,rfl⟩
theorem stepNil_lx : CallF (fun _ => Tryz.prog) 47 [.p .nilp] [] 0 (fun r h n => r = .p .nils ∧ h = [] ∧ n = 0) := by
 refine callF_of_body tok Tryz.func47 (by kernel_rfl) rfl rfl rfl ?_; conv => cbv
 refine callF_frame phaseNil_lx [] rfl trivial rfl rfl (fun r h' n' ⟨e1,e2,e3⟩ => ?_)
 subst e1 e2 e3
 conv => cbv
 refine Br.mk (fun g => ?_) (fun g => ?_)
 case refine_1 =>
  have g : (0 : Int) = 1 := g
  exfalso
  omega
 conv => cbv
 refine Br.mk (fun g => ?_) (fun g => ?_)
 case refine_1 =>
  have g : (0 : Int) = 2 := g
  exfalso
  omega
 conv => cbv
 refine RetF.mk [.p .nils] [] 0 (Re.at [] []) rfl ⟨rfl,rfl,rfl⟩
theorem shadeNil_lx (a : I) : CallF (fun _ => Tryz.prog) 85 [.p .nilp,.p (.int .i64 a)] [] 0 (fun r h n => r = .tup [] ∧ h = [] ∧ n = 0) := by
 refine callF_of_body tok Tryz.func85 (by kernel_rfl) rfl rfl rfl ?_; conv => cbv
 refine callF_frame phaseNil_lx [] rfl trivial rfl rfl (fun r h' n' ⟨e1,e2,e3⟩ => ?_)
 subst e1 e2 e3
 conv => cbv
 refine Br.mk (fun g => ?_) (fun g => ?_)
 case refine_2 =>
  have g : ¬ (0 : Int) ≠ 1 := g
  exfalso
  omega
 conv => cbv
 refine RetF.mk [] [] 0 (Re.at [] []) rfl ⟨rfl,rfl,rfl⟩
theorem scan_self {R : List Rw} {ph a : Int} {X C G : List Int} {ov : Bool} {s : List Int × List Int × Bool} (h : (C,G,ov) = scanS R ph a X s) (hl : a.toNat < C.length) : C[a.toNat]? = some 2 := by
 unfold scanS at h
 have h1 := congrArg Prod.fst h
 dsimp only at h1
 rw [h1] at hl ⊢
 rw [List.length_set] at hl
 exact List.getElem?_set_self hl
theorem beg_one {R : List Rw} {ws C G : List Int} {ov : Bool} {W a : Int} (ha : a ∈ objs R) (hA : AOk R ws) (hW : W = 32 * R.length) (hS : (C,G,ov) = begS R W [a]) : C = (List.replicate W.toNat 0).set a.toNat 1 ∧ G = [a] ∧ ov = false := by
 have hb := obj_bd hA ha
 have hS : (C,G,ov) = shade R 1 a (List.replicate W.toNat 0,[],false) := hS
 unfold shade at hS
 rw [if_pos ⟨rfl,ha,by show (List.replicate W.toNat (0 : Int))[a.toNat]? = some 0; rw [List.getElem?_replicate,if_pos (by omega)]⟩] at hS
 simpa using hS
end Go.Proofs.YtpbhcdbkmmjimaaGreatDoor
namespace Go.Proofs.YtpbhcdbkmmjimaaGreatDoor
open Go Go.LX
set_option maxRecDepth 100000
set_option linter.unusedVariables false
set_option linter.unusedSimpArgs false
set_option maxHeartbeats 32000000
inductive NextG (R : List Rw) (C G : List Int) (ov : Bool) : Int → Bool → List Int → Bool → Prop
 | pop (A : List Int) (v : Int) (h : G = A ++ [v]) : NextG R C G ov v true A ov
 | none (h : G = []) (ho : ov = false) : NextG R C G ov 0 false [] false
 | found (i : Nat) (a : Int) (h : G = []) (ho : ov = true) (ha : (objs R)[i]? = some a) (hc : C[a.toNat]? = some 1) (hn : ∀ j b,j < i → (objs R)[j]? = some b → C[b.toNat]? ≠ some 1) : NextG R C G ov a true [] true
 | settle (h : G = []) (ho : ov = true) (hn : ∀ (j : Nat) b,(objs R)[j]? = some b → C[b.toNat]? ≠ some 1) : NextG R C G ov 0 false [] false
theorem NextG.det {R : List Rw} {C G G1 G2 : List Int} {ov o1 o2 b1 b2 : Bool} {v1 v2 : Int} (h1 : NextG R C G ov v1 b1 G1 o1) (h2 : NextG R C G ov v2 b2 G2 o2) : v1 = v2 ∧ b1 = b2 ∧ G1 = G2 ∧ o1 = o2 := by
 cases h1 with
 | pop A v h => cases h2 with
  | pop A' v' h' =>
   obtain ⟨rfl,e⟩ := List.append_inj' (h.symm.trans h') rfl
   obtain rfl : v1 = v2 := by simpa using e
   exact ⟨rfl,rfl,rfl,rfl⟩
  | none h' _ => rw [h'] at h; exact absurd h.symm (by simp)
  | found i a h' _ _ _ _ => rw [h'] at h; exact absurd h.symm (by simp)
  | settle h' _ _ => rw [h'] at h; exact absurd h.symm (by simp)
 | none h ho => cases h2 with
  | pop A' v' h' => rw [h] at h'; exact absurd h'.symm (by simp)
  | none _ _ => exact ⟨rfl,rfl,rfl,rfl⟩
  | found i a h' ho' _ _ _ => rw [ho] at ho'; cases ho'
  | settle h' ho' _ => rw [ho] at ho'; cases ho'
 | found i a h ho ha hc hn => cases h2 with
  | pop A' v' h' => rw [h] at h'; exact absurd h'.symm (by simp)
  | none _ ho' => rw [ho] at ho'; cases ho'
  | found i' a' h' ho' ha' hc' hn' =>
   obtain rfl : i = i' := by
    rcases Nat.lt_trichotomy i i' with q | q | q
    ·exact absurd hc (hn' _ _ q ha)
    ·exact q
    ·exact absurd hc' (hn _ _ q ha')
   rw [ha] at ha'
   obtain rfl := Option.some.inj ha'
   exact ⟨rfl,rfl,rfl,rfl⟩
  | settle _ _ hn' => exact absurd hc (hn' _ _ ha)
 | settle h ho hn => cases h2 with
  | pop A' v' h' => rw [h] at h'; exact absurd h'.symm (by simp)
  | none _ ho' => rw [ho] at ho'; cases ho'
  | found i' a' h' ho' ha' hc' hn' => exact absurd hc' (hn _ _ ha')
  | settle _ _ _ => exact ⟨rfl,rfl,rfl,rfl⟩
def Due (R : List Rw) (ws C : List Int) (a : Int) : Prop := (∃ l,Kept R ws a 5 l) ∧ C[a.toNat]? = some 0 ∧ ∃ x,Loaded R ws a 1 x 0 ∧ x ≠ 0
inductive NextF (R : List Rw) (ws C : List Int) : Int → Bool → Prop
 | found (i : Nat) (a : Int) (ha : (objs R)[i]? = some a) (hd : Due R ws C a) (hn : ∀ j b,j < i → (objs R)[j]? = some b → ¬ Due R ws C b) : NextF R ws C a true
 | none (hn : ∀ (j : Nat) b,(objs R)[j]? = some b → ¬ Due R ws C b) : NextF R ws C 0 false
theorem NextF.det {R : List Rw} {ws C : List Int} {b1 b2 : Bool} {v1 v2 : Int} (h1 : NextF R ws C v1 b1) (h2 : NextF R ws C v2 b2) : v1 = v2 ∧ b1 = b2 := by
 cases h1 with
 | found i a ha hd hn => cases h2 with
  | found i' a' ha' hd' hn' =>
   obtain rfl : i = i' := by
    rcases Nat.lt_trichotomy i i' with q | q | q
    ·exact absurd hd (hn' _ _ q ha)
    ·exact q
    ·exact absurd hd' (hn _ _ q ha')
   rw [ha] at ha'
   obtain rfl := Option.some.inj ha'
   exact ⟨rfl,rfl⟩
  | none hn' => exact absurd hd (hn' _ _ ha)
 | none hn => cases h2 with
  | found i' a' ha' hd' hn' => exact absurd hd' (hn _ _ ha')
  | none _ => exact ⟨rfl,rfl⟩
abbrev Gn := Int × Int × List Int × Bool
def gpv : List Gn → List PV
 | [] => []
 | g :: l => .int .i64 (.sym g.1) :: .int .i64 (.sym g.2.1) :: .vsl (.sym (g.2.2.1.length : Int)) true (ipv g.2.2.1) :: .bool g.2.2.2 :: gpv l
theorem gpv_length : ∀ l,(gpv l).length = 4 * l.length
 | [] => rfl
 | g :: l => by simp [gpv,gpv_length l]; omega
theorem gpv_app : ∀ l m,gpv (l ++ m) = gpv l ++ gpv m
 | [],m => rfl
 | g :: l,m => by simp [gpv,gpv_app l m]
inductive Marked (R : List Rw) (ws C G : List Int) (ov : Bool) (sp : Int) : List Gn → Int → Int → List Int → List Int → List Int → Bool → Prop
 | scan (v : Int) (A X C' G' : List Int) (o1 ov' : Bool) (hg : NextG R C G ov v true A o1) (hX : Wrds R ws v X) (hs : (C',G',ov') = scanS R 1 v X (C,A,o1)) : Marked R ws C G ov sp [] 1 sp ws C' G' ov'
 | keep (a : Int) (A X ws' C' G' : List Int) (o1 ov' : Bool) (hg : NextG R C G ov 0 false A o1) (hf : NextF R ws C a true) (hX : Wrds R ws a X) (hst : Stored R ws a 1 0 0 ws') (hs : (C',G',ov') = shade R 1 a (C,A,o1)) : Marked R ws C G ov sp [(5,a,X,true)] 1 sp ws' C' G' ov'
 | sweep (A : List Int) (o1 : Bool) (hg : NextG R C G ov 0 false A o1) (hf : NextF R ws C 0 false) : Marked R ws C G ov sp [] 2 0 ws C A o1
end Go.Proofs.YtpbhcdbkmmjimaaGreatDoor
namespace Go.Proofs.YtpbhcdbkmmjimaaGreatDoor
open Go Go.LX
set_option maxRecDepth 100000
set_option linter.unusedVariables false
set_option linter.unusedSimpArgs false
set_option maxHeartbeats 32000000
theorem HM.over {R : List Rw} {ws C G : List Int} {N W : Int} {L D Q : List PV} {z z' : ByteArray} {G' : List Int} (h : HM R ws C G N W L D Q z) (hz : z' = ⟨(enc G').toArray⟩) (hG : G = [] ∧ G' = []) : HM R ws C G' N W L D Q z' :=
 ⟨h.a,h.k,h.n,h.r,h.w,h.l,h.d,h.q,h.c,hz,fun x hx => (by rw [hG.2] at hx; cases hx),(by rw [hG.2]; exact Nat.zero_le _)⟩
theorem nextGrey_lx (R : List Rw) (ws C G : List Int) (N W ph sp cy : Int) (L D Q : List PV) (z : ByteArray) (ov : Bool) (h : HM R ws C G N W L D Q z) : CallF (fun _ => Tryz.prog) 111 [.ptr 0 (.lit 0)] [hpA 0 1 5 6 3 W ph sp cy,hpB 1 2 4 3 W,hpC 2 3 137 2 N,hpP 3 L,hpP 4 D,hpF 5 z ov,hpP 6 Q] 7 (fun r h n => ∃ (v : Int) (b : Bool) (G' : List Int) (ov' : Bool) (z' : ByteArray),r = .tup [i6 v,.p (.bool b)] ∧ h = [hpA 0 1 5 6 3 W ph sp cy,hpB 1 2 4 3 W,hpC 2 3 137 2 N,hpP 3 L,hpP 4 D,hpF 5 z' ov',hpP 6 Q] ∧ n = 7 ∧ HM R ws C G' N W L D Q z' ∧ NextG R C G ov v b G' ov') := by
 by_cases hG0 : G = []
 case neg =>
  obtain ⟨A,v,hG⟩ : ∃ A v,G = A ++ [v] := ⟨_,_,(List.dropLast_concat_getLast hG0).symm⟩
  exact (nextGreyPop_lx R ws C G N W ph sp cy L D Q z ov h A v hG).mono fun r h' n' ⟨z',e1,e2,e3,h2⟩ => ⟨v,true,A,ov,z',e1,e2,e3,h2,.pop A v hG⟩
 refine callF_of_body tok Tryz.func111 (by kernel_rfl) rfl rfl rfl ?_; conv => cbv
 refine cfr (greyPop_lx G z ov h.z h.g64 h.g8) [(0,5)] (fun r h' n' hrr => ?_)
 obtain ⟨v2,b,z',A',e1,e2,e3,hz',h4⟩ := hrr
 subst e1 e2 e3
 obtain ⟨rfl,rfl,hA'⟩ : v2 = 0 ∧ b = false ∧ A' = [] := by
  rcases h4 with ⟨_,e1,e2,e3⟩ | ⟨e,_⟩
  ·exact ⟨e1,e2,e3⟩
  ·rw [hG0] at e; exact absurd e (by simp)
 have h1 := h.over hz' ⟨hG0,hA'⟩
 conv => cbv
 refine cfr (greyOver_lx z' ov) [(0,5)] (fun r h' n' ⟨e1,e2,e3⟩ => ?_)
 subst e1 e2 e3
 cases ov with
 | false =>
  conv => cbv
  refine RetF.mk [i6 0,.p (.bool false)] [hpA 0 1 5 6 3 W ph sp cy,hpB 1 2 4 3 W,hpC 2 3 137 2 N,hpP 3 L,hpP 4 D,hpF 5 z' false,hpP 6 Q] 7 (Re.at [(0,0),(1,1),(2,2),(3,3),(4,4),(5,5),(6,6)] []) rfl ⟨0,false,A',false,z',rfl,rfl,rfl,h1,by rw [hA']; exact .none hG0 rfl⟩
 | true =>
  conv => cbv
  obtain ⟨m,hm⟩ : ∃ m : Int,m = objCount R := ⟨_,rfl⟩
  refine cfr (objects_lx m R N W L D h.l h.n h.r h.a.rows h.w hm) [(0,1),(1,2),(2,3),(3,4)] (fun r h' n' hrr => ?_)
  obtain ⟨O,e1,e2,e3,hO⟩ := hrr
  subst e1 e2 e3
  have hOl : (O.length : Int) = m := by rw [hO,ipv_length,objs_length h.a.rows,hm]
  have hO : O = ipv (objs R) := hO
  have hol : ((objs R).length : Int) = m := by rw [← hOl,hO,ipv_length]
  have hob : m ≤ 8000 := by have := objsTo_le R R.length; rw [objs_length h.a.rows] at this; have := h.r; omega
  conv => cbv
  refine LoopF.mk (fun k s => ∃ i : Int,s = ⟨.ptr 0 (.lit 0) :: (undefs 27 ++ .sl 7 3 1 (.lit 0) (.sym m) :: .p (.int .i64 (.sym m)) :: .p (.int .i64 (.sym i)) :: undefs 13),[hpA 0 1 5 6 3 W ph sp cy,hpB 1 2 4 3 W,hpC 2 3 137 2 N,hpP 3 L,hpP 4 D,hpF 5 z' true,hpP 6 Q,hpP 7 O],8⟩ ∧ 0 ≤ i ∧ i ≤ m ∧ (∀ (j : Nat) b,(j : Int) < i → (objs R)[j]? = some b → C[b.toNat]? ≠ some 1) ∧ k = (m - i).toNat) m.toNat _
   (Re.at [(0,0),(1,1),(2,2),(3,3),(4,4),(5,5),(6,6),(7,7)] []) ⟨0,rfl,by omega,by omega,fun j b hj => by omega,by omega⟩ ?_
  rintro k s ⟨i,rfl,hi0,hi1,hn,hk⟩
  conv => cbv
  refine Br.mk (fun gi => ?_) (fun gi => ?_)
  ·have gi : i < m := gi
   obtain ⟨k',rfl⟩ : ∃ k',k = k' + 1 := ⟨k - 1,by omega⟩
   obtain ⟨a,ha⟩ : ∃ a,(objs R)[i.toNat]? = some a := ⟨_,List.getElem?_eq_getElem (by omega)⟩
   have hc : O[i.toNat]? = some (.int .i64 (.sym a)) := by rw [hO]; exact ipv_get ha
   conv => cbv
   refine Need.mk ⟨hi0,gi⟩ ?_
   conv => cbv
   refine Cell.at i _ hc (by simp [I.val]) rfl ?_
   conv => cbv
   refine CallF.le (args0 := [.ptr 0 (.lit 0),i6 a,i6 1]) (cfr (is_lx R ws C A' N W ph sp cy L D Q z' true h1 a 1) [(0,0),(1,1),(2,2),(3,3),(4,4),(5,5),(6,6)] (fun r h' n' hrr => ?_)) (by simp [ales,ale,pvle,I.val])
   obtain ⟨b,e1,e2,e3,hb⟩ := hrr
   subst e1 e2 e3
   cases b with
   | true =>
    conv => cbv
    refine RetF.mk [i6 a,.p (.bool true)] [hpA 0 1 5 6 3 W ph sp cy,hpB 1 2 4 3 W,hpC 2 3 137 2 N,hpP 3 L,hpP 4 D,hpF 5 z' true,hpP 6 Q] 7 (Re.at [(0,0),(1,1),(2,2),(3,3),(4,4),(5,5),(6,6)] []) rfl ⟨a,true,A',true,z',rfl,rfl,rfl,h1,by rw [hA']; exact .found i.toNat a hG0 rfl ha (hb.1 rfl).2 (fun j b hj => hn j b (by omega))⟩
   | false =>
    have hna : C[a.toNat]? ≠ some 1 := fun hx => by have := hb.2 ⟨List.mem_of_getElem? ha,hx⟩; cases this
    conv => cbv
    refine Fit.mk (by show (-9223372036854775808 : Int) ≤ i + 1; omega) (by show i + 1 ≤ 9223372036854775807; omega) fun i2 hi2 => ?_
    have hi2 : i2 = i + 1 := hi2
    conv => cbv
    refine Again.mk k' _ (Nat.lt_succ_self _) (Re.at [(0,0),(1,1),(2,2),(3,3),(4,4),(5,5),(6,6),(7,7)] []) ⟨i2,rfl,by omega,by omega,fun j b hj hjb => ?_,by omega⟩
    by_cases q : j = i.toNat
    ·rw [q,ha] at hjb; obtain rfl := Option.some.inj hjb; exact hna
    ·have hj : (j : Int) < i2 := hj
     have hj2 : (j : Int) < i := by omega
     exact hn j b hj2 hjb
  ·have gi : ¬ i < m := gi
   conv => cbv
   refine cfr (greySettle_lx z' true) [(0,5)] (fun r h' n' ⟨e1,e2,e3⟩ => ?_)
   subst e1 e2 e3
   conv => cbv
   refine RetF.mk [i6 0,.p (.bool false)] [hpA 0 1 5 6 3 W ph sp cy,hpB 1 2 4 3 W,hpC 2 3 137 2 N,hpP 3 L,hpP 4 D,hpF 5 z' false,hpP 6 Q] 7 (Re.at [(0,0),(1,1),(2,2),(3,3),(4,4),(5,5),(6,6)] []) rfl ⟨0,false,A',false,z',rfl,rfl,rfl,h1,by rw [hA']; exact .settle hG0 rfl (fun j b hj => hn j b (by have := (List.getElem?_eq_some_iff.1 hj).1; omega) hj)⟩
end Go.Proofs.YtpbhcdbkmmjimaaGreatDoor
namespace Go.Proofs.YtpbhcdbkmmjimaaGreatDoor
open Go Go.LX
set_option maxRecDepth 100000
set_option linter.unusedVariables false
set_option linter.unusedSimpArgs false
set_option maxHeartbeats 32000000
inductive LookR (R : List Rw) (ws : List Int) (a : Int) : LV → Prop
 | box (x e : Int) (hk : KindR R ws a 5) (hx : Loaded R ws a 1 x e) : LookR R ws a (.iface 151 (.agg [i6 a,i6 x]))
 | other (k : Int) (hk : KindR R ws a k) (hne : k ≠ 5) : LookR R ws a (.iface 172 (.agg []))
theorem look9_lx (R : List Rw) (ws C G : List Int) (N W ph sp cy : Int) (L D Q : List PV) (z : ByteArray) (ov : Bool) (h : HM R ws C G N W L D Q z) (a : Int) : CallF (fun _ => Tryz.prog) 132 [.ptr 0 (.lit 0),i6 a] [hpA 0 1 5 6 3 W ph sp cy,hpB 1 2 4 3 W,hpC 2 3 137 2 N,hpP 3 L,hpP 4 D,hpF 5 z ov,hpP 6 Q] 7 (fun r h n => LookR R ws a r ∧ h = [hpA 0 1 5 6 3 W ph sp cy,hpB 1 2 4 3 W,hpC 2 3 137 2 N,hpP 3 L,hpP 4 D,hpF 5 z ov,hpP 6 Q] ∧ n = 7) := by
 refine callF_of_body tok Tryz.func132 (by kernel_rfl) rfl rfl rfl ?_; conv => cbv
 refine cfr (kind_lx R ws N a W L D h.l h.d h.n h.r h.a h.w) [(0,1),(1,2),(2,3),(3,4)] (fun r h' n' hrr => ?_)
 obtain ⟨v,e1,e2,e3,hv⟩ := hrr
 subst e1 e2 e3
 conv => cbv
 refine Br.mk (fun g => ?_) (fun g => ?_)
 ·have g : v = 5 := g
  conv => cbv
  refine CallF.le (args0 := [.ptr 1 (.lit 0),i6 a,i6 1]) (cfr (load_lx 1 R ws N a W L D h.l h.d h.n h.r h.a h.w) [(0,1),(1,2),(2,3),(3,4)] (fun r h' n' hrr => ?_)) (by simp [ales,ale,pvle,I.val])
  obtain ⟨x,e,e1,e2,e3,hx⟩ := hrr
  subst e1 e2 e3
  conv => cbv
  refine RetF.mk [.iface 151 (.agg [i6 a,i6 x])] [hpA 0 1 5 6 3 W ph sp cy,hpB 1 2 4 3 W,hpC 2 3 137 2 N,hpP 3 L,hpP 4 D,hpF 5 z ov,hpP 6 Q] 7 (Re.at [(0,0),(1,1),(2,2),(3,3),(4,4),(5,5),(6,6)] []) rfl ⟨.box x e (g ▸ hv) hx,rfl,rfl⟩
 ·have g : ¬ v = 5 := g
  conv => cbv
  refine RetF.mk [.iface 172 (.agg [])] [hpA 0 1 5 6 3 W ph sp cy,hpB 1 2 4 3 W,hpC 2 3 137 2 N,hpP 3 L,hpP 4 D,hpF 5 z ov,hpP 6 Q] 7 (Re.at [(0,0),(1,1),(2,2),(3,3),(4,4),(5,5),(6,6)] []) rfl ⟨.other v hv g,rfl,rfl⟩
theorem nextFinal_lx (R : List Rw) (ws C G : List Int) (N W ph sp cy : Int) (L D Q : List PV) (z : ByteArray) (ov : Bool) (h : HM R ws C G N W L D Q z) : CallF (fun _ => Tryz.prog) 113 [.ptr 0 (.lit 0)] [hpA 0 1 5 6 3 W ph sp cy,hpB 1 2 4 3 W,hpC 2 3 137 2 N,hpP 3 L,hpP 4 D,hpF 5 z ov,hpP 6 Q] 7 (fun r h n => ∃ (a x : Int) (b : Bool),r = .tup [.agg [i6 a,i6 x],.p (.bool b)] ∧ h = [hpA 0 1 5 6 3 W ph sp cy,hpB 1 2 4 3 W,hpC 2 3 137 2 N,hpP 3 L,hpP 4 D,hpF 5 z ov,hpP 6 Q] ∧ n = 7 ∧ NextF R ws C a b) := by
 obtain ⟨m,hm⟩ : ∃ m : Int,m = objCount R := ⟨_,rfl⟩
 refine callF_of_body tok Tryz.func113 (by kernel_rfl) rfl rfl rfl ?_; conv => cbv
 refine cfr (objects_lx m R N W L D h.l h.n h.r h.a.rows h.w hm) [(0,1),(1,2),(2,3),(3,4)] (fun r h' n' hrr => ?_)
 obtain ⟨O,e1,e2,e3,hO⟩ := hrr
 subst e1 e2 e3
 have hOl : (O.length : Int) = m := by rw [hO,ipv_length,objs_length h.a.rows,hm]
 have hO : O = ipv (objs R) := hO
 have hol : ((objs R).length : Int) = m := by rw [← hOl,hO,ipv_length]
 have hob : m ≤ 8000 := by have := objsTo_le R R.length; rw [objs_length h.a.rows] at this; have := h.r; omega
 conv => cbv
 refine LoopF.mk (fun k s => ∃ i : Int,s = ⟨.ptr 0 (.lit 0) :: .undef :: .ptr 7 (.lit 0) :: .p (.bool false) :: (undefs 8 ++ .sl 8 3 1 (.lit 0) (.sym m) :: .p (.int .i64 (.sym m)) :: .p (.int .i64 (.sym i)) :: undefs 24),[hpA 0 1 5 6 3 W ph sp cy,hpB 1 2 4 3 W,hpC 2 3 137 2 N,hpP 3 L,hpP 4 D,hpF 5 z ov,hpP 6 Q,hpP 8 O,(7,.pure false [.int .i64 (.lit 0),.int .i64 (.lit 0)])],9⟩ ∧ 0 ≤ i ∧ i ≤ m ∧ (∀ (j : Nat) b,(j : Int) < i → (objs R)[j]? = some b → ¬ Due R ws C b) ∧ k = (m - i).toNat) m.toNat _
  (Re.at [(0,0),(1,1),(2,2),(3,3),(4,4),(5,5),(6,6),(7,7),(8,8)] []) ⟨0,rfl,by omega,by omega,fun j b hj => by omega,by omega⟩ ?_
 rintro k s ⟨i,rfl,hi0,hi1,hn,hk⟩
 conv => cbv
 refine Br.mk (fun gi => ?_) (fun gi => ?_)
 ·have gi : i < m := gi
  obtain ⟨k',rfl⟩ : ∃ k',k = k' + 1 := ⟨k - 1,by omega⟩
  obtain ⟨a,ha⟩ : ∃ a,(objs R)[i.toNat]? = some a := ⟨_,List.getElem?_eq_getElem (by omega)⟩
  have hc : O[i.toNat]? = some (.int .i64 (.sym a)) := by rw [hO]; exact ipv_get ha
  have hob2 := (obj_iff h.a a).1 (List.mem_of_getElem? ha)
  have hstep : ∀ i2 : Int,i2 = i + 1 → ¬ Due R ws C a → ∀ (j : Nat) b,(j : Int) < i2 → (objs R)[j]? = some b → ¬ Due R ws C b := by
   intro i2 hi2 hd j b hj hjb
   by_cases q : j = i.toNat
   ·rw [q,ha] at hjb; obtain rfl := Option.some.inj hjb; exact hd
   ·exact hn j b (by omega) hjb
  conv => cbv
  refine Need.mk ⟨hi0,gi⟩ ?_
  conv => cbv
  refine Cell.at i _ hc (by simp [I.val]) rfl ?_
  conv => cbv
  refine cfr (look9_lx R ws C G N W ph sp cy L D Q z ov h a) [(0,0),(1,1),(2,2),(3,3),(4,4),(5,5),(6,6)] (fun r h' n' hrr => ?_)
  obtain ⟨hL,e2,e3⟩ := hrr
  subst e2 e3
  cases hL with
  | other k2 hk2 hne =>
   have hnd : ¬ Due R ws C a := by
    rintro ⟨⟨l,hK⟩,_⟩
    cases hk2 with
    | no hno => exact hno hob2
    | is _ l2 hK2 => exact hne (hK2.det9 hK).1
   conv => cbv
   refine Fit.mk (by show (-9223372036854775808 : Int) ≤ i + 1; omega) (by show i + 1 ≤ 9223372036854775807; omega) fun i2 hi2 => ?_
   have hi2 : i2 = i + 1 := hi2
   conv => cbv
   refine Again.mk k' _ (Nat.lt_succ_self _) (Re.at [(0,0),(1,1),(2,2),(3,3),(4,4),(5,5),(6,6),(7,7),(8,8)] []) ⟨i2,rfl,by omega,by omega,hstep i2 hi2 hnd,by omega⟩
  | box x e hk2 hx =>
   obtain ⟨l,hK⟩ : ∃ l,Kept R ws a 5 l := by
    generalize hk5 : (5 : Int) = k5 at hk2
    cases hk2 with
    | no _ => cases hk5
    | is _ l hK => exact ⟨l,hk5 ▸ hK⟩
   have hx0 : x ≠ 0 → e = 0 := by
    intro hne
    generalize h1 : (1 : Int) = i1 at hx
    cases hx with
    | none _ => exact absurd rfl hne
    | arg _ _ _ _ => exact absurd rfl hne
    | ok _ _ _ _ _ _ => rfl
   conv => cbv
   refine Br.mk (fun gx => ?_) (fun gx => ?_)
   ·have gx : x ≠ 0 := gx
    obtain rfl := hx0 gx
    conv => cbv
    refine CallF.le (args0 := [.ptr 0 (.lit 0),i6 a,i6 0]) (cfr (is_lx R ws C G N W ph sp cy L D Q z ov h a 0) [(0,0),(1,1),(2,2),(3,3),(4,4),(5,5),(6,6)] (fun r h' n' hrr => ?_)) (by simp [ales,ale,pvle,I.val])
    obtain ⟨b,e1,e2,e3,hb⟩ := hrr
    subst e1 e2 e3
    cases b with
    | true =>
     conv => cbv
     refine RetF.mk [.agg [i6 a,i6 x],.p (.bool true)] [hpA 0 1 5 6 3 W ph sp cy,hpB 1 2 4 3 W,hpC 2 3 137 2 N,hpP 3 L,hpP 4 D,hpF 5 z ov,hpP 6 Q] 7 (Re.at [(0,0),(1,1),(2,2),(3,3),(4,4),(5,5),(6,6)] []) rfl ⟨a,x,true,rfl,rfl,rfl,.found i.toNat a ha ⟨⟨l,hK⟩,(hb.1 rfl).2,x,hx,gx⟩ (fun j b hj => hn j b (by omega))⟩
    | false =>
     have hnd : ¬ Due R ws C a := fun hd => by have := hb.2 ⟨List.mem_of_getElem? ha,hd.2.1⟩; cases this
     conv => cbv
     refine Fit.mk (by show (-9223372036854775808 : Int) ≤ i + 1; omega) (by show i + 1 ≤ 9223372036854775807; omega) fun i2 hi2 => ?_
     have hi2 : i2 = i + 1 := hi2
     conv => cbv
     refine Again.mk k' _ (Nat.lt_succ_self _) (Re.at [(0,0),(1,1),(2,2),(3,3),(4,4),(5,5),(6,6),(7,7),(8,8)] []) ⟨i2,rfl,by omega,by omega,hstep i2 hi2 hnd,by omega⟩
   ·have gx : ¬ x ≠ 0 := gx
    have hnd : ¬ Due R ws C a := by
     rintro ⟨_,_,y,hy,hy0⟩
     obtain ⟨rfl,_⟩ := loaded_det hx hy
     exact gx hy0
    conv => cbv
    refine Fit.mk (by show (-9223372036854775808 : Int) ≤ i + 1; omega) (by show i + 1 ≤ 9223372036854775807; omega) fun i2 hi2 => ?_
    have hi2 : i2 = i + 1 := hi2
    conv => cbv
    refine Again.mk k' _ (Nat.lt_succ_self _) (Re.at [(0,0),(1,1),(2,2),(3,3),(4,4),(5,5),(6,6),(7,7),(8,8)] []) ⟨i2,rfl,by omega,by omega,hstep i2 hi2 hnd,by omega⟩
 ·have gi : ¬ i < m := gi
  conv => cbv
  refine RetF.mk [.agg [i6 0,i6 0],.p (.bool false)] [hpA 0 1 5 6 3 W ph sp cy,hpB 1 2 4 3 W,hpC 2 3 137 2 N,hpP 3 L,hpP 4 D,hpF 5 z ov,hpP 6 Q] 7 (Re.at [(0,0),(1,1),(2,2),(3,3),(4,4),(5,5),(6,6)] []) rfl ⟨0,0,false,rfl,rfl,rfl,.none (fun j b hj => hn j b (by have := (List.getElem?_eq_some_iff.1 hj).1; omega) hj)⟩
theorem wordsV_lx (R : List Rw) (ws C G : List Int) (N W ph sp cy : Int) (L D Q : List PV) (z : ByteArray) (ov : Bool) (h : HM R ws C G N W L D Q z) (a : Int) : CallF (fun _ => Tryz.prog) 115 [.ptr 0 (.lit 0),i6 a] [hpA 0 1 5 6 3 W ph sp cy,hpB 1 2 4 3 W,hpC 2 3 137 2 N,hpP 3 L,hpP 4 D,hpF 5 z ov,hpP 6 Q] 7 (fun r h n => ∃ (X : List Int) (m : Int) (O : List PV),r = .p (.vsl (.sym m) true O) ∧ h = [hpA 0 1 5 6 3 W ph sp cy,hpB 1 2 4 3 W,hpC 2 3 137 2 N,hpP 3 L,hpP 4 D,hpF 5 z ov,hpP 6 Q] ∧ n = 7 ∧ O = ipv X ∧ m = X.length ∧ Wrds R ws a X) :=
 (wordsH_lx R ws C G N W ph sp cy L D Q z ov h a).ret fun r h' n' ⟨X,m,O,e1,e2,e3,hO,hm,hX⟩ => by
  subst e1 e2 e3
  exact RetF.mk [.p (.vsl (.sym m) true O)] [hpA 0 1 5 6 3 W ph sp cy,hpB 1 2 4 3 W,hpC 2 3 137 2 N,hpP 3 L,hpP 4 D,hpF 5 z ov,hpP 6 Q] 7 (Re.at [(0,0),(1,1),(2,2),(3,3),(4,4),(5,5),(6,6)] []) rfl ⟨X,m,O,rfl,rfl,rfl,hO,hm,hX⟩
theorem shadeW_zero (R : List Rw) (ph : Int) (s : List Int × List Int × Bool) (e : Int) : storeS R ph e 0 s = s := by
 unfold storeS shadeW
 split
 ·rw [if_neg (by decide)]
 ·rfl
theorem keep_lx (R : List Rw) (ws C G : List Int) (N W ph sp cy : Int) (L D Q : List PV) (z : ByteArray) (ov : Bool) (h : HM R ws C G N W L D Q z) (o : Unit → Obj) (ho : IsPow o) (a x : Int) : CallF (fun _ => Tryz.prog) 114 [.ptr 0 (.lit 0),.agg [i6 a,i6 x]] [hpA 0 1 5 6 3 W ph sp cy,hpB 1 2 4 3 W,hpC 2 3 137 2 N,hpP 3 L,hpP 4 D,hpF 5 z ov,hpP 6 Q,(7,.fix 0 o)] 8 (fun r h n => ∃ (X : List Int) (m e : Int) (O : List PV) (ws' C' G' : List Int) (ov' : Bool) (D' Q' : List PV) (z' : ByteArray),r = .agg [.p (.int .i64 (.lit 5)),i6 a,.p (.vsl (.sym m) true O),.p (.bool true)] ∧ h = [hpA 0 1 5 6 3 W ph sp cy,hpB 1 2 4 3 W,hpC 2 3 137 2 N,hpP 3 L,hpP 4 D',hpF 5 z' ov',hpP 6 Q',(7,.fix 0 o)] ∧ n = 8 ∧ HM R ws' C' G' N W L D' Q' z' ∧ O = ipv X ∧ m = X.length ∧ Wrds R ws a X ∧ Stored R ws a 1 0 e ws' ∧ (C',G',ov') = shade R ph a (C,G,ov)) := by
 refine callF_of_body tok Tryz.func114 (by kernel_rfl) rfl rfl rfl ?_; conv => cbv
 refine cfr (wordsV_lx R ws C G N W ph sp cy L D Q z ov h a) [(0,0),(1,1),(2,2),(3,3),(4,4),(5,5),(6,6)] (fun r h' n' hrr => ?_)
 obtain ⟨X,m,O,e1,e2,e3,hO,hm,hX⟩ := hrr
 subst e1 e2 e3
 conv => cbv
 refine CallF.le (args0 := [.ptr 0 (.lit 0),i6 a,i6 1,i6 0]) (cfr (store9_lx R ws C G N W ph sp cy L D Q z ov h o ho a 1 0 (by decide)) [(0,0),(1,1),(2,2),(3,3),(4,4),(5,5),(6,6),(7,7)] (fun r h' n' hrr => ?_)) (by simp [ales,ale,pvle,I.val])
 obtain ⟨e,ws',C1,G1,ov1,D',Q1,z1,e1,e2,e3,h1,hT,hS⟩ := hrr
 subst e1 e2 e3
 rw [shadeW_zero] at hS
 conv => cbv
 refine cfr (shade_lx R ws' C1 G1 N W ph sp cy L D' Q1 z1 ov1 h1 o ho a) [(0,0),(1,1),(2,2),(3,3),(4,4),(5,5),(6,6),(7,7)] (fun r h' n' hrr => ?_)
 obtain ⟨C',G',ov',Q',z',e1,e2,e3,h2,hS2⟩ := hrr
 subst e1 e2 e3
 rw [hS] at hS2
 conv => cbv
 refine RetF.mk [.agg [.p (.int .i64 (.lit 5)),i6 a,.p (.vsl (.sym m) true O),.p (.bool true)]] [hpA 0 1 5 6 3 W ph sp cy,hpB 1 2 4 3 W,hpC 2 3 137 2 N,hpP 3 L,hpP 4 D',hpF 5 z' ov',hpP 6 Q',(7,.fix 0 o)] 8 (Re.at [(0,0),(1,1),(2,2),(3,3),(4,4),(5,5),(6,6),(7,7)] []) rfl ⟨X,m,e,O,ws',C',G',ov',D',Q',z',rfl,rfl,rfl,h2,hO,hm,hX,hT,hS2⟩
theorem markH_lx (R : List Rw) (ws C G : List Int) (N W ph sp cy : Int) (L D Q : List PV) (z : ByteArray) (ov : Bool) (h : HM R ws C G N W L D Q z) (o : Unit → Obj) (ho : IsPow o) (hph : ph = 1) : CallF (fun _ => Tryz.prog) 86 [.ptr 0 (.lit 0)] [hpA 0 1 5 6 3 W ph sp cy,hpB 1 2 4 3 W,hpC 2 3 137 2 N,hpP 3 L,hpP 4 D,hpF 5 z ov,hpP 6 Q,(7,.fix 0 o)] 8 (fun r h n => ∃ (out : List Gn) (k ph' sp' : Int) (cells : List PV) (ws' C' G' : List Int) (ov' : Bool) (D' Q' : List PV) (z' : ByteArray),r = .p (.vsl (.sym k) true cells) ∧ h = [hpA 0 1 5 6 3 W ph' sp' cy,hpB 1 2 4 3 W,hpC 2 3 137 2 N,hpP 3 L,hpP 4 D',hpF 5 z' ov',hpP 6 Q',(7,.fix 0 o)] ∧ n = 8 ∧ HM R ws' C' G' N W L D' Q' z' ∧ cells = gpv out ∧ k = out.length ∧ Marked R ws C G ov sp out ph' sp' ws' C' G' ov') := by
 subst hph
 refine callF_of_body tok Tryz.func86 (by kernel_rfl) rfl rfl rfl ?_; conv => cbv
 refine cfr (nextGrey_lx R ws C G N W 1 sp cy L D Q z ov h) [(0,0),(1,1),(2,2),(3,3),(4,4),(5,5),(6,6)] (fun r h' n' hrr => ?_)
 obtain ⟨v,b,G1,ov1,z1,e1,e2,e3,h1,hg⟩ := hrr
 subst e1 e2 e3
 cases b with
 | true =>
  have hv : 0 ≤ v ∧ v < W := by
   cases hg with
   | pop A _ hG => exact h.g v (by rw [hG]; simp)
   | found i _ _ _ ha _ _ => have := obj_bd h.a (List.mem_of_getElem? ha); have := h.w; have := h.n; omega
  conv => cbv
  refine cfr (scan_lx R ws C G1 N W 1 sp cy L D Q z1 ov1 h1 o ho v hv) [(0,0),(1,1),(2,2),(3,3),(4,4),(5,5),(6,6),(7,7)] (fun r h' n' hrr => ?_)
  obtain ⟨X,C',G',ov',Q',z',e1,e2,e3,h2,hX,hS⟩ := hrr
  subst e1 e2 e3
  conv => cbv
  refine RetF.mk [.p (.vsl (.sym 0) true [])] [hpA 0 1 5 6 3 W 1 sp cy,hpB 1 2 4 3 W,hpC 2 3 137 2 N,hpP 3 L,hpP 4 D,hpF 5 z' ov',hpP 6 Q',(7,.fix 0 o)] 8 (Re.at [(0,0),(1,1),(2,2),(3,3),(4,4),(5,5),(6,6),(7,7)] []) rfl ⟨[],0,1,sp,[],ws,C',G',ov',D,Q',z',rfl,rfl,rfl,h2,rfl,rfl,.scan v G1 X C' G' ov1 ov' hg hX hS⟩
 | false =>
  have hv0 : v = 0 := by
   cases hg <;> rfl
  subst hv0
  conv => cbv
  refine cfr (nextFinal_lx R ws C G1 N W 1 sp cy L D Q z1 ov1 h1) [(0,0),(1,1),(2,2),(3,3),(4,4),(5,5),(6,6)] (fun r h' n' hrr => ?_)
  obtain ⟨a,x,b,e1,e2,e3,hf⟩ := hrr
  subst e1 e2 e3
  cases b with
  | true =>
   conv => cbv
   refine cfr (keep_lx R ws C G1 N W 1 sp cy L D Q z1 ov1 h1 o ho a x) [(0,0),(1,1),(2,2),(3,3),(4,4),(5,5),(6,6),(7,7)] (fun r h' n' hrr => ?_)
   obtain ⟨X,m,e,O,ws',C',G',ov',D',Q',z',e1,e2,e3,h2,hO,hm,hX,hT,hS⟩ := hrr
   subst e1 e2 e3
   have he : e = 0 := by
    cases hf with
    | found i _ ha hd _ =>
     obtain ⟨⟨l,hK⟩,_,y,hy,_⟩ := hd
     cases hy with
     | ok _ l2 _ hK2 hi _ =>
      cases hT with
      | none hno => exact absurd hK2.obj6 hno
      | arg k3 l3 hK3 hi3 => obtain ⟨_,rfl⟩ := hK2.det9 hK3; exact absurd hi hi3
      | ok _ _ _ _ => rfl
   subst he
   conv => cbv
   refine RetF.mk [.p (.vsl (.sym 1) true [.int .i64 (.sym 5),.int .i64 (.sym a),.vsl (.sym m) true O,.bool true])] [hpA 0 1 5 6 3 W 1 sp cy,hpB 1 2 4 3 W,hpC 2 3 137 2 N,hpP 3 L,hpP 4 D',hpF 5 z' ov',hpP 6 Q',(7,.fix 0 o)] 8 (Re.at [(0,0),(1,1),(2,2),(3,3),(4,4),(5,5),(6,6),(7,7)] []) rfl ⟨[(5,a,X,true)],1,1,sp,_,ws',C',G',ov',D',Q',z',rfl,rfl,rfl,h2,by rw [hO,hm]; rfl,rfl,.keep a G1 X ws' C' G' ov1 ov' hg hf hX hT hS⟩
  | false =>
   have ha0 : a = 0 := by cases hf; rfl
   subst ha0
   conv => cbv
   refine RetF.mk [.p (.vsl (.sym 0) true [])] [hpA 0 1 5 6 3 W 2 0 cy,hpB 1 2 4 3 W,hpC 2 3 137 2 N,hpP 3 L,hpP 4 D,hpF 5 z1 ov1,hpP 6 Q,(7,.fix 0 o)] 8 (Re.at [(0,0),(1,1),(2,2),(3,3),(4,4),(5,5),(6,6),(7,7)] []) rfl ⟨[],0,2,0,[],ws,C,G1,ov1,D,Q,z1,rfl,rfl,rfl,h1,rfl,rfl,.sweep G1 ov1 hg hf⟩
end Go.Proofs.YtpbhcdbkmmjimaaGreatDoor
