/-
  The ground of the proof, part 6: the calculus and what is proved with it.
-/
import Derived.Test.YtjfdfbpgckilpaaGreatDoorBe
import Derived.Laws.RangeAny
import Derived.Lib.ItoaLen
import Derived.Test.YtjfdfbpgckilpaaGreatDoorBd
namespace Go.Proofs.YtjfdfbpgckilpaaGreatDoor
open Go Go.LX
set_option maxRecDepth 100000
set_option linter.unusedVariables false
set_option maxHeartbeats 32000000
theorem dec_small {u : Nat} (h : u < 10) : Lib.decDigits u = [UInt8.ofNat (48 + u)] := Lib.decDigits_one h
theorem dec_big {u : Nat} (h : ¬ u < 10) : Lib.decDigits u = Lib.decDigits (u / 10) ++ [UInt8.ofNat (48 + u % 10)] := by
 rw [Lib.decDigits,dif_neg h]
theorem digit_nat {d : Nat} (h : d < 10) : (UInt8.ofNat (48 + d)).toNat = 48 + d := by
 simp; omega
theorem parse_dec : ∀ (u : Nat),u ≤ 9223372036854775808 → ∀ r,Lib.parseUint10 0 (Lib.decDigits u ++ r) = Lib.parseUint10 u r := by
 intro u
 induction u using Nat.strongRecOn with
 | ind u ih =>
  intro hu r
  by_cases h : u < 10
  ·rw [dec_small h,List.cons_append,List.nil_append,Lib.parseUint10,digit_nat h,if_pos (by omega),if_neg (by omega),if_neg (by omega)]
   congr 1; omega
  ·rw [dec_big h,List.append_assoc,ih (u / 10) (by omega) (by omega),List.cons_append,List.nil_append,Lib.parseUint10,digit_nat (Nat.mod_lt _ (by omega)),if_pos (by omega),if_neg (by omega),if_neg (by omega)]
   congr 1; omega
theorem dec_ne (u : Nat) : Lib.decDigits u ≠ [] := by
 by_cases h : u < 10
 ·rw [dec_small h]; simp
 ·rw [dec_big h]; simp
theorem dec_dig : ∀ (u : Nat),∀ c ∈ Lib.decDigits u,48 ≤ c.toNat ∧ c.toNat ≤ 57 := by
 intro u
 induction u using Nat.strongRecOn with
 | ind u ih =>
  intro c hc
  by_cases h : u < 10
  ·rw [dec_small h] at hc
   rw [List.mem_singleton.1 hc,digit_nat h]; omega
  ·rw [dec_big h] at hc
   rcases List.mem_append.1 hc with hc | hc
   ·exact ih _ (by omega) c hc
   ·rw [List.mem_singleton.1 hc,digit_nat (Nat.mod_lt _ (by omega))]; omega
theorem itoa_dig (a : Int) : ∀ c ∈ Lib.itoa a,c.toNat = 45 ∨ (48 ≤ c.toNat ∧ c.toNat ≤ 57) := by
 intro c hc
 unfold Lib.itoa at hc
 split at hc
 ·rcases List.mem_cons.1 hc with rfl | hc
  ·exact .inl rfl
  ·exact .inr (dec_dig _ c hc)
 ·exact .inr (dec_dig _ c hc)
theorem itoa_ne (a : Int) : Lib.itoa a ≠ [] := by
 unfold Lib.itoa
 split
 ·simp
 ·exact dec_ne _
theorem atoi_itoa (a : Int) (h0 : -9223372036854775808 ≤ a) (h1 : a ≤ 9223372036854775807) : Lib.atoiAll (Lib.itoa a) = .ok a := by
 unfold Lib.itoa
 by_cases h : a < 0
 ·rw [if_pos h]
  have hp : Lib.parseMag (Lib.decDigits a.natAbs) = .ok a.natAbs := by
   rw [Lib.parseMag,if_neg (dec_ne _)]
   have := parse_dec a.natAbs (by omega) []
   rw [List.append_nil] at this
   rw [this]; rfl
  have h45 : (45 : UInt8).toNat = 45 := rfl
  have h43 : ¬ ((45 : Nat) = 43) := by omega
  simp only [Lib.atoiAll,h45,h43,or_true,if_true,hp,not_true,false_and,if_false,true_and]
  rw [if_neg (by omega)]
  congr 1; omega
 ·rw [if_neg h]
  have hp : Lib.parseMag (Lib.decDigits a.toNat) = .ok a.toNat := by
   rw [Lib.parseMag,if_neg (dec_ne _)]
   have := parse_dec a.toNat (by omega) []
   rw [List.append_nil] at this
   rw [this]; rfl
  cases e : Lib.decDigits a.toNat with
  | nil => exact absurd e (dec_ne _)
  | cons c r =>
   have hc := dec_dig a.toNat c (by rw [e]; exact List.mem_cons_self)
   rw [e] at hp
   have h43 : ¬ (c.toNat = 43) := by omega
   have h45 : ¬ (c.toNat = 45) := by omega
   simp only [Lib.atoiAll,h43,h45,or_false,if_false,hp,not_false_iff,true_and,false_and]
   rw [if_neg (by omega)]
   congr 1; omega
def enc : List Int → List UInt8
 | [] => []
 | a :: A => Lib.itoa a ++ 32 :: enc A
theorem enc_append : ∀ A B,enc (A ++ B) = enc A ++ enc B
 | [],B => rfl
 | a :: A,B => by simp [enc,enc_append A B]
theorem enc_low : ∀ (A : List Int),∀ c ∈ enc A,c.toNat < 128
 | [],c,h => by cases h
 | a :: A,c,h => by
  rw [enc] at h
  rcases List.mem_append.1 h with h | h
  ·have := itoa_dig a c h; omega
  ·rcases List.mem_cons.1 h with rfl | h
   ·decide
   ·exact enc_low A c h
theorem count_itoa (a : Int) : (Lib.itoa a).count 32 = 0 := by
 rw [List.count_eq_zero]
 intro h
 have := itoa_dig a 32 h
 have h32 : (32 : UInt8).toNat = 32 := rfl
 omega
theorem enc_count : ∀ (A : List Int),(enc A).count 32 = A.length
 | [] => rfl
 | a :: A => by rw [enc,List.count_append,count_itoa,List.count_cons,enc_count A]; simp
theorem dec_atE (l : List UInt8) (hl : ∀ c ∈ l,c.toNat < 128) (i : Nat) (c : UInt8) (h : l[i]? = some c) : Utf8.decode ⟨l.toArray⟩ i = (c.toNat,1) := by
 have hi := (List.getElem?_eq_some_iff.1 h).1
 have hc : l[i] = c := (List.getElem?_eq_some_iff.1 h).2
 have hsz : i < (ByteArray.mk l.toArray).size := by show i < l.toArray.size; simpa using hi
 have hg : (ByteArray.mk l.toArray)[i]'hsz = c := by show l.toArray[i]'_ = c; simpa using hc
 have := decode_ascii ⟨l.toArray⟩ i hsz (by rw [hg]; exact hl c (List.mem_of_getElem? h))
 rw [this,hg]
theorem greyLen_lx (A : List Int) (z : ByteArray) (ov : Bool) (hz : z = ⟨(enc A).toArray⟩) (hA : (enc A).length < 1000000) :
  CallF (fun _ => Tryz.prog) 181 [.ptr 0 (.lit 0)] [hpF 0 z ov] 1 (fun r h n => ∃ m : Int,r = .p (.int .i64 (.sym m)) ∧ m = A.length ∧ h = [hpF 0 z ov] ∧ n = 1) := by
 refine callF_of_body tok Tryz.func181 (by kernel_rfl) rfl rfl rfl ?_; conv => cbv
 obtain ⟨N,hN⟩ : ∃ N : Int,N = (enc A).length := ⟨_,rfl⟩
 refine LoopF.mk (fun k s => ∃ (pos cnt : Int),s = ⟨.ptr 0 (.lit 0) :: .undef :: .undef :: .p (.int .i64 (.sym cnt)) :: (undefs 8 ++ .ptr 1 (.lit 0) :: undefs 8),[(1,.iter (fun _ => z) (.sym pos)),hpF 0 z ov],2⟩ ∧ 0 ≤ pos ∧ pos ≤ N ∧ cnt = ((enc A).take pos.toNat).count 32 ∧ k = (N - pos).toNat) N.toNat _
  (Re.at [(0,0),(1,1)] []) ⟨0,0,rfl,by omega,by omega,by simp,by omega⟩ ?_
 rintro k s ⟨pos,cnt,rfl,hp0,hp1,hcnt,hk⟩
 have hzs : (z.size : Int) = (enc A).length := by rw [hz]; show ((enc A).toArray.size : Int) = _; simp
 conv => cbv
 by_cases hend : pos = N
 ·refine NextS.over (by show (z.size : Int) ≤ pos; omega) ?_
  conv => cbv
  refine RetF.mk [i6 cnt] [hpF 0 z ov] 1 (Re.at [(0,0)] []) rfl ⟨cnt,rfl,?_,rfl,rfl⟩
  rw [hcnt,show pos.toNat = (enc A).length by omega,List.take_length,enc_count]
 ·obtain ⟨c,hc⟩ : ∃ c,(enc A)[pos.toNat]? = some c := ⟨_,List.getElem?_eq_getElem (by omega)⟩
  have hlow := enc_low A c (List.mem_of_getElem? hc)
  have hd := dec_atE (enc A) (enc_low A) pos.toNat c hc
  rw [← hz] at hd
  refine NextS.more (by show pos < (z.size : Int); omega) ?_
  intro r p' hr hp
  have hr : r = (c.toNat : Int) := by
   have : r = ((Utf8.decode z pos.toNat).1 : Int) := hr
   rw [this,hd]
  have hp : p' = pos + 1 := by
   have : p' = pos + ((Utf8.decode z pos.toNat).2 : Int) := hp
   rw [this,hd]; rfl
  have htake : (enc A).take p'.toNat = (enc A).take pos.toNat ++ [c] := by
   rw [show p'.toNat = pos.toNat + 1 by omega,List.take_add_one,hc]; rfl
  have hcl := List.count_le_length (a := (32 : UInt8)) (l := (enc A).take pos.toNat)
  have htl : ((enc A).take pos.toNat).length ≤ (enc A).length := by rw [List.length_take]; omega
  obtain ⟨k',rfl⟩ : ∃ k',k = k' + 1 := ⟨k - 1,by omega⟩
  conv => cbv
  refine Br.mk (fun g => ?_) (fun g => ?_)
  ·have g : r = 32 := g
   have hc32 : c = 32 := UInt8.toNat_inj.1 (by show c.toNat = 32; omega)
   conv => cbv
   refine Fit.mk (by show (-9223372036854775808 : Int) ≤ cnt + 1; omega) (by show cnt + 1 ≤ 9223372036854775807; omega) ?_
   intro c2 hc2
   have hc2 : c2 = cnt + 1 := hc2
   conv => cbv
   refine Again.mk k' _ (Nat.lt_succ_self _) (Re.at [(0,0),(1,1)] []) ⟨p',c2,rfl,by omega,by omega,?_,by omega⟩
   rw [htake,List.count_append,hc32,hc2,hcnt]; simp
  ·have g : ¬ r = 32 := g
   have hc32 : ¬ c = 32 := fun h => g (by rw [hr,h]; rfl)
   conv => cbv
   refine Again.mk k' _ (Nat.lt_succ_self _) (Re.at [(0,0),(1,1)] []) ⟨p',cnt,rfl,by omega,by omega,?_,by omega⟩
   rw [htake,List.count_append,hcnt]
   have : List.count (32 : UInt8) [c] = 0 := by rw [List.count_eq_zero]; simp; exact fun h => hc32 h.symm
   rw [this]; simp
theorem ext_from (l : List UInt8) (k : Nat) : (ByteArray.mk l.toArray).extract k (ByteArray.mk l.toArray).size = ⟨(l.drop k).toArray⟩ := by
 apply ByteArray.ext
 apply Array.ext'
 rw [ByteArray.data_extract]
 show (l.toArray.extract k l.toArray.size).toList = _
 simp
 exact List.take_of_length_le (by simp)
theorem ext_upto (l : List UInt8) (k : Nat) : (ByteArray.mk l.toArray).extract 0 k = ⟨(l.take k).toArray⟩ := by
 apply ByteArray.ext
 apply Array.ext'
 rw [ByteArray.data_extract]
 show (l.toArray.extract 0 k).toList = _
 simp
theorem enc_last : ∀ (A : List Int),A ≠ [] → (enc A)[(enc A).length - 1]? = some 32
 | [],h => absurd rfl h
 | [a],_ => by simp [enc]
 | a :: b :: A,_ => by
  have ih := enc_last (b :: A) (by simp)
  have hne : 0 < (enc (b :: A)).length := by simp [enc]; omega
  rw [enc]
  have hl : (Lib.itoa a ++ 32 :: enc (b :: A)).length - 1 = (Lib.itoa a).length + (((enc (b :: A)).length - 1) + 1) := by simp; omega
  rw [hl,List.getElem?_append_right (by omega),Nat.add_sub_cancel_left,List.getElem?_cons_succ]
  exact ih
theorem enc_end (A : List Int) (a : Int) : enc (A ++ [a]) = enc A ++ (Lib.itoa a ++ [32]) := by rw [enc_append]; rfl
theorem partLast_lx (A : List Int) (a : Int) (z : ByteArray) (hz : z = ⟨(enc (A ++ [a])).toArray⟩) (hA : (enc (A ++ [a])).length < 1000000) :
  CallF (fun _ => Tryz.prog) 228 [.p (.str fun _ => z)] [] 0 (fun r h n => (∃ x y : ByteArray,r = .tup [.p (.str fun _ => x),.p (.str fun _ => y)] ∧ x = ⟨(enc A).toArray⟩ ∧ y = ⟨(Lib.itoa a).toArray⟩) ∧ h = [] ∧ n = 0) := by
 generalize hE : enc (A ++ [a]) = E at hz hA
 have hE2 := hE
 rw [enc_end] at hE2
 obtain ⟨T,hT⟩ : ∃ T : Int,T = E.length := ⟨_,rfl⟩
 obtain ⟨L,hL⟩ : ∃ L : Int,L = (enc A).length := ⟨_,rfl⟩
 obtain ⟨D,hD⟩ : ∃ D : Int,D = (Lib.itoa a).length := ⟨_,rfl⟩
 have hTL : T = L + D + 1 := by rw [hT,← hE2,hL,hD]; simp; omega
 have hD1 : 1 ≤ D := by
  have := itoa_ne a
  have : 0 < (Lib.itoa a).length := List.length_pos_iff.2 this
  omega
 have F1 : 0 < L → E[(L - 1).toNat]? = some 32 := fun h => by
  have hne : A ≠ [] := by rintro rfl; simp [enc] at hL; omega
  have := enc_last A hne
  rw [← hE2,List.getElem?_append_left (by omega),← this]; congr 1; omega
 have F2 : ∀ (p : Int) (c : UInt8),L ≤ p → p < L + D → E[p.toNat]? = some c → c ≠ 32 := fun p c h1 h2 h3 h4 => by
  rw [← hE2,List.getElem?_append_right (by omega),List.getElem?_append_left (by omega)] at h3
  have := itoa_dig a c (List.mem_of_getElem? h3)
  subst h4
  have h32 : (32 : UInt8).toNat = 32 := rfl
  omega
 have F3 : E[(T - 1).toNat]? = some 32 := by
  rw [← hE2,List.getElem?_append_right (by omega),List.getElem?_append_right (by omega),show (T - 1).toNat - (enc A).length - (Lib.itoa a).length = 0 by omega]; rfl
 have hlowE : ∀ c ∈ E,c.toNat < 128 := by rw [← hE]; exact enc_low _
 have hzs : (z.size : Int) = T := by rw [hz,hT]; show (E.toArray.size : Int) = _; simp
 refine callF_of_body tok Tryz.func228 (by kernel_rfl) rfl rfl rfl ?_; conv => cbv
 refine LoopF.mk (fun k s => ∃ (pos fr nx : Int),s = ⟨.p (.str fun _ => z) :: .undef :: .undef :: .undef :: .p (.int .i64 (.sym fr)) :: .p (.int .i64 (.sym nx)) :: .undef :: .undef :: .undef :: .ptr 0 (.lit 0) :: undefs 16,[(0,.iter (fun _ => z) (.sym pos))],1⟩ ∧ 0 ≤ pos ∧ pos ≤ T ∧ 0 ≤ fr ∧ fr ≤ T ∧ 0 ≤ nx ∧ nx ≤ T ∧ (pos = 0 → nx = 0) ∧ (0 < pos → E[(pos - 1).toNat]? = some 32 → nx = pos) ∧ (L ≤ pos → pos < T → nx = L) ∧ (pos = T → fr = L) ∧ k = (T - pos).toNat) T.toNat _
  (Re.at [(0,0)] []) ⟨0,0,0,rfl,by omega,by omega,by omega,by omega,by omega,by omega,by omega,by omega,by omega,by omega,by omega⟩ ?_
 rintro k s ⟨pos,fr,nx,rfl,hp0,hp1,hf0,hf1,hn0,hn1,P1,P2,P3,P4,hk⟩
 conv => cbv
 by_cases hend : pos = T
 ·refine NextS.over (by show (z.size : Int) ≤ pos; omega) ?_
  have hfr := P4 hend
  conv => cbv
  refine drawn_sound tok (by kernel_rfl) [(6,[2,1,0])] [0,1,2,3,4,5,6,7,8] (by kernel_rfl) ?_; conv => cbv
  refine Need.mk ⟨by simp only [I.val]; omega,by simp only [I.val]; omega,by show fr ≤ (z.size : Int); omega⟩ ?_
  conv => cbv
  refine Str.mk fun x hx => ?_
  have hx : x = z.extract 0 fr.toNat := hx
  conv => cbv
  refine Need.mk ⟨by simp only [I.val]; omega,by show fr ≤ (z.size : Int); omega⟩ ?_
  conv => cbv
  refine Str.mk fun y hy => ?_
  have hy : y = z.extract fr.toNat z.size := hy
  have hfn : fr.toNat = (enc A).length := by omega
  have hx2 : x = ⟨(enc A).toArray⟩ := by rw [hx,hz,ext_upto,hfn,← hE2,List.take_left]
  have hy2 : y = ⟨(Lib.itoa a ++ [32]).toArray⟩ := by rw [hy,hz,ext_from,hfn,← hE2,List.drop_left]
  have hys : (y.size : Int) ≤ 9223372036854775807 := by rw [hy2]; show (((Lib.itoa a ++ [32]).toArray.size : Nat) : Int) ≤ _; simp; omega
  conv => cbv
  refine callF_val (trimSuffix_lx y ⟨#[32]⟩ (by omega)) (by simp [ales,ale,renVs,renV,pvle_refl]) rfl (fun r ⟨u,hr,_⟩ => by subst hr; rfl) (fun r ⟨u,hr,hu⟩ => ?_)
  subst hr
  have hu2 : u = ⟨(Lib.itoa a).toArray⟩ := by
   rw [hu,hy2]
   have hs : Lib.hasSuffix (Lib.itoa a ++ [32]) [32] = true := by
    unfold Lib.hasSuffix; rw [List.isSuffixOf_iff_suffix]; exact List.suffix_append _ _
   show (⟨(Lib.trimSuffix (Lib.itoa a ++ [32]) [32]).toArray⟩ : ByteArray) = _
   unfold Lib.trimSuffix
   rw [if_pos hs]
   simp
  conv => cbv
  refine RetF.mk [.p (.str fun _ => x),.p (.str fun _ => u)] [] 0 (Re.at [] []) rfl ⟨⟨x,u,rfl,hx2,hu2⟩,rfl,rfl⟩
 ·obtain ⟨c,hc⟩ : ∃ c,E[pos.toNat]? = some c := ⟨_,List.getElem?_eq_getElem (by omega)⟩
  have hlow := hlowE c (List.mem_of_getElem? hc)
  have hd := dec_atE E hlowE pos.toNat c hc
  rw [← hz] at hd
  refine NextS.more (by show pos < (z.size : Int); omega) ?_
  intro r p' hr hp
  have hr : r = (c.toNat : Int) := by
   have : r = ((Utf8.decode z pos.toNat).1 : Int) := hr
   rw [this,hd]
  have hp : p' = pos + 1 := by
   have : p' = pos + ((Utf8.decode z pos.toNat).2 : Int) := hp
   rw [this,hd]; rfl
  obtain ⟨k',rfl⟩ : ∃ k',k = k' + 1 := ⟨k - 1,by omega⟩
  conv => cbv
  refine Br.mk (fun g => ?_) (fun g => ?_)
  ·have g : r = 32 := g
   have hc32 : c = 32 := UInt8.toNat_inj.1 (by show c.toNat = 32; omega)
   conv => cbv
   refine Fit.mk (by show (-9223372036854775808 : Int) ≤ pos + 1; omega) (by show pos + 1 ≤ 9223372036854775807; omega) ?_
   intro q hq
   have hq : q = pos + 1 := hq
   conv => cbv
   refine Again.mk k' _ (Nat.lt_succ_self _) (Re.at [(0,0)] []) ⟨p',nx,q,rfl,by omega,by omega,by omega,by omega,by omega,by omega,by omega,fun _ _ => by omega,fun h1 h2 => ?_,fun h1 => P3 (by omega) (by omega),by omega⟩
   have h1 : L ≤ p' := h1
   have h2 : p' < T := h2
   by_cases h3 : L ≤ pos
   ·exact absurd hc32 (F2 pos c h3 (by omega) hc)
   ·omega
  ·have g : ¬ r = 32 := g
   have hc32 : ¬ c = 32 := fun h => g (by rw [hr,h]; rfl)
   conv => cbv
   refine Again.mk k' _ (Nat.lt_succ_self _) (Re.at [(0,0)] []) ⟨p',fr,nx,rfl,by omega,by omega,by omega,by omega,by omega,by omega,by omega,fun _ h2 => ?_,fun h1 h2 => ?_,fun h1 => ?_,by omega⟩
   ·have h2 : E[(p' - 1).toNat]? = some 32 := h2
    rw [show (p' - 1).toNat = pos.toNat by omega,hc] at h2
    exact absurd (Option.some.inj h2) hc32
   ·have h1 : L ≤ p' := h1
    have h2 : p' < T := h2
    by_cases h3 : L ≤ pos
    ·exact P3 h3 (by omega)
    ·exfalso
     have h4 := F1 (by omega)
     rw [show (L - 1).toNat = pos.toNat by omega,hc] at h4
     exact hc32 (Option.some.inj h4)
   ·exfalso
    have h1 : p' = T := h1
    rw [show (T - 1).toNat = pos.toNat by omega,hc] at F3
    exact hc32 (Option.some.inj F3)
def i64 (a : Int) : Prop := -9223372036854775808 ≤ a ∧ a ≤ 9223372036854775807
theorem enc_len : ∀ (A : List Int),(∀ a ∈ A,i64 a) → (enc A).length ≤ 22 * A.length
 | [],_ => Nat.le_refl _
 | a :: A,h => by
  have h1 := enc_len A fun x hx => h x (List.mem_cons_of_mem _ hx)
  have h2 := h a List.mem_cons_self
  have h3 := Lib.itoa_length_le a h2.1 h2.2
  rw [enc,List.length_append,List.length_cons,List.length_cons]; omega
theorem greyNew_lx : CallF (fun _ => Tryz.prog) 55 [] [] 0 (fun r h n => ∃ z : ByteArray,r = .ptr 0 (.lit 0) ∧ h = [hpF 0 z false] ∧ n = 1 ∧ z = ⟨(enc []).toArray⟩) := by
 refine callF_of_body tok Tryz.func55 (by kernel_rfl) rfl rfl rfl ?_; conv => cbv
 obtain ⟨z,hz⟩ : ∃ z : ByteArray,z = ⟨(enc []).toArray⟩ := ⟨_,rfl⟩
 have hz2 : (⟨#[]⟩ : ByteArray) = z := hz.symm
 refine RetF.mk [.ptr 0 (.lit 0)] [hpF 0 z false] 1 (Re.at [(0,0)] []) rfl ⟨z,rfl,rfl,rfl,hz⟩
theorem greyOver_lx (z : ByteArray) (ov : Bool) : CallF (fun _ => Tryz.prog) 184 [.ptr 0 (.lit 0)] [hpF 0 z ov] 1 (fun r h n => r = .p (.bool ov) ∧ h = [hpF 0 z ov] ∧ n = 1) := by
 refine callF_of_body tok Tryz.func184 (by kernel_rfl) rfl rfl rfl ?_; conv => cbv
 refine RetF.mk [.p (.bool ov)] [hpF 0 z ov] 1 (Re.at [(0,0)] []) rfl ⟨rfl,rfl,rfl⟩
theorem greySettle_lx (z : ByteArray) (ov : Bool) : CallF (fun _ => Tryz.prog) 185 [.ptr 0 (.lit 0)] [hpF 0 z ov] 1 (fun r h n => r = .tup [] ∧ h = [hpF 0 z false] ∧ n = 1) := by
 refine callF_of_body tok Tryz.func185 (by kernel_rfl) rfl rfl rfl ?_; conv => cbv
 refine RetF.mk [] [hpF 0 z false] 1 (Re.at [(0,0)] []) rfl ⟨rfl,rfl,rfl⟩
theorem greyPush_lx (A : List Int) (a : Int) (z : ByteArray) (ov : Bool) (o : Unit → Obj) (ho : IsPow o) (hz : z = ⟨(enc A).toArray⟩) (hA : ∀ x ∈ A,i64 x) (hA8 : A.length ≤ 8) (ha : i64 a) :
  CallF (fun _ => Tryz.prog) 125 [.ptr 1 (.lit 0),i6 a] [hpF 1 z ov,(0,.fix 0 o)] 2 (fun r h n => ∃ (b ov' : Bool) (z' : ByteArray) (A' : List Int),r = .p (.bool b) ∧ h = [hpF 1 z' ov',(0,.fix 0 o)] ∧ n = 2 ∧ z' = ⟨(enc A').toArray⟩ ∧ (A.length < 8 → b = true ∧ A' = A ++ [a] ∧ ov' = ov) ∧ (8 ≤ A.length → b = false ∧ A' = A ∧ ov' = true)) := by
 have hle := enc_len A hA
 refine callF_of_body tok Tryz.func125 (by kernel_rfl) rfl rfl rfl ?_; conv => cbv
 refine callF_frame (greyLen_lx A z ov hz (by omega)) [(0,1)] rfl (by simp [hmapOk,nget,hget,renB,okB]) rfl rfl (fun r h' n' ⟨m,e1,hm,e2,e3⟩ => ?_)
 subst e1 e2 e3
 conv => cbv
 refine Br.mk (fun g => ?_) (fun g => ?_)
 ·have g : 8 ≤ m := g
  conv => cbv
  refine RetF.mk [.p (.bool false)] [hpF 1 z true,(0,.fix 0 o)] 2 (Re.at [(0,0),(1,1)] []) rfl ⟨false,true,z,A,rfl,rfl,rfl,hz,fun h => by omega,fun _ => ⟨rfl,rfl,rfl⟩⟩
 ·have g : ¬ 8 ≤ m := g
  conv => cbv
  refine drawn_sound tok (by kernel_rfl) [(5,[3,2,1,0]),(10,[])] [0,1,2,3,4,5,6,7,8,9,10] (by kernel_rfl) ?_; conv => cbv
  refine callF_frame (itoa_lx a ha.1 ha.2 o ho) [(0,0)] rfl (by simp [hmapOk,nget,hget,renB,okB]) rfl rfl (fun r h' n' ⟨⟨y,e1,hy⟩,e2,e3⟩ => ?_)
  subst e1 e2 e3
  have hyl : (y.size : Int) ≤ 21 := by
   rw [hy]
   have := Lib.itoa_length_le a ha.1 ha.2
   show ((Lib.itoa a).toArray.size : Int) ≤ 21
   simp; omega
  have hzl : (z.size : Int) ≤ 1000000 := by rw [hz]; show ((enc A).toArray.size : Int) ≤ _; simp; omega
  conv => cbv
  refine Need.mk (by show y.size + 1 ≤ 9223372036854775807; omega) ?_
  conv => cbv
  refine Str.mk fun u hu => ?_
  have hu : u = y ++ ⟨#[32]⟩ := hu
  have hus : (u.size : Int) ≤ 22 := by rw [hu,ByteArray.size_append]; show ((y.size + 1 : Nat) : Int) ≤ 22; omega
  conv => cbv
  refine Need.mk (by show z.size + u.size ≤ 9223372036854775807; omega) ?_
  conv => cbv
  refine Str.mk fun z2 hz2 => ?_
  have hz2 : z2 = z ++ u := hz2
  have hz3 : z2 = ⟨(enc (A ++ [a])).toArray⟩ := by
   rw [hz2,hz,hu,hy,enc_end]
   apply ByteArray.ext
   simp
  conv => cbv
  refine RetF.mk [.p (.bool true)] [hpF 1 z2 ov,(0,.fix 0 o)] 2 (Re.at [(0,0),(1,1)] []) rfl ⟨true,ov,z2,A ++ [a],rfl,rfl,rfl,hz3,fun _ => ⟨rfl,rfl,rfl⟩,fun h => by omega⟩
theorem greyPop_lx (A : List Int) (z : ByteArray) (ov : Bool) (hz : z = ⟨(enc A).toArray⟩) (hA : ∀ x ∈ A,i64 x) (hA8 : A.length ≤ 8) :
  CallF (fun _ => Tryz.prog) 183 [.ptr 0 (.lit 0)] [hpF 0 z ov] 1 (fun r h n => (∃ (v : Int) (b : Bool) (z' : ByteArray) (A' : List Int),r = .tup [i6 v,.p (.bool b)] ∧ h = [hpF 0 z' ov] ∧ n = 1 ∧ z' = ⟨(enc A').toArray⟩ ∧ (A = [] ∧ v = 0 ∧ b = false ∧ A' = [] ∨ A = A' ++ [v] ∧ b = true))) := by
 have hle := enc_len A hA
 refine callF_of_body tok Tryz.func183 (by kernel_rfl) rfl rfl rfl ?_; conv => cbv
 refine callF_frame (greyLen_lx A z ov hz (by omega)) [(0,0)] rfl (by simp [hmapOk,nget,hget,renB,okB]) rfl rfl (fun r h' n' ⟨m,e1,hm,e2,e3⟩ => ?_)
 subst e1 e2 e3
 conv => cbv
 refine Br.mk (fun g => ?_) (fun g => ?_)
 ·have g : m = 0 := g
  have hA0 : A = [] := List.eq_nil_of_length_eq_zero (by omega)
  conv => cbv
  refine RetF.mk [i6 0,.p (.bool false)] [hpF 0 z ov] 1 (Re.at [(0,0)] []) rfl ⟨0,false,z,A,rfl,rfl,rfl,hz,.inl ⟨hA0,rfl,rfl,hA0⟩⟩
 ·have g : ¬ m = 0 := g
  obtain ⟨B,a,rfl⟩ : ∃ B a,A = B ++ [a] := ⟨_,_,(List.dropLast_concat_getLast (by rintro rfl; simp at hm; omega)).symm⟩
  conv => cbv
  refine callF_val (partLast_lx B a z hz (by rw [List.length_append] at *; omega)) (by simp [ales,ale,renVs,renV,pvle_refl]) rfl (fun r ⟨x,y,hr,_⟩ => by subst hr; rfl) (fun r ⟨x,y,hr,hx,hy⟩ => ?_)
  subst hr
  have haa := hA a (by simp)
  conv => cbv
  refine callF_val (atoi_lx y a (by rw [hy]; have := Lib.itoa_length_le a haa.1 haa.2; show (Lib.itoa a).toArray.size ≤ _; simp; omega) (by rw [hy]; exact atoi_itoa a haa.1 haa.2)) (by simp [ales,ale,renVs,renV,pvle_refl]) rfl (fun r hr => by subst hr; rfl) (fun r hr => ?_)
  subst hr
  conv => cbv
  refine RetF.mk [i6 a,.p (.bool true)] [hpF 0 x ov] 1 (Re.at [(0,0)] []) rfl ⟨a,true,x,B,rfl,rfl,rfl,hx,.inr ⟨rfl,rfl⟩⟩
end Go.Proofs.YtjfdfbpgckilpaaGreatDoor
namespace Go.Proofs.YtjfdfbpgckilpaaGreatDoor
open Go Go.LX
set_option maxRecDepth 100000
set_option linter.unusedVariables false
set_option linter.unusedSimpArgs false
set_option maxHeartbeats 32000000
def objs (R : List Rw) : List Int := objsTo R R.length
def K1 (R : List Rw) (ws : List Int) : Prop := ∀ a k l,Kept R ws a k l → 1 ≤ k
structure HM (R : List Rw) (ws C G : List Int) (N W : Int) (L D Q : List PV) (z : ByteArray) : Prop where
 a : AOk R ws
 k : K1 R ws
 n : N = R.length
 r : R.length ≤ 1000
 w : W = 32 * N
 l : L = rpv R
 d : D = ipv ws
 q : Q = ipv C
 c : (C.length : Int) = W
 z : z = ⟨(enc G).toArray⟩
 g : ∀ x ∈ G,0 ≤ x ∧ x < W
 g8 : G.length ≤ 8
def shade (R : List Rw) (ph a : Int) (s : List Int × List Int × Bool) : List Int × List Int × Bool :=
 if ph = 1 ∧ a ∈ objs R ∧ s.1[a.toNat]? = some 0 then (s.1.set a.toNat 1,if s.2.1.length < 8 then (s.2.1 ++ [a],s.2.2) else (s.2.1,true)) else s
theorem obj_iff {R : List Rw} {ws : List Int} (hA : AOk R ws) (a : Int) : a ∈ objs R ↔ IsObj R a := objs_mem hA.rows a
theorem obj_bd {R : List Rw} {ws : List Int} (hA : AOk R ws) {a : Int} (h : a ∈ objs R) : 0 ≤ a ∧ a < 32 * R.length := by
 obtain ⟨k,l,hk⟩ := Kept.of hA ((obj_iff hA a).1 h)
 have := hk.bounds hA
 omega
theorem HM.g64 {R : List Rw} {ws C G : List Int} {N W : Int} {L D Q : List PV} {z : ByteArray} (h : HM R ws C G N W L D Q z) : ∀ x ∈ G,i64 x := by
 intro x hx
 have h1 := h.g x hx; have h2 := h.w; have h3 := h.n; have h4 := h.r
 exact ⟨by omega,by omega⟩
theorem HM.shade {R : List Rw} {ws C G C' G' : List Int} {N W : Int} {L D Q Q' : List PV} {z z' : ByteArray} {ph a : Int} {ov ov' : Bool} (h : HM R ws C G N W L D Q z) (hs : (C',G',ov') = shade R ph a (C,G,ov)) (hQ : Q' = ipv C') (hz : z' = ⟨(enc G').toArray⟩) : HM R ws C' G' N W L D Q' z' := by
 unfold Go.Proofs.YtjfdfbpgckilpaaGreatDoor.shade at hs
 split at hs
 ·rename_i hc
  have hb := obj_bd h.a hc.2.1
  have hn := h.n; have hw := h.w
  split at hs
  ·rename_i h8
   have h8 : G.length < 8 := h8
   have hl8 : (G ++ [a]).length ≤ 8 := by rw [List.length_append]; show G.length + 1 ≤ 8; omega
   cases hs
   refine ⟨h.a,h.k,h.n,h.r,h.w,h.l,h.d,hQ,by rw [List.length_set]; exact h.c,hz,fun x hx => ?_,hl8⟩
   rcases List.mem_append.1 hx with hx | hx
   ·exact h.g x hx
   ·rw [List.mem_singleton.1 hx]; omega
  ·cases hs
   exact ⟨h.a,h.k,h.n,h.r,h.w,h.l,h.d,hQ,by rw [List.length_set]; exact h.c,hz,h.g,h.g8⟩
 ·cases hs
  exact ⟨h.a,h.k,h.n,h.r,h.w,h.l,h.d,hQ,h.c,hz,h.g,h.g8⟩
theorem ipv_set (l : List Int) (i : Nat) (x : Int) : (ipv l).set i (.int .i64 (.sym x)) = ipv (l.set i x) := by
 unfold ipv
 rw [List.map_set]
theorem arena_lx (R : List Rw) (ws C G : List Int) (N W ph sp cy : Int) (L D Q : List PV) (z : ByteArray) (ov : Bool) : CallF (fun _ => Tryz.prog) 12 [.ptr 0 (.lit 0)] [hpA 0 1 5 6 3 W ph sp cy,hpB 1 2 4 3 W,hpC 2 3 179 2 N,hpP 3 L,hpP 4 D,hpF 5 z ov,hpP 6 Q] 7 (fun r h n => r = .ptr 1 (.lit 0) ∧ h = [hpA 0 1 5 6 3 W ph sp cy,hpB 1 2 4 3 W,hpC 2 3 179 2 N,hpP 3 L,hpP 4 D,hpF 5 z ov,hpP 6 Q] ∧ n = 7) := by
 refine callF_of_body tok Tryz.func12 (by kernel_rfl) rfl rfl rfl ?_; conv => cbv
 refine RetF.mk [.ptr 1 (.lit 0)] [hpA 0 1 5 6 3 W ph sp cy,hpB 1 2 4 3 W,hpC 2 3 179 2 N,hpP 3 L,hpP 4 D,hpF 5 z ov,hpP 6 Q] 7 (Re.at [(0,0),(1,1),(2,2),(3,3),(4,4),(5,5),(6,6)] []) rfl ⟨rfl,rfl,rfl⟩
theorem phase_lx (R : List Rw) (ws C G : List Int) (N W ph sp cy : Int) (L D Q : List PV) (z : ByteArray) (ov : Bool) : CallF (fun _ => Tryz.prog) 19 [.ptr 0 (.lit 0)] [hpA 0 1 5 6 3 W ph sp cy,hpB 1 2 4 3 W,hpC 2 3 179 2 N,hpP 3 L,hpP 4 D,hpF 5 z ov,hpP 6 Q] 7 (fun r h n => r = .p (.int .i64 (.sym ph)) ∧ h = [hpA 0 1 5 6 3 W ph sp cy,hpB 1 2 4 3 W,hpC 2 3 179 2 N,hpP 3 L,hpP 4 D,hpF 5 z ov,hpP 6 Q] ∧ n = 7) := by
 refine callF_of_body tok Tryz.func19 (by kernel_rfl) rfl rfl rfl ?_; conv => cbv
 refine RetF.mk [i6 ph] [hpA 0 1 5 6 3 W ph sp cy,hpB 1 2 4 3 W,hpC 2 3 179 2 N,hpP 3 L,hpP 4 D,hpF 5 z ov,hpP 6 Q] 7 (Re.at [(0,0),(1,1),(2,2),(3,3),(4,4),(5,5),(6,6)] []) rfl ⟨rfl,rfl,rfl⟩
theorem is_lx (R : List Rw) (ws C G : List Int) (N W ph sp cy : Int) (L D Q : List PV) (z : ByteArray) (ov : Bool) (h : HM R ws C G N W L D Q z) (a c : Int) : CallF (fun _ => Tryz.prog) 124 [.ptr 0 (.lit 0),i6 a,i6 c] [hpA 0 1 5 6 3 W ph sp cy,hpB 1 2 4 3 W,hpC 2 3 179 2 N,hpP 3 L,hpP 4 D,hpF 5 z ov,hpP 6 Q] 7 (fun r h n => ∃ b : Bool,r = .p (.bool b) ∧ h = [hpA 0 1 5 6 3 W ph sp cy,hpB 1 2 4 3 W,hpC 2 3 179 2 N,hpP 3 L,hpP 4 D,hpF 5 z ov,hpP 6 Q] ∧ n = 7 ∧ (b = true ↔ a ∈ objs R ∧ C[a.toNat]? = some c)) := by
 have hCl := h.c; have hWn := h.w; have hNr := h.n
 have hQl : Q.length = C.length := by rw [h.q,ipv_length]
 refine callF_of_body tok Tryz.func124 (by kernel_rfl) rfl rfl rfl ?_; conv => cbv
 refine cfr (arena_lx R ws C G N W ph sp cy L D Q z ov) [(0,0),(1,1),(2,2),(3,3),(4,4),(5,5),(6,6)] (fun r h' n' ⟨e1,e2,e3⟩ => ?_)
 subst e1 e2 e3
 conv => cbv
 refine cfr (kind_lx R ws N a W L D h.l h.d h.n h.r h.a h.w) [(0,1),(1,2),(2,3),(3,4)] (fun r h' n' hrr => ?_)
 obtain ⟨v,e1,e2,e3,hv⟩ := hrr
 subst e1 e2 e3
 conv => cbv
 refine Br.mk (fun g => ?_) (fun g => ?_)
 ·have g : v ≠ 0 := g
  obtain ⟨l,hk⟩ : ∃ l,Kept R ws a v l := by
   cases hv with
   | no hn => exact absurd rfl g
   | is k l hk => exact ⟨l,hk⟩
  have hb := hk.bounds h.a
  have ho : a ∈ objs R := (obj_iff h.a a).2 hk.obj6
  obtain ⟨x,hx⟩ : ∃ x,C[a.toNat]? = some x := ⟨_,List.getElem?_eq_getElem (by omega)⟩
  have hq : Q[a.toNat]? = some (.int .i64 (.sym x)) := by rw [h.q]; exact ipv_get hx
  conv => cbv
  refine Need.mk ⟨by show 0 ≤ a; omega,by show a < W; omega⟩ ?_
  conv => cbv
  refine Cell.at a _ hq (by simp [I.val]) rfl ?_
  conv => cbv
  refine Br.mk (fun g2 => ?_) (fun g2 => ?_)
  ·have g2 : x = c := g2
   conv => cbv
   refine RetF.mk [.p (.bool true)] [hpA 0 1 5 6 3 W ph sp cy,hpB 1 2 4 3 W,hpC 2 3 179 2 N,hpP 3 L,hpP 4 D,hpF 5 z ov,hpP 6 Q] 7 (Re.at [(0,0),(1,1),(2,2),(3,3),(4,4),(5,5),(6,6)] []) rfl ⟨true,rfl,rfl,rfl,fun _ => ⟨ho,by rw [hx,g2]⟩,fun _ => rfl⟩
  ·have g2 : ¬ x = c := g2
   conv => cbv
   refine RetF.mk [.p (.bool false)] [hpA 0 1 5 6 3 W ph sp cy,hpB 1 2 4 3 W,hpC 2 3 179 2 N,hpP 3 L,hpP 4 D,hpF 5 z ov,hpP 6 Q] 7 (Re.at [(0,0),(1,1),(2,2),(3,3),(4,4),(5,5),(6,6)] []) rfl ⟨false,rfl,rfl,rfl,fun k => (by cases k),fun h => absurd (Option.some.inj (hx.symm.trans h.2)) g2⟩
 ·have g : ¬ v ≠ 0 := g
  have hno : ¬ a ∈ objs R := by
   intro ho
   cases hv with
   | no hn => exact hn ((obj_iff h.a a).1 ho)
   | is k l hk => have := h.k a v l hk; omega
  conv => cbv
  refine RetF.mk [.p (.bool false)] [hpA 0 1 5 6 3 W ph sp cy,hpB 1 2 4 3 W,hpC 2 3 179 2 N,hpP 3 L,hpP 4 D,hpF 5 z ov,hpP 6 Q] 7 (Re.at [(0,0),(1,1),(2,2),(3,3),(4,4),(5,5),(6,6)] []) rfl ⟨false,rfl,rfl,rfl,fun k => (by cases k),fun h => absurd h.1 hno⟩
theorem shade_lx (R : List Rw) (ws C G : List Int) (N W ph sp cy : Int) (L D Q : List PV) (z : ByteArray) (ov : Bool) (h : HM R ws C G N W L D Q z) (o : Unit → Obj) (ho : IsPow o) (a : Int) : CallF (fun _ => Tryz.prog) 61 [.ptr 0 (.lit 0),i6 a] [hpA 0 1 5 6 3 W ph sp cy,hpB 1 2 4 3 W,hpC 2 3 179 2 N,hpP 3 L,hpP 4 D,hpF 5 z ov,hpP 6 Q,(7,.fix 0 o)] 8 (fun r h n => ∃ (C' G' : List Int) (ov' : Bool) (Q' : List PV) (z' : ByteArray),r = .tup [] ∧ h = [hpA 0 1 5 6 3 W ph sp cy,hpB 1 2 4 3 W,hpC 2 3 179 2 N,hpP 3 L,hpP 4 D,hpF 5 z' ov',hpP 6 Q',(7,.fix 0 o)] ∧ n = 8 ∧ HM R ws C' G' N W L D Q' z' ∧ (C',G',ov') = shade R ph a (C,G,ov)) := by
 have hCl := h.c; have hWn := h.w; have hNr := h.n; have hRr := h.r
 have hQl : Q.length = C.length := by rw [h.q,ipv_length]
 refine callF_of_body tok Tryz.func61 (by kernel_rfl) rfl rfl rfl ?_; conv => cbv
 refine cfr (phase_lx R ws C G N W ph sp cy L D Q z ov) [(0,0),(1,1),(2,2),(3,3),(4,4),(5,5),(6,6)] (fun r h' n' ⟨e1,e2,e3⟩ => ?_)
 subst e1 e2 e3
 conv => cbv
 refine Br.mk (fun g => ?_) (fun g => ?_)
 ·have g : ph ≠ 1 := g
  conv => cbv
  refine RetF.mk [] [hpA 0 1 5 6 3 W ph sp cy,hpB 1 2 4 3 W,hpC 2 3 179 2 N,hpP 3 L,hpP 4 D,hpF 5 z ov,hpP 6 Q,(7,.fix 0 o)] 8 (Re.at [(0,0),(1,1),(2,2),(3,3),(4,4),(5,5),(6,6),(7,7)] []) rfl ⟨C,G,ov,Q,z,rfl,rfl,rfl,h,by unfold Go.Proofs.YtjfdfbpgckilpaaGreatDoor.shade; rw [if_neg (fun k => g k.1)]⟩
 ·have g : ¬ ph ≠ 1 := g
  have g : ph = 1 := by omega
  conv => cbv
  refine CallF.le (args0 := [.ptr 0 (.lit 0),i6 a,i6 0]) (cfr (is_lx R ws C G N W ph sp cy L D Q z ov h a 0) [(0,0),(1,1),(2,2),(3,3),(4,4),(5,5),(6,6)] (fun r h' n' hrr => ?_)) (by simp [ales,ale,pvle,I.val])
  obtain ⟨b,e1,e2,e3,hb⟩ := hrr
  subst e1 e2 e3
  cases b with
  | false =>
   conv => cbv
   refine RetF.mk [] [hpA 0 1 5 6 3 W ph sp cy,hpB 1 2 4 3 W,hpC 2 3 179 2 N,hpP 3 L,hpP 4 D,hpF 5 z ov,hpP 6 Q,(7,.fix 0 o)] 8 (Re.at [(0,0),(1,1),(2,2),(3,3),(4,4),(5,5),(6,6),(7,7)] []) rfl ⟨C,G,ov,Q,z,rfl,rfl,rfl,h,by unfold Go.Proofs.YtjfdfbpgckilpaaGreatDoor.shade; rw [if_neg (fun k => by have := hb.2 k.2; cases this)]⟩
  | true =>
   have hbd := obj_bd h.a (hb.1 rfl).1
   conv => cbv
   refine Need.mk ⟨by show 0 ≤ a; omega,by show a < W; omega⟩ ?_
   conv => cbv
   refine Need.mk (by show a + 1 ≤ (Q.length : Int); omega) ?_
   conv => cbv
   refine Upd.mk fun Q2 hQ2 => ?_
   obtain ⟨Q3,hQ3⟩ : ∃ Q3,Q3 = ipv (C.set a.toNat 1) := ⟨_,rfl⟩
   have hle : pvles Q2 Q3 := by
    have hQ2 : Q2 = Q.set a.toNat (.int .i64 (.lit 1)) := hQ2
    rw [hQ2,hQ3,h.q,← ipv_set]
    exact pvles_set _ _ _ _ _ (pvles_refl _) (by simp [pvle,I.val])
   unfold pvles at hle
   clear hQ2
   conv => cbv
   refine cfr (greyPush_lx G a z ov o ho h.z h.g64 h.g8 ⟨by omega,by omega⟩) [(0,7),(1,5)] (fun r h' n' hrr => ?_)
   obtain ⟨b2,ov',z',G',e1,e2,e3,hz',hp1,hp2⟩ := hrr
   subst e1 e2 e3
   have hsh : (C.set a.toNat 1,G',ov') = Go.Proofs.YtjfdfbpgckilpaaGreatDoor.shade R ph a (C,G,ov) := by
    unfold Go.Proofs.YtjfdfbpgckilpaaGreatDoor.shade
    rw [if_pos ⟨g,hb.1 rfl⟩]
    dsimp only
    split
    ·obtain ⟨_,q1,q2⟩ := hp1 (by assumption)
     rw [q1,q2]
    ·obtain ⟨_,q1,q2⟩ := hp2 (by omega)
     rw [q1,q2]
   conv => cbv
   refine RetF.mk [] [hpA 0 1 5 6 3 W ph sp cy,hpB 1 2 4 3 W,hpC 2 3 179 2 N,hpP 3 L,hpP 4 D,hpF 5 z' ov',hpP 6 Q3,(7,.fix 0 o)] 8 (Re.at [(0,0),(1,1),(2,2),(3,3),(4,4),(5,5),(6,6),(7,7)] []) rfl ⟨_,G',ov',Q3,z',rfl,rfl,rfl,h.shade hsh hQ3 hz',hsh⟩
def shadeW (R : List Rw) (ph w : Int) (s : List Int × List Int × Bool) : List Int × List Int × Bool := if w % 2 = 1 then shade R ph ((w - 1) / 2) s else s
theorem shadeWord_lx (R : List Rw) (ws C G : List Int) (N W ph sp cy : Int) (L D Q : List PV) (z : ByteArray) (ov : Bool) (h : HM R ws C G N W L D Q z) (o : Unit → Obj) (ho : IsPow o) (w : Int) (hw : -9223372036854775808 ≤ w ∧ w ≤ 9223372036854775807) : CallF (fun _ => Tryz.prog) 60 [.ptr 0 (.lit 0),i6 w] [hpA 0 1 5 6 3 W ph sp cy,hpB 1 2 4 3 W,hpC 2 3 179 2 N,hpP 3 L,hpP 4 D,hpF 5 z ov,hpP 6 Q,(7,.fix 0 o)] 8 (fun r h n => ∃ (C' G' : List Int) (ov' : Bool) (Q' : List PV) (z' : ByteArray),r = .tup [] ∧ h = [hpA 0 1 5 6 3 W ph sp cy,hpB 1 2 4 3 W,hpC 2 3 179 2 N,hpP 3 L,hpP 4 D,hpF 5 z' ov',hpP 6 Q',(7,.fix 0 o)] ∧ n = 8 ∧ HM R ws C' G' N W L D Q' z' ∧ (C',G',ov') = shadeW R ph w (C,G,ov)) := by
 refine callF_of_body tok Tryz.func60 (by kernel_rfl) rfl rfl rfl ?_; conv => cbv
 refine callF_frame (isPtr_lx w hw) [] rfl trivial rfl rfl (fun r h' n' hrr => ?_)
 obtain ⟨b,e1,e2,e3,hb⟩ := hrr
 subst e1 e2 e3
 cases b with
 | false =>
  have hb : ¬ w % 2 = 1 := fun k => by have := hb.2 k; cases this
  conv => cbv
  refine RetF.mk [] [hpA 0 1 5 6 3 W ph sp cy,hpB 1 2 4 3 W,hpC 2 3 179 2 N,hpP 3 L,hpP 4 D,hpF 5 z ov,hpP 6 Q,(7,.fix 0 o)] 8 (Re.at [(0,0),(1,1),(2,2),(3,3),(4,4),(5,5),(6,6),(7,7)] []) rfl ⟨C,G,ov,Q,z,rfl,rfl,rfl,h,by unfold shadeW; rw [if_neg (by omega)]⟩
 | true =>
  have hb : w % 2 = 1 := hb.1 rfl
  conv => cbv
  refine callF_frame (atV_lx w hw) [] rfl trivial rfl rfl (fun r h' n' hrr => ?_)
  obtain ⟨x,e1,e2,e3,hx⟩ := hrr
  subst e1 e2 e3
  have hx : x = (w - 1) / 2 := hx.1 hb
  conv => cbv
  refine cfr (shade_lx R ws C G N W ph sp cy L D Q z ov h o ho x) [(0,0),(1,1),(2,2),(3,3),(4,4),(5,5),(6,6),(7,7)] (fun r h' n' hrr => ?_)
  obtain ⟨C',G',ov',Q',z',e1,e2,e3,h2,hs⟩ := hrr
  subst e1 e2 e3
  conv => cbv
  refine RetF.mk [] [hpA 0 1 5 6 3 W ph sp cy,hpB 1 2 4 3 W,hpC 2 3 179 2 N,hpP 3 L,hpP 4 D,hpF 5 z' ov',hpP 6 Q',(7,.fix 0 o)] 8 (Re.at [(0,0),(1,1),(2,2),(3,3),(4,4),(5,5),(6,6),(7,7)] []) rfl ⟨C',G',ov',Q',z',rfl,rfl,rfl,h2,by unfold shadeW; rw [if_pos hb,← hx]; exact hs⟩
def Wrds (R : List Rw) (ws : List Int) (a : Int) (X : List Int) : Prop := LenR R ws a X.length ∧ ∀ (i : Nat) (x : Int),X[i]? = some x → Loaded R ws a i x 0
theorem Kept.det9 {R : List Rw} {ws : List Int} {a k l k' l' : Int} (h : Kept R ws a k l) (h' : Kept R ws a k' l') : k = k' ∧ l = l' := by
 obtain ⟨w,_,h1,h2,h3,h4,h5⟩ := h
 obtain ⟨w',_,k1,k2,k3,k4,k5⟩ := h'
 rw [h1] at k1
 have := Option.some.inj k1
 omega
theorem wrds_ex {R : List Rw} {ws : List Int} {a l : Int} (hA : AOk R ws) (h : LenR R ws a l) : ∃ X,Wrds R ws a X ∧ l = X.length ∧ X.length ≤ 31 := by
 cases h with
 | no hn => exact ⟨[],⟨.no hn,fun i x hx => by simp at hx⟩,rfl,by simp⟩
 | is k l hk =>
  have hb := hk.bounds hA
  have hlen := hA.len
  refine ⟨(ws.drop (a + 1).toNat).take l.toNat,⟨?_,fun i x hx => ?_⟩,?_,?_⟩
  ·have : (((ws.drop (a + 1).toNat).take l.toNat).length : Int) = l := by rw [List.length_take,List.length_drop]; omega
   rw [this]; exact .is k l hk
  ·rw [List.getElem?_take] at hx
   split at hx
   ·rw [List.getElem?_drop] at hx
    refine .ok k l x hk ⟨by omega,by omega⟩ ?_
    rw [show (a + 1 + (i : Int)).toNat = (a + 1).toNat + i by omega]; exact hx
   ·cases hx
  ·rw [List.length_take,List.length_drop]; omega
  ·rw [List.length_take]; omega
theorem loaded_det {R : List Rw} {ws : List Int} {a i x e y f : Int} (h : Loaded R ws a i x e) (h' : Loaded R ws a i y f) : x = y ∧ e = f := by
 cases h with
 | none hn => cases h' with
  | none _ => exact ⟨rfl,rfl⟩
  | arg k l hk _ => exact absurd hk.obj6 hn
  | ok k l x hk _ _ => exact absurd hk.obj6 hn
 | arg k l hk hi => cases h' with
  | none hn => exact absurd hk.obj6 hn
  | arg _ _ _ _ => exact ⟨rfl,rfl⟩
  | ok k' l' x hk' hi' _ => obtain ⟨_,rfl⟩ := hk.det9 hk'; exact absurd hi' hi
 | ok k l x hk hi hx => cases h' with
  | none hn => exact absurd hk.obj6 hn
  | arg k' l' hk' hi' => obtain ⟨_,rfl⟩ := hk.det9 hk'; exact absurd hi hi'
  | ok k' l' y hk' hi' hy => rw [hx] at hy; exact ⟨Option.some.inj hy,rfl⟩
theorem Wrds.bd {R : List Rw} {ws X : List Int} {a : Int} (hA : AOk R ws) (h : Wrds R ws a X) : ∀ x ∈ X,-9223372036854775808 ≤ x ∧ x ≤ 9223372036854775807 := by
 intro x hx
 obtain ⟨i,hi⟩ := List.getElem?_of_mem hx
 cases h.2 i x hi with
 | ok k l _ hk hi hx => exact hA.bd x (List.mem_of_getElem? hx)
theorem wordsH_lx (R : List Rw) (ws C G : List Int) (N W ph sp cy : Int) (L D Q : List PV) (z : ByteArray) (ov : Bool) (h : HM R ws C G N W L D Q z) (a : Int) : CallF (fun _ => Tryz.prog) 130 [.ptr 0 (.lit 0),i6 a] [hpA 0 1 5 6 3 W ph sp cy,hpB 1 2 4 3 W,hpC 2 3 179 2 N,hpP 3 L,hpP 4 D,hpF 5 z ov,hpP 6 Q] 7 (fun r h n => ∃ (X : List Int) (m : Int) (O : List PV),r = .sl 7 3 1 (.lit 0) (.sym m) ∧ h = [hpA 0 1 5 6 3 W ph sp cy,hpB 1 2 4 3 W,hpC 2 3 179 2 N,hpP 3 L,hpP 4 D,hpF 5 z ov,hpP 6 Q,hpP 7 O] ∧ n = 8 ∧ O = ipv X ∧ m = X.length ∧ Wrds R ws a X) := by
 refine callF_of_body tok Tryz.func130 (by kernel_rfl) rfl rfl rfl ?_; conv => cbv
 refine cfr (len_lx R ws N a W L D h.l h.d h.n h.r h.a h.w) [(0,1),(1,2),(2,3),(3,4)] (fun r h' n' hrr => ?_)
 obtain ⟨v,e1,e2,e3,hv⟩ := hrr
 subst e1 e2 e3
 conv => cbv
 obtain ⟨X,hX,hvX,hX31⟩ := wrds_ex h.a hv
 refine LoopF.mk (fun k s => ∃ (i : Int) (O : List PV),s = ⟨.ptr 0 (.lit 0) :: .p (.int .i64 (.sym a)) :: (undefs 3 ++ .sl 7 3 1 (.lit 0) (.sym i) :: (undefs 8 ++ .p (.int .i64 (.sym v)) :: .p (.int .i64 (.sym i)) :: undefs 18)),[hpA 0 1 5 6 3 W ph sp cy,hpB 1 2 4 3 W,hpC 2 3 179 2 N,hpP 3 L,hpP 4 D,hpF 5 z ov,hpP 6 Q,hpP 7 O],8⟩ ∧ 0 ≤ i ∧ i ≤ v ∧ O = ipv (X.take i.toNat) ∧ k = (v - i).toNat) v.toNat _
  (Re.at [(0,0),(1,1),(2,2),(3,3),(4,4),(5,5),(6,6)] [7]) ⟨0,[],rfl,by omega,by omega,by simp [ipv],by omega⟩ ?_
 rintro k s ⟨i,O,rfl,hi0,hi1,hO,hk⟩
 have hOl : (O.length : Int) = i := by rw [hO,ipv_length,List.length_take]; omega
 conv => cbv
 refine Br.mk (fun gi => ?_) (fun gi => ?_)
 ·have gi : i < v := gi
  obtain ⟨k',rfl⟩ : ∃ k',k = k' + 1 := ⟨k - 1,by omega⟩
  obtain ⟨x0,hx0⟩ : ∃ x0,X[i.toNat]? = some x0 := ⟨_,List.getElem?_eq_getElem (by omega)⟩
  have hld := hX.2 _ _ hx0
  rw [show ((i.toNat : Nat) : Int) = i by omega] at hld
  conv => cbv
  refine cfr (load_lx i R ws N a W L D h.l h.d h.n h.r h.a h.w) [(0,1),(1,2),(2,3),(3,4)] (fun r h' n' hrr => ?_)
  obtain ⟨x,e,e1,e2,e3,hx⟩ := hrr
  subst e1 e2 e3
  obtain ⟨rfl,rfl⟩ := loaded_det hx hld
  conv => cbv
  refine Room.new rfl ?_
  conv => cbv
  refine Room.new ⟨?_,?_,?_⟩ ?_
  ·show (O.length : Int) = i * 1; omega
  ·show (i + 1) * 8 ≤ 140737488355328; omega
  ·show i + 1 ≤ 9223372036854775807; omega
  conv => cbv
  refine Upd.mk fun O3 hO3 => ?_
  have hO3 : O3 = O ++ [.int .i64 (.sym x)] := hO3
  have hO3 : O3 = ipv (X.take (i.toNat + 1)) := by
   rw [hO3,hO,List.take_add_one,hx0]
   simp [ipv]
  conv => cbv
  refine Sum.mk fun j2 hj2 => ?_
  have hj2 : j2 = i + 1 := hj2
  conv => cbv
  refine Fit.mk (by show (-9223372036854775808 : Int) ≤ i + 1; omega) (by show i + 1 ≤ 9223372036854775807; omega) fun i2 hi2 => ?_
  have hi2 : i2 = i + 1 := hi2
  obtain rfl : j2 = i2 := by omega
  have htt : j2.toNat = i.toNat + 1 := by omega
  rw [← htt] at hO3
  conv => cbv
  refine Again.mk k' _ (Nat.lt_succ_self _) (Re.at [(0,0),(1,1),(2,2),(3,3),(4,4),(5,5),(6,6),(9,7)] []) ⟨j2,O3,rfl,by omega,by omega,hO3,by omega⟩
 ·have gi : ¬ i < v := gi
  obtain rfl : i = v := by omega
  have hOX : O = ipv X := by rw [hO,List.take_of_length_le (by omega)]
  conv => cbv
  refine RetF.mk [.sl 7 3 1 (.lit 0) (.sym i)] [hpA 0 1 5 6 3 W ph sp cy,hpB 1 2 4 3 W,hpC 2 3 179 2 N,hpP 3 L,hpP 4 D,hpF 5 z ov,hpP 6 Q,hpP 7 O] 8 (Re.at [(0,0),(1,1),(2,2),(3,3),(4,4),(5,5),(6,6),(7,7)] []) rfl ⟨X,i,O,rfl,rfl,rfl,hOX,hvX,hX⟩
theorem load9_lx (R : List Rw) (ws C G : List Int) (N W ph sp cy : Int) (L D Q : List PV) (z : ByteArray) (ov : Bool) (h : HM R ws C G N W L D Q z) (a i : Int) : CallF (fun _ => Tryz.prog) 77 [.ptr 0 (.lit 0),i6 a,i6 i] [hpA 0 1 5 6 3 W ph sp cy,hpB 1 2 4 3 W,hpC 2 3 179 2 N,hpP 3 L,hpP 4 D,hpF 5 z ov,hpP 6 Q] 7 (fun r h n => ∃ x e : Int,r = .tup [i6 x,i6 e] ∧ h = [hpA 0 1 5 6 3 W ph sp cy,hpB 1 2 4 3 W,hpC 2 3 179 2 N,hpP 3 L,hpP 4 D,hpF 5 z ov,hpP 6 Q] ∧ n = 7 ∧ Loaded R ws a i x e) := by
 refine callF_of_body tok Tryz.func77 (by kernel_rfl) rfl rfl rfl ?_; conv => cbv
 refine cfr (arena_lx R ws C G N W ph sp cy L D Q z ov) [(0,0),(1,1),(2,2),(3,3),(4,4),(5,5),(6,6)] (fun r h' n' ⟨e1,e2,e3⟩ => ?_)
 subst e1 e2 e3
 conv => cbv
 refine cfr (load_lx i R ws N a W L D h.l h.d h.n h.r h.a h.w) [(0,1),(1,2),(2,3),(3,4)] (fun r h' n' hrr => ?_)
 obtain ⟨x,e,e1,e2,e3,hx⟩ := hrr
 subst e1 e2 e3
 conv => cbv
 refine RetF.mk [i6 x,i6 e] [hpA 0 1 5 6 3 W ph sp cy,hpB 1 2 4 3 W,hpC 2 3 179 2 N,hpP 3 L,hpP 4 D,hpF 5 z ov,hpP 6 Q] 7 (Re.at [(0,0),(1,1),(2,2),(3,3),(4,4),(5,5),(6,6)] []) rfl ⟨x,e,rfl,rfl,rfl,hx⟩
theorem colour_lx (R : List Rw) (ws C G : List Int) (N W ph sp cy : Int) (L D Q : List PV) (z : ByteArray) (ov : Bool) (h : HM R ws C G N W L D Q z) (a : Int) : CallF (fun _ => Tryz.prog) 57 [.ptr 0 (.lit 0),i6 a] [hpA 0 1 5 6 3 W ph sp cy,hpB 1 2 4 3 W,hpC 2 3 179 2 N,hpP 3 L,hpP 4 D,hpF 5 z ov,hpP 6 Q] 7 (fun r h n => ∃ c : Int,r = .p (.int .i64 (.sym c)) ∧ h = [hpA 0 1 5 6 3 W ph sp cy,hpB 1 2 4 3 W,hpC 2 3 179 2 N,hpP 3 L,hpP 4 D,hpF 5 z ov,hpP 6 Q] ∧ n = 7 ∧ (a ∈ objs R → C[a.toNat]? = some c) ∧ (¬ a ∈ objs R → c = 0)) := by
 have hCl := h.c; have hWn := h.w; have hNr := h.n
 have hQl : Q.length = C.length := by rw [h.q,ipv_length]
 refine callF_of_body tok Tryz.func57 (by kernel_rfl) rfl rfl rfl ?_; conv => cbv
 refine cfr (arena_lx R ws C G N W ph sp cy L D Q z ov) [(0,0),(1,1),(2,2),(3,3),(4,4),(5,5),(6,6)] (fun r h' n' ⟨e1,e2,e3⟩ => ?_)
 subst e1 e2 e3
 conv => cbv
 refine cfr (kind_lx R ws N a W L D h.l h.d h.n h.r h.a h.w) [(0,1),(1,2),(2,3),(3,4)] (fun r h' n' hrr => ?_)
 obtain ⟨v,e1,e2,e3,hv⟩ := hrr
 subst e1 e2 e3
 conv => cbv
 refine Br.mk (fun g => ?_) (fun g => ?_)
 ·have g : v = 0 := g
  have hno : ¬ a ∈ objs R := by
   intro ho
   cases hv with
   | no hn => exact hn ((obj_iff h.a a).1 ho)
   | is k l hk => have := h.k a v l hk; omega
  conv => cbv
  refine RetF.mk [i6 0] [hpA 0 1 5 6 3 W ph sp cy,hpB 1 2 4 3 W,hpC 2 3 179 2 N,hpP 3 L,hpP 4 D,hpF 5 z ov,hpP 6 Q] 7 (Re.at [(0,0),(1,1),(2,2),(3,3),(4,4),(5,5),(6,6)] []) rfl ⟨0,rfl,rfl,rfl,fun k => absurd k hno,fun _ => rfl⟩
 ·have g : ¬ v = 0 := g
  obtain ⟨l,hk⟩ : ∃ l,Kept R ws a v l := by
   cases hv with
   | no hn => exact absurd rfl g
   | is k l hk => exact ⟨l,hk⟩
  have hb := hk.bounds h.a
  have ho : a ∈ objs R := (obj_iff h.a a).2 hk.obj6
  obtain ⟨x,hx⟩ : ∃ x,C[a.toNat]? = some x := ⟨_,List.getElem?_eq_getElem (by omega)⟩
  have hq : Q[a.toNat]? = some (.int .i64 (.sym x)) := by rw [h.q]; exact ipv_get hx
  conv => cbv
  refine Need.mk ⟨by show 0 ≤ a; omega,by show a < W; omega⟩ ?_
  conv => cbv
  refine Cell.at a _ hq (by simp [I.val]) rfl ?_
  conv => cbv
  refine RetF.mk [i6 x] [hpA 0 1 5 6 3 W ph sp cy,hpB 1 2 4 3 W,hpC 2 3 179 2 N,hpP 3 L,hpP 4 D,hpF 5 z ov,hpP 6 Q] 7 (Re.at [(0,0),(1,1),(2,2),(3,3),(4,4),(5,5),(6,6)] []) rfl ⟨x,rfl,rfl,rfl,fun _ => hx,fun k => absurd ho k⟩
def storeS (R : List Rw) (ph e x : Int) (s : List Int × List Int × Bool) : List Int × List Int × Bool := if e = 0 then shadeW R ph x s else s
theorem K1.stored {R : List Rw} {ws ws' : List Int} {a i x e : Int} (hA : AOk R ws) (hk : K1 R ws) (h : Stored R ws a i x e ws') : K1 R ws' := by
 cases h with
 | none _ => exact hk
 | arg _ _ _ _ => exact hk
 | ok k l hka hi =>
  intro b k' l' hb
  have hbn := hka.bounds hA
  obtain ⟨w,q1,q2,q3,q4,q5,q6⟩ := hb
  have hne : (a + 1 + i).toNat ≠ b.toNat := by
   obtain ⟨wa,p1,p2,p3,p4,p5,p6⟩ := hka
   have := within_not hA.rows p1 q1 (j := a + 1 + i) (by omega) (by omega)
   have := q1.facts hA.rows
   omega
  rw [List.getElem?_set_ne hne] at q2
  exact hk b k' l' (.mk k' l' w q1 q2 q3 q4 q5 q6)
theorem HM.stored {R : List Rw} {ws ws' C G : List Int} {N W : Int} {L D D' Q : List PV} {z : ByteArray} {a i x e : Int} (h : HM R ws C G N W L D Q z) (hx : -9223372036854775808 ≤ x ∧ x ≤ 9223372036854775807) (hs : Stored R ws a i x e ws') (hD : D' = ipv ws') : HM R ws' C G N W L D' Q z :=
 ⟨h.a.stored hx hs,h.k.stored h.a hs,h.n,h.r,h.w,h.l,hD,h.q,h.c,h.z,h.g,h.g8⟩
theorem store9_lx (R : List Rw) (ws C G : List Int) (N W ph sp cy : Int) (L D Q : List PV) (z : ByteArray) (ov : Bool) (h : HM R ws C G N W L D Q z) (o : Unit → Obj) (ho : IsPow o) (a i x : Int) (hx : -9223372036854775808 ≤ x ∧ x ≤ 9223372036854775807) : CallF (fun _ => Tryz.prog) 14 [.ptr 0 (.lit 0),i6 a,i6 i,i6 x] [hpA 0 1 5 6 3 W ph sp cy,hpB 1 2 4 3 W,hpC 2 3 179 2 N,hpP 3 L,hpP 4 D,hpF 5 z ov,hpP 6 Q,(7,.fix 0 o)] 8 (fun r h n => ∃ (e : Int) (ws' C' G' : List Int) (ov' : Bool) (D' Q' : List PV) (z' : ByteArray),r = .p (.int .i64 (.sym e)) ∧ h = [hpA 0 1 5 6 3 W ph sp cy,hpB 1 2 4 3 W,hpC 2 3 179 2 N,hpP 3 L,hpP 4 D',hpF 5 z' ov',hpP 6 Q',(7,.fix 0 o)] ∧ n = 8 ∧ HM R ws' C' G' N W L D' Q' z' ∧ Stored R ws a i x e ws' ∧ (C',G',ov') = storeS R ph e x (C,G,ov)) := by
 refine callF_of_body tok Tryz.func14 (by kernel_rfl) rfl rfl rfl ?_; conv => cbv
 refine cfr (arena_lx R ws C G N W ph sp cy L D Q z ov) [(0,0),(1,1),(2,2),(3,3),(4,4),(5,5),(6,6)] (fun r h' n' ⟨e1,e2,e3⟩ => ?_)
 subst e1 e2 e3
 conv => cbv
 refine cfr (store_lx i x R ws N a W L D h.l h.d h.n h.r h.a h.w) [(0,1),(1,2),(2,3),(3,4)] (fun r h' n' hrr => ?_)
 obtain ⟨e,ws',D',e1,e2,e3,hD',hT⟩ := hrr
 subst e1 e2 e3
 conv => cbv
 have h2 := h.stored hx hT hD'
 refine Br.mk (fun g => ?_) (fun g => ?_)
 ·have g : e = 0 := g
  conv => cbv
  refine cfr (shadeWord_lx R ws' C G N W ph sp cy L D' Q z ov h2 o ho x hx) [(0,0),(1,1),(2,2),(3,3),(4,4),(5,5),(6,6),(7,7)] (fun r h' n' hrr => ?_)
  obtain ⟨C',G',ov',Q',z',e1,e2,e3,h3,hs⟩ := hrr
  subst e1 e2 e3
  conv => cbv
  refine RetF.mk [i6 e] [hpA 0 1 5 6 3 W ph sp cy,hpB 1 2 4 3 W,hpC 2 3 179 2 N,hpP 3 L,hpP 4 D',hpF 5 z' ov',hpP 6 Q',(7,.fix 0 o)] 8 (Re.at [(0,0),(1,1),(2,2),(3,3),(4,4),(5,5),(6,6),(7,7)] []) rfl ⟨e,ws',C',G',ov',D',Q',z',rfl,rfl,rfl,h3,hT,by unfold storeS; rw [if_pos g]; exact hs⟩
 ·have g : ¬ e = 0 := g
  conv => cbv
  refine RetF.mk [i6 e] [hpA 0 1 5 6 3 W ph sp cy,hpB 1 2 4 3 W,hpC 2 3 179 2 N,hpP 3 L,hpP 4 D',hpF 5 z ov,hpP 6 Q,(7,.fix 0 o)] 8 (Re.at [(0,0),(1,1),(2,2),(3,3),(4,4),(5,5),(6,6),(7,7)] []) rfl ⟨e,ws',C,G,ov,D',Q,z,rfl,rfl,rfl,h2,hT,by unfold storeS; rw [if_neg g]⟩
end Go.Proofs.YtjfdfbpgckilpaaGreatDoor
namespace Go.Proofs.YtjfdfbpgckilpaaGreatDoor
open Go Go.LX
set_option maxRecDepth 100000
set_option linter.unusedVariables false
set_option maxHeartbeats 32000000
theorem ipv_getx (A : List Int) (i : Nat) : (ipv A)[i]? = A[i]?.map (fun z => PV.int .i64 (.sym z)) := by rw [ipv,List.getElem?_map]
def PreI (k : IntKind) (l : List PV) (A : List Int) : Prop := ∀ (i : Nat) (x : Int),A[i]? = some x → l[i]? = some (.int k (.sym x))
theorem preI_ints (A : List Int) : PreI .i64 (ipv A) A := fun i x h => by rw [ipv_getx,h]; rfl
theorem eqi64_lx (x y : Int) :
  CallF (fun _ => Tryz.prog) 88 [i6 x,i6 y] [] 0 (fun r h n => (∃ b : Bool,r = .p (.bool b) ∧ (b = true ↔ x = y)) ∧ h = [] ∧ n = 0) := by
 refine callF_of_body tok Tryz.func88 (by kernel_rfl) rfl rfl rfl ?_; conv => cbv
 refine Br.mk (fun e => ?_) (fun e => ?_)
 ·have e : x = y := e
  conv => cbv
  refine RetF.mk [.p (.bool true)] [] 0 (Re.at [] []) rfl ⟨⟨true,rfl,by simp [e]⟩,rfl,rfl⟩
 ·have e : ¬ x = y := e
  conv => cbv
  refine RetF.mk [.p (.bool false)] [] 0 (Re.at [] []) rfl ⟨⟨false,rfl,by simp [e]⟩,rfl,rfl⟩
theorem samei64_lx (A B : List Int) (m n : Int) (la lb : List PV) (hm : m = A.length) (hn : n = B.length) (ha : PreI .i64 la A) (hb : PreI .i64 lb B) (hA : (A.length : Int) < 1000000) :
  CallF (fun _ => Tryz.prog) 87 [.p (.vsl (.sym m) true la),.p (.vsl (.sym n) true lb),.p (.fn 88)] [] 0 (fun r h n => (∃ b : Bool,r = .p (.bool b) ∧ (b = true ↔ A = B)) ∧ h = [] ∧ n = 0) := by
 refine callF_of_body tok Tryz.func87 (by kernel_rfl) rfl rfl rfl ?_; conv => cbv
 refine Br.mk (fun e1 => ?_) (fun e1 => ?_)
 ·simp only [I.val] at e1
  conv => cbv
  refine RetF.mk [.p (.bool false)] [] 0 (Re.at [] []) rfl ⟨⟨false,rfl,by simp; intro h; subst h; omega⟩,rfl,rfl⟩
 ·simp only [I.val] at e1
  conv => cbv
  have hmn : m = n := by omega
  refine LoopF.mk (fun k s => ∃ i : Int,s = ⟨.p (.vsl (.sym m) true la) :: .p (.vsl (.sym n) true lb) :: .p (.fn 88) :: .undef :: .undef :: .undef :: .undef :: .p (.int .i64 (.sym i)) :: undefs 22,[],0⟩ ∧ 0 ≤ i ∧ i ≤ m ∧ A.take i.toNat = B.take i.toNat ∧ k = (m - i).toNat) m.toNat _
   (Re.at [] []) ⟨0,rfl,by omega,by omega,rfl,by omega⟩ ?_
  rintro k s ⟨i,rfl,hi0,him,ht,hk⟩
  conv => cbv
  refine Br.mk (fun e2 => ?_) (fun e2 => ?_)
  ·simp only [I.val] at e2
   conv => cbv
   refine draw_sound tok (by kernel_rfl) rfl (by kernel_rfl) ?_
   conv => cbv
   obtain ⟨x1,hea⟩ : ∃ e,A[i.toNat]? = some e := ⟨_,List.getElem?_eq_getElem (by omega)⟩
   obtain ⟨x2,heb⟩ : ∃ e,B[i.toNat]? = some e := ⟨_,List.getElem?_eq_getElem (by omega)⟩
   have a1 := ha _ _ hea
   have b1 := hb _ _ heb
   refine Need.mk ⟨hi0,by simpa [I.val] using e2⟩ ?_
   conv => cbv
   refine Cell.at i _ a1 (by simp [I.val]) (by omega) ?_
   conv => cbv
   refine Need.mk ⟨hi0,by simp only [I.val]; omega⟩ ?_
   conv => cbv
   refine Cell.at i _ b1 (by simp [I.val]) (by omega) ?_
   conv => cbv
   refine callF_val (eqi64_lx x1 x2) (by simp [ales,ale,renVs,renV,pvle]) rfl (fun r ⟨b,hr,_⟩ => by subst hr; rfl) (fun r ⟨b,hr,he⟩ => ?_)
   subst hr
   have iff1 : b = true ↔ A[i.toNat]? = B[i.toNat]? := by rw [he,hea,heb]; simp
   cases b with
   | false =>
    conv => cbv
    refine RetF.mk [.p (.bool false)] [] 0 (Re.at [] []) rfl ⟨⟨false,rfl,by simp only [Bool.false_eq_true,false_iff]; intro h; subst h; simp at iff1⟩,rfl,rfl⟩
   | true =>
    obtain ⟨k',rfl⟩ : ∃ k',k = k' + 1 := ⟨k - 1,by omega⟩
    conv => cbv
    refine Fit.mk (by show (-9223372036854775808 : Int) ≤ i + 1; omega) (by show i + 1 ≤ 9223372036854775807; omega) ?_
    intro i2 hi2
    have hi3 : i2 = i + 1 := hi2
    clear hi2
    conv => cbv
    refine Again.mk k' _ (Nat.lt_succ_self _) (Re.at [] []) ⟨i2,rfl,by omega,by omega,?_,by omega⟩
    rw [show i2.toNat = i.toNat + 1 by omega,List.take_add_one,List.take_add_one,ht,iff1.1 rfl]
  ·simp only [I.val] at e2
   conv => cbv
   refine RetF.mk [.p (.bool true)] [] 0 (Re.at [] []) rfl ⟨⟨true,rfl,?_⟩,rfl,rfl⟩
   have : i.toNat = A.length := by omega
   rw [this,List.take_length] at ht
   rw [List.take_of_length_le (by omega)] at ht
   simp [ht]
theorem plaini64_lx (A B : List Int) (m n : Int) (la lb : List PV) (hm : m = A.length) (hn : n = B.length) (ha : PreI .i64 la A) (hb : PreI .i64 lb B) (hA : (A.length : Int) < 1000000) :
  CallF (fun _ => Tryz.prog) 35 [.p (.vsl (.sym m) true la),.p (.vsl (.sym n) true lb)] [] 0 (fun r h n => (∃ b : Bool,r = .p (.bool b) ∧ (b = true ↔ A = B)) ∧ h = [] ∧ n = 0) := by
 refine callF_of_body tok Tryz.func35 (by kernel_rfl) rfl rfl rfl ?_; conv => cbv
 refine callF_val (samei64_lx A B m n la lb hm hn ha hb hA) (by simp [ales,ale,renVs,renV,pvle,I.val]) rfl (fun r ⟨b,hr,_⟩ => by subst hr; rfl) (fun r ⟨b,hr,hb⟩ => ?_)
 subst hr
 conv => cbv
 refine RetF.mk [.p (.bool b)] [] 0 (Re.at [] []) rfl ⟨⟨b,rfl,hb⟩,rfl,rfl⟩
end Go.Proofs.YtjfdfbpgckilpaaGreatDoor
namespace Go.Proofs.YtjfdfbpgckilpaaGreatDoor
open Go Go.LX
set_option maxRecDepth 100000
set_option linter.unusedVariables false
set_option linter.unusedSimpArgs false
set_option maxHeartbeats 32000000
theorem loaded_lx (R : List Rw) (ws C G : List Int) (N W ph sp cy : Int) (L D Q : List PV) (z : ByteArray) (ov : Bool) (h : HM R ws C G N W L D Q z) (a k l : Int) (hK : Kept R ws a k l) : CallF (fun _ => Tryz.prog) 190 [.ptr 0 (.lit 0),i6 a,i6 l] [hpA 0 1 5 6 3 W ph sp cy,hpB 1 2 4 3 W,hpC 2 3 179 2 N,hpP 3 L,hpP 4 D,hpF 5 z ov,hpP 6 Q] 7 (fun r h n => (∃ (X : List Int) (O : List PV),r = .p (.vsl (.sym l) true O) ∧ O = ipv X ∧ Wrds R ws a X ∧ (X.length : Int) = l) ∧ h = [hpA 0 1 5 6 3 W ph sp cy,hpB 1 2 4 3 W,hpC 2 3 179 2 N,hpP 3 L,hpP 4 D,hpF 5 z ov,hpP 6 Q] ∧ n = 7) := by
 have hb := hK.bounds h.a
 obtain ⟨X,hX,hlX,hX31⟩ := wrds_ex h.a (.is k l hK)
 obtain ⟨NX,hNX⟩ : ∃ NX : Int,NX = X.length := ⟨_,rfl⟩
 refine callF_of_body tok Tryz.func190 (by kernel_rfl) rfl rfl rfl ?_; conv => cbv
 refine Need.mk (show 0 ≤ l ∧ l ≤ l ∧ l * 8 ≤ 140737488355328 ∧ l ≤ 9223372036854775807 by omega) ?_
 conv => cbv
 refine Upd.mk fun O0 hO0 => ?_
 have hO0l : (O0.length : Int) = l := by rw [hO0,repsP_length]; show ((l.toNat * 1 : Nat) : Int) = l; omega
 clear hO0
 conv => cbv
 refine LoopF.mk (fun kk s => ∃ (i : Int) (O : List PV),s = ⟨.ptr 0 (.lit 0) :: .p (.int .i64 (.sym a)) :: (undefs 5 ++ .sl 7 3 1 (.lit 0) (.sym l) :: (undefs 2 ++ .sl 7 3 1 (.lit 0) (.sym l) :: .sl 7 3 1 (.lit 0) (.sym l) :: .p (.int .i64 (.sym l)) :: .p (.int .i64 (.sym i)) :: undefs 14)),[hpA 0 1 5 6 3 W ph sp cy,hpB 1 2 4 3 W,hpC 2 3 179 2 N,hpP 3 L,hpP 4 D,hpF 5 z ov,hpP 6 Q,hpP 7 O],8⟩ ∧ 0 ≤ i ∧ i ≤ l ∧ kk = (l - i).toNat ∧ O.length = O0.length ∧ (∀ (j : Nat) (x : Int),(j : Int) < i → X[j]? = some x → O[j]? = some (.int .i64 (.sym x)))) l.toNat _
  (Re.at [(0,0),(1,1),(2,2),(3,3),(4,4),(5,5),(6,6),(7,7)] []) ⟨0,O0,rfl,by omega,by omega,by omega,rfl,fun j x hj => absurd hj (by omega)⟩ ?_
 rintro kk s ⟨i,O,rfl,hi0,hi1,hkk,hOl,hO⟩
 conv => cbv
 refine Br.mk (fun gi => ?_) (fun gi => ?_)
 ·have gi : i < l := gi
  obtain ⟨x0,hx0⟩ : ∃ x0,X[i.toNat]? = some x0 := ⟨_,List.getElem?_eq_getElem (by omega)⟩
  have hld := hX.2 _ _ hx0
  rw [show ((i.toNat : Nat) : Int) = i by omega] at hld
  conv => cbv
  refine cfr (load9_lx R ws C G N W ph sp cy L D Q z ov h a i) [(0,0),(1,1),(2,2),(3,3),(4,4),(5,5),(6,6)] (fun r h' n' hrr => ?_)
  obtain ⟨x,e,e1,e2,e3,hx⟩ := hrr
  subst e1 e2 e3
  obtain ⟨rfl,rfl⟩ := loaded_det hx hld
  conv => cbv
  refine Need.mk (show 0 ≤ i ∧ i < l from ⟨hi0,gi⟩) ?_
  conv => cbv
  refine Need.mk (show i + 1 ≤ (O.length : Int) by omega) ?_
  conv => cbv
  refine Upd.mk fun O2 hO2 => ?_
  have hO2 : O2 = O.set i.toNat (.int .i64 (.sym x)) := hO2
  conv => cbv
  refine Fit.mk (by show (-9223372036854775808 : Int) ≤ i + 1; omega) (by show i + 1 ≤ 9223372036854775807; omega) fun i2 hi2 => ?_
  have hi2 : i2 = i + 1 := hi2
  conv => cbv
  refine Again.mk (l - i2).toNat _ (by omega) (Re.at [(0,0),(1,1),(2,2),(3,3),(4,4),(5,5),(6,6),(7,7)] []) ⟨i2,O2,rfl,by omega,by omega,rfl,by rw [hO2,List.length_set]; exact hOl,fun j y hj hy => ?_⟩
  have hj : (j : Int) < i2 := hj
  rw [hO2]
  by_cases e : i.toNat = j
  ·subst e
   rw [hx0] at hy
   obtain rfl := Option.some.inj hy
   exact List.getElem?_set_self (by omega)
  ·rw [List.getElem?_set_ne e]
   exact hO j y (by omega) hy
 ·have gi : ¬ i < l := gi
  obtain rfl : i = l := by omega
  have hOX : O = ipv X := by
   apply List.ext_getElem?
   intro j
   by_cases hj : (j : Int) < i
   ·obtain ⟨x,hx⟩ : ∃ x,X[j]? = some x := ⟨_,List.getElem?_eq_getElem (by omega)⟩
    rw [hO j x hj hx,ipv_getx,hx]; rfl
   ·rw [List.getElem?_eq_none (by omega),List.getElem?_eq_none (by rw [ipv_length]; omega)]
  conv => cbv
  refine RetF.mk [.p (.vsl (.sym i) true O)] [hpA 0 1 5 6 3 W ph sp cy,hpB 1 2 4 3 W,hpC 2 3 179 2 N,hpP 3 L,hpP 4 D,hpF 5 z ov,hpP 6 Q] 7 (Re.at [(0,0),(1,1),(2,2),(3,3),(4,4),(5,5),(6,6)] []) rfl ⟨⟨X,O,rfl,hOX,hX,hlX.symm⟩,rfl,rfl⟩
theorem verdict_lx (R : List Rw) (ws C G : List Int) (N W ph sp cy : Int) (L D Q : List PV) (z : ByteArray) (ov : Bool) (b : Bool) : CallF (fun _ => Tryz.prog) 140 [.ptr 0 (.lit 0),.p (.bool b)] [hpA 0 1 5 6 3 W ph sp cy,hpB 1 2 4 3 W,hpC 2 3 179 2 N,hpP 3 L,hpP 4 D,hpF 5 z ov,hpP 6 Q] 7 (fun r h n => (∃ e : Int,r = .p (.int .i64 (.sym e)) ∧ e = if b then 0 else 10) ∧ h = [hpA 0 1 5 6 3 W ph sp cy,hpB 1 2 4 3 W,hpC 2 3 179 2 N,hpP 3 L,hpP 4 D,hpF 5 z ov,hpP 6 Q] ∧ n = 7) := by
 cases b with
 | true =>
  refine callF_of_body tok Tryz.func140 (by kernel_rfl) rfl rfl rfl ?_; conv => cbv
  refine RetF.mk [i6 0] [hpA 0 1 5 6 3 W ph sp cy,hpB 1 2 4 3 W,hpC 2 3 179 2 N,hpP 3 L,hpP 4 D,hpF 5 z ov,hpP 6 Q] 7 (Re.at [(0,0),(1,1),(2,2),(3,3),(4,4),(5,5),(6,6)] []) rfl ⟨⟨0,rfl,rfl⟩,rfl,rfl⟩
 | false =>
  refine callF_of_body tok Tryz.func140 (by kernel_rfl) rfl rfl rfl ?_; conv => cbv
  refine RetF.mk [i6 10] [hpA 0 1 5 6 3 W ph sp cy,hpB 1 2 4 3 W,hpC 2 3 179 2 N,hpP 3 L,hpP 4 D,hpF 5 z ov,hpP 6 Q] 7 (Re.at [(0,0),(1,1),(2,2),(3,3),(4,4),(5,5),(6,6)] []) rfl ⟨⟨10,rfl,rfl⟩,rfl,rfl⟩
inductive SeeV (R : List Rw) (ws : List Int) (a : Int) : LV → Prop
 | chan (y0 y1 y2 y3 y4 y5 y6 y7 y8 : Int) (X : List Int) (h : Kept R ws a 1 9) (hX : Wrds R ws a X) (hy : [y0,y1,y2,y3,y4,y5,y6,y7,y8] = chanFs X) : SeeV R ws a (.iface 106 (.agg [i6 y0,i6 y1,i6 y2,i6 y3,i6 y4,i6 y5,i6 y6,i6 y7,i6 y8]))
 | sudog (y0 y1 y2 y3 y4 y5 y6 : Int) (X : List Int) (h : Kept R ws a 3 7) (hX : Wrds R ws a X) (hy : [y0,y1,y2,y3,y4,y5,y6] = sudogFs X) : SeeV R ws a (.iface 199 (.agg [i6 y0,i6 y1,i6 y2,i6 y3,i6 y4,i6 y5,i6 y6]))
 | gor (y0 y1 y2 y3 y4 y5 y6 y7 y8 y9 : Int) (X : List Int) (h : Kept R ws a 4 10) (hX : Wrds R ws a X) (hy : [y0,y1,y2,y3,y4,y5,y6,y7,y8,y9] = gorFs X) : SeeV R ws a (.iface 72 (.agg [i6 y0,i6 y1,i6 y2,i6 y3,i6 y4,i6 y5,i6 y6,i6 y7,i6 y8,i6 y9]))
 | unk (h1 : ¬ Kept R ws a 1 9) (h3 : ¬ Kept R ws a 3 7) (h4 : ¬ Kept R ws a 4 10) : SeeV R ws a (.iface 236 (.agg []))
theorem list7 {X : List Int} (h : X.length = 7) : ∃ x0 x1 x2 x3 x4 x5 x6 : Int,X = [x0,x1,x2,x3,x4,x5,x6] := by
 match X,h with
 | [x0,x1,x2,x3,x4,x5,x6],_ => exact ⟨x0,x1,x2,x3,x4,x5,x6,rfl⟩
theorem list9 {X : List Int} (h : X.length = 9) : ∃ x0 x1 x2 x3 x4 x5 x6 x7 x8 : Int,X = [x0,x1,x2,x3,x4,x5,x6,x7,x8] := by
 match X,h with
 | [x0,x1,x2,x3,x4,x5,x6,x7,x8],_ => exact ⟨x0,x1,x2,x3,x4,x5,x6,x7,x8,rfl⟩
theorem list10 {X : List Int} (h : X.length = 10) : ∃ x0 x1 x2 x3 x4 x5 x6 x7 x8 x9 : Int,X = [x0,x1,x2,x3,x4,x5,x6,x7,x8,x9] := by
 match X,h with
 | [x0,x1,x2,x3,x4,x5,x6,x7,x8,x9],_ => exact ⟨x0,x1,x2,x3,x4,x5,x6,x7,x8,x9,rfl⟩
theorem see_lx2 (R : List Rw) (ws C G : List Int) (N W ph sp cy : Int) (L D Q : List PV) (z : ByteArray) (ov : Bool) (h : HM R ws C G N W L D Q z) (a : Int) : CallF (fun _ => Tryz.prog) 139 [.ptr 0 (.lit 0),i6 a] [hpA 0 1 5 6 3 W ph sp cy,hpB 1 2 4 3 W,hpC 2 3 179 2 N,hpP 3 L,hpP 4 D,hpF 5 z ov,hpP 6 Q] 7 (fun r h n => SeeV R ws a r ∧ h = [hpA 0 1 5 6 3 W ph sp cy,hpB 1 2 4 3 W,hpC 2 3 179 2 N,hpP 3 L,hpP 4 D,hpF 5 z ov,hpP 6 Q] ∧ n = 7) := by
 refine callF_of_body tok Tryz.func139 (by kernel_rfl) rfl rfl rfl ?_; conv => cbv
 refine cfr (arena_lx R ws C G N W ph sp cy L D Q z ov) [(0,0),(1,1),(2,2),(3,3),(4,4),(5,5),(6,6)] (fun r h' n' ⟨e1,e2,e3⟩ => ?_)
 subst e1 e2 e3
 conv => cbv
 refine cfr (kind_lx R ws N a W L D h.l h.d h.n h.r h.a h.w) [(0,1),(1,2),(2,3),(3,4)] (fun r h' n' hrr => ?_)
 obtain ⟨v,e1,e2,e3,hv⟩ := hrr
 subst e1 e2 e3
 conv => cbv
 refine callF_frame (need_lx v) [] rfl trivial rfl rfl (fun r h' n' hrr => ?_)
 obtain ⟨⟨nd,b,e1,hnd,hb⟩,e2,e3⟩ := hrr
 subst e1 e2 e3
 cases b with
 | false =>
  have hno : ¬ hasV v := fun q => by have := hb.2 q; cases this
  conv => cbv
  refine RetF.mk [.iface 236 (.agg [])] [hpA 0 1 5 6 3 W ph sp cy,hpB 1 2 4 3 W,hpC 2 3 179 2 N,hpP 3 L,hpP 4 D,hpF 5 z ov,hpP 6 Q] 7 (Re.at [(0,0),(1,1),(2,2),(3,3),(4,4),(5,5),(6,6)] []) rfl ⟨.unk (fun k => hno ?_) (fun k => hno ?_) (fun k => hno ?_),rfl,rfl⟩
  ·rw [kindR_of6 k hv]; exact .inr (by decide)
  ·rw [kindR_of6 k hv]; exact .inr (by decide)
  ·rw [kindR_of6 k hv]; exact .inr (by decide)
 | true =>
  have hyes : hasV v := hb.1 rfl
  conv => cbv
  refine cfr (arena_lx R ws C G N W ph sp cy L D Q z ov) [(0,0),(1,1),(2,2),(3,3),(4,4),(5,5),(6,6)] (fun r h' n' ⟨e1,e2,e3⟩ => ?_)
  subst e1 e2 e3
  conv => cbv
  refine cfr (len_lx R ws N a W L D h.l h.d h.n h.r h.a h.w) [(0,1),(1,2),(2,3),(3,4)] (fun r h' n' hrr => ?_)
  obtain ⟨l,e1,e2,e3,hl⟩ := hrr
  subst e1 e2 e3
  conv => cbv
  refine Br.mk (fun g => ?_) (fun g => ?_)
  ·have g : ¬ l = nd := g
   conv => cbv
   refine RetF.mk [.iface 236 (.agg [])] [hpA 0 1 5 6 3 W ph sp cy,hpB 1 2 4 3 W,hpC 2 3 179 2 N,hpP 3 L,hpP 4 D,hpF 5 z ov,hpP 6 Q] 7 (Re.at [(0,0),(1,1),(2,2),(3,3),(4,4),(5,5),(6,6)] []) rfl ⟨.unk (fun k => g ?_) (fun k => g ?_) (fun k => g ?_),rfl,rfl⟩
   ·rw [hnd,kindR_of6 k hv,lenR_of6 k hl]; rfl
   ·rw [hnd,kindR_of6 k hv,lenR_of6 k hl]; rfl
   ·rw [hnd,kindR_of6 k hv,lenR_of6 k hl]; rfl
  ·have g : l = nd := Classical.byContradiction fun q => g q
   obtain ⟨k0,l0,hK⟩ : ∃ k l,Kept R ws a k l := by
    cases hv with
    | no hn => exfalso; unfold hasV at hyes; revert hyes; decide
    | is _ _ hK => exact ⟨_,_,hK⟩
   have hv0 := kindR_of6 hK hv
   have hl0 := lenR_of6 hK hl
   have hK : Kept R ws a v nd := by rw [hv0,← g,hl0]; exact hK
   clear hv0 hl0 hl hv
   conv => cbv
   refine cfr (loaded_lx R ws C G N W ph sp cy L D Q z ov h a v nd hK) [(0,0),(1,1),(2,2),(3,3),(4,4),(5,5),(6,6)] (fun r h' n' hrr => ?_)
   obtain ⟨⟨X,O,e1,hO,hX,hXl⟩,e2,e3⟩ := hrr
   subst e1 e2 e3
   have hXb := hX.bd h.a
   conv => cbv
   refine Br.mk (fun g1 => ?_) (fun g1 => ?_)
   ·have g1 : v = 1 := g1
    have hn9 : nd = 9 := by rw [hnd,g1]; rfl
    obtain ⟨x0,x1,x2,x3,x4,x5,x6,x7,x8,rfl⟩ := list9 (X := X) (by omega)
    conv => cbv
    refine CallF.le (args0 := [.p (.vsl (.lit 9) false [.int .i64 (.sym x0),.int .i64 (.sym x1),.int .i64 (.sym x2),.int .i64 (.sym x3),.int .i64 (.sym x4),.int .i64 (.sym x5),.int .i64 (.sym x6),.int .i64 (.sym x7),.int .i64 (.sym x8)])]) (callF_frame (chanOf_lx x0 x1 x2 x3 x4 x5 x6 x7 x8 hXb) [] rfl trivial rfl rfl (fun r h' n' hrr => ?_)) (by simp only [ales,ale,pvle,I.val]; exact ⟨⟨hn9,hO⟩,trivial⟩)
    obtain ⟨⟨y0,y1,y2,y3,y4,y5,y6,y7,y8,e1,hy⟩,e2,e3⟩ := hrr
    subst e1 e2 e3
    conv => cbv
    refine RetF.mk [.iface 106 (.agg [i6 y0,i6 y1,i6 y2,i6 y3,i6 y4,i6 y5,i6 y6,i6 y7,i6 y8])] [hpA 0 1 5 6 3 W ph sp cy,hpB 1 2 4 3 W,hpC 2 3 179 2 N,hpP 3 L,hpP 4 D,hpF 5 z ov,hpP 6 Q] 7 (Re.at [(0,0),(1,1),(2,2),(3,3),(4,4),(5,5),(6,6)] []) rfl ⟨.chan y0 y1 y2 y3 y4 y5 y6 y7 y8 _ (by rw [← hn9,← g1]; exact hK) hX hy,rfl,rfl⟩
   ·have g1 : ¬ v = 1 := g1
    conv => cbv
    refine Br.mk (fun g3 => ?_) (fun g3 => ?_)
    ·have g3 : v = 3 := g3
     have hn9 : nd = 7 := by rw [hnd,g3]; rfl
     obtain ⟨x0,x1,x2,x3,x4,x5,x6,rfl⟩ := list7 (X := X) (by omega)
     conv => cbv
     refine CallF.le (args0 := [.p (.vsl (.lit 7) false [.int .i64 (.sym x0),.int .i64 (.sym x1),.int .i64 (.sym x2),.int .i64 (.sym x3),.int .i64 (.sym x4),.int .i64 (.sym x5),.int .i64 (.sym x6)])]) (callF_frame (sudogOf_lx x0 x1 x2 x3 x4 x5 x6 hXb) [] rfl trivial rfl rfl (fun r h' n' hrr => ?_)) (by simp only [ales,ale,pvle,I.val]; exact ⟨⟨hn9,hO⟩,trivial⟩)
     obtain ⟨⟨y0,y1,y2,y3,y4,y5,y6,e1,hy⟩,e2,e3⟩ := hrr
     subst e1 e2 e3
     conv => cbv
     refine RetF.mk [.iface 199 (.agg [i6 y0,i6 y1,i6 y2,i6 y3,i6 y4,i6 y5,i6 y6])] [hpA 0 1 5 6 3 W ph sp cy,hpB 1 2 4 3 W,hpC 2 3 179 2 N,hpP 3 L,hpP 4 D,hpF 5 z ov,hpP 6 Q] 7 (Re.at [(0,0),(1,1),(2,2),(3,3),(4,4),(5,5),(6,6)] []) rfl ⟨.sudog y0 y1 y2 y3 y4 y5 y6 _ (by rw [← hn9,← g3]; exact hK) hX hy,rfl,rfl⟩
    ·have g3 : ¬ v = 3 := g3
     conv => cbv
     refine Br.mk (fun g4 => ?_) (fun g4 => ?_)
     ·have g4 : v = 4 := g4
      have hn9 : nd = 10 := by rw [hnd,g4]; rfl
      obtain ⟨x0,x1,x2,x3,x4,x5,x6,x7,x8,x9,rfl⟩ := list10 (X := X) (by omega)
      conv => cbv
      refine CallF.le (args0 := [.p (.vsl (.lit 10) false [.int .i64 (.sym x0),.int .i64 (.sym x1),.int .i64 (.sym x2),.int .i64 (.sym x3),.int .i64 (.sym x4),.int .i64 (.sym x5),.int .i64 (.sym x6),.int .i64 (.sym x7),.int .i64 (.sym x8),.int .i64 (.sym x9)])]) (callF_frame (gorOf_lx x0 x1 x2 x3 x4 x5 x6 x7 x8 x9 hXb) [] rfl trivial rfl rfl (fun r h' n' hrr => ?_)) (by simp only [ales,ale,pvle,I.val]; exact ⟨⟨hn9,hO⟩,trivial⟩)
      obtain ⟨⟨y0,y1,y2,y3,y4,y5,y6,y7,y8,y9,e1,hy⟩,e2,e3⟩ := hrr
      subst e1 e2 e3
      conv => cbv
      refine RetF.mk [.iface 72 (.agg [i6 y0,i6 y1,i6 y2,i6 y3,i6 y4,i6 y5,i6 y6,i6 y7,i6 y8,i6 y9])] [hpA 0 1 5 6 3 W ph sp cy,hpB 1 2 4 3 W,hpC 2 3 179 2 N,hpP 3 L,hpP 4 D,hpF 5 z ov,hpP 6 Q] 7 (Re.at [(0,0),(1,1),(2,2),(3,3),(4,4),(5,5),(6,6)] []) rfl ⟨.gor y0 y1 y2 y3 y4 y5 y6 y7 y8 y9 _ (by rw [← hn9,← g4]; exact hK) hX hy,rfl,rfl⟩
     ·have g4 : ¬ v = 4 := g4
      conv => cbv
      refine RetF.mk [.iface 236 (.agg [])] [hpA 0 1 5 6 3 W ph sp cy,hpB 1 2 4 3 W,hpC 2 3 179 2 N,hpP 3 L,hpP 4 D,hpF 5 z ov,hpP 6 Q] 7 (Re.at [(0,0),(1,1),(2,2),(3,3),(4,4),(5,5),(6,6)] []) rfl ⟨.unk (fun k => g1 (k.det9 hK).1.symm) (fun k => g3 (k.det9 hK).1.symm) (fun k => g4 (k.det9 hK).1.symm),rfl,rfl⟩
inductive TR (kd ln : Int) (fs : List Int → List Int) (R : List Rw) (ws : List Int) (a : Int) : Int → List Int → Prop
 | ok (X : List Int) (h : Kept R ws a kd ln) (hX : Wrds R ws a X) : TR kd ln fs R ws a 0 (fs X)
 | no (h : ¬ Kept R ws a kd ln) : TR kd ln fs R ws a 10 (List.replicate ln.toNat 0)
theorem chan_lx (R : List Rw) (ws C G : List Int) (N W ph sp cy : Int) (L D Q : List PV) (z : ByteArray) (ov : Bool) (h : HM R ws C G N W L D Q z) (a : Int) : CallF (fun _ => Tryz.prog) 75 [.ptr 0 (.lit 0),i6 a] [hpA 0 1 5 6 3 W ph sp cy,hpB 1 2 4 3 W,hpC 2 3 179 2 N,hpP 3 L,hpP 4 D,hpF 5 z ov,hpP 6 Q] 7 (fun r h n => (∃ (y0 y1 y2 y3 y4 y5 y6 y7 y8 e : Int),r = .tup [.agg [i6 y0,i6 y1,i6 y2,i6 y3,i6 y4,i6 y5,i6 y6,i6 y7,i6 y8],i6 e] ∧ TR 1 9 chanFs R ws a e [y0,y1,y2,y3,y4,y5,y6,y7,y8]) ∧ h = [hpA 0 1 5 6 3 W ph sp cy,hpB 1 2 4 3 W,hpC 2 3 179 2 N,hpP 3 L,hpP 4 D,hpF 5 z ov,hpP 6 Q] ∧ n = 7) := by
 refine callF_of_body tok Tryz.func75 (by kernel_rfl) rfl rfl rfl ?_; conv => cbv
 refine cfr (see_lx2 R ws C G N W ph sp cy L D Q z ov h a) [(0,0),(1,1),(2,2),(3,3),(4,4),(5,5),(6,6)] (fun r h' n' hrr => ?_)
 obtain ⟨hs,e2,e3⟩ := hrr
 subst e2 e3
 cases hs with
 | chan y0 y1 y2 y3 y4 y5 y6 y7 y8 X hK hX hy =>
  conv => cbv
  refine drawn_sound tok (by kernel_rfl) [(3,[0]),(4,[])] [0,1,2,3,4,5] (by kernel_rfl) ?_; conv => cbv
  refine cfr (verdict_lx R ws C G N W ph sp cy L D Q z ov true) [(0,0),(1,1),(2,2),(3,3),(4,4),(5,5),(6,6)] (fun r h' n' hrr => ?_)
  obtain ⟨⟨e,e1,he⟩,e2,e3⟩ := hrr
  subst e1 e2 e3
  conv => cbv
  refine RetF.mk [.agg [i6 y0,i6 y1,i6 y2,i6 y3,i6 y4,i6 y5,i6 y6,i6 y7,i6 y8],i6 e] [hpA 0 1 5 6 3 W ph sp cy,hpB 1 2 4 3 W,hpC 2 3 179 2 N,hpP 3 L,hpP 4 D,hpF 5 z ov,hpP 6 Q] 7 (Re.at [(0,0),(1,1),(2,2),(3,3),(4,4),(5,5),(6,6)] []) rfl ⟨⟨y0,y1,y2,y3,y4,y5,y6,y7,y8,e,rfl,by have he : e = 0 := he; rw [hy,he]; exact .ok X hK hX⟩,rfl,rfl⟩
 | sudog y0 y1 y2 y3 y4 y5 y6 X hK hX hy =>
  conv => cbv
  refine drawn_sound tok (by kernel_rfl) [(3,[0]),(4,[])] [0,1,2,3,4,5] (by kernel_rfl) ?_; conv => cbv
  refine cfr (verdict_lx R ws C G N W ph sp cy L D Q z ov false) [(0,0),(1,1),(2,2),(3,3),(4,4),(5,5),(6,6)] (fun r h' n' hrr => ?_)
  obtain ⟨⟨e,e1,he⟩,e2,e3⟩ := hrr
  subst e1 e2 e3
  conv => cbv
  refine RetF.mk [.agg [i6 0,i6 0,i6 0,i6 0,i6 0,i6 0,i6 0,i6 0,i6 0],i6 e] [hpA 0 1 5 6 3 W ph sp cy,hpB 1 2 4 3 W,hpC 2 3 179 2 N,hpP 3 L,hpP 4 D,hpF 5 z ov,hpP 6 Q] 7 (Re.at [(0,0),(1,1),(2,2),(3,3),(4,4),(5,5),(6,6)] []) rfl ⟨⟨0,0,0,0,0,0,0,0,0,e,rfl,by have he : e = 10 := he; rw [he]; exact .no fun k => absurd (k.det9 hK).1 (by decide)⟩,rfl,rfl⟩
 | gor y0 y1 y2 y3 y4 y5 y6 y7 y8 y9 X hK hX hy =>
  conv => cbv
  refine drawn_sound tok (by kernel_rfl) [(3,[0]),(4,[])] [0,1,2,3,4,5] (by kernel_rfl) ?_; conv => cbv
  refine cfr (verdict_lx R ws C G N W ph sp cy L D Q z ov false) [(0,0),(1,1),(2,2),(3,3),(4,4),(5,5),(6,6)] (fun r h' n' hrr => ?_)
  obtain ⟨⟨e,e1,he⟩,e2,e3⟩ := hrr
  subst e1 e2 e3
  conv => cbv
  refine RetF.mk [.agg [i6 0,i6 0,i6 0,i6 0,i6 0,i6 0,i6 0,i6 0,i6 0],i6 e] [hpA 0 1 5 6 3 W ph sp cy,hpB 1 2 4 3 W,hpC 2 3 179 2 N,hpP 3 L,hpP 4 D,hpF 5 z ov,hpP 6 Q] 7 (Re.at [(0,0),(1,1),(2,2),(3,3),(4,4),(5,5),(6,6)] []) rfl ⟨⟨0,0,0,0,0,0,0,0,0,e,rfl,by have he : e = 10 := he; rw [he]; exact .no fun k => absurd (k.det9 hK).1 (by decide)⟩,rfl,rfl⟩
 | unk h1 h3 h4 =>
  conv => cbv
  refine drawn_sound tok (by kernel_rfl) [(3,[0]),(4,[])] [0,1,2,3,4,5] (by kernel_rfl) ?_; conv => cbv
  refine cfr (verdict_lx R ws C G N W ph sp cy L D Q z ov false) [(0,0),(1,1),(2,2),(3,3),(4,4),(5,5),(6,6)] (fun r h' n' hrr => ?_)
  obtain ⟨⟨e,e1,he⟩,e2,e3⟩ := hrr
  subst e1 e2 e3
  conv => cbv
  refine RetF.mk [.agg [i6 0,i6 0,i6 0,i6 0,i6 0,i6 0,i6 0,i6 0,i6 0],i6 e] [hpA 0 1 5 6 3 W ph sp cy,hpB 1 2 4 3 W,hpC 2 3 179 2 N,hpP 3 L,hpP 4 D,hpF 5 z ov,hpP 6 Q] 7 (Re.at [(0,0),(1,1),(2,2),(3,3),(4,4),(5,5),(6,6)] []) rfl ⟨⟨0,0,0,0,0,0,0,0,0,e,rfl,by have he : e = 10 := he; rw [he]; exact .no h1⟩,rfl,rfl⟩
theorem gor_lx (R : List Rw) (ws C G : List Int) (N W ph sp cy : Int) (L D Q : List PV) (z : ByteArray) (ov : Bool) (h : HM R ws C G N W L D Q z) (a : Int) : CallF (fun _ => Tryz.prog) 137 [.ptr 0 (.lit 0),i6 a] [hpA 0 1 5 6 3 W ph sp cy,hpB 1 2 4 3 W,hpC 2 3 179 2 N,hpP 3 L,hpP 4 D,hpF 5 z ov,hpP 6 Q] 7 (fun r h n => (∃ (y0 y1 y2 y3 y4 y5 y6 y7 y8 y9 e : Int),r = .tup [.agg [i6 y0,i6 y1,i6 y2,i6 y3,i6 y4,i6 y5,i6 y6,i6 y7,i6 y8,i6 y9],i6 e] ∧ TR 4 10 gorFs R ws a e [y0,y1,y2,y3,y4,y5,y6,y7,y8,y9]) ∧ h = [hpA 0 1 5 6 3 W ph sp cy,hpB 1 2 4 3 W,hpC 2 3 179 2 N,hpP 3 L,hpP 4 D,hpF 5 z ov,hpP 6 Q] ∧ n = 7) := by
 refine callF_of_body tok Tryz.func137 (by kernel_rfl) rfl rfl rfl ?_; conv => cbv
 refine cfr (see_lx2 R ws C G N W ph sp cy L D Q z ov h a) [(0,0),(1,1),(2,2),(3,3),(4,4),(5,5),(6,6)] (fun r h' n' hrr => ?_)
 obtain ⟨hs,e2,e3⟩ := hrr
 subst e2 e3
 cases hs with
 | chan y0 y1 y2 y3 y4 y5 y6 y7 y8 X hK hX hy =>
  conv => cbv
  refine drawn_sound tok (by kernel_rfl) [(3,[0]),(4,[])] [0,1,2,3,4,5] (by kernel_rfl) ?_; conv => cbv
  refine cfr (verdict_lx R ws C G N W ph sp cy L D Q z ov false) [(0,0),(1,1),(2,2),(3,3),(4,4),(5,5),(6,6)] (fun r h' n' hrr => ?_)
  obtain ⟨⟨e,e1,he⟩,e2,e3⟩ := hrr
  subst e1 e2 e3
  conv => cbv
  refine RetF.mk [.agg [i6 0,i6 0,i6 0,i6 0,i6 0,i6 0,i6 0,i6 0,i6 0,i6 0],i6 e] [hpA 0 1 5 6 3 W ph sp cy,hpB 1 2 4 3 W,hpC 2 3 179 2 N,hpP 3 L,hpP 4 D,hpF 5 z ov,hpP 6 Q] 7 (Re.at [(0,0),(1,1),(2,2),(3,3),(4,4),(5,5),(6,6)] []) rfl ⟨⟨0,0,0,0,0,0,0,0,0,0,e,rfl,by have he : e = 10 := he; rw [he]; exact .no fun k => absurd (k.det9 hK).1 (by decide)⟩,rfl,rfl⟩
 | sudog y0 y1 y2 y3 y4 y5 y6 X hK hX hy =>
  conv => cbv
  refine drawn_sound tok (by kernel_rfl) [(3,[0]),(4,[])] [0,1,2,3,4,5] (by kernel_rfl) ?_; conv => cbv
  refine cfr (verdict_lx R ws C G N W ph sp cy L D Q z ov false) [(0,0),(1,1),(2,2),(3,3),(4,4),(5,5),(6,6)] (fun r h' n' hrr => ?_)
  obtain ⟨⟨e,e1,he⟩,e2,e3⟩ := hrr
  subst e1 e2 e3
  conv => cbv
  refine RetF.mk [.agg [i6 0,i6 0,i6 0,i6 0,i6 0,i6 0,i6 0,i6 0,i6 0,i6 0],i6 e] [hpA 0 1 5 6 3 W ph sp cy,hpB 1 2 4 3 W,hpC 2 3 179 2 N,hpP 3 L,hpP 4 D,hpF 5 z ov,hpP 6 Q] 7 (Re.at [(0,0),(1,1),(2,2),(3,3),(4,4),(5,5),(6,6)] []) rfl ⟨⟨0,0,0,0,0,0,0,0,0,0,e,rfl,by have he : e = 10 := he; rw [he]; exact .no fun k => absurd (k.det9 hK).1 (by decide)⟩,rfl,rfl⟩
 | gor y0 y1 y2 y3 y4 y5 y6 y7 y8 y9 X hK hX hy =>
  conv => cbv
  refine drawn_sound tok (by kernel_rfl) [(3,[0]),(4,[])] [0,1,2,3,4,5] (by kernel_rfl) ?_; conv => cbv
  refine cfr (verdict_lx R ws C G N W ph sp cy L D Q z ov true) [(0,0),(1,1),(2,2),(3,3),(4,4),(5,5),(6,6)] (fun r h' n' hrr => ?_)
  obtain ⟨⟨e,e1,he⟩,e2,e3⟩ := hrr
  subst e1 e2 e3
  conv => cbv
  refine RetF.mk [.agg [i6 y0,i6 y1,i6 y2,i6 y3,i6 y4,i6 y5,i6 y6,i6 y7,i6 y8,i6 y9],i6 e] [hpA 0 1 5 6 3 W ph sp cy,hpB 1 2 4 3 W,hpC 2 3 179 2 N,hpP 3 L,hpP 4 D,hpF 5 z ov,hpP 6 Q] 7 (Re.at [(0,0),(1,1),(2,2),(3,3),(4,4),(5,5),(6,6)] []) rfl ⟨⟨y0,y1,y2,y3,y4,y5,y6,y7,y8,y9,e,rfl,by have he : e = 0 := he; rw [hy,he]; exact .ok X hK hX⟩,rfl,rfl⟩
 | unk h1 h3 h4 =>
  conv => cbv
  refine drawn_sound tok (by kernel_rfl) [(3,[0]),(4,[])] [0,1,2,3,4,5] (by kernel_rfl) ?_; conv => cbv
  refine cfr (verdict_lx R ws C G N W ph sp cy L D Q z ov false) [(0,0),(1,1),(2,2),(3,3),(4,4),(5,5),(6,6)] (fun r h' n' hrr => ?_)
  obtain ⟨⟨e,e1,he⟩,e2,e3⟩ := hrr
  subst e1 e2 e3
  conv => cbv
  refine RetF.mk [.agg [i6 0,i6 0,i6 0,i6 0,i6 0,i6 0,i6 0,i6 0,i6 0,i6 0],i6 e] [hpA 0 1 5 6 3 W ph sp cy,hpB 1 2 4 3 W,hpC 2 3 179 2 N,hpP 3 L,hpP 4 D,hpF 5 z ov,hpP 6 Q] 7 (Re.at [(0,0),(1,1),(2,2),(3,3),(4,4),(5,5),(6,6)] []) rfl ⟨⟨0,0,0,0,0,0,0,0,0,0,e,rfl,by have he : e = 10 := he; rw [he]; exact .no h4⟩,rfl,rfl⟩
theorem alloct_gen9 {R R' : List Rw} {ws ws' : List Int} {kind n a e : Int} (hA : AOk R ws) (h : Alloct R ws kind n a e R' ws') :
  (e ≠ 0 ∧ a = 0 ∧ R' = R ∧ ws' = ws) ∨ (e = 0 ∧ (0 ≤ n ∧ n ≤ 31 ∧ 1 ≤ kind ∧ kind ≤ 6) ∧ Kept R' ws' a kind n ∧ (∀ b k l,Kept R ws b k l → Kept R' ws' b k l ∧ b ≠ a ∧ ∀ i,0 ≤ i → i < l → ws'[(b + 1 + i).toNat]? = ws[(b + 1 + i).toNat]?) ∧ (∀ b,IsObj R' b → b = a ∨ IsObj R b)) := by
 have hA1 := (hA.alloct h).1
 cases h with
 | arg h => exact .inl ⟨by decide,rfl,rfl,rfl⟩
 | room i s R' hc ha =>
  obtain ⟨rfl,_⟩ := full_count hA.rows (ofN_slots n) ha
  exact .inl ⟨by decide,rfl,rfl,rfl⟩
 | ok i s _ R' hc ha hi hat =>
  right
  obtain ⟨w,hw⟩ : ∃ w,w = wordsOf (ofN n) := ⟨_,rfl⟩
  obtain ⟨q1,q2,q3,q4,q5⟩ := alloc_objs hA.rows ha a w hat hw
  have hobj : ObjAt R' a w := (q5 _ _).2 (.inr ⟨rfl,rfl⟩)
  obtain ⟨f1,f2,f3,_⟩ := hobj.facts q1
  have hnw : n < w := by rw [hw]; exact (ofN_words ⟨hc.1,hc.2.1⟩).1
  have hlw := hA.len
  have gw : ∀ j : Nat,j < ws.length → (zer (ws.set a.toNat (kind + 16 * n)) (a.toNat + 1) n.toNat)[j]? = if a.toNat + 1 ≤ j ∧ j < a.toNat + 1 + n.toNat then some 0 else (ws.set a.toNat (kind + 16 * n))[j]? := fun j hj => zer_get _ _ _ _ (by rw [List.length_set]; exact hj)
  have farw : ∀ j : Nat,(j : Int) < a ∨ a + w ≤ j → (zer (ws.set a.toNat (kind + 16 * n)) (a.toNat + 1) n.toNat)[j]? = ws[j]? := fun j hj => by
   by_cases hjl : j < ws.length
   ·rw [gw j hjl,if_neg (by omega),List.getElem?_set_ne (by omega)]
   ·rw [List.getElem?_eq_none (by rw [zer_length,List.length_set]; omega),List.getElem?_eq_none (by omega)]
  obtain ⟨p1,p2,p3,p4⟩ := alloc_gen hA hc ha hat hw (by rw [zer_length,List.length_set]) (by rw [gw _ (by omega),if_neg (by omega),List.getElem?_set_self (by omega)]) farw hA1.bd
  exact ⟨rfl,hc,p2,p3,p4⟩
theorem K1.alloct {R R' : List Rw} {ws ws' : List Int} {kind n a e : Int} (hA : AOk R ws) (hk : K1 R ws) (h : Alloct R ws kind n a e R' ws') : K1 R' ws' := by
 rcases alloct_gen9 hA h with ⟨_,_,rfl,rfl⟩ | ⟨_,hc,h1,h2,h3⟩
 ·exact hk
 ·intro b k l hb
  rcases h3 b hb.obj6 with rfl | ho
  ·obtain ⟨rfl,_⟩ := h1.det9 hb; omega
  ·obtain ⟨k',l',hk'⟩ := Kept.of hA ho
   obtain ⟨rfl,_⟩ := (h2 b k' l' hk').1.det9 hb
   exact hk b k' l' hk'
theorem HM.alloct {R R' : List Rw} {ws ws' C C' G : List Int} {N W : Int} {L L' D D' Q Q' : List PV} {z : ByteArray} {kind n a e : Int} (h : HM R ws C G N W L D Q z) (hs : Alloct R ws kind n a e R' ws') (hL : L' = rpv R') (hD : D' = ipv ws') (hC : C'.length = C.length) (hQ : Q' = ipv C') : HM R' ws' C' G N W L' D' Q' z := by
 obtain ⟨h1,h2⟩ := h.a.alloct hs
 exact ⟨h1,h.k.alloct h.a hs,by rw [h2]; exact h.n,by rw [h2]; exact h.r,h.w,hL,hD,hQ,by rw [hC]; exact h.c,h.z,h.g,h.g8⟩
def allocC (ph a e : Int) (C : List Int) : List Int := if e = 0 then C.set a.toNat (if ph = 0 then 0 else 2) else C
theorem allocC_length (ph a e : Int) (C : List Int) : (allocC ph a e C).length = C.length := by
 unfold allocC; split
 ·rw [List.length_set]
 ·rfl
theorem alloc9_lx (R : List Rw) (ws C G : List Int) (N W ph sp cy : Int) (L D Q : List PV) (z : ByteArray) (ov : Bool) (h : HM R ws C G N W L D Q z) (kind m : Int) : CallF (fun _ => Tryz.prog) 13 [.ptr 0 (.lit 0),i6 kind,i6 m] [hpA 0 1 5 6 3 W ph sp cy,hpB 1 2 4 3 W,hpC 2 3 179 2 N,hpP 3 L,hpP 4 D,hpF 5 z ov,hpP 6 Q] 7 (fun r h n => ∃ (a e : Int) (R' : List Rw) (ws' C' : List Int) (L' D' Q' : List PV),r = .tup [i6 a,i6 e] ∧ h = [hpA 0 1 5 6 3 W ph sp cy,hpB 1 2 4 3 W,hpC 2 3 179 2 N,hpP 3 L',hpP 4 D',hpF 5 z ov,hpP 6 Q'] ∧ n = 7 ∧ HM R' ws' C' G N W L' D' Q' z ∧ Alloct R ws kind m a e R' ws' ∧ C' = allocC ph a e C) := by
 have hCl := h.c; have hWn := h.w; have hNr := h.n; have hRr := h.r
 have hQl : Q.length = C.length := by rw [h.q,ipv_length]
 refine callF_of_body tok Tryz.func13 (by kernel_rfl) rfl rfl rfl ?_; conv => cbv
 refine cfr (arena_lx R ws C G N W ph sp cy L D Q z ov) [(0,0),(1,1),(2,2),(3,3),(4,4),(5,5),(6,6)] (fun r h' n' ⟨e1,e2,e3⟩ => ?_)
 subst e1 e2 e3
 conv => cbv
 refine cfr (allocA_lx kind m R ws N W L D h.l h.d h.n h.r h.a h.w) [(0,1),(1,2),(2,3),(3,4)] (fun r h' n' hrr => ?_)
 obtain ⟨a,e,R',ws',L',D',e1,e2,e3,hL',hD',hT⟩ := hrr
 subst e1 e2 e3
 conv => cbv
 have hgen := alloct_gen9 h.a hT
 refine Br.mk (fun g => ?_) (fun g => ?_)
 ·have g : e ≠ 0 := g
  have ha0 : a = 0 := by
              rcases hgen with h | h; · exact h.2.1
              ·exact absurd h.1 g
  conv => cbv
  refine RetF.mk [i6 a,i6 e] [hpA 0 1 5 6 3 W ph sp cy,hpB 1 2 4 3 W,hpC 2 3 179 2 N,hpP 3 L',hpP 4 D',hpF 5 z ov,hpP 6 Q] 7 (Re.at [(0,0),(1,1),(2,2),(3,3),(4,4),(5,5),(6,6)] []) rfl ⟨a,e,R',ws',C,L',D',Q,rfl,rfl,rfl,h.alloct hT hL' hD' rfl h.q,hT,by unfold allocC; rw [if_neg g]⟩
 ·have g : ¬ e ≠ 0 := g
  have g : e = 0 := by omega
  have hA1 := (h.a.alloct hT).1
  have hlR := (h.a.alloct hT).2
  have hb : 0 ≤ a ∧ a < W := by
   rcases hgen with h | h
   ·exact absurd g h.1
   ·have h1 := (h.2.2.1).bounds hA1
    omega
  obtain ⟨C',hC'⟩ : ∃ C',C' = allocC ph a e C := ⟨_,rfl⟩
  obtain ⟨Q',hQ'⟩ : ∃ Q',Q' = ipv C' := ⟨_,rfl⟩
  have hfin := h.alloct hT hL' hD' (by rw [hC']; exact allocC_length _ _ _ _) hQ'
  conv => cbv
  refine Need.mk ⟨by show 0 ≤ a; omega,by show a < W; omega⟩ ?_
  conv => cbv
  refine Need.mk (by show a + 1 ≤ (Q.length : Int); omega) ?_
  conv => cbv
  refine Upd.mk fun Q2 hQ2 => ?_
  have hQ2 : Q2 = Q.set a.toNat (.int .i64 (.lit 0)) := hQ2
  conv => cbv
  refine Br.mk (fun gp => ?_) (fun gp => ?_)
  ·have gp : ph ≠ 0 := gp
   conv => cbv
   refine Need.mk ⟨by show 0 ≤ a; omega,by show a < W; omega⟩ ?_
   conv => cbv
   refine Need.mk (by show a + 1 ≤ (Q2.length : Int); rw [hQ2,List.length_set]; omega) ?_
   conv => cbv
   refine Upd.mk fun Q3 hQ3 => ?_
   have hle : pvles Q3 Q' := by
    have hQ3 : Q3 = Q2.set a.toNat (.int .i64 (.lit 2)) := hQ3
    rw [hQ3,hQ2,hQ',hC',allocC,if_pos g,if_neg gp,h.q,← ipv_set,List.set_set]
    exact pvles_set _ _ _ _ _ (pvles_refl _) (by simp [pvle,I.val])
   unfold pvles at hle
   clear hQ3 hQ2
   conv => cbv
   refine RetF.mk [i6 a,i6 e] [hpA 0 1 5 6 3 W ph sp cy,hpB 1 2 4 3 W,hpC 2 3 179 2 N,hpP 3 L',hpP 4 D',hpF 5 z ov,hpP 6 Q'] 7 (Re.at [(0,0),(1,1),(2,2),(3,3),(4,4),(5,5),(6,6)] []) rfl ⟨a,e,R',ws',C',L',D',Q',rfl,rfl,rfl,hfin,hT,hC'⟩
  ·have gp : ¬ ph ≠ 0 := gp
   have gp : ph = 0 := by omega
   have hle : pvles Q2 Q' := by
    rw [hQ2,hQ',hC',allocC,if_pos g,if_pos gp,h.q,← ipv_set]
    exact pvles_set _ _ _ _ _ (pvles_refl _) (by simp [pvle,I.val])
   unfold pvles at hle
   clear hQ2
   conv => cbv
   refine RetF.mk [i6 a,i6 e] [hpA 0 1 5 6 3 W ph sp cy,hpB 1 2 4 3 W,hpC 2 3 179 2 N,hpP 3 L',hpP 4 D',hpF 5 z ov,hpP 6 Q'] 7 (Re.at [(0,0),(1,1),(2,2),(3,3),(4,4),(5,5),(6,6)] []) rfl ⟨a,e,R',ws',C',L',D',Q',rfl,rfl,rfl,hfin,hT,hC'⟩
theorem Kept.det {R : List Rw} {ws : List Int} {a k l k' l' : Int} (h : Kept R ws a k l) (h' : Kept R ws a k' l') : k' = k ∧ l' = l := by
 obtain ⟨w,_,h1,h2,h3,h4,_⟩ := h
 obtain ⟨w',_,h1',h2',h3',h4',_⟩ := h'
 rw [h1] at h1'
 have h1' : k + 16 * l = k' + 16 * l' := Option.some.inj h1'
 omega
theorem Kept.obj {R : List Rw} {ws : List Int} {a k l : Int} (h : Kept R ws a k l) : IsObj R a := by
 obtain ⟨w,h,_⟩ := h
 exact isObj_iff.2 ⟨w,h⟩
theorem stored_of {R : List Rw} {ws ws' : List Int} {a k l i x e : Int} (h : Kept R ws a k l) (hi : 0 ≤ i ∧ i < l) (hv : Stored R ws a i x e ws') : e = 0 ∧ ws' = ws.set (a + 1 + i).toNat x := by
 cases hv with
 | none hn => exact absurd h.obj hn
 | arg k' l' h' hi' => rw [(h.det h').2] at hi'; exact absurd hi hi'
 | ok k' l' h' hi' => exact ⟨rfl,rfl⟩
theorem loaded_of {R : List Rw} {ws : List Int} {a k l i x e : Int} (h : Kept R ws a k l) (hi : 0 ≤ i ∧ i < l) (hv : Loaded R ws a i x e) : e = 0 ∧ ws[(a + 1 + i).toNat]? = some x := by
 cases hv with
 | none hn => exact absurd h.obj hn
 | arg k' l' h' hi' => rw [(h.det h').2] at hi'; exact absurd hi hi'
 | ok k' l' x' h' hi' hx => exact ⟨rfl,hx⟩
theorem alloct_ok {R R' : List Rw} {ws ws' : List Int} {kind n a e : Int} (hA : AOk R ws) (h : Alloct R ws kind n a e R' ws') (he : e = 0) :
  Kept R' ws' a kind n ∧ ¬ IsObj R a ∧ objCount R' = objCount R + 1 ∧ (∀ i,0 ≤ i → i < n → ws'[(a + 1 + i).toNat]? = some 0) ∧ (∀ b k l,Kept R ws b k l → Kept R' ws' b k l) ∧ (∀ b,IsObj R' b → b = a ∨ IsObj R b) ∧ (∀ b k l i,Kept R ws b k l → 0 ≤ i → i < l → ws'[(b + 1 + i).toNat]? = ws[(b + 1 + i).toNat]?) := by
 cases h with
 | arg h => exact absurd he (by decide)
 | room i s R' h ha => exact absurd he (by decide)
 | ok i s _ R' h ha hi hat =>
  have hA' := (AOk.alloct hA (Alloct.ok i s a R' h ha hi hat)).1
  obtain ⟨w,hw⟩ : ∃ w,w = wordsOf (ofN n) := ⟨_,rfl⟩
  obtain ⟨h1,h2,h3,h4,h5⟩ := alloc_objs hA.rows ha a w (by rw [hat]) hw
  have hobj : ObjAt R' a w := (h5 _ _).2 (.inr ⟨rfl,rfl⟩)
  obtain ⟨f1,f2,f3,_⟩ := hobj.facts h1
  have hnw : n < w := by rw [hw]; exact (ofN_words ⟨h.1,h.2.1⟩).1
  have hlen := hA.len
  have hget : ∀ j,j < ws.length → (zer (ws.set a.toNat (kind + 16 * n)) (a.toNat + 1) n.toNat)[j]? = if a.toNat + 1 ≤ j ∧ j < a.toNat + 1 + n.toNat then some 0 else (ws.set a.toNat (kind + 16 * n))[j]? := fun j hj => zer_get _ _ _ _ (by rw [List.length_set]; exact hj)
  have hfar : ∀ j,j < ws.length → (j : Int) < a ∨ a + w ≤ j → (zer (ws.set a.toNat (kind + 16 * n)) (a.toNat + 1) n.toNat)[j]? = ws[j]? := by
   intro j hj hfar
   rw [hget j hj,if_neg (by omega),List.getElem?_set_ne (by omega)]
  refine ⟨?_,h4,h3,?_,?_,?_,?_⟩
  ·refine .mk kind n w hobj ?_ (by omega) (by omega) h.1 hnw
   rw [hget _ (by omega),if_neg (by omega),List.getElem?_set_self (by omega)]
  ·intro j hj0 hj1
   rw [hget _ (by omega),if_pos (by omega)]
  ·rintro b k l ⟨v,hb,hx,g1,g2,g3,g4⟩
   have hb' := (h5 b v).2 (.inl hb)
   have hne : b ≠ a := fun e => h4 (isObj_iff.2 ⟨v,e ▸ hb⟩)
   obtain ⟨q1,q2,q3,_⟩ := hb'.facts h1
   refine .mk k l v hb' ?_ g1 g2 g3 g4
   rw [hfar _ (by omega) (by rcases hobj.apart h1 hb' with ⟨h,_⟩ | h | h <;> omega)]
   exact hx
  ·intro b hb
   obtain ⟨v,hb⟩ := isObj_iff.1 hb
   rcases (h5 b v).1 hb with hb | ⟨hb,_⟩
   ·exact .inr (isObj_iff.2 ⟨v,hb⟩)
   ·exact .inl hb
  ·rintro b k l j ⟨v,hb,hx,g1,g2,g3,g4⟩ hj0 hj1
   have hb' := (h5 b v).2 (.inl hb)
   have hne : b ≠ a := fun e => h4 (isObj_iff.2 ⟨v,e ▸ hb⟩)
   obtain ⟨q1,q2,q3,_⟩ := hb'.facts h1
   exact hfar _ (by omega) (by rcases hobj.apart h1 hb' with ⟨h,_⟩ | h | h <;> omega)
theorem alloct_err {R R' : List Rw} {ws ws' : List Int} {kind n a e : Int} (hA : AOk R ws) (h : Alloct R ws kind n a e R' ws') (hroom : objCount R < R.length) : e = if 0 ≤ n ∧ n ≤ 31 ∧ 1 ≤ kind ∧ kind ≤ 6 then 0 else 1 := by
 cases h with
 | arg h => rw [if_neg h]
 | room i s R' h ha => obtain ⟨_,h2⟩ := full_count hA.rows (ofN_slots n) ha; omega
 | ok i s _ R' h ha hi hat => rw [if_pos h]
theorem zer_all (ws : List Int) : zer ws 0 ws.length = List.replicate ws.length 0 := by
 apply List.ext_getElem?
 intro i
 by_cases h : i < ws.length
 ·rw [zer_get _ _ _ _ h,if_pos (by omega),List.getElem?_replicate,if_pos h]
 ·rw [List.getElem?_eq_none (by rw [zer_length]; omega),List.getElem?_eq_none (by rw [List.length_replicate]; omega)]
theorem HM.new {N W : Int} (h2 : 2 ≤ N) (h8 : N ≤ 128) (hW : W = 32 * N) {L D Q : List PV} {z : ByteArray} (hL : L = rpv (List.replicate N.toNat (0,[]))) (hD : D = ipv (List.replicate W.toNat 0)) (hQ : Q = ipv (List.replicate W.toNat 0)) (hz : z = ⟨(enc []).toArray⟩) :
  HM (List.replicate N.toNat (0,[])) (List.replicate W.toNat 0) (List.replicate W.toNat 0) [] N W L D Q z :=
 ⟨by rw [show W.toNat = 32 * N.toNat by omega]; exact AOk.new _,fun a k l hk => absurd hk.obj6 (new_none _ _),by rw [List.length_replicate]; omega,by rw [List.length_replicate]; omega,hW,hL,hD,hQ,by rw [List.length_replicate]; omega,hz,fun x hx => (by cases hx),Nat.zero_le _⟩
theorem newH_lx (N W : Int) (h2 : 2 ≤ N) (h8 : N ≤ 128) (hW : W = 32 * N) (L D Q : List PV) (z : ByteArray) (hL : L = rpv (List.replicate N.toNat (0,[]))) (hD : D = ipv (List.replicate W.toNat 0)) (hQ : Q = ipv (List.replicate W.toNat 0)) (hz : z = ⟨(enc []).toArray⟩) : CallF (fun _ => Tryz.prog) 10 [i6 N] [] 0 (fun r h n => r = .tup [.ptr 0 (.lit 0),.p (.int .i64 (.lit 0))] ∧ h = [hpA 0 1 5 6 3 W 0 0 0,hpB 1 2 4 3 W,hpC 2 3 179 2 N,hpP 3 L,hpP 4 D,hpF 5 z false,hpP 6 Q] ∧ n = 7) := by
 refine callF_of_body tok Tryz.func10 (by kernel_rfl) rfl rfl rfl ?_; conv => cbv
 refine callF_frame (newA_lx N W h2 h8 hW L D hL hD) [] rfl trivial rfl rfl (fun r h' n' ⟨e1,e2,e3⟩ => ?_)
 subst e1 e2 e3
 conv => cbv
 refine callF_frame greyNew_lx [] rfl trivial rfl rfl (fun r h' n' hrr => ?_)
 obtain ⟨z1,e1,e2,e3,hz1⟩ := hrr
 subst e1 e2 e3
 obtain rfl : z1 = z := by rw [hz1,hz]
 have hA0 : AOk (List.replicate N.toNat ((0,[]) : Rw)) (List.replicate W.toNat 0) := by rw [show W.toNat = 32 * N.toNat by omega]; exact AOk.new _
 conv => cbv
 refine cfr (wordsA_lx (List.replicate N.toNat ((0,[]) : Rw)) (List.replicate W.toNat 0) N W L D hL hD (by rw [List.length_replicate]; omega) (by rw [List.length_replicate]; omega) hA0 hW) [(0,0),(1,1),(2,2),(3,3)] (fun r h' n' ⟨e1,e2,e3⟩ => ?_)
 subst e1 e2 e3
 conv => cbv
 refine Need.mk ⟨by show 0 ≤ W; omega,Int.le_refl _,by show W * 8 ≤ 140737488355328; omega,by show W ≤ 9223372036854775807; omega⟩ ?_
 conv => cbv
 refine Upd.mk fun Q0 hQ0 => ?_
 have hle : pvles Q0 Q := by
  have hQ0 : Q0 = repsP [.int .i64 (.lit 0)] W.toNat := hQ0
  rw [hQ0,hQ]; exact zero_ipv _
 unfold pvles at hle
 clear hQ0
 conv => cbv
 refine RetF.mk [.ptr 0 (.lit 0),.p (.int .i64 (.lit 0))] [hpA 0 1 5 6 3 W 0 0 0,hpB 1 2 4 3 W,hpC 2 3 179 2 N,hpP 3 L,hpP 4 D,hpF 5 z1 false,hpP 6 Q] 7 (Re.at [(6,0),(0,1),(1,2),(2,3),(3,4),(4,5),(5,6)] []) rfl ⟨rfl,rfl,rfl⟩
def begS (R : List Rw) (W : Int) (A : List Int) : List Int × List Int × Bool := A.foldl (fun s a => shade R 1 a s) (List.replicate W.toNat 0,[],false)
def scanS (R : List Rw) (ph a : Int) (X : List Int) (s : List Int × List Int × Bool) : List Int × List Int × Bool := ((X.foldl (fun s w => shadeW R ph w s) s).1.set a.toNat 2,(X.foldl (fun s w => shadeW R ph w s) s).2)
theorem scan_lx (R : List Rw) (ws C G : List Int) (N W ph sp cy : Int) (L D Q : List PV) (z : ByteArray) (ov : Bool) (h : HM R ws C G N W L D Q z) (o : Unit → Obj) (ho : IsPow o) (a : Int) (ha : 0 ≤ a ∧ a < W) : CallF (fun _ => Tryz.prog) 127 [.ptr 0 (.lit 0),i6 a] [hpA 0 1 5 6 3 W ph sp cy,hpB 1 2 4 3 W,hpC 2 3 179 2 N,hpP 3 L,hpP 4 D,hpF 5 z ov,hpP 6 Q,(7,.fix 0 o)] 8 (fun r h n => ∃ (X C' G' : List Int) (ov' : Bool) (Q' : List PV) (z' : ByteArray),r = .tup [] ∧ h = [hpA 0 1 5 6 3 W ph sp cy,hpB 1 2 4 3 W,hpC 2 3 179 2 N,hpP 3 L,hpP 4 D,hpF 5 z' ov',hpP 6 Q',(7,.fix 0 o)] ∧ n = 8 ∧ HM R ws C' G' N W L D Q' z' ∧ Wrds R ws a X ∧ (C',G',ov') = scanS R ph a X (C,G,ov)) := by
 refine callF_of_body tok Tryz.func127 (by kernel_rfl) rfl rfl rfl ?_; conv => cbv
 refine cfr (wordsH_lx R ws C G N W ph sp cy L D Q z ov h a) [(0,0),(1,1),(2,2),(3,3),(4,4),(5,5),(6,6)] (fun r h' n' hrr => ?_)
 obtain ⟨X,m,O,e1,e2,e3,hO,hm,hX⟩ := hrr
 subst e1 e2 e3
 conv => cbv
 have hXb := hX.bd h.a
 have hX31 : X.length ≤ 31 := by
  have hle := hX.1
  generalize hxl : (X.length : Int) = xl at hle
  cases hle with
  | no _ => omega
  | is k l hk => have := hk.bounds h.a; omega
 refine LoopF.mk (fun k s => ∃ (i : Int) (C' G' : List Int) (ov' : Bool) (Q' : List PV) (z' : ByteArray),s = ⟨.ptr 0 (.lit 0) :: .p (.int .i64 (.sym a)) :: (undefs 6 ++ .sl 8 3 1 (.lit 0) (.sym m) :: .p (.int .i64 (.sym m)) :: .p (.int .i64 (.sym i)) :: undefs 13),[hpA 0 1 5 6 3 W ph sp cy,hpB 1 2 4 3 W,hpC 2 3 179 2 N,hpP 3 L,hpP 4 D,hpF 5 z' ov',hpP 6 Q',(7,.fix 0 o),hpP 8 O],9⟩ ∧ 0 ≤ i ∧ i ≤ m ∧ HM R ws C' G' N W L D Q' z' ∧ (C',G',ov') = (X.take i.toNat).foldl (fun s w => shadeW R ph w s) (C,G,ov) ∧ k = (m - i).toNat) m.toNat _
  (Re.at [(0,0),(1,1),(2,2),(3,3),(4,4),(5,5),(6,6),(7,7),(8,8)] []) ⟨0,C,G,ov,Q,z,rfl,by omega,by omega,h,rfl,by omega⟩ ?_
 rintro k s ⟨i,C',G',ov',Q',z',rfl,hi0,hi1,h2,hS,hk⟩
 conv => cbv
 refine Br.mk (fun gi => ?_) (fun gi => ?_)
 ·have gi : i < m := gi
  obtain ⟨k',rfl⟩ : ∃ k',k = k' + 1 := ⟨k - 1,by omega⟩
  obtain ⟨w,hw⟩ : ∃ w,X[i.toNat]? = some w := ⟨_,List.getElem?_eq_getElem (by omega)⟩
  have hc : O[i.toNat]? = some (.int .i64 (.sym w)) := by rw [hO]; exact ipv_get hw
  conv => cbv
  refine Need.mk ⟨hi0,gi⟩ ?_
  conv => cbv
  refine Cell.at i _ hc (by simp [I.val]) rfl ?_
  conv => cbv
  refine cfr (shadeWord_lx R ws C' G' N W ph sp cy L D Q' z' ov' h2 o ho w (hXb w (List.mem_of_getElem? hw))) [(0,0),(1,1),(2,2),(3,3),(4,4),(5,5),(6,6),(7,7)] (fun r h' n' hrr => ?_)
  obtain ⟨C2,G2,ov2,Q2,z2,e1,e2,e3,h3,hS2⟩ := hrr
  subst e1 e2 e3
  have hS3 : (C2,G2,ov2) = (X.take (i.toNat + 1)).foldl (fun s w => shadeW R ph w s) (C,G,ov) := by
   rw [List.take_add_one,hw,Option.toList_some,List.foldl_append,← hS,hS2]; rfl
  conv => cbv
  refine Fit.mk (by show (-9223372036854775808 : Int) ≤ i + 1; omega) (by show i + 1 ≤ 9223372036854775807; omega) fun i2 hi2 => ?_
  have hi2 : i2 = i + 1 := hi2
  rw [show i.toNat + 1 = i2.toNat by omega] at hS3
  conv => cbv
  refine Again.mk k' _ (Nat.lt_succ_self _) (Re.at [(0,0),(1,1),(2,2),(3,3),(4,4),(5,5),(6,6),(7,7),(8,8)] []) ⟨i2,C2,G2,ov2,Q2,z2,rfl,by omega,by omega,h3,hS3,by omega⟩
 ·have gi : ¬ i < m := gi
  rw [List.take_of_length_le (by omega)] at hS
  have hCl := h2.c; have hWn := h.w; have hNr := h.n; have hRr := h.r
  have hQl : Q'.length = C'.length := by rw [h2.q,ipv_length]
  obtain ⟨Q3,hQ3⟩ : ∃ Q3,Q3 = ipv (C'.set a.toNat 2) := ⟨_,rfl⟩
  have hfin : HM R ws (C'.set a.toNat 2) G' N W L D Q3 z' := ⟨h2.a,h2.k,h2.n,h2.r,h2.w,h2.l,h2.d,hQ3,by rw [List.length_set]; exact h2.c,h2.z,h2.g,h2.g8⟩
  conv => cbv
  refine Need.mk ⟨by show 0 ≤ a; omega,by show a < W; omega⟩ ?_
  conv => cbv
  refine Need.mk (by show a + 1 ≤ (Q'.length : Int); omega) ?_
  conv => cbv
  refine Upd.mk fun Q2 hQ2 => ?_
  have hle : pvles Q2 Q3 := by
   have hQ2 : Q2 = Q'.set a.toNat (.int .i64 (.lit 2)) := hQ2
   rw [hQ2,hQ3,h2.q,← ipv_set]
   exact pvles_set _ _ _ _ _ (pvles_refl _) (by simp [pvle,I.val])
  unfold pvles at hle
  clear hQ2
  conv => cbv
  refine RetF.mk [] [hpA 0 1 5 6 3 W ph sp cy,hpB 1 2 4 3 W,hpC 2 3 179 2 N,hpP 3 L,hpP 4 D,hpF 5 z' ov',hpP 6 Q3,(7,.fix 0 o)] 8 (Re.at [(0,0),(1,1),(2,2),(3,3),(4,4),(5,5),(6,6),(7,7)] []) rfl ⟨X,_,G',ov',Q3,z',rfl,rfl,rfl,hfin,hX,by unfold scanS; rw [← hS]⟩
theorem HM.pop {R : List Rw} {ws C A : List Int} {v : Int} {N W : Int} {L D Q : List PV} {z z' : ByteArray} (h : HM R ws C (A ++ [v]) N W L D Q z) (hz : z' = ⟨(enc A).toArray⟩) : HM R ws C A N W L D Q z' ∧ 0 ≤ v ∧ v < W :=
 ⟨⟨h.a,h.k,h.n,h.r,h.w,h.l,h.d,h.q,h.c,hz,fun x hx => h.g x (List.mem_append_left _ hx),by have := h.g8; rw [List.length_append] at this; omega⟩,h.g v (by simp)⟩
theorem nextGreyPop_lx (R : List Rw) (ws C G : List Int) (N W ph sp cy : Int) (L D Q : List PV) (z : ByteArray) (ov : Bool) (h : HM R ws C G N W L D Q z) (A : List Int) (v : Int) (hG : G = A ++ [v]) : CallF (fun _ => Tryz.prog) 126 [.ptr 0 (.lit 0)] [hpA 0 1 5 6 3 W ph sp cy,hpB 1 2 4 3 W,hpC 2 3 179 2 N,hpP 3 L,hpP 4 D,hpF 5 z ov,hpP 6 Q] 7 (fun r h n => ∃ (z' : ByteArray),r = .tup [i6 v,.p (.bool true)] ∧ h = [hpA 0 1 5 6 3 W ph sp cy,hpB 1 2 4 3 W,hpC 2 3 179 2 N,hpP 3 L,hpP 4 D,hpF 5 z' ov,hpP 6 Q] ∧ n = 7 ∧ HM R ws C A N W L D Q z') := by
 refine callF_of_body tok Tryz.func126 (by kernel_rfl) rfl rfl rfl ?_; conv => cbv
 refine cfr (greyPop_lx G z ov h.z h.g64 h.g8) [(0,5)] (fun r h' n' hrr => ?_)
 obtain ⟨v2,b,z',A',e1,e2,e3,hz',h4⟩ := hrr
 subst e1 e2 e3
 obtain ⟨hGA,rfl⟩ : G = A' ++ [v2] ∧ b = true := by
  rcases h4 with ⟨e,_⟩ | h4
  ·rw [e] at hG; exact absurd hG.symm (by simp)
  ·exact h4
 obtain ⟨rfl,hv2⟩ := List.append_inj' (hG.symm.trans hGA) rfl
 obtain rfl : v = v2 := by simpa using hv2
 conv => cbv
 refine RetF.mk [i6 v,.p (.bool true)] [hpA 0 1 5 6 3 W ph sp cy,hpB 1 2 4 3 W,hpC 2 3 179 2 N,hpP 3 L,hpP 4 D,hpF 5 z' ov,hpP 6 Q] 7 (Re.at [(0,0),(1,1),(2,2),(3,3),(4,4),(5,5),(6,6)] []) rfl ⟨z',rfl,rfl,rfl,(HM.pop (hG ▸ h) hz').1⟩
inductive NextG (R : List Rw) (C G : List Int) (ov : Bool) : Int → Bool → List Int → Bool → Prop
 | pop (A : List Int) (v : Int) (h : G = A ++ [v]) : NextG R C G ov v true A ov
 | none (h : G = []) (ho : ov = false) : NextG R C G ov 0 false [] false
 | found (i : Nat) (a : Int) (h : G = []) (ho : ov = true) (ha : (objs R)[i]? = some a) (hc : C[a.toNat]? = some 1) (hn : ∀ j b,j < i → (objs R)[j]? = some b → C[b.toNat]? ≠ some 1) : NextG R C G ov a true [] true
 | settle (h : G = []) (ho : ov = true) (hn : ∀ (j : Nat) b,(objs R)[j]? = some b → C[b.toNat]? ≠ some 1) : NextG R C G ov 0 false [] false
theorem NextG.det {R : List Rw} {C G G1 G2 : List Int} {ov o1 o2 b1 b2 : Bool} {v1 v2 : Int} (h1 : NextG R C G ov v1 b1 G1 o1) (h2 : NextG R C G ov v2 b2 G2 o2) : v1 = v2 ∧ b1 = b2 ∧ G1 = G2 ∧ o1 = o2 := by
 cases h1 with
 | pop A v h => cases h2 with
  | pop A' v' h' =>
   obtain ⟨rfl,e⟩ := List.append_inj' (h.symm.trans h') rfl
   obtain rfl : v1 = v2 := by simpa using e
   exact ⟨rfl,rfl,rfl,rfl⟩
  | none h' _ => rw [h'] at h; exact absurd h.symm (by simp)
  | found i a h' _ _ _ _ => rw [h'] at h; exact absurd h.symm (by simp)
  | settle h' _ _ => rw [h'] at h; exact absurd h.symm (by simp)
 | none h ho => cases h2 with
  | pop A' v' h' => rw [h] at h'; exact absurd h'.symm (by simp)
  | none _ _ => exact ⟨rfl,rfl,rfl,rfl⟩
  | found i a h' ho' _ _ _ => rw [ho] at ho'; cases ho'
  | settle h' ho' _ => rw [ho] at ho'; cases ho'
 | found i a h ho ha hc hn => cases h2 with
  | pop A' v' h' => rw [h] at h'; exact absurd h'.symm (by simp)
  | none _ ho' => rw [ho] at ho'; cases ho'
  | found i' a' h' ho' ha' hc' hn' =>
   obtain rfl : i = i' := by
    rcases Nat.lt_trichotomy i i' with q | q | q
    ·exact absurd hc (hn' _ _ q ha)
    ·exact q
    ·exact absurd hc' (hn _ _ q ha')
   rw [ha] at ha'
   obtain rfl := Option.some.inj ha'
   exact ⟨rfl,rfl,rfl,rfl⟩
  | settle _ _ hn' => exact absurd hc (hn' _ _ ha)
 | settle h ho hn => cases h2 with
  | pop A' v' h' => rw [h] at h'; exact absurd h'.symm (by simp)
  | none _ ho' => rw [ho] at ho'; cases ho'
  | found i' a' h' ho' ha' hc' hn' => exact absurd hc' (hn _ _ ha')
  | settle _ _ _ => exact ⟨rfl,rfl,rfl,rfl⟩
def Due (R : List Rw) (ws C : List Int) (a : Int) : Prop := (∃ l,Kept R ws a 5 l) ∧ C[a.toNat]? = some 0 ∧ ∃ x,Loaded R ws a 1 x 0 ∧ x ≠ 0
inductive NextF (R : List Rw) (ws C : List Int) : Int → Bool → Prop
 | found (i : Nat) (a : Int) (ha : (objs R)[i]? = some a) (hd : Due R ws C a) (hn : ∀ j b,j < i → (objs R)[j]? = some b → ¬ Due R ws C b) : NextF R ws C a true
 | none (hn : ∀ (j : Nat) b,(objs R)[j]? = some b → ¬ Due R ws C b) : NextF R ws C 0 false
theorem NextF.det {R : List Rw} {ws C : List Int} {b1 b2 : Bool} {v1 v2 : Int} (h1 : NextF R ws C v1 b1) (h2 : NextF R ws C v2 b2) : v1 = v2 ∧ b1 = b2 := by
 cases h1 with
 | found i a ha hd hn => cases h2 with
  | found i' a' ha' hd' hn' =>
   obtain rfl : i = i' := by
    rcases Nat.lt_trichotomy i i' with q | q | q
    ·exact absurd hd (hn' _ _ q ha)
    ·exact q
    ·exact absurd hd' (hn _ _ q ha')
   rw [ha] at ha'
   obtain rfl := Option.some.inj ha'
   exact ⟨rfl,rfl⟩
  | none hn' => exact absurd hd (hn' _ _ ha)
 | none hn => cases h2 with
  | found i' a' ha' hd' hn' => exact absurd hd' (hn _ _ ha')
  | none _ => exact ⟨rfl,rfl⟩
abbrev Gn := Int × Int × List Int × Bool
def gpv : List Gn → List PV
 | [] => []
 | g :: l => .int .i64 (.sym g.1) :: .int .i64 (.sym g.2.1) :: .vsl (.sym (g.2.2.1.length : Int)) true (ipv g.2.2.1) :: .bool g.2.2.2 :: gpv l
theorem gpv_length : ∀ l,(gpv l).length = 4 * l.length
 | [] => rfl
 | g :: l => by simp [gpv,gpv_length l]; omega
theorem gpv_app : ∀ l m,gpv (l ++ m) = gpv l ++ gpv m
 | [],m => rfl
 | g :: l,m => by simp [gpv,gpv_app l m]
inductive Marked (R : List Rw) (ws C G : List Int) (ov : Bool) (sp : Int) : List Gn → Int → Int → List Int → List Int → List Int → Bool → Prop
 | scan (v : Int) (A X C' G' : List Int) (o1 ov' : Bool) (hg : NextG R C G ov v true A o1) (hX : Wrds R ws v X) (hs : (C',G',ov') = scanS R 1 v X (C,A,o1)) : Marked R ws C G ov sp [] 1 sp ws C' G' ov'
 | keep (a : Int) (A X ws' C' G' : List Int) (o1 ov' : Bool) (hg : NextG R C G ov 0 false A o1) (hf : NextF R ws C a true) (hX : Wrds R ws a X) (hst : Stored R ws a 1 0 0 ws') (hs : (C',G',ov') = shade R 1 a (C,A,o1)) : Marked R ws C G ov sp [(5,a,X,true)] 1 sp ws' C' G' ov'
 | sweep (A : List Int) (o1 : Bool) (hg : NextG R C G ov 0 false A o1) (hf : NextF R ws C 0 false) : Marked R ws C G ov sp [] 2 0 ws C A o1
theorem HM.over {R : List Rw} {ws C G : List Int} {N W : Int} {L D Q : List PV} {z z' : ByteArray} {G' : List Int} (h : HM R ws C G N W L D Q z) (hz : z' = ⟨(enc G').toArray⟩) (hG : G = [] ∧ G' = []) : HM R ws C G' N W L D Q z' :=
 ⟨h.a,h.k,h.n,h.r,h.w,h.l,h.d,h.q,h.c,hz,fun x hx => (by rw [hG.2] at hx; cases hx),(by rw [hG.2]; exact Nat.zero_le _)⟩
theorem nextGrey_lx (R : List Rw) (ws C G : List Int) (N W ph sp cy : Int) (L D Q : List PV) (z : ByteArray) (ov : Bool) (h : HM R ws C G N W L D Q z) : CallF (fun _ => Tryz.prog) 126 [.ptr 0 (.lit 0)] [hpA 0 1 5 6 3 W ph sp cy,hpB 1 2 4 3 W,hpC 2 3 179 2 N,hpP 3 L,hpP 4 D,hpF 5 z ov,hpP 6 Q] 7 (fun r h n => ∃ (v : Int) (b : Bool) (G' : List Int) (ov' : Bool) (z' : ByteArray),r = .tup [i6 v,.p (.bool b)] ∧ h = [hpA 0 1 5 6 3 W ph sp cy,hpB 1 2 4 3 W,hpC 2 3 179 2 N,hpP 3 L,hpP 4 D,hpF 5 z' ov',hpP 6 Q] ∧ n = 7 ∧ HM R ws C G' N W L D Q z' ∧ NextG R C G ov v b G' ov') := by
 by_cases hG0 : G = []
 case neg =>
  obtain ⟨A,v,hG⟩ : ∃ A v,G = A ++ [v] := ⟨_,_,(List.dropLast_concat_getLast hG0).symm⟩
  exact (nextGreyPop_lx R ws C G N W ph sp cy L D Q z ov h A v hG).mono fun r h' n' ⟨z',e1,e2,e3,h2⟩ => ⟨v,true,A,ov,z',e1,e2,e3,h2,.pop A v hG⟩
 refine callF_of_body tok Tryz.func126 (by kernel_rfl) rfl rfl rfl ?_; conv => cbv
 refine cfr (greyPop_lx G z ov h.z h.g64 h.g8) [(0,5)] (fun r h' n' hrr => ?_)
 obtain ⟨v2,b,z',A',e1,e2,e3,hz',h4⟩ := hrr
 subst e1 e2 e3
 obtain ⟨rfl,rfl,hA'⟩ : v2 = 0 ∧ b = false ∧ A' = [] := by
  rcases h4 with ⟨_,e1,e2,e3⟩ | ⟨e,_⟩
  ·exact ⟨e1,e2,e3⟩
  ·rw [hG0] at e; exact absurd e (by simp)
 have h1 := h.over hz' ⟨hG0,hA'⟩
 conv => cbv
 refine cfr (greyOver_lx z' ov) [(0,5)] (fun r h' n' ⟨e1,e2,e3⟩ => ?_)
 subst e1 e2 e3
 cases ov with
 | false =>
  conv => cbv
  refine RetF.mk [i6 0,.p (.bool false)] [hpA 0 1 5 6 3 W ph sp cy,hpB 1 2 4 3 W,hpC 2 3 179 2 N,hpP 3 L,hpP 4 D,hpF 5 z' false,hpP 6 Q] 7 (Re.at [(0,0),(1,1),(2,2),(3,3),(4,4),(5,5),(6,6)] []) rfl ⟨0,false,A',false,z',rfl,rfl,rfl,h1,by rw [hA']; exact .none hG0 rfl⟩
 | true =>
  conv => cbv
  obtain ⟨m,hm⟩ : ∃ m : Int,m = objCount R := ⟨_,rfl⟩
  refine cfr (objects_lx m R N W L D h.l h.n h.r h.a.rows h.w hm) [(0,1),(1,2),(2,3),(3,4)] (fun r h' n' hrr => ?_)
  obtain ⟨O,e1,e2,e3,hO⟩ := hrr
  subst e1 e2 e3
  have hOl : (O.length : Int) = m := by rw [hO,ipv_length,objs_length h.a.rows,hm]
  have hO : O = ipv (objs R) := hO
  have hol : ((objs R).length : Int) = m := by rw [← hOl,hO,ipv_length]
  have hob : m ≤ 8000 := by have := objsTo_le R R.length; rw [objs_length h.a.rows] at this; have := h.r; omega
  conv => cbv
  refine LoopF.mk (fun k s => ∃ i : Int,s = ⟨.ptr 0 (.lit 0) :: (undefs 27 ++ .sl 7 3 1 (.lit 0) (.sym m) :: .p (.int .i64 (.sym m)) :: .p (.int .i64 (.sym i)) :: undefs 13),[hpA 0 1 5 6 3 W ph sp cy,hpB 1 2 4 3 W,hpC 2 3 179 2 N,hpP 3 L,hpP 4 D,hpF 5 z' true,hpP 6 Q,hpP 7 O],8⟩ ∧ 0 ≤ i ∧ i ≤ m ∧ (∀ (j : Nat) b,(j : Int) < i → (objs R)[j]? = some b → C[b.toNat]? ≠ some 1) ∧ k = (m - i).toNat) m.toNat _
   (Re.at [(0,0),(1,1),(2,2),(3,3),(4,4),(5,5),(6,6),(7,7)] []) ⟨0,rfl,by omega,by omega,fun j b hj => by omega,by omega⟩ ?_
  rintro k s ⟨i,rfl,hi0,hi1,hn,hk⟩
  conv => cbv
  refine Br.mk (fun gi => ?_) (fun gi => ?_)
  ·have gi : i < m := gi
   obtain ⟨k',rfl⟩ : ∃ k',k = k' + 1 := ⟨k - 1,by omega⟩
   obtain ⟨a,ha⟩ : ∃ a,(objs R)[i.toNat]? = some a := ⟨_,List.getElem?_eq_getElem (by omega)⟩
   have hc : O[i.toNat]? = some (.int .i64 (.sym a)) := by rw [hO]; exact ipv_get ha
   conv => cbv
   refine Need.mk ⟨hi0,gi⟩ ?_
   conv => cbv
   refine Cell.at i _ hc (by simp [I.val]) rfl ?_
   conv => cbv
   refine CallF.le (args0 := [.ptr 0 (.lit 0),i6 a,i6 1]) (cfr (is_lx R ws C A' N W ph sp cy L D Q z' true h1 a 1) [(0,0),(1,1),(2,2),(3,3),(4,4),(5,5),(6,6)] (fun r h' n' hrr => ?_)) (by simp [ales,ale,pvle,I.val])
   obtain ⟨b,e1,e2,e3,hb⟩ := hrr
   subst e1 e2 e3
   cases b with
   | true =>
    conv => cbv
    refine RetF.mk [i6 a,.p (.bool true)] [hpA 0 1 5 6 3 W ph sp cy,hpB 1 2 4 3 W,hpC 2 3 179 2 N,hpP 3 L,hpP 4 D,hpF 5 z' true,hpP 6 Q] 7 (Re.at [(0,0),(1,1),(2,2),(3,3),(4,4),(5,5),(6,6)] []) rfl ⟨a,true,A',true,z',rfl,rfl,rfl,h1,by rw [hA']; exact .found i.toNat a hG0 rfl ha (hb.1 rfl).2 (fun j b hj => hn j b (by omega))⟩
   | false =>
    have hna : C[a.toNat]? ≠ some 1 := fun hx => by have := hb.2 ⟨List.mem_of_getElem? ha,hx⟩; cases this
    conv => cbv
    refine Fit.mk (by show (-9223372036854775808 : Int) ≤ i + 1; omega) (by show i + 1 ≤ 9223372036854775807; omega) fun i2 hi2 => ?_
    have hi2 : i2 = i + 1 := hi2
    conv => cbv
    refine Again.mk k' _ (Nat.lt_succ_self _) (Re.at [(0,0),(1,1),(2,2),(3,3),(4,4),(5,5),(6,6),(7,7)] []) ⟨i2,rfl,by omega,by omega,fun j b hj hjb => ?_,by omega⟩
    by_cases q : j = i.toNat
    ·rw [q,ha] at hjb; obtain rfl := Option.some.inj hjb; exact hna
    ·have hj : (j : Int) < i2 := hj
     have hj2 : (j : Int) < i := by omega
     exact hn j b hj2 hjb
  ·have gi : ¬ i < m := gi
   conv => cbv
   refine cfr (greySettle_lx z' true) [(0,5)] (fun r h' n' ⟨e1,e2,e3⟩ => ?_)
   subst e1 e2 e3
   conv => cbv
   refine RetF.mk [i6 0,.p (.bool false)] [hpA 0 1 5 6 3 W ph sp cy,hpB 1 2 4 3 W,hpC 2 3 179 2 N,hpP 3 L,hpP 4 D,hpF 5 z' false,hpP 6 Q] 7 (Re.at [(0,0),(1,1),(2,2),(3,3),(4,4),(5,5),(6,6)] []) rfl ⟨0,false,A',false,z',rfl,rfl,rfl,h1,by rw [hA']; exact .settle hG0 rfl (fun j b hj => hn j b (by have := (List.getElem?_eq_some_iff.1 hj).1; omega) hj)⟩
inductive LookR (R : List Rw) (ws : List Int) (a : Int) : LV → Prop
 | box (x e : Int) (hk : KindR R ws a 5) (hx : Loaded R ws a 1 x e) : LookR R ws a (.iface 171 (.agg [i6 a,i6 x]))
 | other (k : Int) (hk : KindR R ws a k) (hne : k ≠ 5) : LookR R ws a (.iface 281 (.agg []))
theorem look9_lx (R : List Rw) (ws C G : List Int) (N W ph sp cy : Int) (L D Q : List PV) (z : ByteArray) (ov : Bool) (h : HM R ws C G N W L D Q z) (a : Int) : CallF (fun _ => Tryz.prog) 186 [.ptr 0 (.lit 0),i6 a] [hpA 0 1 5 6 3 W ph sp cy,hpB 1 2 4 3 W,hpC 2 3 179 2 N,hpP 3 L,hpP 4 D,hpF 5 z ov,hpP 6 Q] 7 (fun r h n => LookR R ws a r ∧ h = [hpA 0 1 5 6 3 W ph sp cy,hpB 1 2 4 3 W,hpC 2 3 179 2 N,hpP 3 L,hpP 4 D,hpF 5 z ov,hpP 6 Q] ∧ n = 7) := by
 refine callF_of_body tok Tryz.func186 (by kernel_rfl) rfl rfl rfl ?_; conv => cbv
 refine cfr (kind_lx R ws N a W L D h.l h.d h.n h.r h.a h.w) [(0,1),(1,2),(2,3),(3,4)] (fun r h' n' hrr => ?_)
 obtain ⟨v,e1,e2,e3,hv⟩ := hrr
 subst e1 e2 e3
 conv => cbv
 refine Br.mk (fun g => ?_) (fun g => ?_)
 ·have g : v = 5 := g
  conv => cbv
  refine CallF.le (args0 := [.ptr 1 (.lit 0),i6 a,i6 1]) (cfr (load_lx 1 R ws N a W L D h.l h.d h.n h.r h.a h.w) [(0,1),(1,2),(2,3),(3,4)] (fun r h' n' hrr => ?_)) (by simp [ales,ale,pvle,I.val])
  obtain ⟨x,e,e1,e2,e3,hx⟩ := hrr
  subst e1 e2 e3
  conv => cbv
  refine RetF.mk [.iface 171 (.agg [i6 a,i6 x])] [hpA 0 1 5 6 3 W ph sp cy,hpB 1 2 4 3 W,hpC 2 3 179 2 N,hpP 3 L,hpP 4 D,hpF 5 z ov,hpP 6 Q] 7 (Re.at [(0,0),(1,1),(2,2),(3,3),(4,4),(5,5),(6,6)] []) rfl ⟨.box x e (g ▸ hv) hx,rfl,rfl⟩
 ·have g : ¬ v = 5 := g
  conv => cbv
  refine RetF.mk [.iface 281 (.agg [])] [hpA 0 1 5 6 3 W ph sp cy,hpB 1 2 4 3 W,hpC 2 3 179 2 N,hpP 3 L,hpP 4 D,hpF 5 z ov,hpP 6 Q] 7 (Re.at [(0,0),(1,1),(2,2),(3,3),(4,4),(5,5),(6,6)] []) rfl ⟨.other v hv g,rfl,rfl⟩
theorem nextFinal_lx (R : List Rw) (ws C G : List Int) (N W ph sp cy : Int) (L D Q : List PV) (z : ByteArray) (ov : Bool) (h : HM R ws C G N W L D Q z) : CallF (fun _ => Tryz.prog) 128 [.ptr 0 (.lit 0)] [hpA 0 1 5 6 3 W ph sp cy,hpB 1 2 4 3 W,hpC 2 3 179 2 N,hpP 3 L,hpP 4 D,hpF 5 z ov,hpP 6 Q] 7 (fun r h n => ∃ (a x : Int) (b : Bool),r = .tup [.agg [i6 a,i6 x],.p (.bool b)] ∧ h = [hpA 0 1 5 6 3 W ph sp cy,hpB 1 2 4 3 W,hpC 2 3 179 2 N,hpP 3 L,hpP 4 D,hpF 5 z ov,hpP 6 Q] ∧ n = 7 ∧ NextF R ws C a b) := by
 obtain ⟨m,hm⟩ : ∃ m : Int,m = objCount R := ⟨_,rfl⟩
 refine callF_of_body tok Tryz.func128 (by kernel_rfl) rfl rfl rfl ?_; conv => cbv
 refine cfr (objects_lx m R N W L D h.l h.n h.r h.a.rows h.w hm) [(0,1),(1,2),(2,3),(3,4)] (fun r h' n' hrr => ?_)
 obtain ⟨O,e1,e2,e3,hO⟩ := hrr
 subst e1 e2 e3
 have hOl : (O.length : Int) = m := by rw [hO,ipv_length,objs_length h.a.rows,hm]
 have hO : O = ipv (objs R) := hO
 have hol : ((objs R).length : Int) = m := by rw [← hOl,hO,ipv_length]
 have hob : m ≤ 8000 := by have := objsTo_le R R.length; rw [objs_length h.a.rows] at this; have := h.r; omega
 conv => cbv
 refine LoopF.mk (fun k s => ∃ i : Int,s = ⟨.ptr 0 (.lit 0) :: .undef :: .ptr 7 (.lit 0) :: .p (.bool false) :: (undefs 8 ++ .sl 8 3 1 (.lit 0) (.sym m) :: .p (.int .i64 (.sym m)) :: .p (.int .i64 (.sym i)) :: undefs 24),[hpA 0 1 5 6 3 W ph sp cy,hpB 1 2 4 3 W,hpC 2 3 179 2 N,hpP 3 L,hpP 4 D,hpF 5 z ov,hpP 6 Q,hpP 8 O,(7,.pure false [.int .i64 (.lit 0),.int .i64 (.lit 0)])],9⟩ ∧ 0 ≤ i ∧ i ≤ m ∧ (∀ (j : Nat) b,(j : Int) < i → (objs R)[j]? = some b → ¬ Due R ws C b) ∧ k = (m - i).toNat) m.toNat _
  (Re.at [(0,0),(1,1),(2,2),(3,3),(4,4),(5,5),(6,6),(7,7),(8,8)] []) ⟨0,rfl,by omega,by omega,fun j b hj => by omega,by omega⟩ ?_
 rintro k s ⟨i,rfl,hi0,hi1,hn,hk⟩
 conv => cbv
 refine Br.mk (fun gi => ?_) (fun gi => ?_)
 ·have gi : i < m := gi
  obtain ⟨k',rfl⟩ : ∃ k',k = k' + 1 := ⟨k - 1,by omega⟩
  obtain ⟨a,ha⟩ : ∃ a,(objs R)[i.toNat]? = some a := ⟨_,List.getElem?_eq_getElem (by omega)⟩
  have hc : O[i.toNat]? = some (.int .i64 (.sym a)) := by rw [hO]; exact ipv_get ha
  have hob2 := (obj_iff h.a a).1 (List.mem_of_getElem? ha)
  have hstep : ∀ i2 : Int,i2 = i + 1 → ¬ Due R ws C a → ∀ (j : Nat) b,(j : Int) < i2 → (objs R)[j]? = some b → ¬ Due R ws C b := by
   intro i2 hi2 hd j b hj hjb
   by_cases q : j = i.toNat
   ·rw [q,ha] at hjb; obtain rfl := Option.some.inj hjb; exact hd
   ·exact hn j b (by omega) hjb
  conv => cbv
  refine Need.mk ⟨hi0,gi⟩ ?_
  conv => cbv
  refine Cell.at i _ hc (by simp [I.val]) rfl ?_
  conv => cbv
  refine cfr (look9_lx R ws C G N W ph sp cy L D Q z ov h a) [(0,0),(1,1),(2,2),(3,3),(4,4),(5,5),(6,6)] (fun r h' n' hrr => ?_)
  obtain ⟨hL,e2,e3⟩ := hrr
  subst e2 e3
  cases hL with
  | other k2 hk2 hne =>
   have hnd : ¬ Due R ws C a := by
    rintro ⟨⟨l,hK⟩,_⟩
    cases hk2 with
    | no hno => exact hno hob2
    | is _ l2 hK2 => exact hne (hK2.det9 hK).1
   conv => cbv
   refine Fit.mk (by show (-9223372036854775808 : Int) ≤ i + 1; omega) (by show i + 1 ≤ 9223372036854775807; omega) fun i2 hi2 => ?_
   have hi2 : i2 = i + 1 := hi2
   conv => cbv
   refine Again.mk k' _ (Nat.lt_succ_self _) (Re.at [(0,0),(1,1),(2,2),(3,3),(4,4),(5,5),(6,6),(7,7),(8,8)] []) ⟨i2,rfl,by omega,by omega,hstep i2 hi2 hnd,by omega⟩
  | box x e hk2 hx =>
   obtain ⟨l,hK⟩ : ∃ l,Kept R ws a 5 l := by
    generalize hk5 : (5 : Int) = k5 at hk2
    cases hk2 with
    | no _ => cases hk5
    | is _ l hK => exact ⟨l,hk5 ▸ hK⟩
   have hx0 : x ≠ 0 → e = 0 := by
    intro hne
    generalize h1 : (1 : Int) = i1 at hx
    cases hx with
    | none _ => exact absurd rfl hne
    | arg _ _ _ _ => exact absurd rfl hne
    | ok _ _ _ _ _ _ => rfl
   conv => cbv
   refine Br.mk (fun gx => ?_) (fun gx => ?_)
   ·have gx : x ≠ 0 := gx
    obtain rfl := hx0 gx
    conv => cbv
    refine CallF.le (args0 := [.ptr 0 (.lit 0),i6 a,i6 0]) (cfr (is_lx R ws C G N W ph sp cy L D Q z ov h a 0) [(0,0),(1,1),(2,2),(3,3),(4,4),(5,5),(6,6)] (fun r h' n' hrr => ?_)) (by simp [ales,ale,pvle,I.val])
    obtain ⟨b,e1,e2,e3,hb⟩ := hrr
    subst e1 e2 e3
    cases b with
    | true =>
     conv => cbv
     refine RetF.mk [.agg [i6 a,i6 x],.p (.bool true)] [hpA 0 1 5 6 3 W ph sp cy,hpB 1 2 4 3 W,hpC 2 3 179 2 N,hpP 3 L,hpP 4 D,hpF 5 z ov,hpP 6 Q] 7 (Re.at [(0,0),(1,1),(2,2),(3,3),(4,4),(5,5),(6,6)] []) rfl ⟨a,x,true,rfl,rfl,rfl,.found i.toNat a ha ⟨⟨l,hK⟩,(hb.1 rfl).2,x,hx,gx⟩ (fun j b hj => hn j b (by omega))⟩
    | false =>
     have hnd : ¬ Due R ws C a := fun hd => by have := hb.2 ⟨List.mem_of_getElem? ha,hd.2.1⟩; cases this
     conv => cbv
     refine Fit.mk (by show (-9223372036854775808 : Int) ≤ i + 1; omega) (by show i + 1 ≤ 9223372036854775807; omega) fun i2 hi2 => ?_
     have hi2 : i2 = i + 1 := hi2
     conv => cbv
     refine Again.mk k' _ (Nat.lt_succ_self _) (Re.at [(0,0),(1,1),(2,2),(3,3),(4,4),(5,5),(6,6),(7,7),(8,8)] []) ⟨i2,rfl,by omega,by omega,hstep i2 hi2 hnd,by omega⟩
   ·have gx : ¬ x ≠ 0 := gx
    have hnd : ¬ Due R ws C a := by
     rintro ⟨_,_,y,hy,hy0⟩
     obtain ⟨rfl,_⟩ := loaded_det hx hy
     exact gx hy0
    conv => cbv
    refine Fit.mk (by show (-9223372036854775808 : Int) ≤ i + 1; omega) (by show i + 1 ≤ 9223372036854775807; omega) fun i2 hi2 => ?_
    have hi2 : i2 = i + 1 := hi2
    conv => cbv
    refine Again.mk k' _ (Nat.lt_succ_self _) (Re.at [(0,0),(1,1),(2,2),(3,3),(4,4),(5,5),(6,6),(7,7),(8,8)] []) ⟨i2,rfl,by omega,by omega,hstep i2 hi2 hnd,by omega⟩
 ·have gi : ¬ i < m := gi
  conv => cbv
  refine RetF.mk [.agg [i6 0,i6 0],.p (.bool false)] [hpA 0 1 5 6 3 W ph sp cy,hpB 1 2 4 3 W,hpC 2 3 179 2 N,hpP 3 L,hpP 4 D,hpF 5 z ov,hpP 6 Q] 7 (Re.at [(0,0),(1,1),(2,2),(3,3),(4,4),(5,5),(6,6)] []) rfl ⟨0,0,false,rfl,rfl,rfl,.none (fun j b hj => hn j b (by have := (List.getElem?_eq_some_iff.1 hj).1; omega) hj)⟩
theorem wordsV_lx (R : List Rw) (ws C G : List Int) (N W ph sp cy : Int) (L D Q : List PV) (z : ByteArray) (ov : Bool) (h : HM R ws C G N W L D Q z) (a : Int) : CallF (fun _ => Tryz.prog) 130 [.ptr 0 (.lit 0),i6 a] [hpA 0 1 5 6 3 W ph sp cy,hpB 1 2 4 3 W,hpC 2 3 179 2 N,hpP 3 L,hpP 4 D,hpF 5 z ov,hpP 6 Q] 7 (fun r h n => ∃ (X : List Int) (m : Int) (O : List PV),r = .p (.vsl (.sym m) true O) ∧ h = [hpA 0 1 5 6 3 W ph sp cy,hpB 1 2 4 3 W,hpC 2 3 179 2 N,hpP 3 L,hpP 4 D,hpF 5 z ov,hpP 6 Q] ∧ n = 7 ∧ O = ipv X ∧ m = X.length ∧ Wrds R ws a X) :=
 (wordsH_lx R ws C G N W ph sp cy L D Q z ov h a).ret fun r h' n' ⟨X,m,O,e1,e2,e3,hO,hm,hX⟩ => by
  subst e1 e2 e3
  exact RetF.mk [.p (.vsl (.sym m) true O)] [hpA 0 1 5 6 3 W ph sp cy,hpB 1 2 4 3 W,hpC 2 3 179 2 N,hpP 3 L,hpP 4 D,hpF 5 z ov,hpP 6 Q] 7 (Re.at [(0,0),(1,1),(2,2),(3,3),(4,4),(5,5),(6,6)] []) rfl ⟨X,m,O,rfl,rfl,rfl,hO,hm,hX⟩
theorem shadeW_zero (R : List Rw) (ph : Int) (s : List Int × List Int × Bool) (e : Int) : storeS R ph e 0 s = s := by
 unfold storeS shadeW
 split
 ·rw [if_neg (by decide)]
 ·rfl
theorem keep_lx (R : List Rw) (ws C G : List Int) (N W ph sp cy : Int) (L D Q : List PV) (z : ByteArray) (ov : Bool) (h : HM R ws C G N W L D Q z) (o : Unit → Obj) (ho : IsPow o) (a x : Int) : CallF (fun _ => Tryz.prog) 129 [.ptr 0 (.lit 0),.agg [i6 a,i6 x]] [hpA 0 1 5 6 3 W ph sp cy,hpB 1 2 4 3 W,hpC 2 3 179 2 N,hpP 3 L,hpP 4 D,hpF 5 z ov,hpP 6 Q,(7,.fix 0 o)] 8 (fun r h n => ∃ (X : List Int) (m e : Int) (O : List PV) (ws' C' G' : List Int) (ov' : Bool) (D' Q' : List PV) (z' : ByteArray),r = .agg [.p (.int .i64 (.lit 5)),i6 a,.p (.vsl (.sym m) true O),.p (.bool true)] ∧ h = [hpA 0 1 5 6 3 W ph sp cy,hpB 1 2 4 3 W,hpC 2 3 179 2 N,hpP 3 L,hpP 4 D',hpF 5 z' ov',hpP 6 Q',(7,.fix 0 o)] ∧ n = 8 ∧ HM R ws' C' G' N W L D' Q' z' ∧ O = ipv X ∧ m = X.length ∧ Wrds R ws a X ∧ Stored R ws a 1 0 e ws' ∧ (C',G',ov') = shade R ph a (C,G,ov)) := by
 refine callF_of_body tok Tryz.func129 (by kernel_rfl) rfl rfl rfl ?_; conv => cbv
 refine cfr (wordsV_lx R ws C G N W ph sp cy L D Q z ov h a) [(0,0),(1,1),(2,2),(3,3),(4,4),(5,5),(6,6)] (fun r h' n' hrr => ?_)
 obtain ⟨X,m,O,e1,e2,e3,hO,hm,hX⟩ := hrr
 subst e1 e2 e3
 conv => cbv
 refine CallF.le (args0 := [.ptr 0 (.lit 0),i6 a,i6 1,i6 0]) (cfr (store9_lx R ws C G N W ph sp cy L D Q z ov h o ho a 1 0 (by decide)) [(0,0),(1,1),(2,2),(3,3),(4,4),(5,5),(6,6),(7,7)] (fun r h' n' hrr => ?_)) (by simp [ales,ale,pvle,I.val])
 obtain ⟨e,ws',C1,G1,ov1,D',Q1,z1,e1,e2,e3,h1,hT,hS⟩ := hrr
 subst e1 e2 e3
 rw [shadeW_zero] at hS
 conv => cbv
 refine cfr (shade_lx R ws' C1 G1 N W ph sp cy L D' Q1 z1 ov1 h1 o ho a) [(0,0),(1,1),(2,2),(3,3),(4,4),(5,5),(6,6),(7,7)] (fun r h' n' hrr => ?_)
 obtain ⟨C',G',ov',Q',z',e1,e2,e3,h2,hS2⟩ := hrr
 subst e1 e2 e3
 rw [hS] at hS2
 conv => cbv
 refine RetF.mk [.agg [.p (.int .i64 (.lit 5)),i6 a,.p (.vsl (.sym m) true O),.p (.bool true)]] [hpA 0 1 5 6 3 W ph sp cy,hpB 1 2 4 3 W,hpC 2 3 179 2 N,hpP 3 L,hpP 4 D',hpF 5 z' ov',hpP 6 Q',(7,.fix 0 o)] 8 (Re.at [(0,0),(1,1),(2,2),(3,3),(4,4),(5,5),(6,6),(7,7)] []) rfl ⟨X,m,e,O,ws',C',G',ov',D',Q',z',rfl,rfl,rfl,h2,hO,hm,hX,hT,hS2⟩
theorem markH_lx (R : List Rw) (ws C G : List Int) (N W ph sp cy : Int) (L D Q : List PV) (z : ByteArray) (ov : Bool) (h : HM R ws C G N W L D Q z) (o : Unit → Obj) (ho : IsPow o) (hph : ph = 1) : CallF (fun _ => Tryz.prog) 62 [.ptr 0 (.lit 0)] [hpA 0 1 5 6 3 W ph sp cy,hpB 1 2 4 3 W,hpC 2 3 179 2 N,hpP 3 L,hpP 4 D,hpF 5 z ov,hpP 6 Q,(7,.fix 0 o)] 8 (fun r h n => ∃ (out : List Gn) (k ph' sp' : Int) (cells : List PV) (ws' C' G' : List Int) (ov' : Bool) (D' Q' : List PV) (z' : ByteArray),r = .p (.vsl (.sym k) true cells) ∧ h = [hpA 0 1 5 6 3 W ph' sp' cy,hpB 1 2 4 3 W,hpC 2 3 179 2 N,hpP 3 L,hpP 4 D',hpF 5 z' ov',hpP 6 Q',(7,.fix 0 o)] ∧ n = 8 ∧ HM R ws' C' G' N W L D' Q' z' ∧ cells = gpv out ∧ k = out.length ∧ Marked R ws C G ov sp out ph' sp' ws' C' G' ov') := by
 subst hph
 refine callF_of_body tok Tryz.func62 (by kernel_rfl) rfl rfl rfl ?_; conv => cbv
 refine cfr (nextGrey_lx R ws C G N W 1 sp cy L D Q z ov h) [(0,0),(1,1),(2,2),(3,3),(4,4),(5,5),(6,6)] (fun r h' n' hrr => ?_)
 obtain ⟨v,b,G1,ov1,z1,e1,e2,e3,h1,hg⟩ := hrr
 subst e1 e2 e3
 cases b with
 | true =>
  have hv : 0 ≤ v ∧ v < W := by
   cases hg with
   | pop A _ hG => exact h.g v (by rw [hG]; simp)
   | found i _ _ _ ha _ _ => have := obj_bd h.a (List.mem_of_getElem? ha); have := h.w; have := h.n; omega
  conv => cbv
  refine cfr (scan_lx R ws C G1 N W 1 sp cy L D Q z1 ov1 h1 o ho v hv) [(0,0),(1,1),(2,2),(3,3),(4,4),(5,5),(6,6),(7,7)] (fun r h' n' hrr => ?_)
  obtain ⟨X,C',G',ov',Q',z',e1,e2,e3,h2,hX,hS⟩ := hrr
  subst e1 e2 e3
  conv => cbv
  refine RetF.mk [.p (.vsl (.sym 0) true [])] [hpA 0 1 5 6 3 W 1 sp cy,hpB 1 2 4 3 W,hpC 2 3 179 2 N,hpP 3 L,hpP 4 D,hpF 5 z' ov',hpP 6 Q',(7,.fix 0 o)] 8 (Re.at [(0,0),(1,1),(2,2),(3,3),(4,4),(5,5),(6,6),(7,7)] []) rfl ⟨[],0,1,sp,[],ws,C',G',ov',D,Q',z',rfl,rfl,rfl,h2,rfl,rfl,.scan v G1 X C' G' ov1 ov' hg hX hS⟩
 | false =>
  have hv0 : v = 0 := by
   cases hg <;> rfl
  subst hv0
  conv => cbv
  refine cfr (nextFinal_lx R ws C G1 N W 1 sp cy L D Q z1 ov1 h1) [(0,0),(1,1),(2,2),(3,3),(4,4),(5,5),(6,6)] (fun r h' n' hrr => ?_)
  obtain ⟨a,x,b,e1,e2,e3,hf⟩ := hrr
  subst e1 e2 e3
  cases b with
  | true =>
   conv => cbv
   refine cfr (keep_lx R ws C G1 N W 1 sp cy L D Q z1 ov1 h1 o ho a x) [(0,0),(1,1),(2,2),(3,3),(4,4),(5,5),(6,6),(7,7)] (fun r h' n' hrr => ?_)
   obtain ⟨X,m,e,O,ws',C',G',ov',D',Q',z',e1,e2,e3,h2,hO,hm,hX,hT,hS⟩ := hrr
   subst e1 e2 e3
   have he : e = 0 := by
    cases hf with
    | found i _ ha hd _ =>
     obtain ⟨⟨l,hK⟩,_,y,hy,_⟩ := hd
     cases hy with
     | ok _ l2 _ hK2 hi _ =>
      cases hT with
      | none hno => exact absurd hK2.obj6 hno
      | arg k3 l3 hK3 hi3 => obtain ⟨_,rfl⟩ := hK2.det9 hK3; exact absurd hi hi3
      | ok _ _ _ _ => rfl
   subst he
   conv => cbv
   refine RetF.mk [.p (.vsl (.sym 1) true [.int .i64 (.sym 5),.int .i64 (.sym a),.vsl (.sym m) true O,.bool true])] [hpA 0 1 5 6 3 W 1 sp cy,hpB 1 2 4 3 W,hpC 2 3 179 2 N,hpP 3 L,hpP 4 D',hpF 5 z' ov',hpP 6 Q',(7,.fix 0 o)] 8 (Re.at [(0,0),(1,1),(2,2),(3,3),(4,4),(5,5),(6,6),(7,7)] []) rfl ⟨[(5,a,X,true)],1,1,sp,_,ws',C',G',ov',D',Q',z',rfl,rfl,rfl,h2,by rw [hO,hm]; rfl,rfl,.keep a G1 X ws' C' G' ov1 ov' hg hf hX hT hS⟩
  | false =>
   have ha0 : a = 0 := by cases hf; rfl
   subst ha0
   conv => cbv
   refine RetF.mk [.p (.vsl (.sym 0) true [])] [hpA 0 1 5 6 3 W 2 0 cy,hpB 1 2 4 3 W,hpC 2 3 179 2 N,hpP 3 L,hpP 4 D,hpF 5 z1 ov1,hpP 6 Q,(7,.fix 0 o)] 8 (Re.at [(0,0),(1,1),(2,2),(3,3),(4,4),(5,5),(6,6),(7,7)] []) rfl ⟨[],0,2,0,[],ws,C,G1,ov1,D,Q,z1,rfl,rfl,rfl,h1,rfl,rfl,.sweep G1 ov1 hg hf⟩
def Wh (R : List Rw) (C : List Int) (p : Int) : Prop := p ∈ objs R ∧ C[p.toNat]? = some 0
inductive SweptTo (ws C : List Int) (R : List Rw) (p : Int) : Nat → List Gn → List Rw → Prop
 | zero : SweptTo ws C R p 0 [] R
 | skip (i : Nat) (out : List Gn) (R1 : List Rw) (h : SweptTo ws C R p i out R1) (hn : ¬ Wh R1 C (p + i)) : SweptTo ws C R p (i + 1) out R1
 | free (i : Nat) (out : List Gn) (R1 R2 : List Rw) (k : Int) (X : List Int) (h : SweptTo ws C R p i out R1) (hw : Wh R1 C (p + i)) (hk : KindR R1 ws (p + i) k) (hX : Wrds R1 ws (p + i) X) (hf : Freet R1 (p + i) 0 R2) : SweptTo ws C R p (i + 1) (out ++ [(k,p + i,X,false)]) R2
theorem SweptTo.le {ws C : List Int} {R R' : List Rw} {p : Int} {i : Nat} {out : List Gn} (h : SweptTo ws C R p i out R') : out.length ≤ i := by
 induction h with
 | zero => exact Nat.le_refl _
 | skip i out R1 h hn ih => omega
 | free i out R1 R2 k X h hw hk hX hf ih => rw [List.length_append]; simp; omega
theorem kept_freet {R R' : List Rw} {ws : List Int} {a e : Int} (hA : AOk R ws) (h : Freet R a e R') : ∀ b k l,Kept R' ws b k l → Kept R ws b k l := by
 cases h with
 | none _ => exact fun _ _ _ hk => hk
 | ok q s e he hs hat =>
  obtain ⟨_,_,_,g4⟩ := free_objs hA.rows he hs a hat
  rintro b k l ⟨w,h1,h2,h3,h4,h5,h6⟩
  exact .mk k l w ((g4 b w).1 h1).1 h2 h3 h4 h5 h6
theorem HM.freet {R R' : List Rw} {ws C G : List Int} {N W : Int} {L L' D Q : List PV} {z : ByteArray} {a e : Int} (h : HM R ws C G N W L D Q z) (hf : Freet R a e R') (hL : L' = rpv R') : HM R' ws C G N W L' D Q z := by
 obtain ⟨h1,h2⟩ := h.a.freet hf
 exact ⟨h1,fun b k l hb => h.k b k l (kept_freet h.a hf b k l hb),by rw [h2]; exact h.n,by rw [h2]; exact h.r,h.w,hL,h.d,h.q,h.c,h.z,h.g,h.g8⟩
theorem freet_ok {R R' : List Rw} {ws : List Int} {a e : Int} (hA : AOk R ws) (ho : a ∈ objs R) (h : Freet R a e R') : e = 0 := by
 cases h with
 | none hn => exact absurd ((obj_iff hA a).1 ho) hn
 | ok _ _ _ _ _ _ => rfl
def swPh (sp W : Int) : Int := if W ≤ (sp + 1) * 32 then 0 else 2
def swCy (sp W cy : Int) : Int := if W ≤ (sp + 1) * 32 then cy + 1 else cy
theorem sweepH_lx (R : List Rw) (ws C G : List Int) (N W ph sp cy : Int) (L D Q : List PV) (z : ByteArray) (ov : Bool) (h : HM R ws C G N W L D Q z) (hph : ph = 2) (hsp : 0 ≤ sp ∧ sp ≤ 1000) (hcy : 0 ≤ cy ∧ cy ≤ 1000000000) : CallF (fun _ => Tryz.prog) 63 [.ptr 0 (.lit 0)] [hpA 0 1 5 6 3 W ph sp cy,hpB 1 2 4 3 W,hpC 2 3 179 2 N,hpP 3 L,hpP 4 D,hpF 5 z ov,hpP 6 Q] 7 (fun r h n => ∃ (out : List Gn) (k ph' sp' cy' : Int) (cells L' : List PV) (R' : List Rw),r = .p (.vsl (.sym k) true cells) ∧ h = [hpA 0 1 5 6 3 W ph' sp' cy',hpB 1 2 4 3 W,hpC 2 3 179 2 N,hpP 3 L',hpP 4 D,hpF 5 z ov,hpP 6 Q] ∧ n = 7 ∧ HM R' ws C G N W L' D Q z ∧ cells = gpv out ∧ k = out.length ∧ SweptTo ws C R (32 * sp) 32 out R' ∧ sp' = sp + 1 ∧ ph' = swPh sp W ∧ cy' = swCy sp W cy) := by
 have hWn := h.w; have hNr := h.n; have hRr := h.r
 refine callF_of_body tok Tryz.func63 (by kernel_rfl) rfl rfl rfl ?_; conv => cbv
 refine drawn_sound tok (by kernel_rfl) [] [0,1,2,3,4,5,6,7,8,9,10,11,12] (by kernel_rfl) ?_; conv => cbv
 refine Fit.mk (by show (-9223372036854775808 : Int) ≤ sp * 32; omega) (by show sp * 32 ≤ 9223372036854775807; omega) fun f hf => ?_
 have hf : f = sp * 32 := hf
 conv => cbv
 refine Fit.mk (by show (-9223372036854775808 : Int) ≤ sp + 1; omega) (by show sp + 1 ≤ 9223372036854775807; omega) fun s1 hs1 => ?_
 have hs1 : s1 = sp + 1 := hs1
 conv => cbv
 refine Fit.mk (by show (-9223372036854775808 : Int) ≤ s1 * 32; omega) (by show s1 * 32 ≤ 9223372036854775807; omega) fun be hbe => ?_
 have hbe : be = s1 * 32 := hbe
 conv => cbv
 refine LoopF.mk (fun kk s => ∃ (at_ k : Int) (i : Nat) (out : List Gn) (cells L1 : List PV) (R1 : List Rw),s = ⟨.ptr 0 (.lit 0) :: (undefs 2 ++ .sl 7 42 4 (.lit 0) (.sym k) :: .undef :: .p (.int .i64 (.sym be)) :: .p (.int .i64 (.sym at_)) :: undefs 65),[hpA 0 1 5 6 3 W ph sp cy,hpB 1 2 4 3 W,hpC 2 3 179 2 N,hpP 3 L1,hpP 4 D,hpF 5 z ov,hpP 6 Q,hpP 7 cells],8⟩ ∧ at_ = 32 * sp + i ∧ i ≤ 32 ∧ HM R1 ws C G N W L1 D Q z ∧ SweptTo ws C R (32 * sp) i out R1 ∧ cells = gpv out ∧ k = out.length ∧ kk = 32 - i) 32 _
  (Re.at [(0,0),(1,1),(2,2),(3,3),(4,4),(5,5),(6,6)] [7]) ⟨f,0,0,[],[],L,R,rfl,by omega,by omega,h,.zero,rfl,rfl,by omega⟩ ?_
 rintro kk s ⟨at_,k,i,out,cells,L1,R1,rfl,hat,hi,h1,hS,hcs,hk,hkk⟩
 have hle := hS.le
 have hcl : (cells.length : Int) = 4 * k := by rw [hcs,gpv_length]; omega
 conv => cbv
 refine Br.mk (fun gi => ?_) (fun gi => ?_)
 ·have gi : at_ < be := gi
  obtain ⟨k',rfl⟩ : ∃ k',kk = k' + 1 := ⟨kk - 1,by omega⟩
  conv => cbv
  refine CallF.le (args0 := [.ptr 0 (.lit 0),i6 at_,i6 0]) (cfr (is_lx R1 ws C G N W ph sp cy L1 D Q z ov h1 at_ 0) [(0,0),(1,1),(2,2),(3,3),(4,4),(5,5),(6,6)] (fun r h' n' hrr => ?_)) (by simp [ales,ale,pvle,I.val])
  obtain ⟨b,e1,e2,e3,hb⟩ := hrr
  subst e1 e2 e3
  cases b with
  | false =>
   have hnw : ¬ Wh R1 C (32 * sp + i) := fun hw => by have := hb.2 (hat ▸ hw); cases this
   conv => cbv
   refine Fit.mk (by show (-9223372036854775808 : Int) ≤ at_ + 1; omega) (by show at_ + 1 ≤ 9223372036854775807; omega) fun i2 hi2 => ?_
   have hi2 : i2 = at_ + 1 := hi2
   have hat2 : i2 = 32 * sp + ((i + 1 : Nat) : Int) := by omega
   conv => cbv
   refine Again.mk k' _ (Nat.lt_succ_self _) (Re.at [(0,0),(1,1),(2,2),(3,3),(4,4),(5,5),(6,6),(7,7)] []) ⟨i2,k,i + 1,out,cells,L1,R1,rfl,hat2,by omega,h1,.skip i out R1 hS hnw,hcs,hk,by omega⟩
  | true =>
   have hw : Wh R1 C (32 * sp + i) := hat ▸ hb.1 rfl
   conv => cbv
   refine cfr (kind_lx R1 ws N at_ W L1 D h1.l h1.d h1.n h1.r h1.a h1.w) [(0,1),(1,2),(2,3),(3,4)] (fun r h' n' hrr => ?_)
   obtain ⟨v,e1,e2,e3,hv⟩ := hrr
   subst e1 e2 e3
   conv => cbv
   refine cfr (wordsV_lx R1 ws C G N W ph sp cy L1 D Q z ov h1 at_) [(0,0),(1,1),(2,2),(3,3),(4,4),(5,5),(6,6)] (fun r h' n' hrr => ?_)
   obtain ⟨X,m,O,e1,e2,e3,hO,hm,hX⟩ := hrr
   subst e1 e2 e3
   conv => cbv
   refine Room.new rfl ?_
   conv => cbv
   refine Room.new ⟨?_,?_,?_⟩ ?_
   ·show (cells.length : Int) = k * 4; omega
   ·show (k + 1) * 48 ≤ 140737488355328; omega
   ·show k + 1 ≤ 9223372036854775807; omega
   conv => cbv
   refine Upd.mk fun c2 hc2 => ?_
   have hc2 : c2 = cells ++ [.int .i64 (.sym v),.int .i64 (.sym at_),.vsl (.sym m) true O,.bool false] := hc2
   have hc2 : c2 = gpv (out ++ [(v,32 * sp + i,X,false)]) := by rw [hc2,hcs,gpv_app,hO,hm,hat]; rfl
   conv => cbv
   refine Sum.mk fun k2 hk2 => ?_
   have hk2 : k2 = k + 1 := hk2
   conv => cbv
   refine cfr (freeA_lx at_ R1 ws N W L1 D h1.l h1.d h1.n h1.r h1.a h1.w) [(0,1),(1,2),(2,3),(3,4)] (fun r h' n' hrr => ?_)
   obtain ⟨e,R2,L2,e1,e2,e3,hL2,hF⟩ := hrr
   subst e1 e2 e3
   have he := freet_ok h1.a (hat.symm ▸ hw.1) hF
   subst he
   have h2 := h1.freet hF hL2
   conv => cbv
   refine Fit.mk (by show (-9223372036854775808 : Int) ≤ at_ + 1; omega) (by show at_ + 1 ≤ 9223372036854775807; omega) fun i2 hi2 => ?_
   have hi2 : i2 = at_ + 1 := hi2
   have hat2 : i2 = 32 * sp + ((i + 1 : Nat) : Int) := by omega
   have hS2 := SweptTo.free i out R1 R2 v X hS hw (hat ▸ hv) (hat ▸ hX) (hat ▸ hF)
   have hk3 : k2 = ((out ++ [(v,32 * sp + (i : Int),X,false)]).length : Int) := by rw [List.length_append]; show k2 = ((out.length + 1 : Nat) : Int); omega
   conv => cbv
   refine Again.mk k' _ (Nat.lt_succ_self _) (Re.at [(0,0),(1,1),(2,2),(3,3),(4,4),(5,5),(6,6),(9,7)] []) ⟨i2,k2,i + 1,_,c2,L2,R2,rfl,hat2,by omega,h2,hS2,hc2,hk3,by omega⟩
 ·have gi : ¬ at_ < be := gi
  obtain rfl : i = 32 := by omega
  conv => cbv
  refine Fit.mk (by show (-9223372036854775808 : Int) ≤ sp + 1; omega) (by show sp + 1 ≤ 9223372036854775807; omega) fun s2 hs2 => ?_
  have hs2 : s2 = sp + 1 := hs2
  conv => cbv
  refine cfr (wordsA_lx R1 ws N W L1 D h1.l h1.d h1.n h1.r h1.a h1.w) [(0,1),(1,2),(2,3),(3,4)] (fun r h' n' ⟨e1,e2,e3⟩ => ?_)
  subst e1 e2 e3
  conv => cbv
  refine Br.mk (fun gw => ?_) (fun gw => ?_)
  ·have gw : W ≤ be := gw
   conv => cbv
   refine Fit.mk (by show (-9223372036854775808 : Int) ≤ cy + 1; omega) (by show cy + 1 ≤ 9223372036854775807; omega) fun c2 hc2 => ?_
   have hc2 : c2 = cy + 1 := hc2
   conv => cbv
   refine RetF.mk [.p (.vsl (.sym k) true cells)] [hpA 0 1 5 6 3 W 0 s2 c2,hpB 1 2 4 3 W,hpC 2 3 179 2 N,hpP 3 L1,hpP 4 D,hpF 5 z ov,hpP 6 Q] 7 (Re.at [(0,0),(1,1),(2,2),(3,3),(4,4),(5,5),(6,6)] []) rfl ⟨out,k,0,s2,c2,cells,L1,R1,rfl,rfl,rfl,h1,hcs,hk,hS,hs2,by unfold swPh; rw [if_pos (by omega)],by unfold swCy; rw [if_pos (by omega)]; exact hc2⟩
  ·have gw : ¬ W ≤ be := gw
   conv => cbv
   refine RetF.mk [.p (.vsl (.sym k) true cells)] [hpA 0 1 5 6 3 W ph s2 cy,hpB 1 2 4 3 W,hpC 2 3 179 2 N,hpP 3 L1,hpP 4 D,hpF 5 z ov,hpP 6 Q] 7 (Re.at [(0,0),(1,1),(2,2),(3,3),(4,4),(5,5),(6,6)] []) rfl ⟨out,k,ph,s2,cy,cells,L1,R1,rfl,rfl,rfl,h1,hcs,hk,hS,hs2,by unfold swPh; rw [if_neg (by omega)]; exact hph,by unfold swCy; rw [if_neg (by omega)]⟩
inductive Stepd (R : List Rw) (ws C G : List Int) (ov : Bool) (ph sp cy W : Int) : List Gn → List Rw → List Int → List Int → List Int → Bool → Int → Int → Int → Prop
 | mark (out : List Gn) (ws' C' G' : List Int) (ov' : Bool) (ph' sp' : Int) (h : ph = 1) (hm : Marked R ws C G ov sp out ph' sp' ws' C' G' ov') : Stepd R ws C G ov ph sp cy W out R ws' C' G' ov' ph' sp' cy
 | sweep (out : List Gn) (R' : List Rw) (h : ph = 2) (hs : SweptTo ws C R (32 * sp) 32 out R') : Stepd R ws C G ov ph sp cy W out R' ws C G ov (swPh sp W) (sp + 1) (swCy sp W cy)
 | idle (h : ph ≠ 1) (h2 : ph ≠ 2) : Stepd R ws C G ov ph sp cy W [] R ws C G ov ph sp cy
theorem step_lx (R : List Rw) (ws C G : List Int) (N W ph sp cy : Int) (L D Q : List PV) (z : ByteArray) (ov : Bool) (h : HM R ws C G N W L D Q z) (o : Unit → Obj) (ho : IsPow o) (hsp : 0 ≤ sp ∧ sp ≤ 1000) (hcy : 0 ≤ cy ∧ cy ≤ 1000000000) : CallF (fun _ => Tryz.prog) 20 [.ptr 0 (.lit 0)] [hpA 0 1 5 6 3 W ph sp cy,hpB 1 2 4 3 W,hpC 2 3 179 2 N,hpP 3 L,hpP 4 D,hpF 5 z ov,hpP 6 Q,(7,.fix 0 o)] 8 (fun r h n => ∃ (out : List Gn) (k ph' sp' cy' : Int) (R' : List Rw) (ws' C' G' : List Int) (ov' : Bool) (cells L' D' Q' : List PV) (z' : ByteArray),r = .p (.vsl (.sym k) true cells) ∧ h = [hpA 0 1 5 6 3 W ph' sp' cy',hpB 1 2 4 3 W,hpC 2 3 179 2 N,hpP 3 L',hpP 4 D',hpF 5 z' ov',hpP 6 Q',(7,.fix 0 o)] ∧ n = 8 ∧ HM R' ws' C' G' N W L' D' Q' z' ∧ cells = gpv out ∧ k = out.length ∧ Stepd R ws C G ov ph sp cy W out R' ws' C' G' ov' ph' sp' cy') := by
 refine callF_of_body tok Tryz.func20 (by kernel_rfl) rfl rfl rfl ?_; conv => cbv
 refine cfr (phase_lx R ws C G N W ph sp cy L D Q z ov) [(0,0),(1,1),(2,2),(3,3),(4,4),(5,5),(6,6)] (fun r h' n' ⟨e1,e2,e3⟩ => ?_)
 subst e1 e2 e3
 conv => cbv
 refine Br.mk (fun g => ?_) (fun g => ?_)
 ·have g : ph = 1 := g
  conv => cbv
  refine cfr (markH_lx R ws C G N W ph sp cy L D Q z ov h o ho g) [(0,0),(1,1),(2,2),(3,3),(4,4),(5,5),(6,6),(7,7)] (fun r h' n' hrr => ?_)
  obtain ⟨out,k,ph',sp',cells,ws',C',G',ov',D',Q',z',e1,e2,e3,h2,hcs,hk,hM⟩ := hrr
  subst e1 e2 e3
  conv => cbv
  refine RetF.mk [.p (.vsl (.sym k) true cells)] [hpA 0 1 5 6 3 W ph' sp' cy,hpB 1 2 4 3 W,hpC 2 3 179 2 N,hpP 3 L,hpP 4 D',hpF 5 z' ov',hpP 6 Q',(7,.fix 0 o)] 8 (Re.at [(0,0),(1,1),(2,2),(3,3),(4,4),(5,5),(6,6),(7,7)] []) rfl ⟨out,k,ph',sp',cy,R,ws',C',G',ov',cells,L,D',Q',z',rfl,rfl,rfl,h2,hcs,hk,.mark out ws' C' G' ov' ph' sp' g hM⟩
 ·have g : ¬ ph = 1 := g
  conv => cbv
  refine Br.mk (fun g2 => ?_) (fun g2 => ?_)
  ·have g2 : ph = 2 := g2
   conv => cbv
   refine cfr (sweepH_lx R ws C G N W ph sp cy L D Q z ov h g2 hsp hcy) [(0,0),(1,1),(2,2),(3,3),(4,4),(5,5),(6,6)] (fun r h' n' hrr => ?_)
   obtain ⟨out,k,ph',sp',cy',cells,L',R',e1,e2,e3,h2,hcs,hk,hS,q1,q2,q3⟩ := hrr
   subst e1 e2 e3
   conv => cbv
   refine RetF.mk [.p (.vsl (.sym k) true cells)] [hpA 0 1 5 6 3 W ph' sp' cy',hpB 1 2 4 3 W,hpC 2 3 179 2 N,hpP 3 L',hpP 4 D,hpF 5 z ov,hpP 6 Q,(7,.fix 0 o)] 8 (Re.at [(0,0),(1,1),(2,2),(3,3),(4,4),(5,5),(6,6),(7,7)] []) rfl ⟨out,k,ph',sp',cy',R',ws,C,G,ov,cells,L',D,Q,z,rfl,rfl,rfl,h2,hcs,hk,by rw [q1,q2,q3]; exact .sweep out R' g2 hS⟩
  ·have g2 : ¬ ph = 2 := g2
   conv => cbv
   refine RetF.mk [.p (.vsl (.sym 0) true [])] [hpA 0 1 5 6 3 W ph sp cy,hpB 1 2 4 3 W,hpC 2 3 179 2 N,hpP 3 L,hpP 4 D,hpF 5 z ov,hpP 6 Q,(7,.fix 0 o)] 8 (Re.at [(0,0),(1,1),(2,2),(3,3),(4,4),(5,5),(6,6),(7,7)] []) rfl ⟨[],0,ph,sp,cy,R,ws,C,G,ov,[],L,D,Q,z,rfl,rfl,rfl,h,rfl,rfl,.idle g g2⟩
theorem stored_kept {R : List Rw} {ws ws' : List Int} {a i x e : Int} (hA : AOk R ws) (h : Stored R ws a i x e ws') : ∀ b k l,Kept R ws' b k l → Kept R ws b k l := by
 cases h with
 | none _ => exact fun _ _ _ hk => hk
 | arg _ _ _ _ => exact fun _ _ _ hk => hk
 | ok k l hka hi =>
  intro b k' l' hb
  have hbn := hka.bounds hA
  obtain ⟨w,q1,q2,q3,q4,q5,q6⟩ := hb
  have hne : (a + 1 + i).toNat ≠ b.toNat := by
   obtain ⟨wa,p1,p2,p3,p4,p5,p6⟩ := hka
   have := within_not hA.rows p1 q1 (j := a + 1 + i) (by omega) (by omega)
   have := q1.facts hA.rows
   omega
  rw [List.getElem?_set_ne hne] at q2
  exact .mk k' l' w q1 q2 q3 q4 q5 q6
theorem stored_loaded {R : List Rw} {ws ws' : List Int} {a i x e b j y : Int} (hA : AOk R ws) (h : Stored R ws a i x e ws') (hl : Loaded R ws' b j y 0) : (e = 0 ∧ y = x) ∨ Loaded R ws b j y 0 := by
 have hk := stored_kept hA h
 cases h with
 | none _ => exact .inr hl
 | arg _ _ _ _ => exact .inr hl
 | ok k l hka hi =>
  cases hl with
  | ok k' l' _ hK hj hy =>
   have hbn := hka.bounds hA
   have hlen := hA.len
   rcases set_get (by omega) hy with ⟨_,e⟩ | ⟨_,e⟩
   ·exact .inl ⟨rfl,e⟩
   ·exact .inr (.ok k' l' y (hk _ _ _ hK) hj e)
end Go.Proofs.YtjfdfbpgckilpaaGreatDoor
namespace Go.Proofs.YtjfdfbpgckilpaaGreatDoor
open Go Go.LX
set_option maxRecDepth 100000
set_option linter.unusedVariables false
set_option maxHeartbeats 32000000
def row (t : Int) : Nat → List Int
 | 0 => []
 | k + 1 => row t k ++ [t + k]
def i64s : List Int → List PV
 | [] => []
 | x :: l => .int .i64 (.sym x) :: i64s l
theorem i64s_length : ∀ l,(i64s l).length = l.length
 | [] => rfl
 | x :: l => by simp [i64s,i64s_length l]
theorem i64s_app : ∀ a b,i64s (a ++ b) = i64s a ++ i64s b
 | [],b => rfl
 | x :: a,b => by simp [i64s,i64s_app a b]
theorem i64s_take : ∀ (l : List Int) (k : Nat),i64s (l.take k) = (i64s l).take k
 | [],k => by simp [i64s]
 | x :: l,0 => rfl
 | x :: l,k + 1 => by simp [i64s,i64s_take l k]
theorem i64s_get : ∀ (l : List Int) (i : Nat) (x : Int),l[i]? = some x → (i64s l)[i]? = some (.int .i64 (.sym x))
 | [],i,x,h => by simp at h
 | y :: l,0,x,h => by simp at h; subst h; rfl
 | y :: l,i + 1,x,h => by simpa [i64s] using i64s_get l i x (by simpa using h)
theorem refPush_lx (A : List Int) (a m : Int) (la : List PV) (ov : Bool) (hm : m = A.length) (hla : la = i64s A) (hA8 : A.length ≤ 8) :
  CallF (fun _ => Tryz.prog) 148 [.ptr 0 (.lit 0),i6 a] [(0,.mix [.p (.vsl (.sym m) true la),.p (.bool ov)])] 1 (fun r h n => ∃ (b ov' : Bool) (m' : Int) (la' : List PV) (A' : List Int),r = .p (.bool b) ∧ h = [(0,.mix [.p (.vsl (.sym m') true la'),.p (.bool ov')])] ∧ n = 1 ∧ m' = A'.length ∧ la' = i64s A' ∧ (A.length < 8 → b = true ∧ A' = A ++ [a] ∧ ov' = ov) ∧ (8 ≤ A.length → b = false ∧ A' = A ∧ ov' = true)) := by
 refine callF_of_body tok Tryz.func148 (by kernel_rfl) rfl rfl rfl ?_; conv => cbv
 refine Br.mk (fun g => ?_) (fun g => ?_)
 ·have g : 8 ≤ m := g
  conv => cbv
  refine RetF.mk [.p (.bool false)] [(0,.mix [.p (.vsl (.sym m) true la),.p (.bool true)])] 1 (Re.at [(0,0)] []) rfl ⟨false,true,m,la,A,rfl,rfl,rfl,hm,hla,fun h => by omega,fun _ => ⟨rfl,rfl,rfl⟩⟩
 ·have g : ¬ 8 ≤ m := g
  have hlal : (la.length : Int) = m := by rw [hla,i64s_length]; omega
  conv => cbv
  refine Need.mk (by show (la.length : Int) = m * 1; omega) ?_
  conv => cbv
  refine Need.mk ⟨by show m * 8 ≤ 140737488355328; omega,by show m ≤ 9223372036854775807; omega⟩ ?_
  conv => cbv
  refine Room.new rfl ?_
  conv => cbv
  refine Room.new ⟨by show (la.length : Int) = m * 1; omega,by show (m + 1) * 8 ≤ 140737488355328; omega,by show m + 1 ≤ 9223372036854775807; omega⟩ ?_
  conv => cbv
  refine Upd.mk fun L2 hL2 => ?_
  have hL3 : L2 = i64s (A ++ [a]) := by rw [hL2,hla,i64s_app]; rfl
  conv => cbv
  refine Sum.mk fun m2 hm2 => ?_
  have hm2 : m2 = m + 1 := hm2
  conv => cbv
  refine RetF.mk [.p (.bool true)] [(0,.mix [.p (.vsl (.sym m2) true L2),.p (.bool ov)])] 1 (Re.at [(0,0)] []) rfl ⟨true,ov,m2,L2,A ++ [a],rfl,rfl,rfl,by simp; omega,hL3,fun _ => ⟨rfl,rfl,rfl⟩,fun h => by omega⟩
theorem refPop_lx (A : List Int) (m : Int) (la : List PV) (ov : Bool) (hm : m = A.length) (hla : la = i64s A) (hA8 : A.length ≤ 8) :
  CallF (fun _ => Tryz.prog) 196 [.ptr 0 (.lit 0)] [(0,.mix [.p (.vsl (.sym m) true la),.p (.bool ov)])] 1 (fun r h n => ∃ (v : Int) (b : Bool) (m' : Int) (la' : List PV) (A' : List Int),r = .tup [i6 v,.p (.bool b)] ∧ h = [(0,.mix [.p (.vsl (.sym m') true la'),.p (.bool ov)])] ∧ n = 1 ∧ m' = A'.length ∧ la' = i64s A' ∧ (A = [] ∧ v = 0 ∧ b = false ∧ A' = [] ∨ A = A' ++ [v] ∧ b = true)) := by
 refine callF_of_body tok Tryz.func196 (by kernel_rfl) rfl rfl rfl ?_; conv => cbv
 refine Fit.mk (by show (-9223372036854775808 : Int) ≤ m - 1; omega) (by show m - 1 ≤ 9223372036854775807; omega) ?_
 intro q hq
 have hq : q = m - 1 := hq
 have hlal : (la.length : Int) = m := by rw [hla,i64s_length]; omega
 conv => cbv
 refine Br.mk (fun g => ?_) (fun g => ?_)
 ·have g : q < 0 := g
  have hA0 : A = [] := List.eq_nil_of_length_eq_zero (by omega)
  conv => cbv
  refine RetF.mk [i6 0,.p (.bool false)] [(0,.mix [.p (.vsl (.sym m) true la),.p (.bool ov)])] 1 (Re.at [(0,0)] []) rfl ⟨0,false,m,la,A,rfl,rfl,rfl,hm,hla,.inl ⟨hA0,rfl,rfl,hA0⟩⟩
 ·have g : ¬ q < 0 := g
  obtain ⟨B,a,hB⟩ : ∃ B a,A = B ++ [a] := ⟨_,_,(List.dropLast_concat_getLast (by rintro rfl; simp at hm; omega)).symm⟩
  have hBl : A.length = B.length + 1 := by rw [hB]; simp
  have hAq : A[q.toNat]? = some a := by rw [hB,List.getElem?_append_right (by omega),show q.toNat - B.length = 0 by omega]; rfl
  have hcq := i64s_get A q.toNat a hAq
  rw [← hla] at hcq
  conv => cbv
  refine Need.mk ⟨by simp only [I.val]; omega,by simp only [I.val]; omega⟩ ?_
  conv => cbv
  refine Cell.at q _ hcq (by simp [I.val]) rfl ?_
  conv => cbv
  refine Need.mk ⟨by simp only [I.val]; omega,by simp only [I.val]; omega,by simp only [I.val]; omega⟩ ?_
  conv => cbv
  refine Upd.mk fun L1 hL1 => ?_
  have hL1 : L1 = i64s B := by
   rw [hL1,show ((I.lit 0).val.toNat * 1) = 0 from rfl,List.drop_zero,show ((I.sym q).val - (I.lit 0).val).toNat * 1 = B.length by simp only [I.val]; omega,hla,← i64s_take,hB,List.take_left]
  conv => cbv
  refine Sum.mk fun q2 hq2 => ?_
  have hq2 : q2 = q := by have : q2 = q - 0 := hq2; omega
  have hL1l : (L1.length : Int) = q2 := by rw [hL1,i64s_length]; omega
  conv => cbv
  refine Need.mk (by show (L1.length : Int) = q2 * 1; omega) ?_
  conv => cbv
  refine Need.mk ⟨by show q2 * 8 ≤ 140737488355328; omega,by show q2 ≤ 9223372036854775807; omega⟩ ?_
  conv => cbv
  have f1 : q2 = (B.length : Int) := by omega
  refine RetF.mk [i6 a,.p (.bool true)] [(0,.mix [.p (.vsl (.sym q2) true L1),.p (.bool ov)])] 1 (Re.at [(0,0)] []) rfl ⟨a,true,q2,L1,B,rfl,rfl,rfl,f1,hL1,.inr ⟨hB,rfl⟩⟩
end Go.Proofs.YtjfdfbpgckilpaaGreatDoor
