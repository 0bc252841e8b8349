/-
  The ground of the proof, part 8: the calculus and what is proved with it.
-/
import Derived.Test.YtcbombkaacjngaaGreatDoorBg
import Derived.Test.YtcbombkaacjngaaGreatDoorBe
import Derived.Test.YtcbombkaacjngaaGreatDoorBd
import Derived.Test.YtcbombkaacjngaaGreatDoorBf
import Derived.Test.YtcbombkaacjngaaGreatDoorBc
import Derived.ChangeArms
import Derived.OpenShut
namespace Go.Proofs.YtcbombkaacjngaaGreatDoor
open Go Go.LX
set_option maxRecDepth 100000
set_option linter.unusedVariables false
set_option linter.unusedSimpArgs false
set_option maxHeartbeats 32000000
theorem ends_lx (x : Int) : CallF (fun _ => Tryz.prog) 207 [.p (.int .i32 (.sym x))] [] 0 (fun r h n => (∃ b : Bool,r = .p (.bool b) ∧ (b = true ↔ x = 32 ∨ x = 10)) ∧ h = [] ∧ n = 0) := by
 refine callF_of_body tok Tryz.func207 (by kernel_rfl) rfl rfl rfl ?_; conv => cbv
 refine Br.mk (fun g => ?_) (fun g => ?_)
 ·have g : x = 32 := g
  conv => cbv
  refine RetF.mk [.p (.bool true)] [] 0 (Re.at [] []) rfl ⟨⟨true,rfl,by simp [g]⟩,rfl,rfl⟩
 ·have g : ¬ x = 32 := g
  conv => cbv
  refine Br.mk (fun g1 => ?_) (fun g1 => ?_)
  ·have g1 : x = 10 := g1
   conv => cbv
   refine RetF.mk [.p (.bool true)] [] 0 (Re.at [] []) rfl ⟨⟨true,rfl,by simp [g1]⟩,rfl,rfl⟩
  ·have g1 : ¬ x = 10 := g1
   conv => cbv
   refine RetF.mk [.p (.bool false)] [] 0 (Re.at [] []) rfl ⟨⟨false,rfl,by simp [g,g1]⟩,rfl,rfl⟩
def cntW (s : ByteArray) : Nat → Int
 | 0 => 0
 | k + 1 => if (Utf8.decode s k).1 = 32 ∨ (Utf8.decode s k).1 = 10 then cntW s k + 1 else cntW s k
theorem cntW_le (s : ByteArray) (k : Nat) : 0 ≤ cntW s k ∧ cntW s k ≤ k := by
 induction k with
 | zero => exact ⟨Int.le_refl _,Int.le_refl _⟩
 | succ k ih => rw [cntW]; split <;> omega
def flatW (s : ByteArray) : Prop := s.size ≤ 150 ∧ ∀ i : Nat,i < s.size → (Utf8.decode s i).2 = 1
def needW (k : Int) : Int := if k = 1 then 9 else if k = 3 then 7 else if k = 4 then 10 else if k = 5 then 2 else if k = 6 then 2 else 0
theorem lineW_flat (k : Int) : flatW (lineW k) ∧ cntW (lineW k) (lineW k).size = needW k := by
 have key : ∀ (s : ByteArray),s.size ≤ 150 → (∀ i : Fin s.size,(Utf8.decode s i.val).2 = 1) → flatW s := fun s h1 h2 => ⟨h1,fun i hi => h2 ⟨i,hi⟩⟩
 unfold lineW needW
 split
 ·exact ⟨key _ (by decide +kernel) (by decide +kernel),by decide +kernel⟩
 ·split
  ·exact ⟨key _ (by decide +kernel) (by decide +kernel),by decide +kernel⟩
  ·split
   ·exact ⟨key _ (by decide +kernel) (by decide +kernel),by decide +kernel⟩
   ·split
    ·exact ⟨key _ (by decide +kernel) (by decide +kernel),by decide +kernel⟩
    ·split
     ·exact ⟨key _ (by decide +kernel) (by decide +kernel),by decide +kernel⟩
     ·exact ⟨key _ (by decide +kernel) (by decide +kernel),by decide +kernel⟩
theorem needR_lx (k m : Int) (hk : k ≠ 2) : CallF (fun _ => Tryz.prog) 137 [i6 k,i6 m] [] 0 (fun r h n => (∃ (v : Int) (b : Bool),r = .tup [i6 v,.p (.bool b)] ∧ v = needW k ∧ (b = true ↔ v > 0)) ∧ h = [] ∧ n = 0) := by
 refine callF_of_body tok Tryz.func137 (by kernel_rfl) rfl rfl rfl ?_; conv => cbv
 refine Br.no (show ¬ (k = 2) from hk) ?_
 conv => cbv
 refine callF_frame (lineOf_lx k) [] rfl trivial rfl rfl (fun r h' n' hrr => ?_)
 obtain ⟨⟨z,e1,hz⟩,e2,e3⟩ := hrr
 subst e1 e2 e3
 obtain ⟨hfl,hct⟩ := lineW_flat k
 rw [← hz] at hfl hct
 conv => cbv
 obtain ⟨hsz,hone⟩ := hfl
 obtain ⟨N,hN⟩ : ∃ N : Int,N = z.size := ⟨_,rfl⟩
 refine LoopF.mk (fun kk s => ∃ (p v : Int),s = ⟨undefs 6 ++ .p (.int .i64 (.sym v)) :: undefs 13 ++ .ptr 0 (.lit 0) :: undefs 10,[(0,.iter (fun _ => z) (.sym p))],1⟩ ∧ 0 ≤ p ∧ p ≤ N ∧ kk = (150 - p).toNat ∧ v = cntW z p.toNat) 150 _
  (Re.at [(0,0)] []) ⟨0,0,rfl,by omega,by omega,by omega,rfl⟩ ?_
 rintro kk s ⟨p,v,rfl,hp0,hp1,hkk,hv⟩
 have hb := cntW_le z p.toNat
 have hp0 : 0 ≤ p := hp0
 have hv : v = cntW z p.toNat := hv
 conv => cbv
 by_cases hp : p < (z.size : Int)
 ·refine NextS.more (show p < (z.size : Int) from hp) ?_
  intro r p' hr hp'
  have hr : r = ((Utf8.decode z p.toNat).1 : Int) := hr
  have hp' : p' = p + 1 := by
   have : p' = p + ((Utf8.decode z p.toNat).2 : Int) := hp'
   rw [this,hone p.toNat (by omega)]; rfl
  have hpn : p'.toNat = p.toNat + 1 := by omega
  conv => cbv
  refine callF_frame (ends_lx r) [] rfl trivial rfl rfl (fun r2 h' n' hrr => ?_)
  obtain ⟨⟨b,e1,hb2⟩,e2,e3⟩ := hrr
  subst e1 e2 e3
  cases b with
  | true =>
   have he : (Utf8.decode z p.toNat).1 = 32 ∨ (Utf8.decode z p.toNat).1 = 10 := by have := hb2.1 rfl; omega
   conv => cbv
   refine Fit.mk (by show (-9223372036854775808 : Int) ≤ v + 1; omega) (by show v + 1 ≤ 9223372036854775807; omega) fun v2 hv2 => ?_
   have hv2 : v2 = v + 1 := hv2
   conv => cbv
   refine Again.mk (150 - p').toNat _ (by omega) (Re.at [(0,0)] []) ⟨p',v2,rfl,by omega,by omega,rfl,by rw [hpn,cntW,if_pos he]; omega⟩
  | false =>
   have he : ¬ ((Utf8.decode z p.toNat).1 = 32 ∨ (Utf8.decode z p.toNat).1 = 10) := fun q => by have := hb2.2 (by omega); cases this
   conv => cbv
   refine Again.mk (150 - p').toNat _ (by omega) (Re.at [(0,0)] []) ⟨p',v,rfl,by omega,by omega,rfl,by rw [hpn,cntW,if_neg he]; omega⟩
 ·refine NextS.over (show (z.size : Int) ≤ p by omega) ?_
  have hpe : p.toNat = z.size := by omega
  rw [hpe,hct] at hv
  conv => cbv
  refine Br.mk (fun g => ?_) (fun g => ?_)
  ·have g : 0 < v := g
   conv => cbv
   refine RetF.mk [i6 v,.p (.bool true)] [] 0 (Re.at [] []) rfl ⟨⟨v,true,rfl,hv,by simp; omega⟩,rfl,rfl⟩
  ·have g : ¬ 0 < v := g
   conv => cbv
   refine RetF.mk [i6 v,.p (.bool false)] [] 0 (Re.at [] []) rfl ⟨⟨v,false,rfl,hv,by simp; omega⟩,rfl,rfl⟩
theorem needBuf_lx (m : Int) : CallF (fun _ => Tryz.prog) 137 [.p (.int .i64 (.lit 2)),i6 m] [] 0 (fun r h n => (∃ (v : Int) (b : Bool),r = .tup [i6 v,.p (.bool b)] ∧ ((0 ≤ m ∧ m ≤ 3 ∧ v = m ∧ b = true) ∨ (¬ (0 ≤ m ∧ m ≤ 3) ∧ v = 0 ∧ b = false))) ∧ h = [] ∧ n = 0) := by
 refine callF_of_body tok Tryz.func137 (by kernel_rfl) rfl rfl rfl ?_; conv => cbv
 refine Br.mk (fun g => ?_) (fun g => ?_)
 ·have g : m < 0 := g
  conv => cbv
  refine RetF.mk [i6 0,.p (.bool false)] [] 0 (Re.at [] []) rfl ⟨⟨0,false,rfl,.inr ⟨by omega,rfl,rfl⟩⟩,rfl,rfl⟩
 ·have g : ¬ m < 0 := g
  conv => cbv
  refine Br.mk (fun g1 => ?_) (fun g1 => ?_)
  ·have g1 : 3 < m := g1
   conv => cbv
   refine RetF.mk [i6 0,.p (.bool false)] [] 0 (Re.at [] []) rfl ⟨⟨0,false,rfl,.inr ⟨by omega,rfl,rfl⟩⟩,rfl,rfl⟩
  ·have g1 : ¬ 3 < m := g1
   conv => cbv
   refine RetF.mk [i6 m,.p (.bool true)] [] 0 (Re.at [] []) rfl ⟨⟨m,true,rfl,.inl ⟨by omega,by omega,rfl,rfl⟩⟩,rfl,rfl⟩
end Go.Proofs.YtcbombkaacjngaaGreatDoor
namespace Go.Proofs.YtcbombkaacjngaaGreatDoor
open Go Go.LX
set_option maxRecDepth 100000
set_option linter.unusedVariables false
set_option linter.unusedSimpArgs false
set_option maxHeartbeats 32000000
def NeedR (k m v : Int) (b : Bool) : Prop := (k = 2 ∧ ((0 ≤ m ∧ m ≤ 3 ∧ v = m ∧ b = true) ∨ (¬ (0 ≤ m ∧ m ≤ 3) ∧ v = 0 ∧ b = false))) ∨ (k ≠ 2 ∧ v = needW k ∧ (b = true ↔ v > 0))
theorem needAny_lx (k m : Int) : CallF (fun _ => Tryz.prog) 137 [i6 k,i6 m] [] 0 (fun r h n => (∃ (v : Int) (b : Bool),r = .tup [i6 v,.p (.bool b)] ∧ NeedR k m v b) ∧ h = [] ∧ n = 0) := by
 by_cases hk : k = 2
 ·refine CallF.le ((needBuf_lx m).mono ?_) (by simp [ales,ale,pvle,I.val,hk])
  rintro r h n ⟨⟨v,b,e1,h1⟩,e2,e3⟩
  exact ⟨⟨v,b,e1,.inl ⟨hk,h1⟩⟩,e2,e3⟩
 ·refine (needR_lx k m hk).mono ?_
  rintro r h n ⟨⟨v,b,e1,h1,h2⟩,e2,e3⟩
  exact ⟨⟨v,b,e1,.inr ⟨hk,h1,h2⟩⟩,e2,e3⟩
def twosP : List (Int × Int) → List PV
 | [] => []
 | p :: l => .int .i64 (.sym p.1) :: .int .i64 (.sym p.2) :: twosP l
theorem twosP_length : ∀ l,(twosP l).length = 2 * l.length
 | [] => rfl
 | p :: l => by show (twosP l).length + 1 + 1 = _; rw [twosP_length l,List.length_cons]; omega
theorem twosP_get : ∀ (l : List (Int × Int)) (i : Nat) (p : Int × Int),l[i]? = some p → (twosP l)[2 * i]? = some (.int .i64 (.sym p.1)) ∧ (twosP l)[2 * i + 1]? = some (.int .i64 (.sym p.2))
 | [],i,p,h => by simp at h
 | q :: l,0,p,h => by cases h; exact ⟨rfl,rfl⟩
 | q :: l,i + 1,p,h => by
  have := twosP_get l i p h
  rw [show 2 * (i + 1) = 2 * i + 2 by omega]
  exact this
def Sz (l : List (Int × Int)) (X : List Int) : Prop := X.length = l.length ∧ ∀ (i : Nat) (p : Int × Int),l[i]? = some p → ∃ v,X[i]? = some v ∧ NeedR p.1 p.2 v true
theorem sizesOf_lx (l : List (Int × Int)) (k : Int) (cells : List PV) (hk : k = l.length) (hcs : cells = twosP l) (hl : l.length ≤ 100000) : CallF (fun _ => Tryz.prog) 64 [.p (.vsl (.sym k) true cells)] [] 0 (fun r h n => ((∃ (X : List Int) (j : Int) (O : List PV),r = .tup [.p (.vsl (.sym j) true O),.p (.bool true)] ∧ O = ipv X ∧ j = X.length ∧ Sz l X) ∨ (r = .tup [.p .nils,.p (.bool false)] ∧ ∃ p ∈ l,∃ v,NeedR p.1 p.2 v false)) ∧ h = [] ∧ n = 0) := by
 have hcl : cells.length = 2 * l.length := by rw [hcs,twosP_length]
 refine callF_of_body tok Tryz.func64 (by kernel_rfl) rfl rfl rfl ?_; conv => cbv
 refine LoopF.mk (fun kk s => ∃ (i j : Int) (X : List Int) (T : List PV),s = ⟨undefs 2 ++ .p .nils :: .p (.bool false) :: .sl 0 3 1 (.lit 0) (.sym j) :: (undefs 4 ++ .p (.vsl (.sym k) true cells) :: .p (.int .i64 (.sym k)) :: .p (.int .i64 (.sym i)) :: undefs 19),[hpP 0 T],1⟩ ∧ T = ipv X ∧ j = X.length ∧ i = X.length ∧ i ≤ k ∧ (∀ (q : Nat) (p : Int × Int),q < X.length → l[q]? = some p → ∃ v,X[q]? = some v ∧ NeedR p.1 p.2 v true) ∧ kk = (k - i).toNat) k.toNat _
  (Re.at [] [0]) ⟨0,0,[],[],rfl,rfl,rfl,rfl,by omega,fun q p hq => (by simp at hq),by omega⟩ ?_
 rintro kk s ⟨i,j,X,T,rfl,hT,hj,hiX,hik,hX,hkk⟩
 have hTl : T.length = X.length := by rw [hT,ipv_length]
 conv => cbv
 refine Br.mk (fun q => ?_) (fun q => ?_)
 case refine_2 =>
  have q : ¬ i < k := q
  have hXl : X.length = l.length := by omega
  conv => cbv
  refine RetF.mk [.p (.vsl (.sym j) true T),.p (.bool true)] [] 0 (Re.at [] []) rfl ⟨.inl ⟨X,j,T,rfl,hT,hj,hXl,fun q p hp => hX q p (by have := (List.getElem?_eq_some_iff.1 hp).1; omega) hp⟩,rfl,rfl⟩
 have q : i < k := q
 obtain ⟨⟨p1,p2⟩,hp⟩ : ∃ p,l[i.toNat]? = some p := ⟨_,List.getElem?_eq_getElem (by omega)⟩
 obtain ⟨k',rfl⟩ : ∃ k',kk = k' + 1 := ⟨kk - 1,by omega⟩
 have hcc := twosP_get l i.toNat _ hp
 rw [← hcs] at hcc
 dsimp only at hcc
 conv => cbv
 refine Need.mk ⟨by show 0 ≤ i; omega,by show i < k; omega⟩ ?_
 conv => cbv
 refine Sum.mk fun w hw => ?_
 have hw : w = i * 2 := hw
 conv => cbv
 refine Cell.at (w + 0) _ hcc.1 rfl (by omega) ?_
 conv => cbv
 refine Cell.at (w + 1) _ hcc.2 rfl (by omega) ?_
 conv => cbv
 refine callF_frame (needAny_lx p1 p2) [] rfl trivial rfl rfl (fun r h' n' hrr => ?_)
 obtain ⟨⟨v,b,e1,hN⟩,e2,e3⟩ := hrr
 subst e1 e2 e3
 conv => cbv
 cases b with
 | false =>
  conv => cbv
  refine RetF.mk [.p .nils,.p (.bool false)] [] 0 (Re.at [] []) rfl ⟨.inr ⟨rfl,(p1,p2),List.mem_of_getElem? hp,v,hN⟩,rfl,rfl⟩
 | true =>
 conv => cbv
 refine Room.new rfl ?_
 conv => cbv
 refine Room.new ⟨by show (T.length : Int) = j * 1; omega,by show (j + 1) * 8 ≤ 140737488355328; omega,by show j + 1 ≤ 9223372036854775807; omega⟩ ?_
 conv => cbv
 refine Upd.mk fun T2 hT2 => ?_
 have hT2 : T2 = ipv (X ++ [v]) := by rw [show T2 = T ++ [.int .i64 (.sym v)] from hT2,← ipv_app,← hT]; rfl
 conv => cbv
 refine Sum.mk fun j2 hj2 => ?_
 have hj2 : j2 = (X ++ [v]).length := by rw [show j2 = j + 1 from hj2,hj,List.length_append]; rfl
 conv => cbv
 refine Fit.mk (by show (-9223372036854775808 : Int) ≤ i + 1; omega) (by show i + 1 ≤ 9223372036854775807; omega) fun i2 hi2 => ?_
 have hi2 : i2 = i + 1 := hi2
 have hi3 : i2 = ((X ++ [v]).length : Int) := by rw [hi2,hiX,List.length_append]; rfl
 have hX2 : ∀ (q : Nat) (p : Int × Int),q < (X ++ [v]).length → l[q]? = some p → ∃ u,(X ++ [v])[q]? = some u ∧ NeedR p.1 p.2 u true := by
  intro q p hq hpq
  rcases Nat.lt_or_ge q X.length with hlt | hge
  ·obtain ⟨u,h1,h2⟩ := hX q p hlt hpq
   exact ⟨u,by rw [List.getElem?_append_left hlt]; exact h1,h2⟩
  ·have hqe : q = X.length := by rw [List.length_append] at hq; simp at hq; omega
   rw [hqe,show X.length = i.toNat by omega,hp] at hpq
   cases hpq
   exact ⟨v,by rw [hqe,List.getElem?_append_right (Nat.le_refl _),Nat.sub_self]; rfl,hN⟩
 conv => cbv
 refine Again.mk k' _ (Nat.lt_succ_self _) (Re.at [(3,0)] []) ⟨i2,j2,X ++ [v],T2,rfl,hT2,hj2,hi3,by omega,hX2,by omega⟩
def wdsOf : List Int → Int
 | [] => 0
 | n :: l => wordsOf (ofN n) + wdsOf l
theorem wdsOf_take {l : List Int} {i : Nat} {n : Int} (h : l[i]? = some n) : wdsOf (l.take (i + 1)) = wdsOf (l.take i) + wordsOf (ofN n) := by
 induction l generalizing i with
 | nil => simp at h
 | cons a l ih =>
  cases i with
  | zero => cases h; show wordsOf (ofN _) + wdsOf (List.take 0 l) = _; rw [List.take_zero,List.take_zero]; show _ + (0 : Int) = 0 + _; omega
  | succ i =>
   have := ih (i := i) h
   show wordsOf (ofN a) + wdsOf (l.take (i + 1)) = wordsOf (ofN a) + wdsOf (l.take i) + _
   omega
theorem wordsOfS_bd (c : Int) : 0 ≤ wordsOf c ∧ wordsOf c ≤ 32 := by
 unfold wordsOf
 split
 ·omega
 ·split
  ·omega
  ·split
   ·omega
   ·split <;> omega
theorem wordsOf_lx (X : List Int) (j : Int) (O : List PV) (hj : j = X.length) (hO : O = ipv X) (hl : X.length ≤ 100000) (hX : ∀ n ∈ X,0 ≤ n ∧ n ≤ 31) : CallF (fun _ => Tryz.prog) 70 [.p (.vsl (.sym j) true O)] [] 0 (fun r h n => ∃ v : Int,r = .p (.int .i64 (.sym v)) ∧ h = [] ∧ n = 0 ∧ v = wdsOf X) := by
 have hOl : O.length = X.length := by rw [hO,ipv_length]
 refine callF_of_body tok Tryz.func70 (by kernel_rfl) rfl rfl rfl ?_; conv => cbv
 refine LoopF.mk (fun kk s => ∃ i w : Int,s = ⟨undefs 3 ++ .p (.int .i64 (.sym w)) :: (undefs 4 ++ .p (.vsl (.sym j) true O) :: .p (.int .i64 (.sym j)) :: .p (.int .i64 (.sym i)) :: undefs 14),[],0⟩ ∧ w = wdsOf (X.take i.toNat) ∧ 0 ≤ i ∧ i ≤ j ∧ 0 ≤ w ∧ w ≤ 32 * i ∧ kk = (j - i).toNat) j.toNat _
  (Re.at [] []) ⟨0,0,rfl,rfl,by omega,by omega,by omega,by omega,by omega⟩ ?_
 rintro kk s ⟨i,w,rfl,hw,hi0,hij,hw0,hw1,hkk⟩
 conv => cbv
 refine Br.mk (fun q => ?_) (fun q => ?_)
 case refine_2 =>
  have q : ¬ i < j := q
  rw [List.take_of_length_le (by omega : X.length ≤ i.toNat)] at hw
  conv => cbv
  refine RetF.mk [i6 w] [] 0 (Re.at [] []) rfl ⟨w,rfl,rfl,rfl,hw⟩
 have q : i < j := q
 obtain ⟨n,hn⟩ : ∃ n,X[i.toNat]? = some n := ⟨_,List.getElem?_eq_getElem (by omega)⟩
 have hOn : O[i.toNat]? = some (.int .i64 (.sym n)) := by rw [hO]; exact ipv_get hn
 have hnb := hX n (List.mem_of_getElem? hn)
 obtain ⟨k',rfl⟩ : ∃ k',kk = k' + 1 := ⟨kk - 1,by omega⟩
 conv => cbv
 refine Need.mk (show 0 ≤ i ∧ i < j by omega) ?_
 conv => cbv
 refine Cell.at i _ hOn (by simp [I.val]) rfl ?_
 conv => cbv
 refine callF_frame (of_lx n) [] rfl trivial rfl rfl (fun r h' n' hrr => ?_)
 obtain ⟨c,b,e1,e2,e3,hof⟩ := hrr
 subst e1 e2 e3
 have hc : c = ofN n := by
  cases hof with
  | yes c hc h => exact hc
  | no h => exact absurd hnb h
 conv => cbv
 refine callF_frame (words_lx c (wordsOf c) rfl) [] rfl trivial rfl rfl (fun r h' n' ⟨e1,e2,e3⟩ => ?_)
 subst e1 e2 e3
 have hwb := wordsOfS_bd c
 generalize hwc : wordsOf c = wc at hwb
 conv => cbv
 refine Fit.mk (by show (-9223372036854775808 : Int) ≤ w + wc; omega) (by show w + wc ≤ 9223372036854775807; omega) fun w2 hw2 => ?_
 have hw2 : w2 = w + wc := hw2
 conv => cbv
 refine Fit.mk (by show (-9223372036854775808 : Int) ≤ i + 1; omega) (by show i + 1 ≤ 9223372036854775807; omega) fun i2 hi2 => ?_
 have hi2 : i2 = i + 1 := hi2
 have hw3 : w2 = wdsOf (X.take i2.toNat) := by rw [show i2.toNat = i.toNat + 1 by omega,wdsOf_take hn,← hw,← hc,hwc]; exact hw2
 conv => cbv
 refine Again.mk k' _ (Nat.lt_succ_self _) (Re.at [] []) ⟨i2,w2,rfl,hw3,by omega,by omega,by omega,by omega,by omega⟩
end Go.Proofs.YtcbombkaacjngaaGreatDoor
namespace Go.Proofs.YtcbombkaacjngaaGreatDoor
open Go Go.LX
set_option maxRecDepth 100000
set_option linter.unusedVariables false
set_option linter.unusedSimpArgs false
set_option maxHeartbeats 32000000
theorem Asst.none {W : Int} {s t : Hst} {o : List Gn} (h : Asst W 0 s o t) : o = [] ∧ t = s := by
 obtain ⟨k,hk,hm,_⟩ := h
 cases hm with
 | zero => exact ⟨rfl,rfl⟩
 | succ n out o2 t u hm hp hs => omega
theorem Pre.not {W st : Int} {A : List Int} {s t : Hst} (h : Pre W st A s t) (hn : ¬ (s.ph = 0 ∧ st * W ≤ 100 * usedW s.R)) : t = s := by
 rcases h with ⟨h1,h2,_⟩ | ⟨_,h⟩
 ·exact absurd ⟨h1,h2⟩ hn
 ·exact h
theorem Alls.kinds {N : Int} {s t : Hst} {l : List (Int × Int)} {x : List Int} (hg : Good N s) (h : Alls s l x t) : ∀ (i : Nat) a p,x[i]? = some a → l[i]? = some p → Kept t.R t.ws a p.1 p.2 := by
 induction h with
 | nil => intro i a p h1; simp at h1
 | snoc l x t k n a R ws h ha ih =>
  intro i b p h1 h2
  obtain ⟨hm,hl⟩ := h.more hg.a hg.n hg.c
  obtain ⟨k1,_,_,_,k5,_⟩ := alloct_ok hm.a ha rfl
  rw [List.getElem?_append] at h1 h2
  by_cases hi : i < x.length
  ·rw [if_pos hi] at h1
   rw [if_pos (by omega)] at h2
   exact k5 _ _ _ (ih i b p h1 h2)
  ·rw [if_neg hi] at h1
   rw [if_neg (by omega)] at h2
   have e : i - x.length = 0 := by have := (List.getElem?_eq_some_iff.1 h1).1; simp at this; omega
   rw [e] at h1
   rw [show i - l.length = 0 by omega] at h2
   cases h1; cases h2
   exact k1
theorem Allot.kinds {N : Int} {s t : Hst} {l : List (Int × Int)} {x : List Int} {b : Bool} (hg : Good N s) (h : Allot s l b x t) : ∀ (i : Nat) a p,x[i]? = some a → l[i]? = some p → Kept t.R t.ws a p.1 p.2 := by
 cases h with
 | ok x t h => exact h.kinds hg
 | no i k n a e y u R R' ws hi h ha he hb => intro i a p h1; simp at h1
theorem Allot.roomy {N : Int} {s t : Hst} {l : List (Int × Int)} {x : List Int} {b : Bool} (hg : Good N s) (hl : ∀ p ∈ l,Val p) (hr : objCount s.R + l.length ≤ s.R.length) (h : Allot s l b x t) : b = true := by
 cases h with
 | ok x t h => rfl
 | no i k n a e y u R R' ws hi h ha he hb =>
  exfalso
  have hli := (List.getElem?_eq_some_iff.1 hi).1
  obtain ⟨h2,h3⟩ := h.more hg.a hg.n hg.c
  obtain ⟨v1,v2,v3,v4⟩ := hl (k,n) (List.mem_of_getElem? hi)
  have h5 := h2.cnt
  have h6 := h2.len
  rw [List.length_take] at h3
  have := alloct_err h2.a ha (by omega)
  rw [if_pos ⟨v1,v2,v3,v4⟩] at this
  exact he this
theorem need_val {k m v : Int} (h : NeedR k m v true) : Val (k,v) := by
 rcases h with ⟨rfl,⟨h1,h2,rfl,_⟩ | ⟨_,_,h⟩⟩ | ⟨_,rfl,h⟩
 ·exact ⟨h1,by show v ≤ 31; omega,by show (1 : Int) ≤ 2; omega,by show (2 : Int) ≤ 6; omega⟩
 ·cases h
 ·have h := h.1 rfl
  unfold needW at h ⊢
  unfold Val
  dsimp only
  split at h
  ·split <;> omega
  ·split at h
   ·split <;> omega
   ·split at h
    ·split <;> omega
    ·split at h
     ·split <;> omega
     ·split at h
      ·split <;> omega
      ·omega
theorem usedW_none {R : List Rw} (h : ∀ e ∈ R,e.2 = []) : usedW R = 0 := by
 unfold usedW
 induction R with
 | nil => rfl
 | cons e R ih =>
  rw [List.map_cons,List.sum_cons,ih fun x hx => h x (List.mem_cons_of_mem _ hx),h e (List.mem_cons_self ..)]
  simp
structure Bare0 (N : Int) (s : Hst) : Prop where
 g : Good N s
 r : s.R = List.replicate N.toNat (0,[])
 p : s.ph = 0
theorem Bare0.none {N : Int} {s : Hst} (h : Bare0 N s) (a : Int) : ¬ IsObj s.R a := by rw [h.r]; exact new_none _ _
theorem Bare0.used {N : Int} {s : Hst} (h : Bare0 N s) : usedW s.R = 0 := by rw [h.r]; exact usedW_none fun e he => by rw [(List.mem_replicate.1 he).2]
theorem Bare0.objs {N : Int} {s : Hst} (h : Bare0 N s) : objs s.R = [] := by
 refine List.eq_nil_iff_forall_not_mem.2 fun a ha => h.none a ((obj_iff h.g.a a).1 ha)
theorem Bare0.count {N : Int} {s : Hst} (h : Bare0 N s) : objCount s.R = 0 := by
 have h1 : (Go.Proofs.YtcbombkaacjngaaGreatDoor.objs s.R).length = objCount s.R := objs_length h.g.a.rows
 rw [h.objs] at h1
 exact h1.symm
theorem Bare0.pre {N W st : Int} {A : List Int} {s t : Hst} (h : Bare0 N s) (hW : W = 32 * N) (hst : 1 ≤ st) (hp : Pre W st A s t) : t = s := by
 refine hp.not fun q => ?_
 have h1 := h.g.n1
 have h2 : 1 * W ≤ st * W := Int.mul_le_mul_of_nonneg_right hst (by omega)
 rw [h.used] at q
 omega
theorem HM.good {R : List Rw} {ws C G : List Int} {N W : Int} {L D Q : List PV} {z : ByteArray} (h : HM R ws C G N W L D Q z) (ov : Bool) (sp cy : Int) (h1 : 1 ≤ N) (h2 : N ≤ 128) (hsp : 0 ≤ sp ∧ sp ≤ N) (hcy : 0 ≤ cy) : Good N ⟨R,ws,C,G,ov,0,sp,cy⟩ :=
 ⟨h.a,h.n,h1,h2,by have := h.c; have := h.w; show (C.length : Int) = 32 * N; omega,.inl rfl,hsp,hcy⟩
end Go.Proofs.YtcbombkaacjngaaGreatDoor
namespace Go.Proofs.YtcbombkaacjngaaGreatDoor
open Go Go.LX
set_option maxRecDepth 100000
set_option linter.unusedVariables false
set_option linter.unusedSimpArgs false
set_option maxHeartbeats 32000000
theorem freeAll_lx (R : List Rw) (ws C G : List Int) (N W ph sp cy : Int) (L D Q : List PV) (z : ByteArray) (ov : Bool) (h : HM R ws C G N W L D Q z) (x : List Int) (j : Int) (cells : List PV) (hj : j = x.length) (hcs : cells = ipv x) (hl : x.length ≤ 1000000) :
  CallF (fun _ => Tryz.prog) 141 [.ptr 0 (.lit 0),.p (.vsl (.sym j) true cells)] [hpA 0 1 5 6 3 W ph sp cy,hpB 1 2 4 3 W,hpC 2 3 270 2 N,hpP 3 L,hpP 4 D,hpF 5 z ov,hpP 6 Q] 7 (fun r h n => ∃ (R' : List Rw) (L' : List PV),r = .tup [] ∧ h = [hpA 0 1 5 6 3 W ph sp cy,hpB 1 2 4 3 W,hpC 2 3 270 2 N,hpP 3 L',hpP 4 D,hpF 5 z ov,hpP 6 Q] ∧ n = 7 ∧ HM R' ws C G N W L' D Q z ∧ Backs R x 0 R') := by
 have hcl : cells.length = x.length := by rw [hcs,ipv_length]
 refine callF_of_body tok Tryz.func141 (by kernel_rfl) rfl rfl rfl ?_; conv => cbv
 refine Fit.mk (by show (-9223372036854775808 : Int) ≤ j - 1; omega) (by show j - 1 ≤ 9223372036854775807; omega) fun j1 hj1 => ?_
 have hj1 : j1 = j - 1 := hj1
 conv => cbv
 refine LoopF.mk (fun kk s => ∃ (i : Int) (R1 : List Rw) (L1 : List PV),s = ⟨.ptr 0 (.lit 0) :: .p (.vsl (.sym j) true cells) :: (undefs 2 ++ .p (.int .i64 (.sym i)) :: undefs 14),[hpA 0 1 5 6 3 W ph sp cy,hpB 1 2 4 3 W,hpC 2 3 270 2 N,hpP 3 L1,hpP 4 D,hpF 5 z ov,hpP 6 Q],7⟩ ∧ -1 ≤ i ∧ i < j ∧ HM R1 ws C G N W L1 D Q z ∧ Backs R x (i + 1).toNat R1 ∧ kk = (i + 1).toNat) x.length _
  (Re.at [(0,0),(1,1),(2,2),(3,3),(4,4),(5,5),(6,6)] []) ⟨j1,R,L,rfl,by omega,by omega,h,by rw [show (j1 + 1).toNat = x.length by omega]; exact .zero,by omega⟩ ?_
 rintro kk s ⟨i,R1,L1,rfl,hi0,hi1,h1,hB,hkk⟩
 conv => cbv
 refine Br.mk (fun q => ?_) (fun q => ?_)
 case refine_2 =>
  have q : ¬ 0 ≤ i := q
  rw [show (i + 1).toNat = 0 by omega] at hB
  conv => cbv
  refine RetF.mk [] [hpA 0 1 5 6 3 W ph sp cy,hpB 1 2 4 3 W,hpC 2 3 270 2 N,hpP 3 L1,hpP 4 D,hpF 5 z ov,hpP 6 Q] 7 (Re.at [(0,0),(1,1),(2,2),(3,3),(4,4),(5,5),(6,6)] []) rfl ⟨R1,L1,rfl,rfl,rfl,h1,hB⟩
 have q : 0 ≤ i := q
 obtain ⟨a,ha⟩ : ∃ a,x[i.toNat]? = some a := ⟨_,List.getElem?_eq_getElem (by omega)⟩
 have hca : cells[i.toNat]? = some (.int .i64 (.sym a)) := by rw [hcs]; exact ipv_get ha
 conv => cbv
 refine drawn_sound tok (by kernel_rfl) [(1,[5,4,3,2]),(6,[])] [0,2,3,4,5,1,6] (by kernel_rfl) ?_; conv => cbv
 conv => cbv
 refine Need.mk (show 0 ≤ i ∧ i < j by omega) ?_
 conv => cbv
 refine Cell.at i _ hca (by simp [I.val]) rfl ?_
 conv => cbv
 refine cfr (arena_lx R1 ws C G N W ph sp cy L1 D Q z ov) [(0,0),(1,1),(2,2),(3,3),(4,4),(5,5),(6,6)] (fun r h' n' ⟨e1,e2,e3⟩ => ?_)
 subst e1 e2 e3
 conv => cbv
 refine cfr (freeA_lx a R1 ws N W L1 D h1.l h1.d h1.n h1.r h1.a h1.w) [(0,1),(1,2),(2,3),(3,4)] (fun r h' n' hrr => ?_)
 obtain ⟨e,R2,L2,e1,e2,e3,hL2,hF⟩ := hrr
 subst e1 e2 e3
 have h2 := h1.freet hF hL2
 conv => cbv
 refine Fit.mk (by show (-9223372036854775808 : Int) ≤ i - 1; omega) (by show i - 1 ≤ 9223372036854775807; omega) fun i2 hi2 => ?_
 have hi2 : i2 = i - 1 := hi2
 have hB2 : Backs R x (i2 + 1).toNat R2 := by
  rw [show (i2 + 1).toNat = i.toNat by omega]
  exact .next i.toNat a e R1 R2 (by rw [show i.toNat + 1 = (i + 1).toNat by omega]; exact hB) ha hF
 conv => cbv
 refine Again.mk (i2 + 1).toNat _ (by omega) (Re.at [(0,0),(1,1),(2,2),(3,3),(4,4),(5,5),(6,6)] []) ⟨i2,R2,L2,rfl,by omega,by omega,h2,hB2,rfl⟩
theorem allot_lx (R : List Rw) (ws C G : List Int) (N W ph sp cy : Int) (L D Q : List PV) (z : ByteArray) (ov : Bool) (h : HM R ws C G N W L D Q z) (l : List (Int × Int)) (X : List Int) (k j : Int) (cells O : List PV) (hk : k = l.length) (hcs : cells = twosP l) (hX : X.length = l.length) (hj : j = X.length) (hO : O = ipv X) (hl : l.length ≤ 100000) (KN : List (Int × Int)) (hKN : KN = (l.map Prod.fst).zip X) :
  CallF (fun _ => Tryz.prog) 67 [.ptr 0 (.lit 0),.p (.vsl (.sym k) true cells),.p (.vsl (.sym j) true O)] [hpA 0 1 5 6 3 W ph sp cy,hpB 1 2 4 3 W,hpC 2 3 270 2 N,hpP 3 L,hpP 4 D,hpF 5 z ov,hpP 6 Q] 7 (fun r h n => ∃ (b : Bool) (x : List Int) (R' : List Rw) (ws' C' : List Int) (L' D' Q' : List PV),(∃ (m : Int) (T : List PV),r = .tup [.p (.vsl (.sym m) true T),.p (.bool b)] ∧ T = ipv x ∧ m = x.length) ∧ h = [hpA 0 1 5 6 3 W ph sp cy,hpB 1 2 4 3 W,hpC 2 3 270 2 N,hpP 3 L',hpP 4 D',hpF 5 z ov,hpP 6 Q'] ∧ n = 7 ∧ HM R' ws' C' G N W L' D' Q' z ∧ Allot ⟨R,ws,C,G,ov,ph,sp,cy⟩ KN b x ⟨R',ws',C',G,ov,ph,sp,cy⟩) := by
 have hOl : O.length = X.length := by rw [hO,ipv_length]
 have hcl : cells.length = 2 * l.length := by rw [hcs,twosP_length]
 refine callF_of_body tok Tryz.func67 (by kernel_rfl) rfl rfl rfl ?_; conv => cbv
 have hKNl : KN.length = l.length := by rw [hKN,List.length_zip,List.length_map]; omega
 refine LoopF.mk (fun kk s => ∃ (i m : Int) (x : List Int) (T : List PV) (R1 : List Rw) (ws1 C1 : List Int) (L1 D1 Q1 : List PV),s = ⟨.ptr 0 (.lit 0) :: .p (.vsl (.sym k) true cells) :: .p (.vsl (.sym j) true O) :: (undefs 3 ++ .p .nils :: .p (.bool false) :: .sl 7 3 1 (.lit 0) (.sym m) :: (undefs 4 ++ .p (.vsl (.sym k) true cells) :: .p (.int .i64 (.sym k)) :: .p (.int .i64 (.sym i)) :: undefs 26)),[hpA 0 1 5 6 3 W ph sp cy,hpB 1 2 4 3 W,hpC 2 3 270 2 N,hpP 3 L1,hpP 4 D1,hpF 5 z ov,hpP 6 Q1,hpP 7 T],8⟩ ∧ T = ipv x ∧ m = x.length ∧ i = x.length ∧ i ≤ k ∧ HM R1 ws1 C1 G N W L1 D1 Q1 z ∧ Alls ⟨R,ws,C,G,ov,ph,sp,cy⟩ (KN.take i.toNat) x ⟨R1,ws1,C1,G,ov,ph,sp,cy⟩ ∧ kk = (k - i).toNat) k.toNat _
  (Re.at [(0,0),(1,1),(2,2),(3,3),(4,4),(5,5),(6,6)] [7]) ⟨0,0,[],[],R,ws,C,L,D,Q,rfl,rfl,rfl,rfl,by omega,h,.nil,by omega⟩ ?_
 rintro kk s ⟨i,m,x,T,R1,ws1,C1,L1,D1,Q1,rfl,hT,hm,hix,hik,h1,hA,hkk⟩
 have hTl : T.length = x.length := by rw [hT,ipv_length]
 conv => cbv
 refine Br.mk (fun q => ?_) (fun q => ?_)
 case refine_2 =>
  have q : ¬ i < k := q
  rw [List.take_of_length_le (by omega : KN.length ≤ i.toNat)] at hA
  conv => cbv
  refine RetF.mk [.p (.vsl (.sym m) true T),.p (.bool true)] [hpA 0 1 5 6 3 W ph sp cy,hpB 1 2 4 3 W,hpC 2 3 270 2 N,hpP 3 L1,hpP 4 D1,hpF 5 z ov,hpP 6 Q1] 7 (Re.at [(0,0),(1,1),(2,2),(3,3),(4,4),(5,5),(6,6)] []) rfl ⟨true,x,R1,ws1,C1,L1,D1,Q1,⟨m,T,rfl,hT,hm⟩,rfl,rfl,h1,.ok x _ hA⟩
 have q : i < k := q
 obtain ⟨⟨p1,p2⟩,hp⟩ : ∃ p,l[i.toNat]? = some p := ⟨_,List.getElem?_eq_getElem (by omega)⟩
 obtain ⟨v,hv⟩ : ∃ v,X[i.toNat]? = some v := ⟨_,List.getElem?_eq_getElem (by omega)⟩
 have hkn : KN[i.toNat]? = some (p1,v) := by rw [hKN,List.getElem?_zip_eq_some,List.getElem?_map,hp]; exact ⟨rfl,hv⟩
 have hcc := twosP_get l i.toNat _ hp
 rw [← hcs] at hcc
 dsimp only at hcc
 have hOv : O[i.toNat]? = some (.int .i64 (.sym v)) := by rw [hO]; exact ipv_get hv
 conv => cbv
 refine Need.mk ⟨by show 0 ≤ i; omega,by show i < k; omega⟩ ?_
 conv => cbv
 refine Sum.mk fun w hw => ?_
 have hw : w = i * 2 := hw
 conv => cbv
 refine Cell.at (w + 0) _ hcc.1 rfl (by omega) ?_
 conv => cbv
 refine Cell.at (w + 1) _ hcc.2 rfl (by omega) ?_
 conv => cbv
 refine drawn_sound tok (by kernel_rfl) [(7,[])] [0,1,2,3,4,5,6,7,8,9,10,11,12] (by kernel_rfl) ?_; conv => cbv
 conv => cbv
 refine Need.mk (show 0 ≤ i ∧ i < j by omega) ?_
 conv => cbv
 refine Cell.at i _ hOv (by simp [I.val]) rfl ?_
 conv => cbv
 refine cfr (alloc9_lx R1 ws1 C1 G N W ph sp cy L1 D1 Q1 z ov h1 p1 v) [(0,0),(1,1),(2,2),(3,3),(4,4),(5,5),(6,6)] (fun r h' n' hrr => ?_)
 obtain ⟨a,e,R2,ws2,C2,L2,D2,Q2,e1,e2,e3,h2,hAl,hC2⟩ := hrr
 subst e1 e2 e3
 conv => cbv
 refine Br.mk (fun g => ?_) (fun g => ?_)
 ·have g : e ≠ 0 := g
  obtain ⟨rfl,rfl,_⟩ := alloct_no hAl g
  have hC : C2 = C1 := by rw [hC2]; unfold allocC; rw [if_neg g]
  subst hC
  conv => cbv
  refine CallF.re (args0 := [.ptr 0 (.lit 0),.p (.vsl (.sym m) true T)]) (h' := [hpA 0 1 5 6 3 W ph sp cy,hpB 1 2 4 3 W,hpC 2 3 270 2 N,hpP 3 L2,hpP 4 D2,hpF 5 z ov,hpP 6 Q2]) (Re.at [(0,0),(1,1),(2,2),(3,3),(4,4),(5,5),(6,6)] []) (cfr (freeAll_lx R2 ws2 C2 G N W ph sp cy L2 D2 Q2 z ov h2 x m T hm hT (by omega)) [(0,0),(1,1),(2,2),(3,3),(4,4),(5,5),(6,6)] (fun r h' n' hrr => ?_))
  obtain ⟨R3,L3,e1,e2,e3,h3,hB⟩ := hrr
  subst e1 e2 e3
  conv => cbv
  refine RetF.mk [.p (.vsl (.sym 0) true []),.p (.bool false)] [hpA 0 1 5 6 3 W ph sp cy,hpB 1 2 4 3 W,hpC 2 3 270 2 N,hpP 3 L3,hpP 4 D2,hpF 5 z ov,hpP 6 Q2] 7 (Re.at [(0,0),(1,1),(2,2),(3,3),(4,4),(5,5),(6,6)] []) rfl ⟨false,[],R3,ws2,C2,L3,D2,Q2,⟨0,[],rfl,rfl,rfl⟩,rfl,rfl,h3,.no i.toNat p1 v a e x ⟨R2,ws2,C2,G,ov,ph,sp,cy⟩ R2 R3 ws2 hkn hA hAl g hB⟩
 have g : e = 0 := Classical.byContradiction g
 conv => cbv
 refine Room.new rfl ?_
 conv => cbv
 refine Room.new ⟨by show (T.length : Int) = m * 1; omega,by show (m + 1) * 8 ≤ 140737488355328; omega,by show m + 1 ≤ 9223372036854775807; omega⟩ ?_
 conv => cbv
 refine Upd.mk fun T2 hT2 => ?_
 have hT2 : T2 = ipv (x ++ [a]) := by rw [show T2 = T ++ [.int .i64 (.sym a)] from hT2,← ipv_app,← hT]; rfl
 conv => cbv
 refine Sum.mk fun m2 hm2 => ?_
 have hm2 : m2 = (x ++ [a]).length := by rw [show m2 = m + 1 from hm2,hm,List.length_append]; rfl
 conv => cbv
 refine Fit.mk (by show (-9223372036854775808 : Int) ≤ i + 1; omega) (by show i + 1 ≤ 9223372036854775807; omega) fun i2 hi2 => ?_
 have hi2 : i2 = i + 1 := hi2
 have hi3 : i2 = ((x ++ [a]).length : Int) := by rw [hi2,hix,List.length_append]; rfl
 have hA2 : Alls ⟨R,ws,C,G,ov,ph,sp,cy⟩ (KN.take i2.toNat) (x ++ [a]) ⟨R2,ws2,C2,G,ov,ph,sp,cy⟩ := by
  rw [show i2.toNat = i.toNat + 1 by omega,List.take_add_one,hkn,hC2,g]
  rw [g] at hAl
  exact .snoc _ x _ p1 v a R2 ws2 hA hAl
 conv => cbv
 refine Again.mk (k - i2).toNat _ (by omega) (Re.at [(0,0),(1,1),(2,2),(3,3),(4,4),(5,5),(6,6),(10,7)] []) ⟨i2,m2,x ++ [a],T2,R2,ws2,C2,L2,D2,Q2,rfl,hT2,hm2,hi3,by omega,h2,hA2,rfl⟩
end Go.Proofs.YtcbombkaacjngaaGreatDoor
namespace Go.Proofs.YtcbombkaacjngaaGreatDoor
open Go Go.LX
set_option maxRecDepth 100000
set_option linter.unusedVariables false
set_option linter.unusedSimpArgs false
set_option maxHeartbeats 32000000
def Renewed (W st : Int) (l : List (Int × Int)) (A : List Int) (s : Hst) : Prop := (s.ph = 0 ∧ st * W ≤ 100 * usedW s.R) ∨ ∃ t0 t1,Pre W st A s t0 ∧ Allot t0 l false [] t1
theorem sz_bd {l : List (Int × Int)} {X : List Int} (h : Sz l X) : ∀ n ∈ X,0 ≤ n ∧ n ≤ 31 := by
 intro n hn
 obtain ⟨i,hi⟩ := List.getElem?_of_mem hn
 have hil := (List.getElem?_eq_some_iff.1 hi).1
 have hl := h.1
 obtain ⟨v,hv,hN⟩ := h.2 i _ (List.getElem?_eq_getElem (by omega : i < l.length))
 rw [hi] at hv
 cases hv
 have := need_val hN
 exact ⟨this.1,this.2.1⟩
theorem usedW_bd : ∀ {R : List Rw},(∀ e ∈ R,e.2.length ≤ 8) → 0 ≤ usedW R ∧ usedW R ≤ 256 * R.length
 | [],_ => ⟨Int.le_refl _,Int.le_refl _⟩
 | e :: R,h => by
  have h1 := usedW_bd (R := R) fun x hx => h x (List.mem_cons_of_mem _ hx)
  have h2 := wordsOfS_bd e.1
  have h3 := h e (List.mem_cons_self ..)
  have h4 := List.count_le_length (a := true) (l := e.2)
  have h5 : (0 : Int) ≤ (e.2.count true : Int) * wordsOf e.1 := Int.mul_nonneg (by omega) h2.1
  have h6 : (e.2.count true : Int) * wordsOf e.1 ≤ 8 * 32 := Int.mul_le_mul (by omega) h2.2 h2.1 (by decide)
  unfold usedW at h1 ⊢
  rw [List.map_cons,List.sum_cons,List.length_cons]
  omega
theorem wdsOf_bd : ∀ X : List Int,0 ≤ wdsOf X ∧ wdsOf X ≤ 32 * X.length
 | [] => ⟨Int.le_refl _,Int.le_refl _⟩
 | n :: X => by
  have h1 := wdsOf_bd X
  have h2 := wordsOfS_bd (ofN n)
  rw [wdsOf,List.length_cons]
  omega
theorem Allot.no_x {s t : Hst} {l : List (Int × Int)} {x : List Int} (h : Allot s l false x t) : x = [] := by
 cases h with
 | no _ _ _ _ _ _ _ _ _ _ _ _ _ _ _ => rfl
theorem Made.tried {W : Int} {A x1 x : List Int} {l : List (Int × Int)} {s t1 t4 t : Hst} {o : List Gn} {b : Bool} (h1 : Allot s l false x1 t1) (h : Made W A t1 o t4) (h5 : Allot t4 l b x t) : Tried W l A s b x o t := by
 have hx := h1.no_x
 subst hx
 obtain ⟨o1,o2,k1,k2,t2,t3,rfl,hM1,hp1,hB,hM2,hp2⟩ := h
 exact .forced b x o1 o2 k1 k2 t1 t2 t3 t4 t h1 hM1 hp1 hB hM2 hp2 h5
theorem alloc21_lx (R : List Rw) (ws C G : List Int) (N W ph sp cy : Int) (L D Q : List PV) (z : ByteArray) (ov : Bool) (h : HM R ws C G N W L D Q z) (o : Unit → Obj) (ho : IsPow o) (st as_ : Int) (hc : COk N st as_) (hg : Good N ⟨R,ws,C,G,ov,ph,sp,cy⟩) (hcy : cy ≤ 700000000) (l : List (Int × Int)) (k : Int) (cells : List PV) (hk : k = l.length) (hcs : cells = twosP l) (hl : l.length ≤ 100000) (A : List Int) (j : Int) (ca : List PV) (hca : ca = ipv A) (hj : j = A.length) (hAl : A.length ≤ 100000) :
  CallF (fun _ => Tryz.prog) 21 [.ptr 0 (.lit 0),.p (.vsl (.sym k) true cells),.p (.vsl (.sym j) true ca)] [(0,.mix [.ptr 1 (.lit 0),i6 st,i6 as_]),hpA 1 2 6 7 3 W ph sp cy,hpB 2 3 5 3 W,hpC 3 4 270 2 N,hpP 4 L,hpP 5 D,hpF 6 z ov,hpP 7 Q,(8,.fix 0 o)] 9 (fun r h n => (r = .tup [.p .nils,.p .nils,.p (.int .i64 (.lit 1))] ∧ (∃ p ∈ l,∃ v,NeedR p.1 p.2 v false) ∧ h = [(0,.mix [.ptr 1 (.lit 0),i6 st,i6 as_]),hpA 1 2 6 7 3 W ph sp cy,hpB 2 3 5 3 W,hpC 3 4 270 2 N,hpP 4 L,hpP 5 D,hpF 6 z ov,hpP 7 Q,(8,.fix 0 o)] ∧ n = 9) ∨ ∃ (X x : List Int) (out : List Gn) (e mx mg : Int) (T cellsh : List PV) (Rh : List Rw) (wh Ch Gh : List Int) (ovh : Bool) (ph2 sp2 cy2 : Int) (Lh Dh Qh : List PV) (zh : ByteArray),r = .tup [.p (.vsl (.sym mx) true T),.p (.vsl (.sym mg) true cellsh),i6 e] ∧ Sz l X ∧ ((h = [(0,.mix [.ptr 1 (.lit 0),i6 st,i6 as_]),hpA 1 2 6 7 3 W ph2 sp2 cy2,hpB 2 3 5 3 W,hpC 3 4 270 2 N,hpP 4 Lh,hpP 5 Dh,hpF 6 zh ovh,hpP 7 Qh,(8,.fix 0 o)] ∧ n = 9) ∨ (h = [(0,.mix [.ptr 1 (.lit 0),i6 st,i6 as_]),hpA 1 2 9 7 3 W ph2 sp2 cy2,hpB 2 3 5 3 W,hpC 3 4 270 2 N,hpP 4 Lh,hpP 5 Dh,hpF 9 zh ovh,hpP 7 Qh,(8,.fix 0 o)] ∧ n = 10 ∧ Renewed W st ((l.map Prod.fst).zip X) A ⟨R,ws,C,G,ov,ph,sp,cy⟩)) ∧ HM Rh wh Ch Gh N W Lh Dh Qh zh ∧ T = ipv x ∧ mx = x.length ∧ cellsh = gpv out ∧ mg = out.length ∧ Alcd W st (as_ * wdsOf X).toNat ((l.map Prod.fst).zip X) A ⟨R,ws,C,G,ov,ph,sp,cy⟩ x out e ⟨Rh,wh,Ch,Gh,ovh,ph2,sp2,cy2⟩) := by
 have hW : W = 32 * N := h.w
 have hn1 := hg.n1
 have hn2 := hg.n2
 have hNR := h.n
 unfold COk at hc
 refine callF_of_bodyB tok Tryz.func21 (by kernel_rfl) rfl rfl rfl [7,11] ?_; conv => cbv
 refine cfr (heapS_lx R ws C G N W ph sp cy L D Q z ov st as_) [(0,0),(1,1),(2,2),(3,3),(4,4),(5,5),(6,6),(7,7)] (fun r h' n' ⟨e1,e2,e3⟩ => ?_)
 subst e1 e2 e3
 conv => cbv
 refine CallF.re (args0 := [.p (.vsl (.sym k) true cells)]) (h' := [(0,.mix [.ptr 1 (.lit 0),i6 st,i6 as_]),hpA 1 2 6 7 3 W ph sp cy,hpB 2 3 5 3 W,hpC 3 4 270 2 N,hpP 4 L,hpP 5 D,hpF 6 z ov,hpP 7 Q,(8,.fix 0 o)]) (Re.at [(0,0),(1,1),(2,2),(3,3),(4,4),(5,5),(6,6),(7,7),(8,8)] []) (cfr (sizesOf_lx l k cells hk hcs hl) [] (fun r h' n' hrr => ?_))
 obtain ⟨hrr,e2,e3⟩ := hrr
 subst e2 e3
 rcases hrr with ⟨X,jx,O,e1,hO,hjx,hX⟩ | ⟨e1,hbad⟩
 case inr =>
  subst e1
  conv => cbv
  refine RetF.mk [.p .nils,.p .nils,.p (.int .i64 (.lit 1))] [(0,.mix [.ptr 1 (.lit 0),i6 st,i6 as_]),hpA 1 2 6 7 3 W ph sp cy,hpB 2 3 5 3 W,hpC 3 4 270 2 N,hpP 4 L,hpP 5 D,hpF 6 z ov,hpP 7 Q,(8,.fix 0 o)] 9 (Re.at [(0,0),(1,1),(2,2),(3,3),(4,4),(5,5),(6,6),(7,7),(8,8)] []) rfl (.inl ⟨rfl,hbad,rfl,rfl⟩)
 subst e1
 conv => cbv
 refine JoinF.mk (fun s => (s = ⟨.ptr 0 (.lit 0) :: .p (.vsl (.sym k) true cells) :: .p (.vsl (.sym j) true ca) :: (undefs 6 ++ .ptr 1 (.lit 0) :: .p (.vsl (.sym jx) true O) :: undefs 69),[(0,.mix [.ptr 1 (.lit 0),i6 st,i6 as_]),hpA 1 2 6 7 3 W ph sp cy,hpB 2 3 5 3 W,hpC 3 4 270 2 N,hpP 4 L,hpP 5 D,hpF 6 z ov,hpP 7 Q,(8,.fix 0 o)],9⟩ ∧ ¬ (ph = 0 ∧ st * W ≤ 100 * usedW R)) ∨ ∃ (C3 G3 : List Int) (ov3 : Bool) (Q3 : List PV) (z3 : ByteArray),s = ⟨.ptr 0 (.lit 0) :: .p (.vsl (.sym k) true cells) :: .p (.vsl (.sym j) true ca) :: (undefs 6 ++ .ptr 1 (.lit 0) :: .p (.vsl (.sym jx) true O) :: undefs 69),[(0,.mix [.ptr 1 (.lit 0),i6 st,i6 as_]),hpA 1 2 9 7 3 W 1 sp cy,hpB 2 3 5 3 W,hpC 3 4 270 2 N,hpP 4 L,hpP 5 D,hpF 9 z3 ov3,hpP 7 Q3,(8,.fix 0 o)],10⟩ ∧ HM R ws C3 G3 N W L D Q3 z3 ∧ (ph = 0 ∧ st * W ≤ 100 * usedW R) ∧ (C3,G3,ov3) = begS R W A) ?_ ?_
 ·refine drawn_sound tok (by kernel_rfl) [(1,[]),(5,[12,11,10,9,8]),(6,[12,11,10,9,8]),(13,[7,11,10,9,8]),(14,[7,11,10,9,8])] [0,1,2,3,4,8,9,10,11,12,5,6,7,13,14,15,16,17] (by kernel_rfl) ?_; conv => cbv
  conv => cbv
  refine cfr (phase_lx R ws C G N W ph sp cy L D Q z ov) [(0,1),(1,2),(2,3),(3,4),(4,5),(5,6),(6,7)] (fun r h' n' ⟨e1,e2,e3⟩ => ?_)
  subst e1 e2 e3
  conv => cbv
  refine Br.mk (fun q => ?_) (fun q => ?_)
  case refine_2 =>
   have q : ¬ ph = 0 := q
   conv => cbv
   refine Joined.mk _ (Re.at [(0,0),(1,1),(2,2),(3,3),(4,4),(5,5),(6,6),(7,7),(8,8)] []) (.inl ⟨rfl,fun w => q w.1⟩)
  have q : ph = 0 := q
  conv => cbv
  refine cfr (arena_lx R ws C G N W ph sp cy L D Q z ov) [(0,1),(1,2),(2,3),(3,4),(4,5),(5,6),(6,7)] (fun r h' n' ⟨e1,e2,e3⟩ => ?_)
  subst e1 e2 e3
  conv => cbv
  obtain ⟨u,hu⟩ : ∃ u : Int,u = usedW R := ⟨_,rfl⟩
  refine cfr (usedA_lx R ws N W L D h.l h.d h.n h.r h.a h.w u hu) [(0,2),(1,3),(2,4),(3,5)] (fun r h' n' ⟨e1,e2,e3⟩ => ?_)
  subst e1 e2 e3
  conv => cbv
  have hub := usedW_bd (R := R) (fun e he => (h.a.rows e he).1)
  rw [← hu] at hub
  have hsW : 0 ≤ st * W ∧ st * W ≤ 100 * 4096 := ⟨Int.mul_nonneg (by omega) (by omega),Int.mul_le_mul hc.2.1 (by omega) (by omega) (by decide)⟩
  refine Fit.mk (by show (-9223372036854775808 : Int) ≤ 100 * u; omega) (by show 100 * u ≤ 9223372036854775807; omega) fun u2 hu2 => ?_
  have hu2 : u2 = 100 * u := hu2
  conv => cbv
  refine cfr (arena_lx R ws C G N W ph sp cy L D Q z ov) [(0,1),(1,2),(2,3),(3,4),(4,5),(5,6),(6,7)] (fun r h' n' ⟨e1,e2,e3⟩ => ?_)
  subst e1 e2 e3
  conv => cbv
  refine cfr (wordsA_lx R ws N W L D h.l h.d h.n h.r h.a h.w) [(0,2),(1,3),(2,4),(3,5)] (fun r h' n' ⟨e1,e2,e3⟩ => ?_)
  subst e1 e2 e3
  conv => cbv
  refine Fit.mk (by show (-9223372036854775808 : Int) ≤ st * W; omega) (by show st * W ≤ 9223372036854775807; omega) fun w2 hw2 => ?_
  have hw2 : w2 = st * W := hw2
  conv => cbv
  refine Br.mk (fun q2 => ?_) (fun q2 => ?_)
  case refine_2 =>
   have q2 : ¬ w2 ≤ u2 := q2
   conv => cbv
   refine Joined.mk _ (Re.at [(0,0),(1,1),(2,2),(3,3),(4,4),(5,5),(6,6),(7,7),(8,8)] []) (.inl ⟨rfl,fun w => q2 (by rw [hw2,hu2,hu]; exact w.2)⟩)
  have q2 : w2 ≤ u2 := q2
  conv => cbv
  refine cfr (begin_lx R ws C G N W ph sp cy L D Q z ov h o ho A j ca hca hj (by omega) q) [(0,1),(1,2),(2,3),(3,4),(4,5),(5,6),(6,7),(7,8)] (fun r h' n' hrr => ?_)
  obtain ⟨C3,G3,ov3,Q3,z3,e1,e2,e3,h3,hb3⟩ := hrr
  subst e1 e2 e3
  conv => cbv
  refine Joined.mk _ (Re.at [(0,0),(1,1),(2,2),(3,3),(4,4),(5,5),(6,6),(7,7),(8,8),(9,9)] []) (.inr ⟨C3,G3,ov3,Q3,z3,rfl,h3,⟨q,by rw [← hu,← hu2,← hw2]; exact q2⟩,hb3⟩)
 have hXl : X.length = l.length := hX.1
 rintro s (⟨rfl,hnd⟩ | ⟨C3,G3,ov3,Q3,z3,rfl,h3,hdue,hb3⟩)
 ·have hg0 : Good N ⟨R,ws,C,G,ov,ph,sp,cy⟩ := hg
  have hpre : Pre W st A ⟨R,ws,C,G,ov,ph,sp,cy⟩ ⟨R,ws,C,G,ov,ph,sp,cy⟩ := .inr ⟨hnd,rfl⟩
  conv => cbv
  refine cfr (allot_lx R ws C G N W ph sp cy L D Q z ov h l X k jx cells O hk hcs hXl hjx hO hl ((l.map Prod.fst).zip X) rfl) [(0,1),(1,2),(2,3),(3,4),(4,5),(5,6),(6,7)] (fun r h' n' hrr => ?_)
  obtain ⟨b1,x1,R1,ws1,C1,L1,D1,Q1,⟨mx,Tx,e1,hTx,hmx⟩,e2,e3,h1,hA1⟩ := hrr
  subst e1 e2 e3
  conv => cbv
  obtain ⟨hg1,hmo1,_⟩ := hA1.good hg0
  refine JoinF.mk (fun s => (∃ (m2 : Int) (x2 : List Int) (T2 : List PV) (R2 : List Rw) (ws2 C2 : List Int) (L2 D2 Q2 : List PV),s = ⟨.ptr 0 (.lit 0) :: .p (.vsl (.sym k) true cells) :: .p (.vsl (.sym j) true ca) :: (undefs 6 ++ .ptr 1 (.lit 0) :: .p (.vsl (.sym jx) true O) :: .p (.bool true) :: .p .nils :: .p (.vsl (.sym m2) true T2) :: undefs 66),[(0,.mix [.ptr 1 (.lit 0),i6 st,i6 as_]),hpA 1 2 6 7 3 W ph sp cy,hpB 2 3 5 3 W,hpC 3 4 270 2 N,hpP 4 L2,hpP 5 D2,hpF 6 z ov,hpP 7 Q2,(8,.fix 0 o)],9⟩ ∧ T2 = ipv x2 ∧ m2 = x2.length ∧ HM R2 ws2 C2 G N W L2 D2 Q2 z ∧ Allot ⟨R,ws,C,G,ov,ph,sp,cy⟩ ((l.map Prod.fst).zip X) true x2 ⟨R2,ws2,C2,G,ov,ph,sp,cy⟩) ∨ ∃ (b2 : Bool) (m2 mg : Int) (x2 : List Int) (og : List Gn) (T2 cg : List PV) (R2 : List Rw) (ws2 C2 G2 : List Int) (ov2 : Bool) (sp2 cy2 : Int) (L2 D2 Q2 : List PV) (z2 : ByteArray),s = ⟨.ptr 0 (.lit 0) :: .p (.vsl (.sym k) true cells) :: .p (.vsl (.sym j) true ca) :: (undefs 6 ++ .ptr 1 (.lit 0) :: .p (.vsl (.sym jx) true O) :: .p (.bool b2) :: .sl 10 40 4 (.lit 0) (.sym mg) :: .p (.vsl (.sym m2) true T2) :: undefs 66),[(0,.mix [.ptr 1 (.lit 0),i6 st,i6 as_]),hpA 1 2 9 7 3 W 0 sp2 cy2,hpB 2 3 5 3 W,hpC 3 4 270 2 N,hpP 4 L2,hpP 5 D2,hpF 9 z2 ov2,hpP 7 Q2,(8,.fix 0 o),hpP 10 cg],11⟩ ∧ T2 = ipv x2 ∧ m2 = x2.length ∧ cg = gpv og ∧ mg = og.length ∧ HM R2 ws2 C2 G2 N W L2 D2 Q2 z2 ∧ (∃ t1,Allot ⟨R,ws,C,G,ov,ph,sp,cy⟩ ((l.map Prod.fst).zip X) false [] t1) ∧ Tried W ((l.map Prod.fst).zip X) A ⟨R,ws,C,G,ov,ph,sp,cy⟩ b2 x2 og ⟨R2,ws2,C2,G2,ov2,0,sp2,cy2⟩) ?_ ?_
  ·cases b1 with
   | true =>
    conv => cbv
    refine Joined.mk _ (Re.at [(0,0),(1,1),(2,2),(3,3),(4,4),(5,5),(6,6),(7,7),(8,8)] []) (.inl ⟨mx,x1,Tx,R1,ws1,C1,L1,D1,Q1,rfl,hTx,hmx,h1,hA1⟩)
   | false =>
    conv => cbv
    refine cfr (makeRoom_lx R1 ws1 C1 G N W ph sp cy L1 D1 Q1 z ov h1 o ho hg1 (by omega) A j ca hca hj hAl) [(0,1),(1,2),(2,3),(3,4),(4,5),(5,6),(6,7),(7,8)] (fun r h' n' hrr => ?_)
    obtain ⟨og,mg,cg,R4,ws4,C4,G4,ov4,sp4,cy4,L4,D4,Q4,z4,e1,e2,e3,h4,hcg,hmg,hMd⟩ := hrr
    subst e1 e2 e3
    conv => cbv
    refine cfr (allot_lx R4 ws4 C4 G4 N W 0 sp4 cy4 L4 D4 Q4 z4 ov4 h4 l X k jx cells O hk hcs hXl hjx hO hl ((l.map Prod.fst).zip X) rfl) [(0,1),(1,2),(2,3),(3,4),(4,5),(5,9),(6,7)] (fun r h' n' hrr => ?_)
    obtain ⟨b2,x2,R2,ws2,C2,L2,D2,Q2,⟨m2,T2,e1,hT2,hm2⟩,e2,e3,h2,hA2⟩ := hrr
    subst e1 e2 e3
    conv => cbv
    refine Joined.mk _ (Re.at [(0,0),(1,1),(2,2),(3,3),(4,4),(5,5),(7,7),(8,8),(9,9),(10,10)] []) (.inr ⟨b2,m2,mg,x2,og,T2,cg,R2,ws2,C2,G4,ov4,sp4,cy4,L2,D2,Q2,z4,rfl,hT2,hm2,hcg,hmg,h2,⟨_,by have w := hA1.no_x; subst w; exact hA1⟩,hMd.tried hA1 hA2⟩)
  rintro s (⟨m2,x2,T2,R2,ws2,C2,L2,D2,Q2,rfl,hT2,hm2,h2,hA2⟩ | ⟨b2,m2,mg,x2,og,T2,cg,R2,ws2,C2,G2,ov2,sp2,cy2,L2,D2,Q2,z2,rfl,hT2,hm2,hcg,hmg,h2,hA2,hTr⟩)
  ·have hg2 := (hA2.good hg0).1
   have hcy2 : cy ≤ 900000000 := by omega
   conv => cbv
   refine drawn_sound tok (by kernel_rfl) [(8,[6,5,4,3,2,1,0]),(10,[1,0]),(11,[0])] [0,1,2,3,4,5,6,7,8,9,10,11,12,13,14] (by kernel_rfl) ?_; conv => cbv
   conv => cbv
   refine cfr (wordsOf_lx X jx O hjx hO (by omega) (sz_bd hX)) [] (fun r h' n' hrr => ?_)
   obtain ⟨v,e1,e2,e3,hv⟩ := hrr
   subst e1 e2 e3
   have hvb := wdsOf_bd X
   rw [← hv] at hvb
   have hav : 0 ≤ as_ * v ∧ as_ * v ≤ 8 * 3200000 := ⟨Int.mul_nonneg (by omega) (by omega),Int.mul_le_mul (by omega) (by omega) (by omega) (by decide)⟩
   conv => cbv
   refine Fit.mk (by show (-9223372036854775808 : Int) ≤ as_ * v; omega) (by show as_ * v ≤ 9223372036854775807; omega) fun c hc2 => ?_
   have hc2 : c = as_ * wdsOf X := by rw [← hv]; exact hc2
   conv => cbv
   have hcb : 0 ≤ c ∧ c ≤ 25600000 := by rw [hv] at hav; omega
   refine cfr (steps_lx R2 ws2 C2 G N W ph sp cy L2 D2 Q2 z ov h2 o ho hg2 hcy2 c hcb.1 (by omega)) [(0,1),(1,2),(2,3),(3,4),(4,5),(5,6),(6,7),(7,8)] (fun r h' n' hrr => ?_)
   obtain ⟨os,ms,ph5,cs,R5,ws5,C5,G5,ov5,sp5,cy5,L5,D5,Q5,z5,e1,e2,e3,h5,hcs5,hms,hAs⟩ := hrr
   subst e1 e2 e3
   rw [hc2] at hAs
   have hsg := hAs.good hW hg2
   have hsl : os.length ≤ 69664 := hsg.2.2
   have hcl5 : cs.length = 4 * os.length := by rw [hcs5,gpv_length]
   conv => cbv
   refine Need.mk (by show (cs.length : Int) = ms * 4; omega) ?_
   conv => cbv
   refine Need.mk ⟨by show ms * 48 ≤ 140737488355328; omega,by show ms ≤ 9223372036854775807; omega⟩ ?_
   conv => cbv
   refine RetF.mk [.p (.vsl (.sym m2) true T2),.p (.vsl (.sym ms) true cs),i6 0] [(0,.mix [.ptr 1 (.lit 0),i6 st,i6 as_]),hpA 1 2 6 7 3 W ph5 sp5 cy5,hpB 2 3 5 3 W,hpC 3 4 270 2 N,hpP 4 L5,hpP 5 D5,hpF 6 z5 ov5,hpP 7 Q5,(8,.fix 0 o)] 9 (Re.at [(0,0),(1,1),(2,2),(3,3),(4,4),(5,5),(6,6),(7,7),(8,8)] []) rfl (.inr ⟨X,x2,os,0,m2,ms,T2,cs,R5,ws5,C5,G5,ov5,ph5,sp5,cy5,L5,D5,Q5,z5,rfl,hX,.inl ⟨rfl,rfl⟩,h5,hT2,hm2,hcs5,hms,.ok x2 [] os _ _ _ hpre (.quick x2 _ hA2) hAs⟩)
  ·obtain ⟨hg2,hcyq,_,hogl⟩ := hTr.good hW hg0
   have hcy2 : cy2 ≤ 900000000 := by have h9 : cy2 ≤ cy + 4354 := hcyq; omega
   cases b2 with
   | false =>
    conv => cbv
    refine RetF.mk [.p (.vsl (.sym 0) true []),.p (.vsl (.sym mg) true cg),i6 9] [(0,.mix [.ptr 1 (.lit 0),i6 st,i6 as_]),hpA 1 2 9 7 3 W 0 sp2 cy2,hpB 2 3 5 3 W,hpC 3 4 270 2 N,hpP 4 L2,hpP 5 D2,hpF 9 z2 ov2,hpP 7 Q2,(8,.fix 0 o)] 10 (Re.at [(0,0),(1,1),(2,2),(3,3),(4,4),(5,5),(9,9),(7,7),(8,8)] []) rfl (.inr ⟨X,[],og,9,0,mg,[],cg,R2,ws2,C2,G2,ov2,0,sp2,cy2,L2,D2,Q2,z2,rfl,hX,.inr ⟨rfl,rfl,.inr ⟨_,_,hpre,hA2.choose_spec⟩⟩,h2,rfl,rfl,hcg,hmg,.room x2 og _ _ hpre hTr⟩)
   | true =>
    conv => cbv
    refine drawn_sound tok (by kernel_rfl) [(8,[6,5,4,3,2,1,0]),(10,[1,0]),(11,[0])] [0,1,2,3,4,5,6,7,8,9,10,11,12,13,14] (by kernel_rfl) ?_; conv => cbv
    conv => cbv
    refine cfr (wordsOf_lx X jx O hjx hO (by omega) (sz_bd hX)) [] (fun r h' n' hrr => ?_)
    obtain ⟨v,e1,e2,e3,hv⟩ := hrr
    subst e1 e2 e3
    have hvb := wdsOf_bd X
    rw [← hv] at hvb
    have hav : 0 ≤ as_ * v ∧ as_ * v ≤ 8 * 3200000 := ⟨Int.mul_nonneg (by omega) (by omega),Int.mul_le_mul (by omega) (by omega) (by omega) (by decide)⟩
    conv => cbv
    refine Fit.mk (by show (-9223372036854775808 : Int) ≤ as_ * v; omega) (by show as_ * v ≤ 9223372036854775807; omega) fun c hc2 => ?_
    have hc2 : c = as_ * wdsOf X := by rw [← hv]; exact hc2
    conv => cbv
    have hcb : 0 ≤ c ∧ c ≤ 25600000 := by rw [hv] at hav; omega
    refine cfr (steps_lx R2 ws2 C2 G2 N W 0 sp2 cy2 L2 D2 Q2 z2 ov2 h2 o ho hg2 hcy2 c hcb.1 (by omega)) [(0,1),(1,2),(2,3),(3,4),(4,5),(5,9),(6,7),(7,8)] (fun r h' n' hrr => ?_)
    obtain ⟨os,ms,ph5,cs,R5,ws5,C5,G5,ov5,sp5,cy5,L5,D5,Q5,z5,e1,e2,e3,h5,hcs5,hms,hAs⟩ := hrr
    subst e1 e2 e3
    rw [hc2] at hAs
    have hsg := hAs.good hW hg2
    have hsl : os.length ≤ 69664 := hsg.2.2
    have hcl5 : cs.length = 4 * os.length := by rw [hcs5,gpv_length]
    conv => cbv
    refine Need.mk (by show (cs.length : Int) = ms * 4; omega) ?_
    conv => cbv
    have hclg : cg.length = 4 * og.length := by rw [hcg,gpv_length]
    refine Room.new ⟨by show (cg.length : Int) = mg * 4; omega,by show (mg + ms) * 48 ≤ 140737488355328; omega,by show mg + ms ≤ 9223372036854775807; omega⟩ ?_
    conv => cbv
    refine Upd.mk fun c6 hc6 => ?_
    have hc6 : c6 = gpv (og ++ os) := by rw [show c6 = cg ++ cs from hc6,hcg,hcs5,← gpv_app]
    conv => cbv
    refine Sum.mk fun m6 hm6 => ?_
    have hm6 : m6 = ((og ++ os).length : Int) := by rw [show m6 = mg + ms from hm6,hmg,hms,List.length_append]; rfl
    conv => cbv
    refine RetF.mk [.p (.vsl (.sym m2) true T2),.p (.vsl (.sym m6) true c6),i6 0] [(0,.mix [.ptr 1 (.lit 0),i6 st,i6 as_]),hpA 1 2 9 7 3 W ph5 sp5 cy5,hpB 2 3 5 3 W,hpC 3 4 270 2 N,hpP 4 L5,hpP 5 D5,hpF 9 z5 ov5,hpP 7 Q5,(8,.fix 0 o)] 10 (Re.at [(0,0),(1,1),(2,2),(3,3),(4,4),(5,5),(9,9),(7,7),(8,8)] []) rfl (.inr ⟨X,x2,(og ++ os),0,m2,m6,T2,c6,R5,ws5,C5,G5,ov5,ph5,sp5,cy5,L5,D5,Q5,z5,rfl,hX,.inr ⟨rfl,rfl,.inr ⟨_,_,hpre,hA2.choose_spec⟩⟩,h5,hT2,hm2,hc6,hm6,.ok x2 og os _ _ _ hpre hTr hAs⟩)
 ·have hbg : Bgn W ⟨R,ws,C,G,ov,ph,sp,cy⟩ A ⟨R,ws,C3,G3,ov3,1,sp,cy⟩ := ⟨rfl,rfl,rfl,rfl,rfl,(by have := h3.c; show (C3.length : Int) = W; exact this),hb3⟩
  have hg0 : Good N ⟨R,ws,C3,G3,ov3,1,sp,cy⟩ := hbg.good hW hg
  have hpre : Pre W st A ⟨R,ws,C,G,ov,ph,sp,cy⟩ ⟨R,ws,C3,G3,ov3,1,sp,cy⟩ := .inl ⟨hdue.1,hdue.2,hbg⟩
  conv => cbv
  refine cfr (allot_lx R ws C3 G3 N W 1 sp cy L D Q3 z3 ov3 h3 l X k jx cells O hk hcs hXl hjx hO hl ((l.map Prod.fst).zip X) rfl) [(0,1),(1,2),(2,3),(3,4),(4,5),(5,9),(6,7)] (fun r h' n' hrr => ?_)
  obtain ⟨b1,x1,R1,ws1,C1,L1,D1,Q1,⟨mx,Tx,e1,hTx,hmx⟩,e2,e3,h1,hA1⟩ := hrr
  subst e1 e2 e3
  conv => cbv
  obtain ⟨hg1,hmo1,_⟩ := hA1.good hg0
  refine JoinF.mk (fun s => (∃ (m2 : Int) (x2 : List Int) (T2 : List PV) (R2 : List Rw) (ws2 C2 : List Int) (L2 D2 Q2 : List PV),s = ⟨.ptr 0 (.lit 0) :: .p (.vsl (.sym k) true cells) :: .p (.vsl (.sym j) true ca) :: (undefs 6 ++ .ptr 1 (.lit 0) :: .p (.vsl (.sym jx) true O) :: .p (.bool true) :: .p .nils :: .p (.vsl (.sym m2) true T2) :: undefs 66),[(0,.mix [.ptr 1 (.lit 0),i6 st,i6 as_]),hpA 1 2 9 7 3 W 1 sp cy,hpB 2 3 5 3 W,hpC 3 4 270 2 N,hpP 4 L2,hpP 5 D2,hpF 9 z3 ov3,hpP 7 Q2,(8,.fix 0 o)],10⟩ ∧ T2 = ipv x2 ∧ m2 = x2.length ∧ HM R2 ws2 C2 G3 N W L2 D2 Q2 z3 ∧ Allot ⟨R,ws,C3,G3,ov3,1,sp,cy⟩ ((l.map Prod.fst).zip X) true x2 ⟨R2,ws2,C2,G3,ov3,1,sp,cy⟩) ∨ ∃ (b2 : Bool) (m2 mg : Int) (x2 : List Int) (og : List Gn) (T2 cg : List PV) (R2 : List Rw) (ws2 C2 G2 : List Int) (ov2 : Bool) (sp2 cy2 : Int) (L2 D2 Q2 : List PV) (z2 : ByteArray),s = ⟨.ptr 0 (.lit 0) :: .p (.vsl (.sym k) true cells) :: .p (.vsl (.sym j) true ca) :: (undefs 6 ++ .ptr 1 (.lit 0) :: .p (.vsl (.sym jx) true O) :: .p (.bool b2) :: .sl 10 40 4 (.lit 0) (.sym mg) :: .p (.vsl (.sym m2) true T2) :: undefs 66),[(0,.mix [.ptr 1 (.lit 0),i6 st,i6 as_]),hpA 1 2 9 7 3 W 0 sp2 cy2,hpB 2 3 5 3 W,hpC 3 4 270 2 N,hpP 4 L2,hpP 5 D2,hpF 9 z2 ov2,hpP 7 Q2,(8,.fix 0 o),hpP 10 cg],11⟩ ∧ T2 = ipv x2 ∧ m2 = x2.length ∧ cg = gpv og ∧ mg = og.length ∧ HM R2 ws2 C2 G2 N W L2 D2 Q2 z2 ∧ (∃ t1,Allot ⟨R,ws,C3,G3,ov3,1,sp,cy⟩ ((l.map Prod.fst).zip X) false [] t1) ∧ Tried W ((l.map Prod.fst).zip X) A ⟨R,ws,C3,G3,ov3,1,sp,cy⟩ b2 x2 og ⟨R2,ws2,C2,G2,ov2,0,sp2,cy2⟩) ?_ ?_
  ·cases b1 with
   | true =>
    conv => cbv
    refine Joined.mk _ (Re.at [(0,0),(1,1),(2,2),(3,3),(4,4),(5,5),(6,6),(7,7),(8,8),(9,9)] []) (.inl ⟨mx,x1,Tx,R1,ws1,C1,L1,D1,Q1,rfl,hTx,hmx,h1,hA1⟩)
   | false =>
    conv => cbv
    refine cfr (makeRoom_lx R1 ws1 C1 G3 N W 1 sp cy L1 D1 Q1 z3 ov3 h1 o ho hg1 (by omega) A j ca hca hj hAl) [(0,1),(1,2),(2,3),(3,4),(4,5),(5,9),(6,7),(7,8)] (fun r h' n' hrr => ?_)
    obtain ⟨og,mg,cg,R4,ws4,C4,G4,ov4,sp4,cy4,L4,D4,Q4,z4,e1,e2,e3,h4,hcg,hmg,hMd⟩ := hrr
    subst e1 e2 e3
    conv => cbv
    refine cfr (allot_lx R4 ws4 C4 G4 N W 0 sp4 cy4 L4 D4 Q4 z4 ov4 h4 l X k jx cells O hk hcs hXl hjx hO hl ((l.map Prod.fst).zip X) rfl) [(0,1),(1,2),(2,3),(3,4),(4,5),(5,10),(6,7)] (fun r h' n' hrr => ?_)
    obtain ⟨b2,x2,R2,ws2,C2,L2,D2,Q2,⟨m2,T2,e1,hT2,hm2⟩,e2,e3,h2,hA2⟩ := hrr
    subst e1 e2 e3
    conv => cbv
    refine Joined.mk _ (Re.at [(0,0),(1,1),(2,2),(3,3),(4,4),(5,5),(7,7),(8,8),(10,9),(11,10)] []) (.inr ⟨b2,m2,mg,x2,og,T2,cg,R2,ws2,C2,G4,ov4,sp4,cy4,L2,D2,Q2,z4,rfl,hT2,hm2,hcg,hmg,h2,⟨_,by have w := hA1.no_x; subst w; exact hA1⟩,hMd.tried hA1 hA2⟩)
  rintro s (⟨m2,x2,T2,R2,ws2,C2,L2,D2,Q2,rfl,hT2,hm2,h2,hA2⟩ | ⟨b2,m2,mg,x2,og,T2,cg,R2,ws2,C2,G2,ov2,sp2,cy2,L2,D2,Q2,z2,rfl,hT2,hm2,hcg,hmg,h2,hA2,hTr⟩)
  ·have hg2 := (hA2.good hg0).1
   have hcy2 : cy ≤ 900000000 := by omega
   conv => cbv
   refine drawn_sound tok (by kernel_rfl) [(8,[6,5,4,3,2,1,0]),(10,[1,0]),(11,[0])] [0,1,2,3,4,5,6,7,8,9,10,11,12,13,14] (by kernel_rfl) ?_; conv => cbv
   conv => cbv
   refine cfr (wordsOf_lx X jx O hjx hO (by omega) (sz_bd hX)) [] (fun r h' n' hrr => ?_)
   obtain ⟨v,e1,e2,e3,hv⟩ := hrr
   subst e1 e2 e3
   have hvb := wdsOf_bd X
   rw [← hv] at hvb
   have hav : 0 ≤ as_ * v ∧ as_ * v ≤ 8 * 3200000 := ⟨Int.mul_nonneg (by omega) (by omega),Int.mul_le_mul (by omega) (by omega) (by omega) (by decide)⟩
   conv => cbv
   refine Fit.mk (by show (-9223372036854775808 : Int) ≤ as_ * v; omega) (by show as_ * v ≤ 9223372036854775807; omega) fun c hc2 => ?_
   have hc2 : c = as_ * wdsOf X := by rw [← hv]; exact hc2
   conv => cbv
   have hcb : 0 ≤ c ∧ c ≤ 25600000 := by rw [hv] at hav; omega
   refine cfr (steps_lx R2 ws2 C2 G3 N W 1 sp cy L2 D2 Q2 z3 ov3 h2 o ho hg2 hcy2 c hcb.1 (by omega)) [(0,1),(1,2),(2,3),(3,4),(4,5),(5,9),(6,7),(7,8)] (fun r h' n' hrr => ?_)
   obtain ⟨os,ms,ph5,cs,R5,ws5,C5,G5,ov5,sp5,cy5,L5,D5,Q5,z5,e1,e2,e3,h5,hcs5,hms,hAs⟩ := hrr
   subst e1 e2 e3
   rw [hc2] at hAs
   have hsg := hAs.good hW hg2
   have hsl : os.length ≤ 69664 := hsg.2.2
   have hcl5 : cs.length = 4 * os.length := by rw [hcs5,gpv_length]
   conv => cbv
   refine Need.mk (by show (cs.length : Int) = ms * 4; omega) ?_
   conv => cbv
   refine Need.mk ⟨by show ms * 48 ≤ 140737488355328; omega,by show ms ≤ 9223372036854775807; omega⟩ ?_
   conv => cbv
   refine RetF.mk [.p (.vsl (.sym m2) true T2),.p (.vsl (.sym ms) true cs),i6 0] [(0,.mix [.ptr 1 (.lit 0),i6 st,i6 as_]),hpA 1 2 9 7 3 W ph5 sp5 cy5,hpB 2 3 5 3 W,hpC 3 4 270 2 N,hpP 4 L5,hpP 5 D5,hpF 9 z5 ov5,hpP 7 Q5,(8,.fix 0 o)] 10 (Re.at [(0,0),(1,1),(2,2),(3,3),(4,4),(5,5),(9,9),(7,7),(8,8)] []) rfl (.inr ⟨X,x2,os,0,m2,ms,T2,cs,R5,ws5,C5,G5,ov5,ph5,sp5,cy5,L5,D5,Q5,z5,rfl,hX,.inr ⟨rfl,rfl,.inl hdue⟩,h5,hT2,hm2,hcs5,hms,.ok x2 [] os _ _ _ hpre (.quick x2 _ hA2) hAs⟩)
  ·obtain ⟨hg2,hcyq,_,hogl⟩ := hTr.good hW hg0
   have hcy2 : cy2 ≤ 900000000 := by have h9 : cy2 ≤ cy + 4354 := hcyq; omega
   cases b2 with
   | false =>
    conv => cbv
    refine RetF.mk [.p (.vsl (.sym 0) true []),.p (.vsl (.sym mg) true cg),i6 9] [(0,.mix [.ptr 1 (.lit 0),i6 st,i6 as_]),hpA 1 2 9 7 3 W 0 sp2 cy2,hpB 2 3 5 3 W,hpC 3 4 270 2 N,hpP 4 L2,hpP 5 D2,hpF 9 z2 ov2,hpP 7 Q2,(8,.fix 0 o)] 10 (Re.at [(0,0),(1,1),(2,2),(3,3),(4,4),(5,5),(9,9),(7,7),(8,8)] []) rfl (.inr ⟨X,[],og,9,0,mg,[],cg,R2,ws2,C2,G2,ov2,0,sp2,cy2,L2,D2,Q2,z2,rfl,hX,.inr ⟨rfl,rfl,.inl hdue⟩,h2,rfl,rfl,hcg,hmg,.room x2 og _ _ hpre hTr⟩)
   | true =>
    conv => cbv
    refine drawn_sound tok (by kernel_rfl) [(8,[6,5,4,3,2,1,0]),(10,[1,0]),(11,[0])] [0,1,2,3,4,5,6,7,8,9,10,11,12,13,14] (by kernel_rfl) ?_; conv => cbv
    conv => cbv
    refine cfr (wordsOf_lx X jx O hjx hO (by omega) (sz_bd hX)) [] (fun r h' n' hrr => ?_)
    obtain ⟨v,e1,e2,e3,hv⟩ := hrr
    subst e1 e2 e3
    have hvb := wdsOf_bd X
    rw [← hv] at hvb
    have hav : 0 ≤ as_ * v ∧ as_ * v ≤ 8 * 3200000 := ⟨Int.mul_nonneg (by omega) (by omega),Int.mul_le_mul (by omega) (by omega) (by omega) (by decide)⟩
    conv => cbv
    refine Fit.mk (by show (-9223372036854775808 : Int) ≤ as_ * v; omega) (by show as_ * v ≤ 9223372036854775807; omega) fun c hc2 => ?_
    have hc2 : c = as_ * wdsOf X := by rw [← hv]; exact hc2
    conv => cbv
    have hcb : 0 ≤ c ∧ c ≤ 25600000 := by rw [hv] at hav; omega
    refine cfr (steps_lx R2 ws2 C2 G2 N W 0 sp2 cy2 L2 D2 Q2 z2 ov2 h2 o ho hg2 hcy2 c hcb.1 (by omega)) [(0,1),(1,2),(2,3),(3,4),(4,5),(5,9),(6,7),(7,8)] (fun r h' n' hrr => ?_)
    obtain ⟨os,ms,ph5,cs,R5,ws5,C5,G5,ov5,sp5,cy5,L5,D5,Q5,z5,e1,e2,e3,h5,hcs5,hms,hAs⟩ := hrr
    subst e1 e2 e3
    rw [hc2] at hAs
    have hsg := hAs.good hW hg2
    have hsl : os.length ≤ 69664 := hsg.2.2
    have hcl5 : cs.length = 4 * os.length := by rw [hcs5,gpv_length]
    conv => cbv
    refine Need.mk (by show (cs.length : Int) = ms * 4; omega) ?_
    conv => cbv
    have hclg : cg.length = 4 * og.length := by rw [hcg,gpv_length]
    refine Room.new ⟨by show (cg.length : Int) = mg * 4; omega,by show (mg + ms) * 48 ≤ 140737488355328; omega,by show mg + ms ≤ 9223372036854775807; omega⟩ ?_
    conv => cbv
    refine Upd.mk fun c6 hc6 => ?_
    have hc6 : c6 = gpv (og ++ os) := by rw [show c6 = cg ++ cs from hc6,hcg,hcs5,← gpv_app]
    conv => cbv
    refine Sum.mk fun m6 hm6 => ?_
    have hm6 : m6 = ((og ++ os).length : Int) := by rw [show m6 = mg + ms from hm6,hmg,hms,List.length_append]; rfl
    conv => cbv
    refine RetF.mk [.p (.vsl (.sym m2) true T2),.p (.vsl (.sym m6) true c6),i6 0] [(0,.mix [.ptr 1 (.lit 0),i6 st,i6 as_]),hpA 1 2 9 7 3 W ph5 sp5 cy5,hpB 2 3 5 3 W,hpC 3 4 270 2 N,hpP 4 L5,hpP 5 D5,hpF 9 z5 ov5,hpP 7 Q5,(8,.fix 0 o)] 10 (Re.at [(0,0),(1,1),(2,2),(3,3),(4,4),(5,5),(9,9),(7,7),(8,8)] []) rfl (.inr ⟨X,x2,(og ++ os),0,m2,m6,T2,c6,R5,ws5,C5,G5,ov5,ph5,sp5,cy5,L5,D5,Q5,z5,rfl,hX,.inr ⟨rfl,rfl,.inl hdue⟩,h5,hT2,hm2,hc6,hm6,.ok x2 og os _ _ _ hpre hTr hAs⟩)
end Go.Proofs.YtcbombkaacjngaaGreatDoor
namespace Go.Proofs.YtcbombkaacjngaaGreatDoor
open Go Go.LX
set_option maxRecDepth 100000
set_option linter.unusedVariables false
set_option linter.unusedSimpArgs false
set_option maxHeartbeats 32000000
theorem collectS_idle (R : List Rw) (ws C G : List Int) (N W ph sp cy : Int) (L D Q : List PV) (z : ByteArray) (ov : Bool) (h : HM R ws C G N W L D Q z) (o : Unit → Obj) (ho : IsPow o) (st as_ : Int) (hp : ph = 0) (A : List Int) (j : Int) (ca : List PV) (hca : ca = ipv A) (hj : j = A.length) (hAl : A.length ≤ 100000) :
  CallF (fun _ => Tryz.prog) 12 [.ptr 0 (.lit 0),.p (.vsl (.sym j) true ca)] [(0,.mix [.ptr 1 (.lit 0),i6 st,i6 as_]),hpA 1 2 6 7 3 W ph sp cy,hpB 2 3 5 3 W,hpC 3 4 270 2 N,hpP 4 L,hpP 5 D,hpF 6 z ov,hpP 7 Q,(8,.fix 0 o)] 9 (fun r h n => ∃ (C3 G3 : List Int) (ov3 : Bool) (Q3 : List PV) (z3 : ByteArray),r = .p .nils ∧ h = [(0,.mix [.ptr 1 (.lit 0),i6 st,i6 as_]),hpA 1 2 9 7 3 W 1 sp cy,hpB 2 3 5 3 W,hpC 3 4 270 2 N,hpP 4 L,hpP 5 D,hpF 9 z3 ov3,hpP 7 Q3,(8,.fix 0 o)] ∧ n = 10 ∧ HM R ws C3 G3 N W L D Q3 z3 ∧ Bgn W ⟨R,ws,C,G,ov,ph,sp,cy⟩ A ⟨R,ws,C3,G3,ov3,1,sp,cy⟩) := by
 refine callF_of_body tok Tryz.func12 (by kernel_rfl) rfl rfl rfl ?_; conv => cbv
 refine cfr (heapS_lx R ws C G N W ph sp cy L D Q z ov st as_) [(0,0),(1,1),(2,2),(3,3),(4,4),(5,5),(6,6),(7,7)] (fun r h' n' ⟨e1,e2,e3⟩ => ?_)
 subst e1 e2 e3
 conv => cbv
 refine cfr (phase_lx R ws C G N W ph sp cy L D Q z ov) [(0,1),(1,2),(2,3),(3,4),(4,5),(5,6),(6,7)] (fun r h' n' ⟨e1,e2,e3⟩ => ?_)
 subst e1 e2 e3
 conv => cbv
 refine Br.yes (show ph = 0 from hp) ?_
 conv => cbv
 refine cfr (begin_lx R ws C G N W ph sp cy L D Q z ov h o ho A j ca hca hj (by omega) hp) [(0,1),(1,2),(2,3),(3,4),(4,5),(5,6),(6,7),(7,8)] (fun r h' n' hrr => ?_)
 obtain ⟨C3,G3,ov3,Q3,z3,e1,e2,e3,h3,hb3⟩ := hrr
 subst e1 e2 e3
 conv => cbv
 refine RetF.mk [.p .nils] [(0,.mix [.ptr 1 (.lit 0),i6 st,i6 as_]),hpA 1 2 9 7 3 W 1 sp cy,hpB 2 3 5 3 W,hpC 3 4 270 2 N,hpP 4 L,hpP 5 D,hpF 9 z3 ov3,hpP 7 Q3,(8,.fix 0 o)] 10 (Re.at [(0,0),(1,1),(2,2),(3,3),(4,4),(5,5),(9,9),(7,7),(8,8)] []) rfl ⟨C3,G3,ov3,Q3,z3,rfl,rfl,rfl,h3,rfl,rfl,rfl,rfl,rfl,(by have := h3.c; show (C3.length : Int) = W; exact this),hb3⟩
theorem collectS_step (R : List Rw) (ws C G : List Int) (N W ph sp cy : Int) (L D Q : List PV) (z : ByteArray) (ov : Bool) (h : HM R ws C G N W L D Q z) (o : Unit → Obj) (ho : IsPow o) (st as_ : Int) (hp : ph ≠ 0) (hsp : 0 ≤ sp ∧ sp ≤ 1000) (hcy : 0 ≤ cy ∧ cy ≤ 1000000000) (j : Int) (ca : List PV) :
  CallF (fun _ => Tryz.prog) 12 [.ptr 0 (.lit 0),.p (.vsl (.sym j) true ca)] [(0,.mix [.ptr 1 (.lit 0),i6 st,i6 as_]),hpA 1 2 6 7 3 W ph sp cy,hpB 2 3 5 3 W,hpC 3 4 270 2 N,hpP 4 L,hpP 5 D,hpF 6 z ov,hpP 7 Q,(8,.fix 0 o)] 9 (fun r h n => ∃ (out : List Gn) (m : Int) (cells : List PV) (Rh : List Rw) (wh Ch Gh : List Int) (ovh : Bool) (ph2 sp2 cy2 : Int) (Lh Dh Qh : List PV) (zh : ByteArray),r = .p (.vsl (.sym m) true cells) ∧ h = [(0,.mix [.ptr 1 (.lit 0),i6 st,i6 as_]),hpA 1 2 6 7 3 W ph2 sp2 cy2,hpB 2 3 5 3 W,hpC 3 4 270 2 N,hpP 4 Lh,hpP 5 Dh,hpF 6 zh ovh,hpP 7 Qh,(8,.fix 0 o)] ∧ n = 9 ∧ HM Rh wh Ch Gh N W Lh Dh Qh zh ∧ cells = gpv out ∧ m = out.length ∧ Stp W ⟨R,ws,C,G,ov,ph,sp,cy⟩ out ⟨Rh,wh,Ch,Gh,ovh,ph2,sp2,cy2⟩) := by
 refine callF_of_body tok Tryz.func12 (by kernel_rfl) rfl rfl rfl ?_; conv => cbv
 refine cfr (heapS_lx R ws C G N W ph sp cy L D Q z ov st as_) [(0,0),(1,1),(2,2),(3,3),(4,4),(5,5),(6,6),(7,7)] (fun r h' n' ⟨e1,e2,e3⟩ => ?_)
 subst e1 e2 e3
 conv => cbv
 refine cfr (phase_lx R ws C G N W ph sp cy L D Q z ov) [(0,1),(1,2),(2,3),(3,4),(4,5),(5,6),(6,7)] (fun r h' n' ⟨e1,e2,e3⟩ => ?_)
 subst e1 e2 e3
 conv => cbv
 refine Br.no (show ¬ ph = 0 from hp) ?_
 conv => cbv
 refine cfr (step_lx R ws C G N W ph sp cy L D Q z ov h o ho hsp hcy) [(0,1),(1,2),(2,3),(3,4),(4,5),(5,6),(6,7),(7,8)] (fun r h' n' hrr => ?_)
 obtain ⟨o2,kx,ph',sp',cy',R2,w2,C2,G2,ov2,cells',Lx,Dx,Qx,z2,e1,e2,e3,h2,hcs2,hkx,hst⟩ := hrr
 subst e1 e2 e3
 conv => cbv
 refine RetF.mk [.p (.vsl (.sym kx) true cells')] [(0,.mix [.ptr 1 (.lit 0),i6 st,i6 as_]),hpA 1 2 6 7 3 W ph' sp' cy',hpB 2 3 5 3 W,hpC 3 4 270 2 N,hpP 4 Lx,hpP 5 Dx,hpF 6 z2 ov2,hpP 7 Qx,(8,.fix 0 o)] 9 (Re.at [(0,0),(1,1),(2,2),(3,3),(4,4),(5,5),(6,6),(7,7),(8,8)] []) rfl ⟨o2,kx,cells',R2,w2,C2,G2,ov2,ph',sp',cy',Lx,Dx,Qx,z2,rfl,rfl,rfl,h2,hcs2,hkx,hst⟩
end Go.Proofs.YtcbombkaacjngaaGreatDoor
namespace Go.Proofs.YtcbombkaacjngaaGreatDoor
open Go Go.LX
set_option maxRecDepth 100000
set_option linter.unusedVariables false
set_option linter.unusedSimpArgs false
set_option maxHeartbeats 32000000
theorem Bare0.alloc {N W st : Int} {l : List (Int × Int)} {A : List Int} {s t : Hst} {x : List Int} {o : List Gn} {e : Int} (hW : W = 32 * N) (hb : Bare0 N s) (hst : 1 ≤ st) (hl : ∀ p ∈ l,Val p) (hlen : (l.length : Int) ≤ N) (h : Alcd W st 0 l A s x o e t) : e = 0 ∧ o = [] ∧ Allot s l true x t ∧ ¬ Renewed W st l A s := by
 have hn := hb.g.n
 have hc := hb.count
 have first : ∀ b y u,Allot s l b y u → b = true := fun b y u hq => hq.roomy hb.g hl (by omega)
 have hren : ¬ Renewed W st l A s := by
  rintro (⟨_,q⟩ | ⟨t0,t1,q1,q2⟩)
  ·have h1 := hb.g.n1
   have h2 : 1 * W ≤ st * W := Int.mul_le_mul_of_nonneg_right hst (by omega)
   rw [hb.used] at q
   omega
  ·have e0 := hb.pre hW hst q1
   subst e0
   have := first _ _ _ q2
   cases this
 cases h with
 | ok x o1 o2 t0 t1 t h0 h1 h2 =>
  have e0 := hb.pre hW hst h0
  subst e0
  obtain ⟨e2,e3⟩ := h2.none
  subst e2 e3
  cases h1 with
  | quick x t h1 => exact ⟨rfl,rfl,h1,hren⟩
  | forced b x o1 o2 k1 k2 t1 t2 t3 t4 t5 h1 h2 p2 h3 h4 p4 h5 =>
   have := first _ _ _ h1
   cases this
 | room x o t0 t h0 h1 =>
  have e0 := hb.pre hW hst h0
  subst e0
  cases h1 with
  | forced b x o1 o2 k1 k2 t1 t2 t3 t4 t5 h1 h2 p2 h3 h4 p4 h5 =>
   have := first _ _ _ h1
   cases this
theorem sz_two {X : List Int} (h : Sz [(5,0),(2,2)] X) : X = [2,2] := by
 obtain ⟨h1,h2⟩ := h
 match X,h1 with
 | [a,b],_ =>
  obtain ⟨v,e,q⟩ := h2 0 _ rfl
  cases e
  obtain ⟨w,e,q2⟩ := h2 1 _ rfl
  cases e
  have ha : a = 2 := by
   rcases q with ⟨q,_⟩ | ⟨_,q,_⟩
   ·exact absurd q (by decide)
   ·exact q
  have hb : b = 2 := by
   rcases q2 with ⟨_,⟨_,_,q,_⟩ | ⟨q,_⟩⟩ | ⟨q,_⟩
   ·exact q
   ·exact absurd ⟨by decide,by decide⟩ q
   ·exact absurd rfl q
  rw [ha,hb]
theorem wide_lx : CallF (fun _ => Tryz.prog) 53 [] [] 0 (fun r h n => r = .agg [.p (.int .i64 (.lit 100)),.p (.int .i64 (.lit 100)),.p (.int .i64 (.lit 0))] ∧ h = [] ∧ n = 0) := by
 refine callF_of_body tok Tryz.func53 (by kernel_rfl) rfl rfl rfl ?_; conv => cbv
 refine RetF.mk [.agg [.p (.int .i64 (.lit 100)),.p (.int .i64 (.lit 100)),.p (.int .i64 (.lit 0))]] [] 0 (Re.at [] []) rfl ⟨rfl,rfl,rfl⟩
theorem awake21_lx (o : Unit → Obj) (ho : IsPow o) : CallF (fun _ => Tryz.prog) 10 [] [(0,.fix 0 o)] 1 (fun r h n => r = .p (.bool true) ∧ h = [(0,.fix 0 o)] ∧ n = 1) := by
 refine callF_of_body tok Tryz.func10 (by kernel_rfl) rfl rfl rfl ?_; conv => cbv
 refine callF_frame wide_lx [] rfl (by simp [hmapOk,nget,hget,renB,okB,renV,renVs,rn,okVs,okV]) rfl rfl (fun r h' n' ⟨e1,e2,e3⟩ => ?_)
 subst e1 e2 e3
 conv => cbv
 obtain ⟨z0,hz0⟩ : ∃ z0 : ByteArray,z0 = ⟨(enc []).toArray⟩ := ⟨_,rfl⟩
 obtain ⟨N,hN⟩ : ∃ N : Int,N = 100 := ⟨_,rfl⟩
 obtain ⟨W,hW⟩ : ∃ W : Int,W = 32 * N := ⟨_,rfl⟩
 obtain ⟨st,hst⟩ : ∃ N : Int,N = 100 := ⟨_,rfl⟩
 obtain ⟨as_,has⟩ : ∃ N : Int,N = 0 := ⟨_,rfl⟩
 obtain ⟨L0,hL0⟩ : ∃ L0,L0 = rpv (List.replicate N.toNat ((0,[]) : Rw)) := ⟨_,rfl⟩
 obtain ⟨D0,hD0⟩ : ∃ D0,D0 = ipv (List.replicate W.toNat (0 : Int)) := ⟨_,rfl⟩
 have hM0 := HM.new (by omega : 2 ≤ N) (by omega) hW hL0 hD0 hD0 hz0
 obtain ⟨R0,hR0⟩ : ∃ R0,R0 = List.replicate N.toNat ((0,[]) : Rw) := ⟨_,rfl⟩
 obtain ⟨ws0,hws0⟩ : ∃ ws0,ws0 = List.replicate W.toNat (0 : Int) := ⟨_,rfl⟩
 rw [← hR0,← hws0] at hM0
 have hCO : COk N st as_ := ⟨by omega,by omega,by omega,by omega⟩
 have hB0 : Bare0 N ⟨R0,ws0,ws0,[],false,0,0,0⟩ := ⟨hM0.good false 0 0 (by omega) (by omega) ⟨by omega,by omega⟩ (by omega),hR0,rfl⟩
 refine CallF.le (args0 := [.agg [i6 N,i6 st,i6 as_]]) (callF_frame (newS_lx N W st as_ hCO (by omega) (by omega) hW L0 D0 D0 z0 hL0 hD0 hD0 hz0) [] rfl trivial rfl rfl (fun r h' n' ⟨e1,e2,e3⟩ => ?_)) (by simp [ales,ale,pvle,I.val,hN,hst,has])
 subst e1 e2 e3
 conv => cbv
 refine cfr (heapS_lx R0 ws0 ws0 [] N W 0 0 0 L0 D0 D0 z0 false st as_) [(0,1),(1,2),(2,3),(3,4),(4,5),(5,6),(6,7),(7,8)] (fun r h' n' ⟨e1,e2,e3⟩ => ?_)
 subst e1 e2 e3
 conv => cbv
 refine cfr (heapS_lx R0 ws0 ws0 [] N W 0 0 0 L0 D0 D0 z0 false st as_) [(0,1),(1,2),(2,3),(3,4),(4,5),(5,6),(6,7),(7,8)] (fun r h' n' ⟨e1,e2,e3⟩ => ?_)
 subst e1 e2 e3
 conv => cbv
 refine cfr (arena_lx R0 ws0 ws0 [] N W 0 0 0 L0 D0 D0 z0 false) [(0,2),(1,3),(2,4),(3,5),(4,6),(5,7),(6,8)] (fun r h' n' ⟨e1,e2,e3⟩ => ?_)
 subst e1 e2 e3
 conv => cbv
 refine CallF.re (args0 := [.ptr 1 (.lit 0),.p (.vsl (.sym 2) true [.int .i64 (.sym 5),.int .i64 (.sym 0),.int .i64 (.sym 2),.int .i64 (.sym 2)]),.p (.vsl (.sym 0) true [])]) (h' := [(1,.mix [.ptr 2 (.lit 0),i6 st,i6 as_]),hpA 2 3 7 8 3 W 0 0 0,hpB 3 4 6 3 W,hpC 4 5 270 2 N,hpP 5 L0,hpP 6 D0,hpF 7 z0 false,hpP 8 D0,(0,.fix 0 o)]) (Re.at [(0,0),(1,1),(2,2),(3,3),(4,4),(5,5),(6,6),(7,7),(8,8)] []) (cfr (alloc21_lx R0 ws0 ws0 [] N W 0 0 0 L0 D0 D0 z0 false hM0 o ho st as_ hCO hB0.g (by decide) [(5,0),(2,2)] 2 [.int .i64 (.sym 5),.int .i64 (.sym 0),.int .i64 (.sym 2),.int .i64 (.sym 2)] rfl rfl (by decide) [] 0 [] rfl rfl (by decide)) [(0,1),(1,2),(2,3),(3,4),(4,5),(5,6),(6,7),(7,8),(8,0)] (fun r h' n' hrr => ?_))
 rcases hrr with ⟨e1,⟨p,hp,v,hv⟩,e2,e3⟩ | hrr
 ·exfalso
  rcases List.mem_cons.1 hp with rfl | hp
  ·rcases hv with ⟨q,_⟩ | ⟨_,q,q2⟩
   ·exact absurd q (by decide)
   ·rw [q] at q2
    exact absurd (q2.2 (by decide)) (by decide)
  ·rw [List.mem_singleton.1 hp] at hv
   rcases hv with ⟨_,⟨_,_,_,q⟩ | ⟨q,_⟩⟩ | ⟨q,_⟩
   ·cases q
   ·exact q ⟨by decide,by decide⟩
   ·exact q rfl
 obtain ⟨X,x,out,e,mx,mg,T,cg,R1,ws1,C1,G1,ov1,ph1,sp1,cy1,L1,D1,Q1,z1,e1,hX,hh,h1,hT,hmx,hcg,hmg,hA⟩ := hrr
 have hX2 := sz_two hX
 subst hX2
 rw [has,Int.zero_mul] at hA
 obtain ⟨rfl,rfl,hAl,hnr⟩ := hB0.alloc (l := [(5,2),(2,2)]) hW hCO.1 (by simp [Val]) (by simp [hN]) hA
 rcases hh with ⟨e2,e3⟩ | ⟨_,_,hren⟩
 case inr => exact absurd hren hnr
 subst e1 e2 e3
 obtain ⟨hg1,hmo1,hxl⟩ := hAl.good hB0.g
 have hkd := hAl.kinds hB0.g
 have hxl := hxl rfl
 obtain ⟨a0,a1,rfl⟩ : ∃ a0 a1,x = [a0,a1] := by
  match x,hxl with
  | [a0,a1],_ => exact ⟨a0,a1,rfl⟩
 have hk1 : Kept R1 ws1 a1 2 2 := hkd 1 a1 (2,2) rfl rfl
 have hp1 : ph1 = 0 := hmo1.ph
 subst hp1
 subst hmg hcg hmx hT
 conv => cbv
 refine drawn_sound tok (by kernel_rfl) [(14,[18,17,16]),(15,[18,17,16]),(19,[]),(24,[]),(30,[]),(31,[])] [0,1,2,3,4,5,6,7,8,9,10,11,12,13,16,17,18,14,15,19,20,21,22,23,24,25,26,27,28,29,30,31,32,33,34] (drawnOKF_ok (by kernel_rfl)) ?_; conv => cbv
 conv => cbv
 refine Br.yes (show (0 : Int) = 0 from rfl) ?_
 conv => cbv
 refine Br.yes (show (0 : Int) = 0 from rfl) ?_
 conv => cbv
 refine Br.yes (show (2 : Int) = 2 from rfl) ?_
 conv => cbv
 refine Need.mk ⟨by decide,by decide⟩ ?_
 conv => cbv
 refine Cell.at 1 _ rfl rfl rfl ?_
 conv => cbv
 refine cfr (heapS_lx R1 ws1 C1 G1 N W 0 sp1 cy1 L1 D1 Q1 z1 ov1 st as_) [(0,1),(1,2),(2,3),(3,4),(4,5),(5,6),(6,7),(7,8)] (fun r h' n' ⟨e1,e2,e3⟩ => ?_)
 subst e1 e2 e3
 conv => cbv
 refine cfr (arena_lx R1 ws1 C1 G1 N W 0 sp1 cy1 L1 D1 Q1 z1 ov1) [(0,2),(1,3),(2,4),(3,5),(4,6),(5,7),(6,8)] (fun r h' n' ⟨e1,e2,e3⟩ => ?_)
 subst e1 e2 e3
 conv => cbv
 refine cfr (kind_lx R1 ws1 N a1 W L1 D1 h1.l h1.d h1.n h1.r h1.a h1.w) [(0,3),(1,4),(2,5),(3,6)] (fun r h' n' hrr => ?_)
 obtain ⟨v,e1,e2,e3,hv⟩ := hrr
 subst e1 e2 e3
 have hv2 : v = 2 := by
  cases hv with
  | no hno => exact absurd hk1.obj6 hno
  | is _ l hK => exact (hK.det9 hk1).1
 subst hv2
 conv => cbv
 refine Br.yes (show (2 : Int) = 2 from rfl) ?_
 conv => cbv
 refine CallF.le (args0 := [.ptr 1 (.lit 0),.p (.vsl (.sym 0) true [])]) (cfr (collectS_idle R1 ws1 C1 G1 N W 0 sp1 cy1 L1 D1 Q1 z1 ov1 h1 o ho st as_ rfl [] 0 [] rfl rfl (by decide)) [(0,1),(1,2),(2,3),(3,4),(4,5),(5,6),(6,7),(7,8),(8,0)] (fun r h' n' hrr => ?_)) (by simp [ales,ale,pvle,I.val])
 obtain ⟨C3,G3,ov3,Q3,z3,e1,e2,e3,h3,hb3⟩ := hrr
 subst e1 e2 e3
 conv => cbv
 refine cfr (heapS_lx R1 ws1 C3 G3 N W 1 sp1 cy1 L1 D1 Q3 z3 ov3 st as_) [(0,1),(1,2),(2,3),(3,4),(4,5),(5,6),(6,10),(7,8)] (fun r h' n' ⟨e1,e2,e3⟩ => ?_)
 subst e1 e2 e3
 conv => cbv
 refine cfr (phase_lx R1 ws1 C3 G3 N W 1 sp1 cy1 L1 D1 Q3 z3 ov3) [(0,2),(1,3),(2,4),(3,5),(4,6),(5,10),(6,8)] (fun r h' n' ⟨e1,e2,e3⟩ => ?_)
 subst e1 e2 e3
 conv => cbv
 refine Br.yes (show (1 : Int) = 1 from rfl) ?_
 conv => cbv
 refine RetF.mk [.p (.bool true)] [(0,.fix 0 o)] 1 (Re.at [(0,0)] []) rfl ⟨rfl,rfl,rfl⟩
end Go.Proofs.YtcbombkaacjngaaGreatDoor
namespace Go.Proofs.YtcbombkaacjngaaGreatDoor
open Go Go.LX
set_option maxRecDepth 100000
set_option linter.unusedVariables false
set_option linter.unusedSimpArgs false
set_option maxHeartbeats 32000000
structure Sm (s u : Hst) : Prop where
 r : u.R = s.R
 c : u.C = s.C
 g : u.G = s.G
 o : u.ov = s.ov
 p : u.ph = s.ph
 q : u.sp = s.sp
 y : u.cy = s.cy
 w : Sim s.R s.ws u.ws
def RStp (W : Int) (s : Hst) (out : List Gn) (t : Hst) : Prop := RStepd s.R s.ws s.C s.G s.ov s.ph s.sp s.cy W out t.R t.ws t.C t.G t.ov t.ph t.sp t.cy
theorem Sm.stp {W : Int} {s u t v : Hst} {o1 o2 : List Gn} (h : Sm s u) (hsp : 0 ≤ s.sp) (h1 : Stp W s o1 t) (h2 : RStp W u o2 v) : o1 = o2 ∧ Sm t v := by
 unfold RStp at h2
 rw [h.r,h.c,h.g,h.o,h.p,h.q,h.y] at h2
 obtain ⟨e1,e2,e3,e4,e5,e6,e7,e8,e9⟩ := step_sim h.w hsp h1 h2
 exact ⟨e1,e2.symm,e3.symm,e4.symm,e5.symm,e6.symm,e7.symm,e8.symm,e9⟩
inductive ManyL (W : Int) : Hst → Nat → List Gn → Hst → Prop
 | zero (s : Hst) : ManyL W s 0 [] s
 | cons (s t u : Hst) (n : Nat) (o1 o2 : List Gn) (hp : s.ph ≠ 0) (hs : Stp W s o1 t) (hm : ManyL W t n o2 u) : ManyL W s (n + 1) (o1 ++ o2) u
theorem ManyL.snoc {W : Int} {s t u : Hst} {n : Nat} {o o2 : List Gn} (h : ManyL W s n o t) (hp : t.ph ≠ 0) (hs : Stp W t o2 u) : ManyL W s (n + 1) (o ++ o2) u := by
 induction h with
 | zero s =>
  have k := ManyL.cons (W := W) s u u 0 o2 [] hp hs (.zero u)
  rw [List.append_nil] at k
  exact k
 | cons s t1 t n o1 o3 hp1 hs1 hm ih =>
  rw [List.append_assoc]
  exact .cons s t1 u (n + 1) o1 (o3 ++ o2) hp1 hs1 (ih hp hs)
theorem Many.l {W : Int} {s t : Hst} {n : Nat} {o : List Gn} (h : Many W s n o t) : ManyL W s n o t := by
 induction h with
 | zero => exact .zero _
 | succ n out o2 t u hm hp hs ih => exact ih.snoc hp hs
theorem Sm.bgn {W : Int} {s u t v : Hst} {A : List Int} (h : Sm s u) (h1 : Bgn W s A t) (h2 : v.R = u.R ∧ v.ws = u.ws ∧ v.ph = 1 ∧ v.sp = u.sp ∧ v.cy = u.cy ∧ (v.C,v.G,v.ov) = begS u.R W A) : Sm t v := by
 obtain ⟨e1,e2,e3,e4,e5,e6⟩ := h2
 have hb := h1.b
 rw [h.r,← hb] at e6
 exact ⟨by rw [e1,h.r,h1.r],congrArg Prod.fst e6,congrArg (fun x => x.2.1) e6,congrArg (fun x => x.2.2) e6,by rw [e3,h1.p],by rw [e4,h.q,h1.q],by rw [e5,h.y,h1.y],by rw [h1.r,h1.w,e2]; exact h.w⟩
inductive RAlls (s : Hst) : List (Int × Int) → List Int → Hst → Prop
 | nil : RAlls s [] [] s
 | snoc (l : List (Int × Int)) (x : List Int) (t : Hst) (k n a : Int) (R : List Rw) (ws : List Int) (h : RAlls s l x t) (ha : AlloctV t.R t.ws k n a 0 R ws) : RAlls s (l ++ [(k,n)]) (x ++ [a]) ⟨R,ws,allocC t.ph a 0 t.C,t.G,t.ov,t.ph,t.sp,t.cy⟩
theorem Sm.alls {s u t : Hst} {l : List (Int × Int)} {x : List Int} (h : Sm s u) (ha : Alls s l x t) : ∀ {y v},RAlls u l y v → x = y ∧ Sm t v := by
 induction ha with
 | nil =>
  intro y v hr
  generalize hq : ([] : List (Int × Int)) = q at hr
  cases hr with
  | nil => exact ⟨rfl,h⟩
  | snoc _ _ _ _ _ _ _ _ _ _ => simp at hq
 | snoc l x t k n a R ws ha hal ih =>
  intro y v hr
  generalize hq : l ++ [(k,n)] = q at hr
  cases hr with
  | nil => simp at hq
  | snoc l2 x2 t2 k2 n2 a2 R2 ws2 hr2 ha2 =>
   obtain ⟨e1,e2⟩ := List.append_inj' hq rfl
   cases e1
   cases e2
   obtain ⟨e3,hs⟩ := ih hr2
   subst e3
   rw [hs.r] at ha2
   obtain ⟨g1,_,g2,g3,_⟩ := hs.w.alloc hal ha2
   subst g1 g2
   exact ⟨rfl,rfl,by show allocC t2.ph a 0 t2.C = allocC t.ph a 0 t.C; rw [hs.p,hs.c],hs.g,hs.o,hs.p,hs.q,hs.y,g3⟩
theorem Alls.at {s t : Hst} {l : List (Int × Int)} {x : List Int} (h : Alls s l x t) : ∀ {i : Nat} {k n : Int},l[i]? = some (k,n) → ∃ xi ti a R ws,Alls s (l.take i) xi ti ∧ Alloct ti.R ti.ws k n a 0 R ws := by
 induction h with
 | nil => intro i k n hi; simp at hi
 | snoc l x t k0 n0 a R ws h ha ih =>
  intro i k n hi
  by_cases hl : i < l.length
  ·rw [List.getElem?_append_left hl] at hi
   rw [List.take_append_of_le_length (by omega)]
   exact ih hi
  ·have hil := (List.getElem?_eq_some_iff.1 hi).1
   rw [List.length_append] at hil
   have e : i = l.length := by simp at hil; omega
   subst e
   rw [List.getElem?_append_right (Nat.le_refl _),Nat.sub_self] at hi
   cases hi
   rw [List.take_left]
   exact ⟨x,t,a,R,ws,h,ha⟩
theorem RAlls.at {s t : Hst} {l : List (Int × Int)} {x : List Int} (h : RAlls s l x t) : ∀ {i : Nat} {k n : Int},l[i]? = some (k,n) → ∃ xi ti a R ws,RAlls s (l.take i) xi ti ∧ AlloctV ti.R ti.ws k n a 0 R ws := by
 induction h with
 | nil => intro i k n hi; simp at hi
 | snoc l x t k0 n0 a R ws h ha ih =>
  intro i k n hi
  by_cases hl : i < l.length
  ·rw [List.getElem?_append_left hl] at hi
   rw [List.take_append_of_le_length (by omega)]
   exact ih hi
  ·have hil := (List.getElem?_eq_some_iff.1 hi).1
   rw [List.length_append] at hil
   have e : i = l.length := by simp at hil; omega
   subst e
   rw [List.getElem?_append_right (Nat.le_refl _),Nat.sub_self] at hi
   cases hi
   rw [List.take_left]
   exact ⟨x,t,a,R,ws,h,ha⟩
inductive RAllot (s : Hst) (l : List (Int × Int)) : Bool → List Int → Hst → Prop
 | ok (x : List Int) (t : Hst) (h : RAlls s l x t) : RAllot s l true x t
 | no (i : Nat) (k n a e : Int) (x : List Int) (t : Hst) (R R' : List Rw) (ws : List Int) (hi : l[i]? = some (k,n)) (h : RAlls s (l.take i) x t) (ha : AlloctV t.R t.ws k n a e R ws) (he : e ≠ 0) (hb : Backs t.R x 0 R') : RAllot s l false [] ⟨R',t.ws,t.C,t.G,t.ov,t.ph,t.sp,t.cy⟩
theorem sim_err {s u t v : Hst} {l : List (Int × Int)} {x y : List Int} {k n a e a2 e2 : Int} {R R2 : List Rw} {ws ws2 : List Int} (h : Sm s u) (h1 : Alls s l x t) (h2 : RAlls u l y v) (ha : Alloct t.R t.ws k n a e R ws) (hb : AlloctV v.R v.ws k n a2 e2 R2 ws2) : e = e2 := by
 obtain ⟨_,hs⟩ := h.alls h1 h2
 rw [hs.r] at hb
 exact (hs.w.alloc ha hb).2.1
theorem Backs.det {R R1 : List Rw} {ws x : List Int} {i : Nat} (hA : AOk R ws) (h : Backs R x i R1) : AOk R1 ws ∧ ∀ R2,Backs R x i R2 → R1 = R2 := by
 induction h with
 | zero =>
  refine ⟨hA,fun R2 h2 => ?_⟩
  generalize hq : x.length = j at h2
  cases h2 with
  | zero => rfl
  | next i a e R3 R4 h ha hf =>
   rw [← hq] at ha
   rw [List.getElem?_eq_none (Nat.le_refl _)] at ha
   cases ha
 | next i a e R3 R4 h ha hf ih =>
  refine ⟨(ih.1.freet hf).1,fun R2 h2 => ?_⟩
  cases h2 with
  | zero =>
   rw [List.getElem?_eq_none (Nat.le_refl _)] at ha
   cases ha
  | next _ a2 e2 R5 _ h' ha' hf' =>
   rw [ha] at ha'
   cases ha'
   have e := ih.2 _ h'
   subst e
   exact (hf.det ih.1.rows hf').2
theorem Backs.sim {R R1 : List Rw} {ws vs x : List Int} {i : Nat} (hS : Sim R ws vs) (h : Backs R x i R1) : Sim R1 ws vs := by
 induction h with
 | zero => exact hS
 | next i a e R3 R4 h ha hf ih => exact (ih.free hf).1
theorem Sm.allot {s u t v : Hst} {l : List (Int × Int)} {x y : List Int} {b c : Bool} (h : Sm s u) (h1 : Allot s l b x t) (h2 : RAllot u l c y v) : b = c ∧ x = y ∧ Sm t v := by
 cases h1 with
 | ok x t h1 =>
  cases h2 with
  | ok y v h2 =>
   obtain ⟨e,hs⟩ := h.alls h1 h2
   exact ⟨rfl,e,hs⟩
  | no i k n a e y w R R' ws hi h2 ha he hb =>
   exfalso
   obtain ⟨xi,ti,a0,R0,ws0,g1,g2⟩ := h1.at hi
   exact he (sim_err h g1 h2 g2 ha).symm
 | no i k n a e x w R R' ws hi h1 ha he hb =>
  cases h2 with
  | ok y v h2 =>
   exfalso
   obtain ⟨xi,ti,a0,R0,ws0,g1,g2⟩ := h2.at hi
   exact he (sim_err h h1 g1 ha g2)
  | no j k2 n2 a2 e2 y w2 R2 R2' ws2 hj h2 ha2 he2 hb2 =>
   rcases Nat.lt_trichotomy i j with q | q | q
   ·exfalso
    have hi2 : (l.take j)[i]? = some (k,n) := by rw [List.getElem?_take_of_lt q]; exact hi
    obtain ⟨xi,ti,a0,R0,ws0,g1,g2⟩ := h2.at hi2
    rw [List.take_take,Nat.min_eq_left (by omega)] at g1
    exact he (sim_err h h1 g1 ha g2)
   ·subst q
    rw [hi] at hj
    cases hj
    obtain ⟨e3,hs⟩ := h.alls h1 h2
    subst e3
    rw [hs.r] at hb2
    have hd := hb.det hs.w.a
    have e4 := hd.2 _ hb2
    subst e4
    exact ⟨rfl,rfl,rfl,hs.c,hs.g,hs.o,hs.p,hs.q,hs.y,hb.sim hs.w⟩
   ·exfalso
    have hj2 : (l.take i)[j]? = some (k2,n2) := by rw [List.getElem?_take_of_lt q]; exact hj
    obtain ⟨xi,ti,a0,R0,ws0,g1,g2⟩ := h1.at hj2
    rw [List.take_take,Nat.min_eq_left (by omega)] at g1
    exact he2 (sim_err h g1 h2 g2 ha2).symm
end Go.Proofs.YtcbombkaacjngaaGreatDoor
namespace Go.Proofs.YtcbombkaacjngaaGreatDoor
open Go Go.LX
set_option maxRecDepth 100000
set_option linter.unusedVariables false
set_option linter.unusedSimpArgs false
set_option maxHeartbeats 32000000
theorem rIdle_lx (R : List Rw) (vs C G : List Int) (N W ph sp cy : Int) (P B V Q la : List PV) (m : Int) (ov : Bool) (h : RM R vs C G N W P B V Q la m) (st as_ : Int) (s t : Hst) (k : Nat) (out : List Gn) (hsm : Sm s ⟨R,vs,C,G,ov,ph,sp,cy⟩) (hm : ManyL W s k out t) (htp : t.ph = 0) (hg : Good N s) (hk : k ≤ 3000) (hcy : s.cy ≤ 900000000) :
  CallF (fun _ => Tryz.prog) 76 [.ptr 0 (.lit 0)] [(0,.mix [.ptr 1 (.lit 0),i6 N,i6 st,i6 as_]),hpR 1 2 7 3 W 8 ph sp cy,hpB 2 3 6 3 W,hpD 3 4 3 1 N 5 203 8 N,hpP 4 P,hpP 5 B,hpP 6 V,hpP 7 Q,(8,.mix [.p (.vsl (.sym m) true la),.p (.bool ov)])] 9 (fun r h n => ∃ (mg : Int) (cells : List PV) (ph2 sp2 cy2 : Int) (R2 : List Rw) (vs2 C2 G2 : List Int) (ov2 : Bool) (P2 B2 V2 Q2 la2 : List PV) (m2 : Int),r = .sl 9 40 4 (.lit 0) (.sym mg) ∧ h = [(0,.mix [.ptr 1 (.lit 0),i6 N,i6 st,i6 as_]),hpR 1 2 7 3 W 8 ph2 sp2 cy2,hpB 2 3 6 3 W,hpD 3 4 3 1 N 5 203 8 N,hpP 4 P2,hpP 5 B2,hpP 6 V2,hpP 7 Q2,(8,.mix [.p (.vsl (.sym m2) true la2),.p (.bool ov2)]),hpP 9 cells] ∧ n = 10 ∧ RM R2 vs2 C2 G2 N W P2 B2 V2 Q2 la2 m2 ∧ cells = gpv out ∧ mg = out.length ∧ Sm t ⟨R2,vs2,C2,G2,ov2,ph2,sp2,cy2⟩ ∧ Good N t) := by
 have hW : W = 32 * N := h.w
 refine callF_of_body tok Tryz.func76 (by kernel_rfl) rfl rfl rfl ?_; conv => cbv
 refine LoopF.mk (fun kk sx => ∃ (mg : Int) (cells : List PV) (s2 : Hst) (k2 : Nat) (acc rest : List Gn) (ph2 sp2 cy2 : Int) (R2 : List Rw) (vs2 C2 G2 : List Int) (ov2 : Bool) (P2 B2 V2 Q2 la2 : List PV) (m2 : Int),sx = ⟨.ptr 0 (.lit 0) :: (undefs 1 ++ .p .nils :: .sl 9 40 4 (.lit 0) (.sym mg) :: undefs 16),[(0,.mix [.ptr 1 (.lit 0),i6 N,i6 st,i6 as_]),hpR 1 2 7 3 W 8 ph2 sp2 cy2,hpB 2 3 6 3 W,hpD 3 4 3 1 N 5 203 8 N,hpP 4 P2,hpP 5 B2,hpP 6 V2,hpP 7 Q2,(8,.mix [.p (.vsl (.sym m2) true la2),.p (.bool ov2)]),hpP 9 cells],10⟩ ∧ RM R2 vs2 C2 G2 N W P2 B2 V2 Q2 la2 m2 ∧ Sm s2 ⟨R2,vs2,C2,G2,ov2,ph2,sp2,cy2⟩ ∧ ManyL W s2 k2 rest t ∧ Good N s2 ∧ out = acc ++ rest ∧ cells = gpv acc ∧ mg = acc.length ∧ acc.length + 32 * k2 ≤ 96000 ∧ s2.cy + k2 ≤ 900003000 ∧ kk = k2) k _
  (Re.at [(0,0),(1,1),(2,2),(3,3),(4,4),(5,5),(6,6),(7,7),(8,8)] [9]) ⟨0,[],s,k,[],out,ph,sp,cy,R,vs,C,G,ov,P,B,V,Q,la,m,rfl,h,hsm,hm,hg,rfl,rfl,rfl,by show 0 + 32 * k ≤ 96000; omega,by omega,rfl⟩ ?_
 rintro kk sx ⟨mg,cells,s2,k2,acc,rest,ph2,sp2,cy2,R2,vs2,C2,G2,ov2,P2,B2,V2,Q2,la2,m2,rfl,h2,hs2,hm2,hg2,hout,hcs,hmg,hlen,hcyk,hkk⟩
 have e1 : ph2 = s2.ph := hs2.p
 have e2 : sp2 = s2.sp := hs2.q
 have e3 : cy2 = s2.cy := hs2.y
 have hsp := hg2.p
 have hy0 := hg2.y
 have hNb := hg2.n2
 conv => cbv
 refine Br.mk (fun q => ?_) (fun q => ?_)
 case refine_2 =>
  have q : ph2 = 0 := Classical.byContradiction q
  cases hm2 with
  | cons s2 s3 t k3 o1 o2 hp hs hm3 => exact absurd (by rw [← e1]; exact q) hp
  | zero s2 =>
   rw [List.append_nil] at hout
   subst hout
   conv => cbv
   refine RetF.mk [.sl 9 40 4 (.lit 0) (.sym mg)] [(0,.mix [.ptr 1 (.lit 0),i6 N,i6 st,i6 as_]),hpR 1 2 7 3 W 8 ph2 sp2 cy2,hpB 2 3 6 3 W,hpD 3 4 3 1 N 5 203 8 N,hpP 4 P2,hpP 5 B2,hpP 6 V2,hpP 7 Q2,(8,.mix [.p (.vsl (.sym m2) true la2),.p (.bool ov2)]),hpP 9 cells] 10 (Re.at [(0,0),(1,1),(2,2),(3,3),(4,4),(5,5),(6,6),(7,7),(8,8),(9,9)] []) rfl ⟨mg,cells,ph2,sp2,cy2,R2,vs2,C2,G2,ov2,P2,B2,V2,Q2,la2,m2,rfl,rfl,rfl,h2,hcs,hmg,hs2,hg2⟩
 have q : ¬ ph2 = 0 := q
 cases hm2 with
 | zero s2 => exact absurd (by rw [e1]; exact htp) q
 | cons s2 s3 t k3 o1 o2 hp hs hm3 =>
  conv => cbv
  refine cfr (rstep_lx R2 vs2 C2 G2 N W ph2 sp2 cy2 P2 B2 V2 Q2 la2 m2 ov2 h2 ⟨by omega,by omega⟩ ⟨by omega,by omega⟩) [(0,1),(1,2),(2,3),(3,4),(4,5),(5,6),(6,7),(7,8)] (fun r h' n' hrr => ?_)
  obtain ⟨o3,kx,ph3,sp3,cy3,R3,vs3,C3,G3,ov3,cells',P3,B3,V3,Q3,la3,m3,e4,e5,e6,h3,hcs3,hkx,hst⟩ := hrr
  subst e4 e5 e6
  obtain ⟨eo,hs3⟩ := Sm.stp (v := ⟨R3,vs3,C3,G3,ov3,ph3,sp3,cy3⟩) hs2 hsp.1 hs hst
  subst eo
  obtain ⟨g1,g2,g3,g4⟩ := hg2.step hW hp hs
  have hcy9 : s3.cy + ((k3 : Nat) : Int) ≤ 900003000 := by
   have h9 : s2.cy + ((k3 + 1 : Nat) : Int) ≤ 900003000 := hcyk
   omega
  have hcl2 : cells'.length = 4 * o1.length := by rw [hcs3,gpv_length]
  have hcl1 : cells.length = 4 * acc.length := by rw [hcs,gpv_length]
  conv => cbv
  refine Need.mk (by show (cells'.length : Int) = kx * 4; omega) ?_
  conv => cbv
  refine Room.new ⟨by show (cells.length : Int) = mg * 4; omega,by show (mg + kx) * 48 ≤ 140737488355328; omega,by show mg + kx ≤ 9223372036854775807; omega⟩ ?_
  conv => cbv
  refine Upd.mk fun c2 hc2 => ?_
  have hc2 : c2 = gpv (acc ++ o1) := by rw [show c2 = cells ++ cells' from hc2,hcs,hcs3,gpv_app]
  conv => cbv
  refine Sum.mk fun mg2 hm4 => ?_
  have hm4 : mg2 = ((acc ++ o1).length : Int) := by rw [show mg2 = mg + kx from hm4,hmg,hkx,List.length_append]; rfl
  conv => cbv
  refine Again.mk k3 _ (by omega) (Re.at [(0,0),(1,1),(2,2),(3,3),(4,4),(5,5),(6,6),(7,7),(8,8),(10,9)] []) ⟨mg2,c2,s3,k3,acc ++ o1,o2,ph3,sp3,cy3,R3,vs3,C3,G3,ov3,P3,B3,V3,Q3,la3,m3,rfl,h3,hs3,hm3,g1,by rw [hout,List.append_assoc],hc2,hm4,by rw [List.length_append]; omega,hcy9,rfl⟩
end Go.Proofs.YtcbombkaacjngaaGreatDoor
namespace Go.Proofs.YtcbombkaacjngaaGreatDoor
open Go Go.LX
set_option maxRecDepth 100000
set_option linter.unusedVariables false
set_option linter.unusedSimpArgs false
set_option maxHeartbeats 32000000
theorem gpv_cellsW (l : List Gn) : ∀ (i : Nat) (g : Gn),l[i]? = some g → (gpv l)[4 * i]? = some (.int .i64 (.sym g.1)) ∧ (gpv l)[4 * i + 1]? = some (.int .i64 (.sym g.2.1)) ∧ (gpv l)[4 * i + 2]? = some (.vsl (.sym (g.2.2.1.length : Int)) true (ipv g.2.2.1)) ∧ (gpv l)[4 * i + 3]? = some (.bool g.2.2.2) := by
 induction l with
 | nil => intro i g h; simp at h
 | cons x l ih =>
  intro i g h
  cases i with
  | zero => simp at h; subst h; exact ⟨rfl,rfl,rfl,rfl⟩
  | succ i =>
   have h2 := ih i g (by simpa using h)
   rw [show 4 * (i + 1) = (4 * i) + 4 by omega]
   exact h2
theorem keptOfW_take {out : List Gn} {j : Nat} {g : Gn} (h : out[j]? = some g) : keptOf (out.take (j + 1)) = keptOf (out.take j) ++ (if g.2.2.2 = true then [g.2.1] else []) := by
 unfold keptOf
 rw [List.take_add_one,h,List.filter_append,List.map_append]
 congr 1
 cases hb : g.2.2.2 <;> simp [hb]
theorem withKept_lx (A : List Int) (j : Int) (ca : List PV) (hca : ca = ipv A) (hj : j = A.length) (hAl : A.length ≤ 100000) (out : List Gn) (k : Int) (cells : List PV) (hk : k = out.length) (hcs : cells = gpv out) (hl : out.length ≤ 1000000) : CallF (fun _ => Tryz.prog) 77 [.p (.vsl (.sym j) true ca),.p (.vsl (.sym k) true cells)] [] 0 (fun r h n => ∃ (m : Int) (T : List PV),r = .sl 0 3 1 (.lit 0) (.sym m) ∧ h = [hpP 0 T] ∧ n = 1 ∧ T = ipv (A ++ keptOf out) ∧ m = (A ++ keptOf out).length) := by
 have hcl : cells.length = 4 * out.length := by rw [hcs,gpv_length]
 have hcal : ca.length = A.length := by rw [hca,ipv_length]
 refine callF_of_body tok Tryz.func77 (by kernel_rfl) rfl rfl rfl ?_; conv => cbv
 refine Need.mk (by show (ca.length : Int) = j * 1; omega) ?_
 conv => cbv
 refine Need.mk ⟨by show j * 8 ≤ 140737488355328; omega,by show j ≤ 9223372036854775807; omega⟩ ?_
 conv => cbv
 refine LoopF.mk (fun kk s => ∃ (i m : Int) (T : List PV),s = ⟨.undef :: .p (.vsl (.sym k) true cells) :: (undefs 2 ++ .p .nils :: .sl 0 3 1 (.lit 0) (.sym m) :: .p (.int .i64 (.sym i)) :: undefs 22),[hpP 0 T],1⟩ ∧ 0 ≤ i ∧ i ≤ k ∧ T = ipv (A ++ keptOf (out.take i.toNat)) ∧ m = (A ++ keptOf (out.take i.toNat)).length ∧ kk = (k - i).toNat) k.toNat _
  (Re.at [(0,0)] []) ⟨0,j,ca,rfl,by omega,by omega,by rw [hca]; show ipv A = ipv (A ++ keptOf []); rw [show A ++ keptOf [] = A from List.append_nil _],by rw [hj]; show ((A.length : Nat) : Int) = ((A ++ keptOf []).length : Nat); rw [show A ++ keptOf [] = A from List.append_nil _],by omega⟩ ?_
 rintro kk s ⟨i,m,T,rfl,hi0,hi1,hT,hm,hkk⟩
 have hTl : T.length = (A ++ keptOf (out.take i.toNat)).length := by rw [hT,ipv_length]
 have hkl : (A ++ keptOf (out.take i.toNat)).length ≤ 1100000 := by
  have h1 := gone_kept (out.take i.toNat)
  rw [List.length_take] at h1
  rw [List.length_append]
  omega
 conv => cbv
 refine Br.mk (fun q => ?_) (fun q => ?_)
 case refine_2 =>
  have q : ¬ i < k := q
  rw [List.take_of_length_le (by omega : out.length ≤ i.toNat)] at hT hm
  conv => cbv
  refine RetF.mk [.sl 0 3 1 (.lit 0) (.sym m)] [hpP 0 T] 1 (Re.at [(0,0)] []) rfl ⟨m,T,rfl,rfl,rfl,hT,hm⟩
 have q : i < k := q
 obtain ⟨⟨g1,g2,g3,g4⟩,hg⟩ : ∃ p,out[i.toNat]? = some p := ⟨_,List.getElem?_eq_getElem (by omega)⟩
 have hcc := gpv_cellsW out i.toNat _ hg
 rw [← hcs] at hcc
 dsimp only at hcc
 have htk := keptOfW_take hg
 dsimp only at htk
 conv => cbv
 refine Need.mk ⟨hi0,q⟩ ?_
 conv => cbv
 refine Sum.mk fun w hw => ?_
 have hw : w = i * 4 := hw
 conv => cbv
 refine Sum.mk fun y hy => ?_
 have hy : y = w + 3 := hy
 conv => cbv
 refine Cell.at y _ hcc.2.2.2 (by simp [I.val]) (by omega) ?_
 cases g4 with
 | false =>
  rw [if_neg (by decide),List.append_nil] at htk
  conv => cbv
  refine Fit.mk (by show (-9223372036854775808 : Int) ≤ i + 1; omega) (by show i + 1 ≤ 9223372036854775807; omega) fun i2 hi2 => ?_
  have hi2 : i2 = i + 1 := hi2
  conv => cbv
  refine Again.mk (k - i2).toNat _ (by omega) (Re.at [(0,0)] []) ⟨i2,m,T,rfl,by omega,by omega,by rw [show i2.toNat = i.toNat + 1 by omega,htk]; exact hT,by rw [show i2.toNat = i.toNat + 1 by omega,htk]; exact hm,rfl⟩
 | true =>
  rw [if_pos rfl] at htk
  conv => cbv
  refine Need.mk ⟨hi0,q⟩ ?_
  conv => cbv
  refine Sum.mk fun w2 hw2 => ?_
  have hw2 : w2 = i * 4 := hw2
  conv => cbv
  refine Sum.mk fun y2 hy2 => ?_
  have hy2 : y2 = w2 + 1 := hy2
  conv => cbv
  refine Cell.at y2 _ hcc.2.1 (by simp [I.val]) (by omega) ?_
  conv => cbv
  refine Room.new rfl ?_
  conv => cbv
  refine Room.new ⟨by show (T.length : Int) = m * 1; omega,by show (m + 1) * 8 ≤ 140737488355328; omega,by show m + 1 ≤ 9223372036854775807; omega⟩ ?_
  conv => cbv
  refine Upd.mk fun T2 hT2 => ?_
  have hT2 : T2 = ipv (A ++ keptOf (out.take (i.toNat + 1))) := by rw [show T2 = T ++ [.int .i64 (.sym g2)] from hT2,htk,← List.append_assoc,← ipv_app,← hT]; rfl
  conv => cbv
  refine Sum.mk fun m2 hm2 => ?_
  have hm2 : m2 = (A ++ keptOf (out.take (i.toNat + 1))).length := by rw [show m2 = m + 1 from hm2,hm,htk,← List.append_assoc,List.length_append (bs := [g2])]; rfl
  conv => cbv
  refine Fit.mk (by show (-9223372036854775808 : Int) ≤ i + 1; omega) (by show i + 1 ≤ 9223372036854775807; omega) fun i2 hi2 => ?_
  have hi2 : i2 = i + 1 := hi2
  conv => cbv
  refine Again.mk (k - i2).toNat _ (by omega) (Re.at [(2,0)] []) ⟨i2,m2,T2,rfl,by omega,by omega,by rw [show i2.toNat = i.toNat + 1 by omega]; exact hT2,by rw [show i2.toNat = i.toNat + 1 by omega]; exact hm2,rfl⟩
end Go.Proofs.YtcbombkaacjngaaGreatDoor
namespace Go.Proofs.YtcbombkaacjngaaGreatDoor
open Go Go.LX
set_option maxRecDepth 100000
set_option linter.unusedVariables false
set_option linter.unusedSimpArgs false
set_option maxHeartbeats 32000000
theorem mod21_lx (a m : Int) (h0 : 1 ≤ m) (h1 : m ≤ 1000000) : CallF (fun _ => Tryz.prog) 50 [i6 a,i6 m] [] 0 (fun r h n => (∃ v : Int,r = .p (.int .i64 (.sym v)) ∧ 0 ≤ v ∧ v < m) ∧ h = [] ∧ n = 0) := by
 refine callF_of_body tok Tryz.func50 (by kernel_rfl) rfl rfl rfl ?_; conv => cbv
 refine Fit.wrap fun xn hxn => ?_
 have hyn : 0 ≤ xn := by rw [show xn = IntKind.u64.wrap a from hxn]; simp [IntKind.wrap,IntKind.bits,IntKind.signed]; omega
 clear hxn
 conv => cbv
 refine Fit.mk (by show (0 : Int) ≤ m; omega) (by show m ≤ 18446744073709551615; omega) fun m2 hm2 => ?_
 have hm2 : m2 = m := hm2
 conv => cbv
 refine Need.mk (by show ¬ m2 = 0; omega) ?_
 conv => cbv
 refine Sum.mk fun t ht => ?_
 have ht : t = xn % m := by rw [show t = xn.tmod m2 from ht,hm2]; exact Int.tmod_eq_emod_of_nonneg hyn
 have ht0 := Int.emod_nonneg xn (show m ≠ 0 by omega)
 have ht1 := Int.emod_lt_of_pos xn (show 0 < m by omega)
 conv => cbv
 refine Fit.mk (by show (-9223372036854775808 : Int) ≤ t; omega) (by show t ≤ 9223372036854775807; omega) fun u hu => ?_
 have hu : u = t := hu
 conv => cbv
 refine RetF.mk [i6 u] [] 0 (Re.at [] []) rfl ⟨⟨u,rfl,by omega,by omega⟩,rfl,rfl⟩
theorem config21_lx (x y z : Int) : CallF (fun _ => Tryz.prog) 7 [.agg [i6 x,i6 y,i6 z]] [] 0 (fun r h n => (∃ c0 c1 c2 : Int,r = .agg [i6 c0,i6 c1,i6 c2] ∧ 2 ≤ c0 ∧ c0 ≤ 13 ∧ 1 ≤ c1 ∧ c1 ≤ 100 ∧ 0 ≤ c2 ∧ c2 ≤ 8) ∧ h = [] ∧ n = 0) := by
 refine callF_of_body tok Tryz.func7 (by kernel_rfl) rfl rfl rfl ?_; conv => cbv
 refine drawn_sound tok (by kernel_rfl) [(2,[9,8,5,4]),(6,[3,9,8]),(10,[7,3]),(12,[])] [0,1,4,5,8,9,2,3,6,7,10,11,12] (by kernel_rfl) ?_; conv => cbv
 conv => cbv
 refine CallF.le (args0 := [i6 x,i6 12]) (cfr (mod21_lx x 12 (by decide) (by decide)) [] (fun r h' n' hrr => ?_)) (by simp [ales,ale,pvle,I.val])
 obtain ⟨⟨rx,e1,gx0,gx1⟩,e2,e3⟩ := hrr
 subst e1 e2 e3
 conv => cbv
 refine Fit.mk (by show (-9223372036854775808 : Int) ≤ 2 + rx; omega) (by show 2 + rx ≤ 9223372036854775807; omega) fun cx hcx => ?_
 have hcx : cx = 2 + rx := hcx
 conv => cbv
 refine CallF.le (args0 := [i6 y,i6 100]) (cfr (mod21_lx y 100 (by decide) (by decide)) [] (fun r h' n' hrr => ?_)) (by simp [ales,ale,pvle,I.val])
 obtain ⟨⟨ry,e1,gy0,gy1⟩,e2,e3⟩ := hrr
 subst e1 e2 e3
 conv => cbv
 refine Fit.mk (by show (-9223372036854775808 : Int) ≤ 1 + ry; omega) (by show 1 + ry ≤ 9223372036854775807; omega) fun cy hcy => ?_
 have hcy : cy = 1 + ry := hcy
 conv => cbv
 refine CallF.le (args0 := [i6 z,i6 9]) (cfr (mod21_lx z 9 (by decide) (by decide)) [] (fun r h' n' hrr => ?_)) (by simp [ales,ale,pvle,I.val])
 obtain ⟨⟨rz,e1,gz0,gz1⟩,e2,e3⟩ := hrr
 subst e1 e2 e3
 conv => cbv
 refine RetF.mk [.agg [i6 cx,i6 cy,i6 rz]] [] 0 (Re.at [] []) rfl ⟨⟨cx,cy,rz,rfl,by omega,by omega,by omega,by omega,by omega,by omega⟩,rfl,rfl⟩
end Go.Proofs.YtcbombkaacjngaaGreatDoor
namespace Go.Proofs.YtcbombkaacjngaaGreatDoor
open Go Go.LX
set_option maxRecDepth 100000
set_option linter.unusedVariables false
set_option linter.unusedSimpArgs false
set_option maxHeartbeats 32000000
theorem rFieldsAny_lx (k : Int) (hk2 : k ≠ 2) : CallF (fun _ => Tryz.prog) 147 [i6 k] [] 0 (fun r h n => (∃ (v : Int) (l : List PV),r = .p (.vsl (.sym v) true l) ∧ v = needW k) ∧ h = [] ∧ n = 0) := by
 refine callF_of_body tok Tryz.func147 (by kernel_rfl) rfl rfl rfl ?_; conv => cbv
 refine Br.mk (fun g1 => ?_) (fun g1 => ?_)
 ·have g1 : k = 1 := g1
  conv => cbv
  refine RetF.mk [.p (.vsl (.sym 9) true [.str fun _ => ⟨#[99,97,112]⟩,.str fun _ => ⟨#[99,108,111,115,101,100]⟩,.str fun _ => ⟨#[99,111,117,110,116]⟩,.str fun _ => ⟨#[115,116,97,114,116]⟩,.str fun _ => ⟨#[98,117,102]⟩,.str fun _ => ⟨#[116,97,107,101,104,101,97,100]⟩,.str fun _ => ⟨#[116,97,107,101,116,97,105,108]⟩,.str fun _ => ⟨#[115,101,110,100,104,101,97,100]⟩,.str fun _ => ⟨#[115,101,110,100,116,97,105,108]⟩])] [] 0 (Re.at [] []) rfl ⟨⟨_,_,rfl,by rw [g1]; rfl⟩,rfl,rfl⟩
 have g1 : ¬ k = 1 := g1
 conv => cbv
 refine Br.mk (fun g3 => ?_) (fun g3 => ?_)
 ·have g3 : k = 3 := g3
  conv => cbv
  refine RetF.mk [.p (.vsl (.sym 7) true [.str fun _ => ⟨#[103,111,114]⟩,.str fun _ => ⟨#[99,104,97,110]⟩,.str fun _ => ⟨#[118,97,108,117,101]⟩,.str fun _ => ⟨#[110,101,120,116]⟩,.str fun _ => ⟨#[116,111]⟩,.str fun _ => ⟨#[114,101,103]⟩,.str fun _ => ⟨#[109,111,114,101]⟩])] [] 0 (Re.at [] []) rfl ⟨⟨_,_,rfl,by rw [g3]; rfl⟩,rfl,rfl⟩
 have g3 : ¬ k = 3 := g3
 conv => cbv
 refine Br.mk (fun g4 => ?_) (fun g4 => ?_)
 ·have g4 : k = 4 := g4
  conv => cbv
  refine RetF.mk [.p (.vsl (.sym 10) true [.str fun _ => ⟨#[105,100]⟩,.str fun _ => ⟨#[115,116,97,116,117,115]⟩,.str fun _ => ⟨#[112,99]⟩,.str fun _ => ⟨#[97]⟩,.str fun _ => ⟨#[98]⟩,.str fun _ => ⟨#[99]⟩,.str fun _ => ⟨#[100]⟩,.str fun _ => ⟨#[101]⟩,.str fun _ => ⟨#[102]⟩,.str fun _ => ⟨#[115,117,100,111,103,115]⟩])] [] 0 (Re.at [] []) rfl ⟨⟨_,_,rfl,by rw [g4]; rfl⟩,rfl,rfl⟩
 have g4 : ¬ k = 4 := g4
 conv => cbv
 refine Br.mk (fun g5 => ?_) (fun g5 => ?_)
 ·have g5 : k = 5 := g5
  conv => cbv
  refine RetF.mk [.p (.vsl (.sym 2) true [.str fun _ => ⟨#[118,97,108,117,101]⟩,.str fun _ => ⟨#[102,105,110,97,108]⟩])] [] 0 (Re.at [] []) rfl ⟨⟨_,_,rfl,by rw [g5]; rfl⟩,rfl,rfl⟩
 have g5 : ¬ k = 5 := g5
 conv => cbv
 refine Br.mk (fun g6 => ?_) (fun g6 => ?_)
 ·have g6 : k = 6 := g6
  conv => cbv
  refine RetF.mk [.p (.vsl (.sym 2) true [.str fun _ => ⟨#[119,104,101,110]⟩,.str fun _ => ⟨#[99,104,97,110]⟩])] [] 0 (Re.at [] []) rfl ⟨⟨_,_,rfl,by rw [g6]; rfl⟩,rfl,rfl⟩
 have g6 : ¬ k = 6 := g6
 conv => cbv
 refine RetF.mk [.p (.vsl (.sym 0) true [])] [] 0 (Re.at [] []) rfl ⟨⟨_,_,rfl,by unfold needW; rw [if_neg g1,if_neg g3,if_neg g4,if_neg g5,if_neg g6]⟩,rfl,rfl⟩
theorem rNeedAny_lx (k m : Int) : CallF (fun _ => Tryz.prog) 71 [i6 k,i6 m] [] 0 (fun r h n => (∃ (v : Int) (b : Bool),r = .tup [i6 v,.p (.bool b)] ∧ NeedR k m v b) ∧ h = [] ∧ n = 0) := by
 refine callF_of_body tok Tryz.func71 (by kernel_rfl) rfl rfl rfl ?_; conv => cbv
 refine Br.mk (fun g => ?_) (fun g => ?_)
 ·have g : k = 2 := g
  conv => cbv
  refine Br.mk (fun g2 => ?_) (fun g2 => ?_)
  ·have g2 : m < 0 := g2
   conv => cbv
   refine RetF.mk [i6 0,.p (.bool false)] [] 0 (Re.at [] []) rfl ⟨⟨0,false,rfl,.inl ⟨g,.inr ⟨by omega,rfl,rfl⟩⟩⟩,rfl,rfl⟩
  have g2 : ¬ m < 0 := g2
  conv => cbv
  refine Br.mk (fun g3 => ?_) (fun g3 => ?_)
  ·have g3 : 3 < m := g3
   conv => cbv
   refine RetF.mk [i6 0,.p (.bool false)] [] 0 (Re.at [] []) rfl ⟨⟨0,false,rfl,.inl ⟨g,.inr ⟨by omega,rfl,rfl⟩⟩⟩,rfl,rfl⟩
  have g3 : ¬ 3 < m := g3
  conv => cbv
  refine RetF.mk [i6 m,.p (.bool true)] [] 0 (Re.at [] []) rfl ⟨⟨m,true,rfl,.inl ⟨g,.inl ⟨by omega,by omega,rfl,rfl⟩⟩⟩,rfl,rfl⟩
 have g : ¬ k = 2 := g
 conv => cbv
 refine callF_frame (rFieldsAny_lx k g) [] rfl trivial rfl rfl (fun r h' n' hrr => ?_)
 obtain ⟨⟨v,l,e1,hv⟩,e2,e3⟩ := hrr
 subst e1 e2 e3
 conv => cbv
 refine Br.mk (fun g2 => ?_) (fun g2 => ?_)
 ·have g2 : 0 < v := g2
  conv => cbv
  refine RetF.mk [i6 v,.p (.bool true)] [] 0 (Re.at [] []) rfl ⟨⟨v,true,rfl,.inr ⟨g,hv,⟨fun _ => g2,fun _ => rfl⟩⟩⟩,rfl,rfl⟩
 ·have g2 : ¬ 0 < v := g2
  conv => cbv
  refine RetF.mk [i6 v,.p (.bool false)] [] 0 (Re.at [] []) rfl ⟨⟨v,false,rfl,.inr ⟨g,hv,⟨fun q => (by cases q),fun q => absurd q g2⟩⟩⟩,rfl,rfl⟩
end Go.Proofs.YtcbombkaacjngaaGreatDoor
namespace Go.Proofs.YtcbombkaacjngaaGreatDoor
open Go Go.LX
set_option maxRecDepth 100000
set_option linter.unusedVariables false
set_option linter.unusedSimpArgs false
set_option maxHeartbeats 32000000
theorem classOf21_lx (n : Int) : CallF (fun _ => Tryz.prog) 72 [i6 n] [] 0 (fun r h m => ∃ (c : Int) (b : Bool),r = .tup [i6 c,.p (.bool b)] ∧ h = [] ∧ m = 0 ∧ OfR n c b) := by
 refine callF_of_body tok Tryz.func72 (by kernel_rfl) rfl rfl rfl ?_; conv => cbv
 refine LoopF.mk (fun k s => ∃ c : Int,s = ⟨.p (.int .i64 (.sym n)) :: (undefs 3 ++ .p (.int .i64 (.sym c)) :: undefs 13),[],0⟩ ∧ 0 ≤ c ∧ c ≤ 4 ∧ (1 ≤ c → 4 ≤ n) ∧ (2 ≤ c → 8 ≤ n) ∧ (3 ≤ c → 16 ≤ n) ∧ (4 ≤ c → 32 ≤ n) ∧ k = (4 - c).toNat) 4 _
  (Re.at [] []) ⟨0,rfl,by omega,by omega,by omega,by omega,by omega,by omega,by omega⟩ ?_
 rintro k s ⟨c,rfl,h0,h4,q1,q2,q3,q4,hk⟩
 conv => cbv
 refine Br.mk (fun g => ?_) (fun g => ?_)
 case refine_2 =>
  have g : ¬ c < 4 := g
  have q : OfR n 0 false := .no (by omega)
  conv => cbv
  refine RetF.mk [i6 0,.p (.bool false)] [] 0 (Re.at [] []) rfl ⟨0,false,rfl,rfl,rfl,q⟩
 have g : c < 4 := g
 conv => cbv
 refine Br.mk (fun g2 => ?_) (fun g2 => ?_)
 case refine_2 =>
  have g2 : ¬ 0 ≤ n := g2
  have q : OfR n 0 false := .no (by omega)
  conv => cbv
  refine RetF.mk [i6 0,.p (.bool false)] [] 0 (Re.at [] []) rfl ⟨0,false,rfl,rfl,rfl,q⟩
 have g2 : 0 ≤ n := g2
 obtain ⟨k',rfl⟩ : ∃ k',k = k' + 1 := ⟨k - 1,by omega⟩
 obtain ⟨w,hw⟩ : ∃ w,w = wordsOf c := ⟨_,rfl⟩
 have hw4 : c = 0 ∧ w = 4 ∨ c = 1 ∧ w = 8 ∨ c = 2 ∧ w = 16 ∨ c = 3 ∧ w = 32 := by
  have : c = 0 ∨ c = 1 ∨ c = 2 ∨ c = 3 := by omega
  rcases this with e | e | e | e <;> (rw [e] at hw; rw [hw,e]; decide)
 conv => cbv
 refine callF_frame (refWordsA_lx c w hw) [] rfl trivial rfl rfl (fun r h' n' ⟨e1,e2,e3⟩ => ?_)
 subst e1 e2 e3
 conv => cbv
 refine Br.mk (fun g3 => ?_) (fun g3 => ?_)
 ·have g3 : n < w := g3
  have hc : c = ofN n := by
   unfold ofN
   rcases hw4 with ⟨e1,e2⟩ | ⟨e1,e2⟩ | ⟨e1,e2⟩ | ⟨e1,e2⟩
   ·rw [if_pos (by omega)]; exact e1
   ·rw [if_neg (by omega),if_pos (by omega)]; exact e1
   ·rw [if_neg (by omega),if_neg (by omega),if_pos (by omega)]; exact e1
   ·rw [if_neg (by omega),if_neg (by omega),if_neg (by omega)]; exact e1
  have qq : OfR n c true := .yes c hc (by omega)
  conv => cbv
  refine RetF.mk [i6 c,.p (.bool true)] [] 0 (Re.at [] []) rfl ⟨c,true,rfl,rfl,rfl,qq⟩
 ·have g3 : ¬ n < w := g3
  conv => cbv
  refine Fit.mk (by show (-9223372036854775808 : Int) ≤ c + 1; omega) (by show c + 1 ≤ 9223372036854775807; omega) fun c2 hc2 => ?_
  have hc2 : c2 = c + 1 := hc2
  conv => cbv
  refine Again.mk k' _ (Nat.lt_succ_self _) (Re.at [] []) ⟨c2,rfl,by omega,by omega,by omega,by omega,by omega,by omega,by omega⟩
theorem need_v {k m v v' : Int} (h : NeedR k m v true) (h' : NeedR k m v' true) : v = v' := by
 rcases h with ⟨q,⟨_,_,e,_⟩ | ⟨_,_,e⟩⟩ | ⟨q,e,_⟩
 ·rcases h' with ⟨_,⟨_,_,e',_⟩ | ⟨_,_,e'⟩⟩ | ⟨q2,_⟩
  ·rw [e,e']
  ·cases e'
  ·exact absurd q q2
 ·cases e
 ·rcases h' with ⟨q2,_⟩ | ⟨_,e',_⟩
  ·exact absurd q2 q
  ·rw [e,e']
end Go.Proofs.YtcbombkaacjngaaGreatDoor
namespace Go.Proofs.YtcbombkaacjngaaGreatDoor
open Go Go.LX
set_option maxRecDepth 100000
set_option linter.unusedVariables false
set_option linter.unusedSimpArgs false
set_option maxHeartbeats 32000000
theorem need_detB {k m v v' : Int} {b b' : Bool} (h : NeedR k m v b) (h' : NeedR k m v' b') : b = b' := by
 rcases h with ⟨q,⟨_,_,_,e⟩ | ⟨q2,_,e⟩⟩ | ⟨q,e,e2⟩
 ·rcases h' with ⟨_,⟨_,_,_,e'⟩ | ⟨q3,_,e'⟩⟩ | ⟨q3,_⟩
  ·rw [e,e']
  ·exact absurd ⟨by assumption,by assumption⟩ q3
  ·exact absurd q q3
 ·rcases h' with ⟨_,⟨_,_,_,e'⟩ | ⟨q3,_,e'⟩⟩ | ⟨q3,_⟩
  ·exact absurd ⟨by assumption,by assumption⟩ q2
  ·rw [e,e']
  ·exact absurd q q3
 ·rcases h' with ⟨q3,_⟩ | ⟨_,e',e2'⟩
  ·exact absurd q3 q
  ·have hvv : v' = v := e'.trans e.symm
   subst hvv
   exact Bool.eq_iff_iff.2 (e2.trans e2'.symm)
theorem alloctV_no {R R' : List Rw} {ws ws' : List Int} {k n a e : Int} (h : AlloctV R ws k n a e R' ws') (he : e ≠ 0) : R' = R ∧ ws' = ws := by
 cases h with
 | arg _ => exact ⟨rfl,rfl⟩
 | room i s _ _ ha => cases ha with
  | no _ => exact ⟨rfl,rfl⟩
  | full _ _ _ => exact ⟨rfl,rfl⟩
 | ok _ _ _ _ _ _ _ => exact absurd rfl he
theorem rAll_lx (R : List Rw) (vs C G : List Int) (N W ph sp cy : Int) (P B V Q la : List PV) (m : Int) (ov : Bool) (h : RM R vs C G N W P B V Q la m) (st as_ : Int) (l : List (Int × Int)) (X : List Int) (k : Int) (cells : List PV) (hk : k = l.length) (hcs : cells = twosP l) (hX : Sz l X) (hl : l.length ≤ 100000) :
  CallF (fun _ => Tryz.prog) 75 [.ptr 0 (.lit 0),.p (.vsl (.sym k) true cells)] [(0,.mix [.ptr 1 (.lit 0),i6 N,i6 st,i6 as_]),hpR 1 2 7 3 W 8 ph sp cy,hpB 2 3 6 3 W,hpD 3 4 3 1 N 5 203 8 N,hpP 4 P,hpP 5 B,hpP 6 V,hpP 7 Q,(8,.mix [.p (.vsl (.sym m) true la),.p (.bool ov)])] 9 (fun r h n => ∃ (b : Bool) (x : List Int) (mo : Int) (T : List PV) (R2 : List Rw) (vs2 C2 : List Int) (P2 B2 V2 Q2 : List PV),r = .tup [.p (.vsl (.sym mo) true T),.p (.bool b)] ∧ T = ipv x ∧ mo = x.length ∧ h = [(0,.mix [.ptr 1 (.lit 0),i6 N,i6 st,i6 as_]),hpR 1 2 7 3 W 8 ph sp cy,hpB 2 3 6 3 W,hpD 3 4 3 1 N 5 203 8 N,hpP 4 P2,hpP 5 B2,hpP 6 V2,hpP 7 Q2,(8,.mix [.p (.vsl (.sym m) true la),.p (.bool ov)])] ∧ n = 9 ∧ RM R2 vs2 C2 G N W P2 B2 V2 Q2 la m ∧ RAllot ⟨R,vs,C,G,ov,ph,sp,cy⟩ ((l.map Prod.fst).zip X) b x ⟨R2,vs2,C2,G,ov,ph,sp,cy⟩) := by
 have hcl : cells.length = 2 * l.length := by rw [hcs,twosP_length]
 have hXl : X.length = l.length := hX.1
 have hKNl : (((l.map Prod.fst).zip X)).length = l.length := by rw [List.length_zip,List.length_map]; omega
 refine callF_of_body tok Tryz.func75 (by kernel_rfl) rfl rfl rfl ?_; conv => cbv
 refine LoopF.mk (fun kk s => ∃ (i mo : Int) (x : List Int) (T : List PV) (R2 : List Rw) (vs2 C2 : List Int) (P2 B2 V2 Q2 : List PV),s = ⟨.ptr 0 (.lit 0) :: .p (.vsl (.sym k) true cells) :: (undefs 2 ++ .p .nils :: .p (.bool false) :: .sl 9 3 1 (.lit 0) (.sym mo) :: .p (.int .i64 (.sym i)) :: undefs 65),[(0,.mix [.ptr 1 (.lit 0),i6 N,i6 st,i6 as_]),hpR 1 2 7 3 W 8 ph sp cy,hpB 2 3 6 3 W,hpD 3 4 3 1 N 5 203 8 N,hpP 4 P2,hpP 5 B2,hpP 6 V2,hpP 7 Q2,(8,.mix [.p (.vsl (.sym m) true la),.p (.bool ov)]),hpP 9 T],10⟩ ∧ T = ipv x ∧ mo = x.length ∧ i = x.length ∧ i ≤ k ∧ RM R2 vs2 C2 G N W P2 B2 V2 Q2 la m ∧ RAlls ⟨R,vs,C,G,ov,ph,sp,cy⟩ ((((l.map Prod.fst).zip X)).take i.toNat) x ⟨R2,vs2,C2,G,ov,ph,sp,cy⟩ ∧ kk = (k - i).toNat) k.toNat _
  (Re.at [(0,0),(1,1),(2,2),(3,3),(4,4),(5,5),(6,6),(7,7),(8,8)] [9]) ⟨0,0,[],[],R,vs,C,P,B,V,Q,rfl,rfl,rfl,rfl,by omega,h,.nil,by omega⟩ ?_
 rintro kk s ⟨i,mo,x,T,R2,vs2,C2,P2,B2,V2,Q2,rfl,hT,hmo,hix,hik,h2,hAl,hkk⟩
 have hTl : T.length = x.length := by rw [hT,ipv_length]
 conv => cbv
 refine Br.mk (fun q => ?_) (fun q => ?_)
 case refine_2 =>
  have q : ¬ i < k := q
  rw [List.take_of_length_le (by omega : (((l.map Prod.fst).zip X)).length ≤ i.toNat)] at hAl
  conv => cbv
  refine RetF.mk [.p (.vsl (.sym mo) true T),.p (.bool true)] [(0,.mix [.ptr 1 (.lit 0),i6 N,i6 st,i6 as_]),hpR 1 2 7 3 W 8 ph sp cy,hpB 2 3 6 3 W,hpD 3 4 3 1 N 5 203 8 N,hpP 4 P2,hpP 5 B2,hpP 6 V2,hpP 7 Q2,(8,.mix [.p (.vsl (.sym m) true la),.p (.bool ov)])] 9 (Re.at [(0,0),(1,1),(2,2),(3,3),(4,4),(5,5),(6,6),(7,7),(8,8)] []) rfl ⟨true,x,mo,T,R2,vs2,C2,P2,B2,V2,Q2,rfl,hT,hmo,rfl,rfl,h2,.ok x _ hAl⟩
 have q : i < k := q
 obtain ⟨⟨p1,p2⟩,hp⟩ : ∃ p,l[i.toNat]? = some p := ⟨_,List.getElem?_eq_getElem (by omega)⟩
 obtain ⟨v,hv,hN⟩ := hX.2 _ _ hp
 have hN : NeedR p1 p2 v true := hN
 have hkn : (((l.map Prod.fst).zip X))[i.toNat]? = some (p1,v) := by rw [List.getElem?_zip_eq_some,List.getElem?_map,hp]; exact ⟨rfl,hv⟩
 have hcc := twosP_get l i.toNat _ hp
 rw [← hcs] at hcc
 dsimp only at hcc
 conv => cbv
 refine drawn_sound tok (by kernel_rfl) [(10,[])] [0,1,2,3,4,5,6,7,8,9,10,11,12,13,14,15] (by kernel_rfl) ?_; conv => cbv
 conv => cbv
 refine Need.mk ⟨by show 0 ≤ i; omega,by show i < k; omega⟩ ?_
 conv => cbv
 refine Sum.mk fun w1 hw1 => ?_
 have hw1 : w1 = i * 2 := hw1
 conv => cbv
 refine Cell.at (w1 + 0) _ hcc.1 rfl (by omega) ?_
 conv => cbv
 refine Need.mk ⟨by show 0 ≤ i; omega,by show i < k; omega⟩ ?_
 conv => cbv
 refine Sum.mk fun w2 hw2 => ?_
 have hw2 : w2 = i * 2 := hw2
 conv => cbv
 refine Sum.mk fun y2 hy2 => ?_
 have hy2 : y2 = w2 + 1 := hy2
 conv => cbv
 refine Cell.at y2 _ hcc.2 (by simp [I.val]) (by omega) ?_
 conv => cbv
 refine cfr (rNeedAny_lx p1 p2) [] (fun r h' n' hrr => ?_)
 obtain ⟨⟨v2,b2,e1,hv2⟩,e2,e3⟩ := hrr
 subst e1 e2 e3
 have hb2 := need_detB hv2 hN
 subst hb2
 have hvv := need_v hv2 hN
 subst hvv
 conv => cbv
 refine drawn_sound tok (by kernel_rfl) [(10,[])] [0,1,2,3,4,5,6,7,8,9,10,11,12,13,14,15] (by kernel_rfl) ?_; conv => cbv
 conv => cbv
 refine Need.mk ⟨by show 0 ≤ i; omega,by show i < k; omega⟩ ?_
 conv => cbv
 refine Sum.mk fun w3 hw3 => ?_
 have hw3 : w3 = i * 2 := hw3
 conv => cbv
 refine Cell.at (w3 + 0) _ hcc.1 rfl (by omega) ?_
 conv => cbv
 refine cfr (ralloc9_lx R2 vs2 C2 G N W ph sp cy P2 B2 V2 Q2 la m ov h2 p1 v2) [(0,1),(1,2),(2,3),(3,4),(4,5),(5,6),(6,7),(7,8)] (fun r h' n' hrr => ?_)
 obtain ⟨a,e,R3,vs3,C3,P3,B3,V3,Q3,e1,e2,e3,h3,hAV,hC3⟩ := hrr
 subst e1 e2 e3
 conv => cbv
 refine Br.mk (fun g => ?_) (fun g => ?_)
 ·have g : e ≠ 0 := g
  obtain ⟨rfl,rfl⟩ := alloctV_no hAV g
  have hC : C3 = C2 := by rw [hC3]; unfold allocC; rw [if_neg g]
  subst hC
  conv => cbv
  refine Fit.mk (by show (-9223372036854775808 : Int) ≤ mo - 1; omega) (by show mo - 1 ≤ 9223372036854775807; omega) fun j1 hj1 => ?_
  have hj1 : j1 = mo - 1 := hj1
  conv => cbv
  refine LoopF.mk (fun kq s => ∃ (j : Int) (R4 : List Rw) (P4 B4 : List PV),s = ⟨.ptr 0 (.lit 0) :: (undefs 3 ++ .p .nils :: .p (.bool false) :: .sl 9 3 1 (.lit 0) (.sym mo) :: (undefs 5 ++ .p (.int .i64 (.sym j)) :: undefs 60)),[(0,.mix [.ptr 1 (.lit 0),i6 N,i6 st,i6 as_]),hpR 1 2 7 3 W 8 ph sp cy,hpB 2 3 6 3 W,hpD 3 4 3 1 N 5 203 8 N,hpP 4 P4,hpP 5 B4,hpP 6 V3,hpP 7 Q3,(8,.mix [.p (.vsl (.sym m) true la),.p (.bool ov)]),hpP 9 T],10⟩ ∧ -1 ≤ j ∧ j < mo ∧ RM R4 vs3 C3 G N W P4 B4 V3 Q3 la m ∧ Backs R3 x (j + 1).toNat R4 ∧ kq = (j + 1).toNat) x.length _
   (Re.at [(0,0),(1,1),(2,2),(3,3),(4,4),(5,5),(6,6),(7,7),(8,8),(9,9)] []) ⟨j1,R3,P3,B3,rfl,by omega,by omega,h3,by rw [show (j1 + 1).toNat = x.length by omega]; exact .zero,by omega⟩ ?_
  rintro kq s ⟨j,R4,P4,B4,rfl,hj0,hj1',h4,hBk,hkq⟩
  conv => cbv
  refine Br.mk (fun q2 => ?_) (fun q2 => ?_)
  case refine_2 =>
   have q2 : ¬ 0 ≤ j := q2
   rw [show (j + 1).toNat = 0 by omega] at hBk
   conv => cbv
   refine RetF.mk [.p (.vsl (.sym 0) true []),.p (.bool false)] [(0,.mix [.ptr 1 (.lit 0),i6 N,i6 st,i6 as_]),hpR 1 2 7 3 W 8 ph sp cy,hpB 2 3 6 3 W,hpD 3 4 3 1 N 5 203 8 N,hpP 4 P4,hpP 5 B4,hpP 6 V3,hpP 7 Q3,(8,.mix [.p (.vsl (.sym m) true la),.p (.bool ov)])] 9 (Re.at [(0,0),(1,1),(2,2),(3,3),(4,4),(5,5),(6,6),(7,7),(8,8)] []) rfl ⟨false,[],0,[],R4,vs3,C3,P4,B4,V3,Q3,rfl,rfl,rfl,rfl,rfl,h4,.no i.toNat p1 v2 a e x ⟨R3,vs3,C3,G,ov,ph,sp,cy⟩ R3 R4 vs3 hkn hAl hAV g hBk⟩
  have q2 : 0 ≤ j := q2
  obtain ⟨xa,hxa⟩ : ∃ a,x[j.toNat]? = some a := ⟨_,List.getElem?_eq_getElem (by omega)⟩
  have hTx : T[j.toNat]? = some (.int .i64 (.sym xa)) := by rw [hT]; exact ipv_get hxa
  conv => cbv
  refine drawn_sound tok (by kernel_rfl) [(11,[])] [0,1,2,3,4,5,6,7,8,9,10,11] (by kernel_rfl) ?_; conv => cbv
  conv => cbv
  refine Need.mk ⟨q2,by show j < mo; omega⟩ ?_
  conv => cbv
  refine Cell.at j _ hTx (by simp [I.val]) rfl ?_
  conv => cbv
  refine cfr (rfreeA_lx R4 vs3 N xa W P4 B4 V3 h4.p h4.b h4.v h4.n h4.r h4.a h4.w) [(0,2),(1,3),(2,4),(3,5),(4,6)] (fun r h' n' hrr => ?_)
  obtain ⟨ef,R5,P5,B5,e1,e2,e3,hP5,hB5,hF⟩ := hrr
  subst e1 e2 e3
  have h5 := h4.freet hF hP5 hB5
  conv => cbv
  refine Fit.mk (by show (-9223372036854775808 : Int) ≤ j - 1; omega) (by show j - 1 ≤ 9223372036854775807; omega) fun j2 hj2 => ?_
  have hj2 : j2 = j - 1 := hj2
  have hB2 : Backs R3 x (j2 + 1).toNat R5 := by
   rw [show (j2 + 1).toNat = j.toNat by omega]
   exact .next j.toNat xa ef R4 R5 (by rw [show j.toNat + 1 = (j + 1).toNat by omega]; exact hBk) hxa hF
  conv => cbv
  refine Again.mk (j2 + 1).toNat _ (by omega) (Re.at [(0,0),(1,1),(2,2),(3,3),(4,4),(5,5),(6,6),(7,7),(8,8),(9,9)] []) ⟨j2,R5,P5,B5,rfl,by omega,by omega,h5,hB2,rfl⟩
 have g : e = 0 := Classical.byContradiction g
 conv => cbv
 refine Room.new rfl ?_
 conv => cbv
 refine Room.new ⟨by show (T.length : Int) = mo * 1; omega,by show (mo + 1) * 8 ≤ 140737488355328; omega,by show mo + 1 ≤ 9223372036854775807; omega⟩ ?_
 conv => cbv
 refine Upd.mk fun T2 hT2 => ?_
 have hT2 : T2 = ipv (x ++ [a]) := by rw [show T2 = T ++ [.int .i64 (.sym a)] from hT2,← ipv_app,← hT]; rfl
 conv => cbv
 refine Sum.mk fun m2 hm2 => ?_
 have hm2 : m2 = (x ++ [a]).length := by rw [show m2 = mo + 1 from hm2,hmo,List.length_append]; rfl
 conv => cbv
 refine Fit.mk (by show (-9223372036854775808 : Int) ≤ i + 1; omega) (by show i + 1 ≤ 9223372036854775807; omega) fun i2 hi2 => ?_
 have hi2 : i2 = i + 1 := hi2
 have hi3 : i2 = ((x ++ [a]).length : Int) := by rw [hi2,hix,List.length_append]; rfl
 have hA2 : RAlls ⟨R,vs,C,G,ov,ph,sp,cy⟩ ((((l.map Prod.fst).zip X)).take i2.toNat) (x ++ [a]) ⟨R3,vs3,C3,G,ov,ph,sp,cy⟩ := by
  rw [show i2.toNat = i.toNat + 1 by omega,List.take_add_one,hkn,hC3,g]
  rw [g] at hAV
  exact .snoc _ x _ p1 v2 a R3 vs3 hAl hAV
 conv => cbv
 refine Again.mk (k - i2).toNat _ (by omega) (Re.at [(0,0),(1,1),(2,2),(3,3),(4,4),(5,5),(6,6),(7,7),(8,8),(11,9)] []) ⟨i2,m2,x ++ [a],T2,R3,vs3,C3,P3,B3,V3,Q3,rfl,hT2,hm2,hi3,by omega,h3,hA2,rfl⟩
end Go.Proofs.YtcbombkaacjngaaGreatDoor
namespace Go.Proofs.YtcbombkaacjngaaGreatDoor
open Go Go.LX
set_option maxRecDepth 100000
set_option linter.unusedVariables false
set_option linter.unusedSimpArgs false
set_option maxHeartbeats 32000000
theorem gpv_cells (l : List Gn) : ∀ (i : Nat) (g : Gn),l[i]? = some g → (gpv l)[4 * i]? = some (.int .i64 (.sym g.1)) ∧ (gpv l)[4 * i + 1]? = some (.int .i64 (.sym g.2.1)) ∧ (gpv l)[4 * i + 2]? = some (.vsl (.sym (g.2.2.1.length : Int)) true (ipv g.2.2.1)) ∧ (gpv l)[4 * i + 3]? = some (.bool g.2.2.2) := by
 induction l with
 | nil => intro i g h; simp at h
 | cons x l ih =>
  intro i g h
  cases i with
  | zero => simp at h; subst h; exact ⟨rfl,rfl,rfl,rfl⟩
  | succ i =>
   have h2 := ih i g (by simpa using h)
   rw [show 4 * (i + 1) = (4 * i) + 4 by omega]
   exact h2
theorem gone_lx (X : List Int) (k a m : Int) (O : List PV) (q : Bool) (hm : m = X.length) (hO : O = ipv X) (hX : (X.length : Int) < 1000000) : CallF (fun _ => Tryz.prog) 14 [.agg [i6 k,i6 a,.p (.vsl (.sym m) true O),.p (.bool q)],.agg [i6 k,i6 a,.p (.vsl (.sym m) true O),.p (.bool q)]] [] 0 (fun r h n => r = .p (.bool true) ∧ h = [] ∧ n = 0) := by
 have hp := plaini64_lx X X m m O O hm hm (by rw [hO]; exact preI_ints X) (by rw [hO]; exact preI_ints X) hX
 have hp := hp.mono (K' := fun r h n => r = .p (.bool true) ∧ h = [] ∧ n = 0) fun r h n ⟨⟨b,e1,h1⟩,e2,e3⟩ => ⟨by rw [e1,h1.2 rfl],e2,e3⟩
 cases q with
 | false =>
  refine callF_of_body tok Tryz.func14 (by kernel_rfl) rfl rfl rfl ?_; conv => cbv
  refine Br.yes (show k = k from rfl) ?_
  conv => cbv
  refine Br.yes (show a = a from rfl) ?_
  conv => cbv
  refine callF_frame hp [] rfl trivial rfl rfl (fun r h' n' ⟨e1,e2,e3⟩ => ?_)
  subst e1 e2 e3
  conv => cbv
  refine RetF.mk [.p (.bool true)] [] 0 (Re.at [] []) rfl ⟨rfl,rfl,rfl⟩
 | true =>
  refine callF_of_body tok Tryz.func14 (by kernel_rfl) rfl rfl rfl ?_; conv => cbv
  refine Br.yes (show k = k from rfl) ?_
  conv => cbv
  refine Br.yes (show a = a from rfl) ?_
  conv => cbv
  refine callF_frame hp [] rfl trivial rfl rfl (fun r h' n' ⟨e1,e2,e3⟩ => ?_)
  subst e1 e2 e3
  conv => cbv
  refine RetF.mk [.p (.bool true)] [] 0 (Re.at [] []) rfl ⟨rfl,rfl,rfl⟩
theorem sameGone_lx (out : List Gn) (k : Int) (c : List PV) (hk : k = out.length) (hc : c = gpv out) (ho : (out.length : Int) < 1000000) (hx : ∀ g ∈ out,(g.2.2.1.length : Int) < 1000000) : CallF (fun _ => Tryz.prog) 11 [.p (.vsl (.sym k) true c),.p (.vsl (.sym k) true c),.p (.fn 14)] [] 0 (fun r h n => r = .p (.bool true) ∧ h = [] ∧ n = 0) := by
 have hcl : c.length = 4 * out.length := by rw [hc,gpv_length]
 refine callF_of_body tok Tryz.func11 (by kernel_rfl) rfl rfl rfl ?_; conv => cbv
 refine Br.no (show ¬ (k ≠ k) from fun h => h rfl) ?_
 conv => cbv
 refine LoopF.mk (fun kk s => ∃ i : Int,s = ⟨.p (.vsl (.sym k) true c) :: .p (.vsl (.sym k) true c) :: .p (.fn 14) :: .undef :: .undef :: .undef :: .undef :: .p (.int .i64 (.sym i)) :: undefs 22,[],0⟩ ∧ 0 ≤ i ∧ i ≤ k ∧ kk = (k - i).toNat) k.toNat _
  (Re.at [] []) ⟨0,rfl,by omega,by omega,by omega⟩ ?_
 rintro kk s ⟨i,rfl,hi0,him,hkk⟩
 conv => cbv
 refine Br.mk (fun gi => ?_) (fun gi => ?_)
 ·have gi : i < k := gi
  obtain ⟨k',rfl⟩ : ∃ k',kk = k' + 1 := ⟨kk - 1,by omega⟩
  obtain ⟨g,hg⟩ : ∃ g,out[i.toNat]? = some g := ⟨_,List.getElem?_eq_getElem (by omega)⟩
  have hgx := hx g (List.mem_of_getElem? hg)
  have hcs := gpv_cells out i.toNat g hg
  rw [← hc] at hcs
  obtain ⟨gk,ga,gX,gq⟩ := g
  dsimp only at hcs hgx
  obtain ⟨gm,hgm⟩ : ∃ gm,gm = (gX.length : Int) := ⟨_,rfl⟩
  obtain ⟨gO,hgO⟩ : ∃ gO,gO = ipv gX := ⟨_,rfl⟩
  rw [← hgm,← hgO] at hcs
  conv => cbv
  refine drawn_sound tok (by kernel_rfl) [(9,[])] [0,1,2,3,4,5,6,7,8,9,10] (by kernel_rfl) ?_; conv => cbv
  refine Need.mk ⟨hi0,gi⟩ ?_
  conv => cbv
  refine Sum.mk fun w hw => ?_
  have hw : w = i * 4 := hw
  conv => cbv
  refine Cell.at (w + 0) (4 * i.toNat) hcs.1 rfl (by omega) ?_
  conv => cbv
  refine Cell.at (w + 1) (4 * i.toNat + 1) hcs.2.1 rfl (by omega) ?_
  conv => cbv
  refine Cell.at (w + 2) (4 * i.toNat + 2) hcs.2.2.1 rfl (by omega) ?_
  conv => cbv
  refine Cell.at (w + 3) (4 * i.toNat + 3) hcs.2.2.2 rfl (by omega) ?_
  conv => cbv
  refine Need.mk ⟨hi0,gi⟩ ?_
  conv => cbv
  refine Sum.mk fun w3 hw33 => ?_
  have hw33 : w3 = i * 4 := hw33
  conv => cbv
  refine Cell.at (w3 + 0) (4 * i.toNat) hcs.1 rfl (by omega) ?_
  conv => cbv
  refine Cell.at (w3 + 1) (4 * i.toNat + 1) hcs.2.1 rfl (by omega) ?_
  conv => cbv
  refine Cell.at (w3 + 2) (4 * i.toNat + 2) hcs.2.2.1 rfl (by omega) ?_
  conv => cbv
  refine Cell.at (w3 + 3) (4 * i.toNat + 3) hcs.2.2.2 rfl (by omega) ?_
  conv => cbv
  refine callF_val (R := fun r => r = .p (.bool true)) ((gone_lx gX gk ga gm gO gq hgm hgO hgx).mono fun r h n h3 => h3) (by simp [ales,ale,renVs,renV,pvle,I.val]) rfl (fun r hr => by subst hr; rfl) (fun r hr => ?_)
  subst hr
  conv => cbv
  refine Fit.mk (by show (-9223372036854775808 : Int) ≤ i + 1; omega) (by show i + 1 ≤ 9223372036854775807; omega) fun i2 hi2 => ?_
  have hi2 : i2 = i + 1 := hi2
  conv => cbv
  refine Again.mk k' _ (Nat.lt_succ_self _) (Re.at [] []) ⟨i2,rfl,by omega,by omega,by omega⟩
 ·have gi : ¬ i < k := gi
  conv => cbv
  refine RetF.mk [.p (.bool true)] [] 0 (Re.at [] []) rfl ⟨rfl,rfl,rfl⟩
theorem rnewH_lx (N W : Int) (h2 : 2 ≤ N) (h8 : N ≤ 128) (hW : W = 32 * N) : CallF (fun _ => Tryz.prog) 52 [i6 N] [] 0 (fun r h n => ∃ P B V Q : List PV,r = .tup [.ptr 0 (.lit 0),.p (.int .i64 (.lit 0))] ∧ h = [hpR 0 1 6 3 W 7 0 0 0,hpB 1 2 5 3 W,hpD 2 3 3 1 N 4 203 8 N,hpP 3 P,hpP 4 B,hpP 5 V,hpP 6 Q,(7,.mix [.p (.vsl (.sym 0) true []),.p (.bool false)])] ∧ n = 8 ∧ RM (List.replicate N.toNat (0,[])) (List.replicate W.toNat 0) (List.replicate W.toNat 0) [] N W P B V Q [] 0) := by
 refine callF_of_body tok Tryz.func52 (by kernel_rfl) rfl rfl rfl ?_; conv => cbv
 refine callF_frame (rnewA_lx N W h2 h8 hW) [] rfl trivial rfl rfl (fun r h' n' hrr => ?_)
 obtain ⟨P,B,V,e1,e2,e3,hP,hB,hV⟩ := hrr
 subst e1 e2 e3
 conv => cbv
 refine Need.mk ⟨by show 0 ≤ W; omega,Int.le_refl _,by show W * 8 ≤ 140737488355328; omega,by show W ≤ 9223372036854775807; omega⟩ ?_
 conv => cbv
 obtain ⟨Q,hQ⟩ : ∃ Q,Q = ipv (List.replicate W.toNat 0) := ⟨_,rfl⟩
 refine Upd.mk fun Q0 hQ0 => ?_
 have hle : pvles Q0 Q := by
  have hQ0 : Q0 = repsP [.int .i64 (.lit 0)] W.toNat := hQ0
  rw [hQ0,hQ]; exact zero_ipv _
 unfold pvles at hle
 clear hQ0
 conv => cbv
 refine RetF.mk [.ptr 0 (.lit 0),.p (.int .i64 (.lit 0))] [hpR 0 1 6 3 W 7 0 0 0,hpB 1 2 5 3 W,hpD 2 3 3 1 N 4 203 8 N,hpP 3 P,hpP 4 B,hpP 5 V,hpP 6 Q,(7,.mix [.p (.vsl (.sym 0) true []),.p (.bool false)])] 8 (Re.at [(7,0),(0,1),(1,2),(2,3),(3,4),(4,5),(5,6),(6,7)] []) rfl ⟨P,B,V,Q,rfl,rfl,rfl,⟨by rw [show W.toNat = 32 * N.toNat by omega]; exact AOk.new _,by rw [List.length_replicate]; omega,by rw [List.length_replicate]; omega,hW,hP,hB,hV,hQ,by rw [List.length_replicate]; omega,rfl,rfl,fun x hx => (by cases hx),Nat.zero_le _⟩⟩
end Go.Proofs.YtcbombkaacjngaaGreatDoor
namespace Go.Proofs.YtcbombkaacjngaaGreatDoor
open Go Go.LX
set_option maxRecDepth 100000
set_option linter.unusedVariables false
set_option linter.unusedSimpArgs false
set_option maxHeartbeats 32000000
theorem rPtr_lx (a : Int) (ha : -1000000 ≤ a ∧ a ≤ 1000000) : CallF (fun _ => Tryz.prog) 16 [i6 a] [] 0 (fun r h n => ∃ x : Int,r = .p (.int .i64 (.sym x)) ∧ h = [] ∧ n = 0 ∧ x = a * 2 + 1) := by
 refine callF_of_body tok Tryz.func16 (by kernel_rfl) rfl rfl rfl ?_; conv => cbv
 refine Fit.mk (by show (-9223372036854775808 : Int) ≤ a * 2; omega) (by show a * 2 ≤ 9223372036854775807; omega) fun x hx => ?_
 have hx : x = a * 2 := hx
 conv => cbv
 refine Fit.mk (by show (-9223372036854775808 : Int) ≤ x + 1; omega) (by show x + 1 ≤ 9223372036854775807; omega) fun y hy => ?_
 have hy : y = x + 1 := hy
 conv => cbv
 refine RetF.mk [i6 y] [] 0 (Re.at [] []) rfl ⟨y,rfl,rfl,rfl,by omega⟩
end Go.Proofs.YtcbombkaacjngaaGreatDoor
namespace Go.Proofs.YtcbombkaacjngaaGreatDoor
open Go Go.LX Go.RowKit Go.ChangeShapes Go.WideShapes
set_option maxHeartbeats 32000000
section
variable {H : Type} {enc : TypeId × Value → H} {P : Program} {W : World}
theorem spotO {w : World} {a : Addr} {x : Value} (h : w.cell? a = some x) : a.spot = none := by
 unfold World.cell? at h
 split at h
 ·split at h
  ·cases h
  ·rename_i hns
   cases hs : a.spot with
   | none => rfl
   | some _ => rw [hs] at hns; exact absurd rfl hns
 ·cases h
theorem rowsO {t e : TypeId} {m : Nat} {Q : Nat → Value → Prop} {spare : Nat → Bool} {held : Bool} (ht : P.underlying t = some (.slice e)) (hsz : 0 < m)
  (hrow : ∀ (fuel : Nat) (cs : List Value) (x : DataW H × List MemPlace),DataW.trod enc P W 0 spare held fuel e cs = some x → cs.length = m ∧ P.cellsOf e = m ∧ ∀ (j : Nat) (c : Value),cs[j]? = some c → Q j c)
  {fuel : Nat} {cs : List Value} {x : DataW H × List MemPlace} (hf : DataW.trod enc P W 0 spare held fuel t cs = some x) :
  ∃ (v : Value) (n : Nat) (xs : List Value),cs = [v] ∧ Sl W W.heap.size m v n xs ∧ ∀ (j : Nat) (c : Value),xs[j]? = some c → Q (j % m) c := by
 rcases DataW.trod_slice ht hf with ⟨hcs,_⟩ | ⟨a,len,cap,elems,rest,n,_,hcs,_,hb,hl,hm,hlen,hel,_⟩
 ·exact ⟨_,0,[],hcs,⟨by simp,Nat.zero_le _,.inl ⟨rfl,rfl⟩⟩,fun j c hj => by simp at hj⟩
 ·have each : ∀ i,i < len → ∀ r,r < m → ∃ c,W.cell? ((a.add (i * m)).add r) = some c ∧ Q r c := by
   intro i hi r hr
   have h1 := hel i hi
   rw [List.getElem?_eq_getElem (by omega : i < elems.length),Option.bind_eq_some_iff] at h1
   obtain ⟨cs,h2,h3⟩ := h1
   obtain ⟨h4,h5,h6⟩ := hrow _ _ _ h3
   rw [h5] at h2
   obtain ⟨_,h7,h8⟩ := World.cells?_some h2
   have h9 : cs[r]? = some cs[r] := List.getElem?_eq_getElem (by omega)
   exact ⟨_,(h8 r hr).trans h9,h6 r _ h9⟩
  have cell : ∀ j,j < len * m → ∃ c,W.cell? (a.add j) = some c ∧ Q (j % m) c := by
   intro j hj
   have hi : j / m < len := (Nat.div_lt_iff_lt_mul hsz).2 hj
   have hr := Nat.mod_lt j hsz
   have hsp : a.spot = none := by
    obtain ⟨c,h1,_⟩ := each 0 (Nat.lt_of_le_of_lt (Nat.zero_le _) hi) 0 hsz
    have := spotO h1
    simpa [Addr.add] using this
   obtain ⟨c,h1,h2⟩ := each _ hi _ hr
   rw [Addr.add_off hsp] at h1
   have : j / m * m + j % m = j := by rw [Nat.mul_comm]; exact Nat.div_add_mod j m
   rw [this] at h1
   exact ⟨c,h1,h2⟩
  refine ⟨_,len,(List.range (len * m)).map fun j => (W.cell? (a.add j)).getD Go.undef,hcs,⟨by simp,Nat.le_trans hl hm,.inr ⟨a,cap,rfl,hl,hm,fun hp => ?_,fun j u hu => ?_⟩⟩,fun j c hj => ?_⟩
  ·obtain ⟨c,h1,_⟩ := cell 0 (Nat.mul_pos hp hsz)
   have := lt_of_cell h1
   simpa [Addr.add] using this
  ·rw [List.getElem?_map] at hu
   by_cases hj : j < len * m
   ·rw [List.getElem?_range hj] at hu
    obtain ⟨c,h1,_⟩ := cell j hj
    simp only [Option.map_some,h1,Option.getD_some] at hu
    rw [h1]; exact hu
   ·rw [List.getElem?_eq_none (by simp; omega)] at hu; cases hu
  ·rw [List.getElem?_map] at hj
   by_cases hjl : j < len * m
   ·rw [List.getElem?_range hjl] at hj
    obtain ⟨c',h1,h2⟩ := cell j hjl
    simp only [Option.map_some,h1,Option.getD_some] at hj
    cases hj
    exact h2
   ·rw [List.getElem?_eq_none (by simp; omega)] at hj; cases hj
theorem cellsO {e : TypeId} {m : Nat} {Q : Nat → Value → Prop} {spare : Nat → Bool} {held : Bool} {fs : Array Field} (he : P.underlying e = some (.struct fs)) (hc : P.cellsOf e = m)
  (hfld : ∀ j,j < m → ∃ f,fs[j]? = some f ∧ f.offset = j ∧ P.cellsOf f.type = 1 ∧ ∀ (fuel : Nat) (cs : List Value) (x : DataW H × List MemPlace),DataW.trod enc P W 0 spare held fuel f.type cs = some x → ∃ c,cs = [c] ∧ Q j c)
  (hfs : fs.size = m) {fuel : Nat} {cs : List Value} {x : DataW H × List MemPlace} (h : DataW.trod enc P W 0 spare held fuel e cs = some x) : cs.length = m ∧ P.cellsOf e = m ∧ ∀ (j : Nat) (c : Value),cs[j]? = some c → Q j c := by
 obtain ⟨xs,n,_,_,h4,h5,h6⟩ := DataW.trod_struct he h
 refine ⟨by omega,hc,fun j c hj => ?_⟩
 have hlt := (List.getElem?_eq_some_iff.1 hj).1
 obtain ⟨f,hf,h8,h9,h10⟩ := hfld j (by omega)
 have h11 := h6 j f hf
 rw [h8,h9,List.getElem?_eq_getElem (by omega : j < xs.length)] at h11
 obtain ⟨c',h12,h13⟩ := h10 _ _ _ h11
 have : c' = c := by
  have e1 : ((cs.drop j).take 1)[0]? = some c' := by rw [h12]; rfl
  rw [List.getElem?_take,if_pos (by omega),List.getElem?_drop,Nat.add_zero,hj] at e1
  exact (Option.some.inj e1).symm
 subst this
 exact h13
end
def isI64O (P : Program) (t : TypeId) : Bool :=
 match P.underlying t with
 | some (.int k) => decide (k = .i64)
 | _ => false
def fldOKO (P : Program) (fs : Array Field) (p : TypeId → Bool) (i : Nat) : Bool :=
 match fs[i]? with
 | some f => f.offset == i && P.cellsOf f.type == 1 && p f.type
 | none => false
def needOK (P : Program) (e : TypeId) : Bool :=
 match P.underlying e with
 | some (.struct fs) => P.cellsOf e == 2 && fs.size == 2 && (List.range 2).all (fldOKO P fs (isI64O P))
 | _ => false
def needsOK (P : Program) (t : TypeId) : Bool :=
 match P.underlying t with
 | some (.slice c) => needOK P c
 | _ => false
def opOK (P : Program) (e : TypeId) : Bool :=
 match P.underlying e with
 | some (.struct fs) => P.cellsOf e == 5 && fs.size == 5 && (List.range 4).all (fldOKO P fs (isI64O P)) && fldOKO P fs (needsOK P) 4
 | _ => false
theorem fldOKO_get {P : Program} {fs : Array Field} {p : TypeId → Bool} {i : Nat} (h : fldOKO P fs p i = true) : ∃ f,fs[i]? = some f ∧ f.offset = i ∧ P.cellsOf f.type = 1 ∧ p f.type = true := by
 unfold fldOKO at h
 split at h
 ·rename_i f hf
  simp only [Bool.and_eq_true,beq_iff_eq] at h
  exact ⟨f,hf,h.1.1,h.1.2,h.2⟩
 ·cases h
def NumCO (c : Value) : Prop := ∃ z,c = .int .i64 z ∧ (Lit.int .i64 z).wf = true
structure OpD where
 kd : Int
 oo : Int
 ot : Int
 oi : Int
 l : List (Int × Int)
def opC (x : OpD) : List PV := [.int .i64 (.sym x.kd),.int .i64 (.sym x.oo),.int .i64 (.sym x.ot),.int .i64 (.sym x.oi),.vsl (.sym (x.l.length : Int)) true (twosP x.l)]
def opV (A : List OpD) : List PV := A.flatMap opC
theorem opV_length : ∀ A : List OpD,(opV A).length = 5 * A.length
 | [] => rfl
 | x :: A => by rw [opV,List.flatMap_cons,List.length_append,List.length_cons]; show 5 + (opV A).length = _; rw [opV_length A]; omega
theorem opV_get : ∀ (A : List OpD) (i : Nat) (x : OpD),A[i]? = some x → (opV A)[5 * i]? = some (.int .i64 (.sym x.kd)) ∧ (opV A)[5 * i + 1]? = some (.int .i64 (.sym x.oo)) ∧ (opV A)[5 * i + 2]? = some (.int .i64 (.sym x.ot)) ∧ (opV A)[5 * i + 3]? = some (.int .i64 (.sym x.oi)) ∧ (opV A)[5 * i + 4]? = some (.vsl (.sym (x.l.length : Int)) true (twosP x.l))
 | [],i,x,h => by simp at h
 | y :: A,0,x,h => by cases h; exact ⟨rfl,rfl,rfl,rfl,rfl⟩
 | y :: A,i + 1,x,h => by
  obtain ⟨h1,h2,h3,h4,h5⟩ := opV_get A i x h
  have e : opV (y :: A) = opC y ++ opV A := rfl
  have k : ∀ j,(opV (y :: A))[5 * (i + 1) + j]? = (opV A)[5 * i + j]? := fun j => by
   rw [e,show 5 * (i + 1) + j = (opC y).length + (5 * i + j) by show _ = 5 + (5 * i + j); omega,List.getElem?_append_right (by omega),Nat.add_sub_cancel_left]
  exact ⟨(k 0).trans h1,(k 1).trans h2,(k 2).trans h3,(k 3).trans h4,(k 4).trans h5⟩
def pX (c : Int × Int) : List Value := [.int .i64 c.1,.int .i64 c.2]
def PrWf (c : Int × Int) : Prop := (Lit.int .i64 c.1).wf = true ∧ (Lit.int .i64 c.2).wf = true
def NeedsC (W : World) (v : Value) (cs : List (Int × Int)) : Prop := Sl W W.heap.size 2 v cs.length (cs.flatMap pX) ∧ ∀ c ∈ cs,PrWf c
def OpD.wf (x : OpD) : Prop := (Lit.int .i64 x.kd).wf = true ∧ (Lit.int .i64 x.oo).wf = true ∧ (Lit.int .i64 x.ot).wf = true ∧ (Lit.int .i64 x.oi).wf = true
inductive OpAt (W : World) : List OpD → List Value → Prop
 | nil : OpAt W [] []
 | cons (x : OpD) (v : Value) (A : List OpD) (xs : List Value) (hw : x.wf) (h : NeedsC W v x.l) (ht : OpAt W A xs) : OpAt W (x :: A) (.int .i64 x.kd :: .int .i64 x.oo :: .int .i64 x.ot :: .int .i64 x.oi :: v :: xs)
section
variable {H : Type} {enc : TypeId × Value → H} {P : Program} {W : World}
theorem numO {t : TypeId} {fuel : Nat} {spare : Nat → Bool} {held : Bool} {cs : List Value} {x : DataW H × List MemPlace} (hk : isI64O P t = true) (h : DataW.trod enc P W 0 spare held fuel t cs = some x) : ∃ c,cs = [c] ∧ NumCO c := by
 unfold isI64O at hk
 split at hk
 ·rename_i k hu
  have hk := of_decide_eq_true hk
  subst hk
  obtain ⟨n,h1,_,h2⟩ := DataW.trod_int hu h
  exact ⟨_,h1,n,rfl,h2⟩
 ·cases hk
theorem needI_ {e : TypeId} {fuel : Nat} {spare : Nat → Bool} {held : Bool} {cs : List Value} {x : DataW H × List MemPlace} (hk : needOK P e = true) (h : DataW.trod enc P W 0 spare held fuel e cs = some x) :
  cs.length = 2 ∧ P.cellsOf e = 2 ∧ ∀ (j : Nat) (c : Value),cs[j]? = some c → NumCO c := by
 unfold needOK at hk
 split at hk
 ·rename_i fs hu
  simp only [Bool.and_eq_true,beq_iff_eq,List.all_eq_true,List.mem_range] at hk
  obtain ⟨⟨h1,h2⟩,h3⟩ := hk
  refine cellsO (Q := fun _ c => NumCO c) hu h1 (fun j hj => ?_) h2 h
  obtain ⟨f,f1,f2,f3,f4⟩ := fldOKO_get (h3 j hj)
  exact ⟨f,f1,f2,f3,fun _ _ _ hh => numO f4 hh⟩
 ·cases hk
theorem chunkO2 : ∀ (n : Nat) (xs : List Value),xs.length = n * 2 → (∀ (j : Nat) (c : Value),xs[j]? = some c → NumCO c) → ∃ A : List (Int × Int),A.length = n ∧ xs = A.flatMap pX ∧ ∀ c ∈ A,PrWf c := by
 intro n
 induction n with
 | zero => intro xs hl _; exact ⟨[],rfl,by simpa using hl,by simp⟩
 | succ n ih =>
  intro xs hl hx
  match xs,hl,hx with
  | x :: y :: xs,hl,hx =>
   obtain ⟨a,rfl,ha⟩ := hx 0 x rfl
   obtain ⟨b,rfl,hb⟩ := hx 1 y rfl
   obtain ⟨A,g1,g2,g3⟩ := ih xs (by simp at hl; omega) (fun j c hj => hx (j + 2) c (by simpa using hj))
   refine ⟨⟨a,b⟩ :: A,by simp [g1],by rw [g2]; simp [pX],fun e he => ?_⟩
   rcases List.mem_cons.1 he with rfl | he
   ·exact ⟨ha,hb⟩
   ·exact g3 e he
  | [],hl,_ => simp at hl
  | [_],hl,_ => simp at hl; omega
theorem needsI {t : TypeId} {fuel : Nat} {spare : Nat → Bool} {held : Bool} {cs : List Value} {x : DataW H × List MemPlace} (hk : needsOK P t = true) (h : DataW.trod enc P W 0 spare held fuel t cs = some x) : ∃ c,cs = [c] ∧ ∃ A,NeedsC W c A := by
 unfold needsOK at hk
 split at hk
 ·rename_i c hu
  obtain ⟨v,n,xs,h1,h2,h3⟩ := rowsO (m := 2) (Q := fun _ c => NumCO c) hu (by decide) (fun _ _ _ hh => needI_ hk hh) h
  obtain ⟨A,g1,g2,g3⟩ := chunkO2 n xs h2.len h3
  exact ⟨v,h1,A,by rw [g1,← g2]; exact h2,g3⟩
 ·cases hk
def QO (W : World) (j : Nat) (c : Value) : Prop := if j < 4 then NumCO c else ∃ A,NeedsC W c A
theorem opI {e : TypeId} {fuel : Nat} {spare : Nat → Bool} {held : Bool} {cs : List Value} {x : DataW H × List MemPlace} (hk : opOK P e = true) (h : DataW.trod enc P W 0 spare held fuel e cs = some x) :
  cs.length = 5 ∧ P.cellsOf e = 5 ∧ ∀ (j : Nat) (c : Value),cs[j]? = some c → QO W j c := by
 unfold opOK at hk
 split at hk
 ·rename_i fs hu
  simp only [Bool.and_eq_true,beq_iff_eq,List.all_eq_true,List.mem_range] at hk
  obtain ⟨⟨⟨h1,h2⟩,h3⟩,h4⟩ := hk
  refine cellsO (Q := QO W) hu h1 (fun j hj => ?_) h2 h
  by_cases hj4 : j < 4
  ·obtain ⟨f,f1,f2,f3,f4⟩ := fldOKO_get (h3 j hj4)
   exact ⟨f,f1,f2,f3,fun _ _ _ hh => by simpa [QO,hj4] using numO f4 hh⟩
  ·obtain rfl : j = 4 := by omega
   obtain ⟨f,f1,f2,f3,f4⟩ := fldOKO_get h4
   exact ⟨f,f1,f2,f3,fun _ _ _ hh => by simpa [QO] using needsI f4 hh⟩
 ·cases hk
theorem chunkO5 : ∀ (n : Nat) (xs : List Value),xs.length = n * 5 → (∀ (j : Nat) (c : Value),xs[j]? = some c → QO W (j % 5) c) → ∃ A : List OpD,A.length = n ∧ OpAt W A xs := by
 intro n
 induction n with
 | zero => intro xs hl _; exact ⟨[],rfl,by
                       obtain rfl : xs = [] := by simpa using hl
                       exact .nil⟩
 | succ n ih =>
  intro xs hl hx
  match xs,hl,hx with
  | x :: y :: z :: u :: v :: xs,hl,hx =>
   obtain ⟨a,rfl,ha⟩ : NumCO x := hx 0 x rfl
   obtain ⟨b,rfl,hb⟩ : NumCO y := hx 1 y rfl
   obtain ⟨c,rfl,hc⟩ : NumCO z := hx 2 z rfl
   obtain ⟨d,rfl,hd⟩ : NumCO u := hx 3 u rfl
   obtain ⟨C,hC⟩ : ∃ A,NeedsC W v A := hx 4 v rfl
   obtain ⟨A,g1,g2⟩ := ih xs (by simp at hl; omega) (fun j c hj => by
    have := hx (j + 5) c (by simpa using hj)
    rwa [Nat.add_mod_right] at this)
   exact ⟨⟨a,b,c,d,C⟩ :: A,by simp [g1],.cons ⟨a,b,c,d,C⟩ v A xs ⟨ha,hb,hc,hd⟩ hC g2⟩
  | [],hl,_ => simp at hl
  | [_],hl,_ => simp at hl; omega
  | [_,_],hl,_ => simp at hl; omega
  | [_,_,_],hl,_ => simp at hl; omega
  | [_,_,_,_],hl,_ => simp at hl; omega
theorem open_ops {t e : TypeId} {base : Nat} {v : Value} {d : DataW H} {ps : List MemPlace} (ht : P.underlying t = some (.slice e)) (hk : opOK P e = true)
  (hval : Value.okWide P W .any base t v) (h : DataW.Trod enc P W 0 (fun _ => true) true t v d ps) : ∃ (A : List OpD) (xs : List Value),Sl W W.heap.size 5 v A.length xs ∧ OpAt W A xs := by
 obtain ⟨a0,len,cap,rfl⟩ := okWide_slice ht hval
 obtain ⟨fuel,hf⟩ := h
 obtain ⟨v,n,xs,h1,h2,h3⟩ := rowsO (m := 5) (Q := QO W) ht (by decide) (fun _ _ _ hh => opI hk hh) hf
 simp only [Value.cells] at h1
 cases h1
 obtain ⟨A,g1,g2⟩ := chunkO5 n xs h2.len h3
 exact ⟨A,xs,by rw [g1]; exact h2,g2⟩
end
theorem prV_rel {w : World} {M : Nat → Prop} : ∀ (A : List (Int × Int)) (j : Nat) (u : PV),(twosP A)[j]? = some u → ∃ x,(A.flatMap pX)[j]? = some x ∧ PR M w u x
 | [],j,u,h => by simp [twosP] at h
 | c :: A,j,u,h => by
  rw [twosP] at h
  rw [List.flatMap_cons]
  rcases j with _ | _ | j
  ·simp at h; subst h; exact ⟨.int .i64 c.1,rfl,.int _ _ _ rfl⟩
  ·simp at h; subst h; exact ⟨.int .i64 c.2,rfl,.int _ _ _ rfl⟩
  ·obtain ⟨x,h1,h2⟩ := prV_rel A j u (by simpa using h)
   exact ⟨x,by simpa [pX] using h1,h2⟩
theorem opV_rel {w : World} : ∀ (A : List OpD) (xs : List Value),OpAt w A xs → ∀ (j : Nat) (u : PV),(opV A)[j]? = some u → ∃ x,xs[j]? = some x ∧ PR Ctx.empty.mut w u x := by
 intro A xs h
 induction h with
 | nil => intro j u h; simp [opV] at h
 | cons x v A xs hw hc ht ih =>
  intro j u h
  rw [opV,List.flatMap_cons] at h
  rcases j with _ | _ | _ | _ | _ | j
  ·simp [opC] at h; subst h; exact ⟨.int .i64 x.kd,rfl,.int _ _ _ rfl⟩
  ·simp [opC] at h; subst h; exact ⟨.int .i64 x.oo,rfl,.int _ _ _ rfl⟩
  ·simp [opC] at h; subst h; exact ⟨.int .i64 x.ot,rfl,.int _ _ _ rfl⟩
  ·simp [opC] at h; subst h; exact ⟨.int .i64 x.oi,rfl,.int _ _ _ rfl⟩
  ·simp [opC] at h; subst h
   refine ⟨v,rfl,?_⟩
   have h1 : LR Ctx.empty w (.p (.vsl (.sym (x.l.length : Int)) true (twosP x.l))) v := vsl_gen (by decide) hc.1 rfl (by rw [twosP_length]; omega) (prV_rel _)
   cases h1 with
   | p _ _ h2 => exact h2
  ·obtain ⟨y,h1,h2⟩ := ih j u (by simpa [opC,opV] using h)
   exact ⟨y,by simpa using h1,h2⟩
theorem vsl_ops {w : World} {v : Value} {A : List OpD} {xs : List Value} (h : Sl w w.heap.size 5 v A.length xs) (hA : OpAt w A xs) {m : Int} {l : List PV} (hm : m = A.length) (hl : l = opV A) : LR Ctx.empty w (.p (.vsl (.sym m) true l)) v := by
 subst hl
 exact vsl_gen (by decide) h hm (by rw [opV_length]; omega) (opV_rel A xs hA)
theorem OpAt.ok {w : World} {A : List OpD} {xs : List Value} (h : OpAt w A xs) : ∀ x ∈ A,x.wf ∧ (∀ c ∈ x.l,PrWf c) ∧ x.l.length ≤ maxLen := by
 induction h with
 | nil => intro x hx; cases hx
 | cons x v A xs hw hc ht ih =>
  intro y hy
  rcases List.mem_cons.1 hy with rfl | hy
  ·exact ⟨hw,hc.2,hc.1.max⟩
  ·exact ih y hy
end Go.Proofs.YtcbombkaacjngaaGreatDoor
namespace Go.Proofs.YtcbombkaacjngaaGreatDoor
open Go Go.LX
set_option maxRecDepth 100000
set_option linter.unusedVariables false
set_option linter.unusedSimpArgs false
set_option maxHeartbeats 32000000
theorem three_eq {a a' b b' : List Int} {c c' : Bool} {x : List Int × List Int × Bool} (h : (a,b,c) = x) (h' : (a',b',c') = x) : a = a' ∧ b = b' ∧ c = c' := by
 rw [← h'] at h
 cases h
 exact ⟨rfl,rfl,rfl⟩
theorem stepd_words {R R' : List Rw} {ws C G ws' C' G' : List Int} {ov ov' : Bool} {ph sp cy W p s y : Int} {out : List Gn} (hA : AOk R ws) (h : Stepd R ws C G ov ph sp cy W out R' ws' C' G' ov' p s y) : (out.length : Int) < 1000000 ∧ ∀ g ∈ out,(g.2.2.1.length : Int) < 1000000 := by
 cases h with
 | mark _ _ _ _ _ _ _ _ hm => cases hm with
  | scan _ _ _ _ _ _ _ _ _ _ => exact ⟨by decide,fun g hg => by cases hg⟩
  | keep a _ X _ _ _ _ _ _ _ hX _ _ =>
   have := hX.le hA
   exact ⟨by show ((1 : Nat) : Int) < 1000000; omega,fun g hg => by rw [List.mem_singleton.1 hg]; show (X.length : Int) < _; omega⟩
  | sweep _ _ _ _ => exact ⟨by decide,fun g hg => by cases hg⟩
 | sweep _ _ _ hs =>
  have h1 := hs.le
  have h2 := hs.facts hA
  exact ⟨by omega,fun g hg => by have := (h2.each g hg).2.1.le hA; omega⟩
 | idle _ _ => exact ⟨by decide,fun g hg => by cases hg⟩
end Go.Proofs.YtcbombkaacjngaaGreatDoor
namespace Go.Proofs.YtcbombkaacjngaaGreatDoor
open Go Go.LX Go.RowKit Go.ChangeShapes Go.WideShapes
set_option maxHeartbeats 32000000
def intsB (P : Program) (t : TypeId) (m : Nat) : Bool :=
 match P.underlying t with
 | some (.struct fs) => P.cellsOf t == m && (List.range m).all fun j => (List.range fs.size).any fun i => match fs[i]? with
  | some f => match P.underlying f.type with
   | some (.int .i64) => f.offset == j && P.cellsOf f.type == 1
   | some (.array n e) => decide (f.offset ≤ j) && decide (j < f.offset + n) && P.cellsOf f.type == n && P.cellsOf e == 1 && CK.is (.i .i64) (P.underlying e)
   | _ => false
  | none => false
 | _ => false
section
variable {H : Type} {enc : TypeId × Value → H} {P : Program} {W : World}
theorem take_one {cs : List Value} {j : Nat} {v : Value} (h : (cs.drop j).take 1 = [v]) : cs[j]? = some v := by
 have e1 : ((cs.drop j).take 1)[0]? = some v := by rw [h]; rfl
 rw [List.getElem?_take,if_pos (by omega),List.getElem?_drop,Nat.add_zero] at e1
 exact e1
theorem ints_of : ∀ (cs : List Value),(∀ (j : Nat) (v : Value),cs[j]? = some v → ∃ n,v = .int .i64 n ∧ (Lit.int .i64 n).wf = true) → ∃ ns : List Int,cs = ns.map (fun n => Value.int .i64 n) ∧ ∀ n ∈ ns,(Lit.int .i64 n).wf = true
 | [],_ => ⟨[],rfl,fun n h => by cases h⟩
 | c :: cs,h => by
  obtain ⟨n,rfl,hw⟩ := h 0 c rfl
  obtain ⟨ns,rfl,hn⟩ := ints_of cs fun j v hj => h (j + 1) v (by simpa using hj)
  refine ⟨n :: ns,rfl,fun x hx => ?_⟩
  rcases List.mem_cons.1 hx with e | e
  ·rw [e]; exact hw
  ·exact hn x e
theorem ints_trod {t : TypeId} {m : Nat} {base fuel : Nat} {spare : Nat → Bool} {held : Bool} {cs : List Value} {x : DataW H × List MemPlace} (hk : intsB P t m = true) (h : DataW.trod enc P W base spare held fuel t cs = some x) :
  ∃ ns : List Int,ns.length = m ∧ cs = ns.map (fun n => Value.int .i64 n) ∧ ∀ n ∈ ns,(Lit.int .i64 n).wf = true := by
 unfold intsB at hk
 split at hk
 ·rename_i fs hu
  simp only [Bool.and_eq_true,beq_iff_eq,List.all_eq_true,List.mem_range,List.any_eq_true] at hk
  obtain ⟨h1,h3⟩ := hk
  obtain ⟨xs,n,_,_,h4,h5,h6⟩ := DataW.trod_struct hu h
  obtain ⟨ns,e1,e2⟩ := ints_of cs fun j v hj => by
   have hlt := (List.getElem?_eq_some_iff.1 hj).1
   obtain ⟨i,hi,h7⟩ := h3 j (by omega)
   split at h7
   ·rename_i f hf
    have h11 := h6 i f hf
    rw [List.getElem?_eq_getElem (by omega : i < xs.length)] at h11
    split at h7
    ·rename_i hu2
     simp only [Bool.and_eq_true,beq_iff_eq] at h7
     rw [h7.1,h7.2] at h11
     obtain ⟨c,h12,_,h13⟩ := DataW.trod_int hu2 h11
     have := take_one h12
     rw [hj] at this
     exact ⟨c,Option.some.inj this,h13⟩
    ·rename_i k e hu2
     simp only [Bool.and_eq_true,beq_iff_eq,decide_eq_true_eq] at h7
     obtain ⟨⟨⟨⟨g1,g2⟩,g3⟩,g4⟩,g5⟩ := h7
     obtain ⟨ys,m2,_,_,k1,k2,k3⟩ := DataW.trod_array hu2 h11
     have k4 := k3 (j - f.offset) (by omega)
     rw [List.getElem?_eq_getElem (by omega : j - f.offset < ys.length),g4,Nat.mul_one] at k4
     obtain ⟨c,h12,n,rfl,h13⟩ := ck_trod g5 k4
     have := take_one h12
     rw [List.getElem?_take,List.getElem?_drop] at this
     split at this
     ·rw [show f.offset + (j - f.offset) = j by omega,hj] at this
      exact ⟨n,Option.some.inj this,h13⟩
     ·cases this
    ·cases h7
   ·cases h7
  refine ⟨ns,?_,e1,e2⟩
  rw [e1,List.length_map] at h4
  omega
 ·cases hk
theorem open_nums {t : TypeId} {m : Nat} {base : Nat} {v : Value} {d : DataW H} {ps : List MemPlace} (hk : intsB P t m = true) (hval : Value.okWide P W .any base t v) (h : DataW.Trod enc P W 0 (fun _ => true) true t v d ps) :
  ∃ ns : List Int,ns.length = m ∧ v = .agg (ns.map (fun n => Value.int .i64 n)).toArray ∧ ∀ n ∈ ns,(Lit.int .i64 n).wf = true := by
 have hk2 := hk
 unfold intsB at hk2
 split at hk2
 ·rename_i fs hu
  obtain ⟨cs,rfl,_⟩ := okWide_struct hu hval
  obtain ⟨fuel,hf⟩ := h
  obtain ⟨ns,h1,h2,h3⟩ := ints_trod hk hf
  refine ⟨ns,h1,?_,h3⟩
  have : cs.toList = ns.map (fun n => Value.int .i64 n) := h2
  rw [← this]
 ·cases hk2
end
theorem LR.nums {c : Ctx} {w : World} (ns : List Int) : LR c w (.agg (ns.map fun n => .p (.int .i64 (.sym n)))) (.agg (ns.map (fun n => Value.int .i64 n)).toArray) := by
 refine .agg _ _ (by simp) fun i u hu => ?_
 rw [List.getElem?_map] at hu
 cases e : ns[i]? with
 | none => rw [e] at hu; cases hu
 | some n =>
  rw [e] at hu
  cases hu
  rw [Array.getD_eq_getD_getElem?,List.getElem?_toArray,List.getElem?_map,e]
  exact LR.of_int _ _
end Go.Proofs.YtcbombkaacjngaaGreatDoor
