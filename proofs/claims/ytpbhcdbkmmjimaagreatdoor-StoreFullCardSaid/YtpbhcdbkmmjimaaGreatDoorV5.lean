/-
  Layer 21: StoreFull.
-/
import Derived.Test.YtpbhcdbkmmjimaaGreatDoorV4
import Derived.Test.YtpbhcdbkmmjimaaGreatDoorVy
import Derived.Test.YtpbhcdbkmmjimaaGreatDoorVq
namespace Go.Proofs.YtpbhcdbkmmjimaaGreatDoor
open Go Go.LX
set_option maxRecDepth 100000
set_option linter.unusedVariables false
set_option linter.unusedSimpArgs false
set_option maxHeartbeats 32000000
theorem classOf21_lx (n : Int) : CallF (fun _ => Tryz.prog) 29 [i6 n] [] 0 (fun r h m => ∃ (c : Int) (b : Bool),r = .tup [i6 c,.p (.bool b)] ∧ h = [] ∧ m = 0 ∧ OfR n c b) := by
 refine callF_of_body tok Tryz.func29 (by kernel_rfl) rfl rfl rfl ?_; conv => cbv
 refine LoopF.mk (fun k s => ∃ c : Int,s = ⟨.p (.int .i64 (.sym n)) :: (undefs 3 ++ .p (.int .i64 (.sym c)) :: undefs 13),[],0⟩ ∧ 0 ≤ c ∧ c ≤ 4 ∧ (1 ≤ c → 4 ≤ n) ∧ (2 ≤ c → 8 ≤ n) ∧ (3 ≤ c → 16 ≤ n) ∧ (4 ≤ c → 32 ≤ n) ∧ k = (4 - c).toNat) 4 _
  (Re.at [] []) ⟨0,rfl,by omega,by omega,by omega,by omega,by omega,by omega,by omega⟩ ?_
 rintro k s ⟨c,rfl,h0,h4,q1,q2,q3,q4,hk⟩
 conv => cbv
 refine Br.mk (fun g => ?_) (fun g => ?_)
 case refine_2 =>
  have g : ¬ c < 4 := g
  have q : OfR n 0 false := .no (by omega)
  conv => cbv
  refine RetF.mk [i6 0,.p (.bool false)] [] 0 (Re.at [] []) rfl ⟨0,false,rfl,rfl,rfl,q⟩
 have g : c < 4 := g
 conv => cbv
 refine Br.mk (fun g2 => ?_) (fun g2 => ?_)
 case refine_2 =>
  have g2 : ¬ 0 ≤ n := g2
  have q : OfR n 0 false := .no (by omega)
  conv => cbv
  refine RetF.mk [i6 0,.p (.bool false)] [] 0 (Re.at [] []) rfl ⟨0,false,rfl,rfl,rfl,q⟩
 have g2 : 0 ≤ n := g2
 obtain ⟨k',rfl⟩ : ∃ k',k = k' + 1 := ⟨k - 1,by omega⟩
 obtain ⟨w,hw⟩ : ∃ w,w = wordsOf c := ⟨_,rfl⟩
 have hw4 : c = 0 ∧ w = 4 ∨ c = 1 ∧ w = 8 ∨ c = 2 ∧ w = 16 ∨ c = 3 ∧ w = 32 := by
  have : c = 0 ∨ c = 1 ∨ c = 2 ∨ c = 3 := by omega
  rcases this with e | e | e | e <;> (rw [e] at hw; rw [hw,e]; decide)
 conv => cbv
 refine callF_frame (refWordsA_lx c w hw) [] rfl trivial rfl rfl (fun r h' n' ⟨e1,e2,e3⟩ => ?_)
 subst e1 e2 e3
 conv => cbv
 refine Br.mk (fun g3 => ?_) (fun g3 => ?_)
 ·have g3 : n < w := g3
  have hc : c = ofN n := by
   unfold ofN
   rcases hw4 with ⟨e1,e2⟩ | ⟨e1,e2⟩ | ⟨e1,e2⟩ | ⟨e1,e2⟩
   ·rw [if_pos (by omega)]; exact e1
   ·rw [if_neg (by omega),if_pos (by omega)]; exact e1
   ·rw [if_neg (by omega),if_neg (by omega),if_pos (by omega)]; exact e1
   ·rw [if_neg (by omega),if_neg (by omega),if_neg (by omega)]; exact e1
  have qq : OfR n c true := .yes c hc (by omega)
  conv => cbv
  refine RetF.mk [i6 c,.p (.bool true)] [] 0 (Re.at [] []) rfl ⟨c,true,rfl,rfl,rfl,qq⟩
 ·have g3 : ¬ n < w := g3
  conv => cbv
  refine Fit.mk (by show (-9223372036854775808 : Int) ≤ c + 1; omega) (by show c + 1 ≤ 9223372036854775807; omega) fun c2 hc2 => ?_
  have hc2 : c2 = c + 1 := hc2
  conv => cbv
  refine Again.mk k' _ (Nat.lt_succ_self _) (Re.at [] []) ⟨c2,rfl,by omega,by omega,by omega,by omega,by omega,by omega,by omega⟩
theorem in21_lx (l : List Int) (x m : Int) (ZL : List PV) (b : Bool) (hm : m = l.length) (hZ : ZL = ipv l) (hml : m ≤ 9223372036854775806) (hb : b = decide (x ∈ l)) : CallF (fun _ => Tryz.prog) 35 [.p (.vsl (.sym m) true ZL),i6 x] [] 0 (fun r h n => r = .p (.bool b) ∧ h = [] ∧ n = 0) := by
 refine callF_of_body tok Tryz.func35 (by kernel_rfl) rfl rfl rfl ?_; conv => cbv
 refine LoopF.mk (fun k s => ∃ i : Int,s = ⟨.p (.vsl (.sym m) true ZL) :: .p (.int .i64 (.sym x)) :: (undefs 3 ++ .p (.int .i64 (.sym i)) :: undefs 12),[],0⟩ ∧ 0 ≤ i ∧ i ≤ m ∧ x ∉ l.take i.toNat ∧ k = (m - i).toNat) m.toNat _
  (Re.at [] []) ⟨0,rfl,by omega,by omega,by simp,by omega⟩ ?_
 rintro k s ⟨i,rfl,hi0,hi1,hnot,hk⟩
 conv => cbv
 refine Br.mk (fun gi => ?_) (fun gi => ?_)
 ·have gi : i < m := gi
  obtain ⟨k',rfl⟩ : ∃ k',k = k' + 1 := ⟨k - 1,by omega⟩
  obtain ⟨z,hz⟩ : ∃ z,l[i.toNat]? = some z := ⟨_,List.getElem?_eq_getElem (by omega)⟩
  have hc : ZL[i.toNat]? = some (.int .i64 (.sym z)) := by rw [hZ]; exact ipv_get hz
  conv => cbv
  refine Need.mk ⟨hi0,by show i < m; omega⟩ ?_
  conv => cbv
  refine Cell.at i _ hc (by simp [I.val]) rfl ?_
  conv => cbv
  refine Br.mk (fun ge => ?_) (fun ge => ?_)
  ·have ge : z = x := ge
   have hbt : b = true := by rw [hb]; exact decide_eq_true (by rw [← ge]; exact List.mem_of_getElem? hz)
   subst hbt
   conv => cbv
   refine RetF.mk [.p (.bool true)] [] 0 (Re.at [] []) rfl ⟨rfl,rfl,rfl⟩
  ·have ge : ¬ z = x := ge
   conv => cbv
   refine Fit.mk (by show (-9223372036854775808 : Int) ≤ i + 1; omega) (by show i + 1 ≤ 9223372036854775807; omega) fun i2 hi2 => ?_
   have hi2 : i2 = i + 1 := hi2
   have hn2 : x ∉ l.take i2.toNat := by
    rw [show i2.toNat = i.toNat + 1 by omega,List.take_add_one,hz]
    intro h
    rcases List.mem_append.1 h with h | h
    ·exact hnot h
    ·exact ge (by simp at h; exact h.symm)
   conv => cbv
   refine Again.mk k' _ (Nat.lt_succ_self _) (Re.at [] []) ⟨i2,rfl,by omega,by omega,hn2,by omega⟩
 ·have gi : ¬ i < m := gi
  have hbt : b = false := by
   rw [hb]
   rw [List.take_of_length_le (by omega)] at hnot
   exact decide_eq_false hnot
  subst hbt
  conv => cbv
  refine RetF.mk [.p (.bool false)] [] 0 (Re.at [] []) rfl ⟨rfl,rfl,rfl⟩
theorem need_v {k m v v' : Int} (h : NeedR k m v true) (h' : NeedR k m v' true) : v = v' := by
 rcases h with ⟨q,⟨_,_,e,_⟩ | ⟨_,_,e⟩⟩ | ⟨q,e,_⟩
 ·rcases h' with ⟨_,⟨_,_,e',_⟩ | ⟨_,_,e'⟩⟩ | ⟨q2,_⟩
  ·rw [e,e']
  ·cases e'
  ·exact absurd q q2
 ·cases e
 ·rcases h' with ⟨q2,_⟩ | ⟨_,e',_⟩
  ·exact absurd q2 q
  ·rw [e,e']
theorem need3 {k v : Int} {b : Bool} (hk : 1 ≤ k ∧ k ≤ 6) (h : NeedR k 3 v b) : b = true := by
 rcases h with ⟨q,⟨_,_,_,e⟩ | ⟨q2,_,_⟩⟩ | ⟨q,e,e2⟩
 ·exact e
 ·exact absurd ⟨by decide,by decide⟩ q2
 ·refine e2.2 ?_
  rw [e]
  have : k = 1 ∨ k = 3 ∨ k = 4 ∨ k = 5 ∨ k = 6 := by omega
  rcases this with q | q | q | q | q <;> (rw [q]; decide)
theorem sz_one {k m v : Int} {X : List Int} (hv : NeedR k m v true) (h : Sz [(k,m)] X) : X = [v] := by
 obtain ⟨h1,h2⟩ := h
 match X,h1 with
 | [a],_ =>
  obtain ⟨w,e,q⟩ := h2 0 _ rfl
  cases e
  rw [need_v q hv]
theorem slots_bd (c : Int) (h0 : 0 ≤ c) (h3 : c ≤ 3) : 1 ≤ slotsOf c ∧ slotsOf c ≤ 8 := by
 have : c = 0 ∨ c = 1 ∨ c = 2 ∨ c = 3 := by omega
 rcases this with e | e | e | e <;> (rw [e]; decide)
theorem storeFull_law (o : Unit → Obj) (ho : IsPow o) (a0 b0 d0 a1 kb : Int) (kp : List Bool) (ck : List PV) (hck : ck = kp.map PV.bool) (hkb : kb = kp.length) (hkbb : kb ≤ 9223372036854775807) : CallF (fun _ => Tryz.prog) 4 [.agg [i6 a0,i6 b0,i6 d0],i6 a1,.p (.vsl (.sym kb) true ck)] [(0,.fix 0 o)] 1 (fun r _ _ => r = .p (.bool true)) := by
 have hckl : ck.length = kp.length := by rw [hck,List.length_map]
 refine callF_of_bodyB tok Tryz.func4 (by kernel_rfl) rfl rfl rfl [19] ?_; conv => cbv
 refine cfr (config21_lx a0 b0 d0) [] (fun r h' n' hrr => ?_)
 obtain ⟨⟨c0,st,as_,e1,g0,g1,g2,g3,g4,g5⟩,e2,e3⟩ := hrr
 subst e1 e2 e3
 conv => cbv
 refine Sum.mk fun t5 ht5 => ?_
 have ht5 : t5 = c0 % 4 := (show t5 = c0.tmod 4 from ht5).trans (Int.tmod_eq_emod_of_nonneg (by omega))
 conv => cbv
 refine Fit.mk (by show (-9223372036854775808 : Int) ≤ 2 + t5; omega) (by show 2 + t5 ≤ 9223372036854775807; omega) fun N hN => ?_
 have hN : N = 2 + t5 := hN
 have hN2 : 2 ≤ N := by omega
 have hN5 : N ≤ 5 := by omega
 clear hN ht5
 conv => cbv
 refine Fit.wrap fun xn_kd hxn => ?_
 have hyn : 0 ≤ xn_kd := by rw [show xn_kd = IntKind.u64.wrap a1 from hxn]; simp [IntKind.wrap,IntKind.bits,IntKind.signed]; omega
 clear hxn
 conv => cbv
 refine Sum.mk fun tn_kd htn => ?_
 have htn : tn_kd = xn_kd % 6 := (show tn_kd = xn_kd.tmod 6 from htn).trans (Int.tmod_eq_emod_of_nonneg hyn)
 conv => cbv
 refine Fit.mk (by show (-9223372036854775808 : Int) ≤ tn_kd; omega) (by show tn_kd ≤ 9223372036854775807; omega) fun un_kd hun => ?_
 have hun : un_kd = tn_kd := hun
 conv => cbv
 refine Fit.mk (by show (-9223372036854775808 : Int) ≤ 1 + un_kd; omega) (by show 1 + un_kd ≤ 9223372036854775807; omega) fun kd hkd => ?_
 have hkd : kd = 1 + un_kd := hkd
 have hkd0 : 1 ≤ kd := by omega
 have hkd1 : kd ≤ 6 := by omega
 clear hkd hun htn hyn
 conv => cbv
 have hCO : COk N st as_ := ⟨by omega,by omega,by omega,by omega⟩
 obtain ⟨z0,hz0⟩ : ∃ z0 : ByteArray,z0 = ⟨(enc []).toArray⟩ := ⟨_,rfl⟩
 obtain ⟨W,hW⟩ : ∃ W : Int,W = 32 * N := ⟨_,rfl⟩
 obtain ⟨L0,hL0⟩ : ∃ L0,L0 = rpv (List.replicate N.toNat ((0,[]) : Rw)) := ⟨_,rfl⟩
 obtain ⟨D0,hD0⟩ : ∃ D0,D0 = ipv (List.replicate W.toNat (0 : Int)) := ⟨_,rfl⟩
 have hM0 := HM.new (by omega : 2 ≤ N) (by omega) hW hL0 hD0 hD0 hz0
 obtain ⟨R0,hR0⟩ : ∃ R0,R0 = List.replicate N.toNat ((0,[]) : Rw) := ⟨_,rfl⟩
 obtain ⟨ws0,hws0⟩ : ∃ ws0,ws0 = List.replicate W.toNat (0 : Int) := ⟨_,rfl⟩
 rw [← hR0,← hws0] at hM0
 have hB0 : Bare0 N ⟨R0,ws0,ws0,[],false,0,0,0⟩ := ⟨hM0.good false 0 0 (by omega) (by omega) ⟨by omega,by omega⟩ (by omega),hR0,rfl⟩
 refine cfr (newS_lx N W st as_ hCO (by omega) (by omega) hW L0 D0 D0 z0 hL0 hD0 hD0 hz0) [] (fun r h' n' ⟨e1,e2,e3⟩ => ?_)
 subst e1 e2 e3
 conv => cbv
 refine cfr (awake21_lx o ho) [(0,0)] (fun r h' n' ⟨e1,e2,e3⟩ => ?_)
 subst e1 e2 e3
 conv => cbv
 refine cfr (heapS_lx R0 ws0 ws0 [] N W 0 0 0 L0 D0 D0 z0 false st as_) [(0,2),(1,3),(2,4),(3,5),(4,6),(5,7),(6,8),(7,9)] (fun r h' n' ⟨e1,e2,e3⟩ => ?_)
 subst e1 e2 e3
 conv => cbv
 refine CallF.le (args0 := [i6 kd,i6 3]) (cfr (rNeedAny_lx kd 3) [] (fun r h' n' hrr => ?_)) (by simp [ales,ale,pvle,I.val])
 obtain ⟨⟨v,b,e1,hv⟩,e2,e3⟩ := hrr
 subst e1 e2 e3
 have hbt := need3 ⟨hkd0,hkd1⟩ hv
 subst hbt
 have hval := need_val hv
 conv => cbv
 refine cfr (classOf21_lx v) [] (fun r h' n' hrr => ?_)
 obtain ⟨c,b,e1,e2,e3,hC⟩ := hrr
 subst e1 e2 e3
 obtain ⟨rfl,hc⟩ : b = true ∧ c = ofN v := by
  cases hC with
  | yes _ hc _ => exact ⟨rfl,hc⟩
  | no h => exact absurd ⟨hval.1,hval.2.1⟩ h
 have hcb := ofN_bd v
 rw [← hc] at hcb
 have hsb := slots_bd _ hcb.1 hcb.2
 obtain ⟨sl,hsl⟩ : ∃ s : Int,s = slotsOf c := ⟨_,rfl⟩
 conv => cbv
 refine drawn_sound tok (by kernel_rfl) [(3,[1,0])] [0,1,2,3,4,5] (by kernel_rfl) ?_; conv => cbv
 conv => cbv
 refine cfr (refSlots_lx c sl hcb.1 hcb.2 hsl) [] (fun r h' n' ⟨e1,e2,e3⟩ => ?_)
 subst e1 e2 e3
 have hms : 0 ≤ N * sl ∧ N * sl ≤ 5 * 8 := ⟨Int.mul_nonneg (by omega) (by omega),Int.mul_le_mul hN5 (by omega) (by omega) (by decide)⟩
 conv => cbv
 refine Fit.mk (by show (-9223372036854775808 : Int) ≤ N * sl; omega) (by show N * sl ≤ 9223372036854775807; omega) fun most hmost => ?_
 have hmost : most = N * sl := hmost
 conv => cbv
 refine LoopF.mk (fun kk s => ∃ (i m ph1 sp1 cy1 : Int) (R1 : List Rw) (ws1 C1 G1 : List Int) (ov1 : Bool) (L1 D1 Q1 cr : List PV) (z1 : ByteArray) (l : List Int),s = ⟨.undef :: .p (.int .i64 (.sym kd)) :: .p (.vsl (.sym kb) true ck) :: (undefs 4 ++ .ptr 1 (.lit 0) :: (undefs 5 ++ .p (.int .i64 (.sym most)) :: .sl 9 3 1 (.lit 0) (.sym m) :: .p (.int .i64 (.sym i)) :: undefs 132)),[(1,.mix [.ptr 2 (.lit 0),i6 st,i6 as_]),hpA 2 3 7 8 3 W ph1 sp1 cy1,hpB 3 4 6 3 W,hpC 4 5 137 2 N,hpP 5 L1,hpP 6 D1,hpF 7 z1 ov1,hpP 8 Q1,(0,.fix 0 o),hpP 9 cr],10⟩ ∧ 0 ≤ i ∧ i ≤ 3 * most ∧ HM R1 ws1 C1 G1 N W L1 D1 Q1 z1 ∧ FullI N (ofN v) ⟨R1,ws1,C1,G1,ov1,ph1,sp1,cy1⟩ l ∧ cr = ipv l ∧ m = l.length ∧ 0 ≤ cy1 ∧ cy1 ≤ 7000 * i ∧ kk = (3 * most - i).toNat) (3 * most).toNat _
  (Re.at [(0,0),(2,1),(3,2),(4,3),(5,4),(6,5),(7,6),(8,7),(9,8)] [9]) ⟨0,0,0,0,0,R0,ws0,ws0,[],false,L0,D0,D0,[],z0,[],rfl,by omega,by omega,hM0,FullI.new _ hB0,rfl,rfl,by omega,by omega,by omega⟩ ?_
 clear hM0 hB0 hR0 hws0 hL0 hD0 hz0
 rintro kk s ⟨i,m,ph1,sp1,cy1,R1,ws1,C1,G1,ov1,L1,D1,Q1,cr,z1,l,rfl,hi0,hi1,h1,hI,hcr,hml,hcy0,hcy1,hkk⟩
 have hcrl : cr.length = l.length := by rw [hcr,ipv_length]
 have hle := hI.le
 have hNR := h1.n
 have hmle : m ≤ most := by rw [hmost,hml,hsl,hc,hNR,Int.mul_comm]; exact_mod_cast hle
 conv => cbv
 refine Fit.mk (by show (-9223372036854775808 : Int) ≤ 3 * most; omega) (by show 3 * most ≤ 9223372036854775807; omega) fun m3 hm3 => ?_
 have hm3 : m3 = 3 * most := hm3
 conv => cbv
 refine Br.mk (fun q => ?_) (fun q => ?_)
 case refine_2 =>
  conv => cbv
  refine RetF.mk [.p (.bool true)] [(0,.fix 0 o)] 1 (Re.at [(0,0)] []) rfl rfl
 have q : i < m3 := q
 conv => cbv
 refine CallF.re (args0 := [.ptr 1 (.lit 0),.p (.vsl (.sym 1) true [.int .i64 (.sym kd),.int .i64 (.sym 3)]),.sl 9 3 1 (.lit 0) (.sym m)]) (h' := [(1,.mix [.ptr 2 (.lit 0),i6 st,i6 as_]),hpA 2 3 7 8 3 W ph1 sp1 cy1,hpB 3 4 6 3 W,hpC 4 5 137 2 N,hpP 5 L1,hpP 6 D1,hpF 7 z1 ov1,hpP 8 Q1,(0,.fix 0 o),hpP 9 cr]) (Re.at [(0,0),(1,1),(2,2),(3,3),(4,4),(5,5),(6,6),(7,7),(8,8),(9,9)] []) (cfr (allocB_lx R1 ws1 C1 G1 N W ph1 sp1 cy1 L1 D1 Q1 z1 ov1 h1 o ho st as_ hCO hI.g (by omega) [(kd,3)] 1 [.int .i64 (.sym kd),.int .i64 (.sym 3)] rfl rfl (by simp) l m cr hcr hml (by omega)) [(0,1),(1,2),(2,3),(3,4),(4,5),(5,6),(6,7),(7,8),(8,0),(9,9)] (fun r h' n' hrr => ?_))
 rcases hrr with ⟨_,⟨p,hp,w,hw⟩,_⟩ | hrr
 ·exfalso
  rw [List.mem_singleton.1 hp] at hw
  have := need3 ⟨hkd0,hkd1⟩ hw
  cases this
 obtain ⟨X,x,out,e,mx,mg,T,cg,R2,ws2,C2,G2,ov2,ph2,sp2,cy2,L2,D2,Q2,z2,e1,hX,hh,h2,hT,hmx,hcg,hmg,hA⟩ := hrr
 have hX2 := sz_one hv hX
 subst hX2
 have hgd := hA.good h1.w hI.g
 have hcyb : cy2 ≤ cy1 + 7000 := hgd.2.1
 have hcy20 : 0 ≤ cy2 := hgd.1.y
 have hst := hI.step h1.w hval hA
 have hNR2 := h2.n
 rcases hst with ⟨rfl,a,rfl,hna,hIa,hIb⟩ | ⟨⟨rfl,rfl,hll,hp2,hob⟩,hg2⟩
 ·have hmx1 : mx = 1 := hmx
  have hT0 : T[0]? = some (.int .i64 (.sym a)) := by rw [hT]; rfl
  rcases hh with ⟨e2,e3⟩ | ⟨e2,e3,_⟩
  ·subst e1 e2 e3
   conv => cbv
   refine Br.no (fun w => w rfl) ?_
   conv => cbv
   refine Br.no (fun w => w hmx1) ?_
   conv => cbv
   refine Need.mk ⟨by show (0 : Int) ≤ 0; omega,by show 0 < mx; omega⟩ ?_
   conv => cbv
   refine Cell.at 0 _ hT0 rfl rfl ?_
   conv => cbv
   refine callF_lend (in21_lx l a m cr false hml hcr (by omega) (decide_eq_false hna).symm) (by simp [lends,lendV,hget,I.val,pvle]) (fun r h' n' ⟨e1,e2,e3⟩ => by subst e1 e2; exact ⟨trivial,trivial⟩) (fun r h' n' ⟨e1,e2,e3⟩ => ?_)
   subst e1 e2 e3
   conv => cbv
   refine JoinF.mk (fun s => ∃ (m2 : Int) (cr2 : List PV) (l2 : List Int),s = ⟨.undef :: .p (.int .i64 (.sym kd)) :: .p (.vsl (.sym kb) true ck) :: (undefs 4 ++ .ptr 1 (.lit 0) :: (undefs 5 ++ .p (.int .i64 (.sym most)) :: .sl 9 3 1 (.lit 0) (.sym m2) :: .p (.int .i64 (.sym i)) :: undefs 132)),[(1,.mix [.ptr 2 (.lit 0),i6 st,i6 as_]),hpA 2 3 7 8 3 W ph2 sp2 cy2,hpB 3 4 6 3 W,hpC 4 5 137 2 N,hpP 5 L2,hpP 6 D2,hpF 7 z2 ov2,hpP 8 Q2,(0,.fix 0 o),hpP 9 cr2],10⟩ ∧ FullI N (ofN v) ⟨R2,ws2,C2,G2,ov2,ph2,sp2,cy2⟩ l2 ∧ cr2 = ipv l2 ∧ m2 = l2.length) ?_ ?_
   ·conv => cbv
    refine Br.mk (fun q5 => ?_) (fun q5 => ?_)
    ·have q5 : i < kb := q5
     obtain ⟨bi,hbi⟩ : ∃ b,kp[i.toNat]? = some b := ⟨_,List.getElem?_eq_getElem (by omega)⟩
     have hcki : ck[i.toNat]? = some (.bool bi) := by rw [hck,List.getElem?_map,hbi]; rfl
     conv => cbv
     refine Need.mk ⟨hi0,q5⟩ ?_
     conv => cbv
     refine Cell.at i _ hcki (by simp [I.val]) rfl ?_
     cases bi with
     | true =>
      conv => cbv
      refine Need.mk ⟨by show (0 : Int) ≤ 0; omega,by show 0 < mx; omega⟩ ?_
      conv => cbv
      refine Cell.at 0 _ hT0 rfl rfl ?_
      conv => cbv
      refine Room.new rfl ?_
      conv => cbv
      refine Room.new ⟨by show (cr.length : Int) = m * 1; omega,by show (m + 1) * 8 ≤ 140737488355328; omega,by show m + 1 ≤ 9223372036854775807; omega⟩ ?_
      conv => cbv
      refine Upd.mk fun c5 hc5 => ?_
      have hc5 : c5 = ipv (l ++ [a]) := by rw [show c5 = cr ++ [.int .i64 (.sym a)] from hc5,← ipv_app,← hcr]; rfl
      conv => cbv
      refine Sum.mk fun m5 hm5 => ?_
      have hm5 : m5 = ((l ++ [a]).length : Int) := by rw [show m5 = m + 1 from hm5,hml,List.length_append]; rfl
      conv => cbv
      refine Joined.mk _ (Re.at [(0,0),(1,1),(2,2),(3,3),(4,4),(5,5),(6,6),(7,7),(8,8),(12,9)] []) ⟨m5,c5,l ++ [a],rfl,hIb,hc5,hm5⟩
     | false =>
      conv => cbv
      refine Fit.mk (by show (-9223372036854775808 : Int) ≤ 2 * most; omega) (by show 2 * most ≤ 9223372036854775807; omega) fun m9 hm9 => ?_
      conv => cbv
      refine Br.mk (fun q6 => ?_) (fun q6 => ?_)
      ·conv => cbv
       refine Need.mk ⟨by show (0 : Int) ≤ 0; omega,by show 0 < mx; omega⟩ ?_
       conv => cbv
       refine Cell.at 0 _ hT0 rfl rfl ?_
       conv => cbv
       refine Room.new rfl ?_
       conv => cbv
       refine Room.new ⟨by show (cr.length : Int) = m * 1; omega,by show (m + 1) * 8 ≤ 140737488355328; omega,by show m + 1 ≤ 9223372036854775807; omega⟩ ?_
       conv => cbv
       refine Upd.mk fun c5 hc5 => ?_
       have hc5 : c5 = ipv (l ++ [a]) := by rw [show c5 = cr ++ [.int .i64 (.sym a)] from hc5,← ipv_app,← hcr]; rfl
       conv => cbv
       refine Sum.mk fun m5 hm5 => ?_
       have hm5 : m5 = ((l ++ [a]).length : Int) := by rw [show m5 = m + 1 from hm5,hml,List.length_append]; rfl
       conv => cbv
       refine Joined.mk _ (Re.at [(0,0),(1,1),(2,2),(3,3),(4,4),(5,5),(6,6),(7,7),(8,8),(12,9)] []) ⟨m5,c5,l ++ [a],rfl,hIb,hc5,hm5⟩
      ·conv => cbv
       refine Joined.mk _ (Re.at [(0,0),(1,1),(2,2),(3,3),(4,4),(5,5),(6,6),(7,7),(8,8),(9,9)] []) ⟨m,cr,l,rfl,hIa,hcr,hml⟩
    ·conv => cbv
     refine Fit.mk (by show (-9223372036854775808 : Int) ≤ 2 * most; omega) (by show 2 * most ≤ 9223372036854775807; omega) fun m9 hm9 => ?_
     conv => cbv
     refine Br.mk (fun q6 => ?_) (fun q6 => ?_)
     ·conv => cbv
      refine Need.mk ⟨by show (0 : Int) ≤ 0; omega,by show 0 < mx; omega⟩ ?_
      conv => cbv
      refine Cell.at 0 _ hT0 rfl rfl ?_
      conv => cbv
      refine Room.new rfl ?_
      conv => cbv
      refine Room.new ⟨by show (cr.length : Int) = m * 1; omega,by show (m + 1) * 8 ≤ 140737488355328; omega,by show m + 1 ≤ 9223372036854775807; omega⟩ ?_
      conv => cbv
      refine Upd.mk fun c5 hc5 => ?_
      have hc5 : c5 = ipv (l ++ [a]) := by rw [show c5 = cr ++ [.int .i64 (.sym a)] from hc5,← ipv_app,← hcr]; rfl
      conv => cbv
      refine Sum.mk fun m5 hm5 => ?_
      have hm5 : m5 = ((l ++ [a]).length : Int) := by rw [show m5 = m + 1 from hm5,hml,List.length_append]; rfl
      conv => cbv
      refine Joined.mk _ (Re.at [(0,0),(1,1),(2,2),(3,3),(4,4),(5,5),(6,6),(7,7),(8,8),(12,9)] []) ⟨m5,c5,l ++ [a],rfl,hIb,hc5,hm5⟩
     ·conv => cbv
      refine Joined.mk _ (Re.at [(0,0),(1,1),(2,2),(3,3),(4,4),(5,5),(6,6),(7,7),(8,8),(9,9)] []) ⟨m,cr,l,rfl,hIa,hcr,hml⟩
   rintro s ⟨m2,cr2,l2,rfl,hI2,hcr2,hml2⟩
   have hle2 := hI2.le
   have hmle2 : m2 ≤ most := by rw [hmost,hml2,hsl,hc,hNR2,Int.mul_comm]; exact_mod_cast hle2
   conv => cbv
   refine Br.no (show ¬ most < m2 by omega) ?_
   conv => cbv
   refine Fit.mk (by show (-9223372036854775808 : Int) ≤ i + 1; omega) (by show i + 1 ≤ 9223372036854775807; omega) fun i2 hi2 => ?_
   have hi2 : i2 = i + 1 := hi2
   conv => cbv
   refine Again.mk (3 * most - i2).toNat _ (by omega) (Re.at [(0,0),(1,1),(2,2),(3,3),(4,4),(5,5),(6,6),(7,7),(8,8),(9,9)] []) ⟨i2,m2,ph2,sp2,cy2,R2,ws2,C2,G2,ov2,L2,D2,Q2,cr2,z2,l2,rfl,by omega,by omega,h2,hI2,hcr2,hml2,hcy20,by omega,rfl⟩
  ·subst e1 e2 e3
   conv => cbv
   refine Br.no (fun w => w rfl) ?_
   conv => cbv
   refine Br.no (fun w => w hmx1) ?_
   conv => cbv
   refine Need.mk ⟨by show (0 : Int) ≤ 0; omega,by show 0 < mx; omega⟩ ?_
   conv => cbv
   refine Cell.at 0 _ hT0 rfl rfl ?_
   conv => cbv
   refine callF_lend (in21_lx l a m cr false hml hcr (by omega) (decide_eq_false hna).symm) (by simp [lends,lendV,hget,I.val,pvle]) (fun r h' n' ⟨e1,e2,e3⟩ => by subst e1 e2; exact ⟨trivial,trivial⟩) (fun r h' n' ⟨e1,e2,e3⟩ => ?_)
   subst e1 e2 e3
   conv => cbv
   refine JoinF.mk (fun s => ∃ (m2 : Int) (cr2 : List PV) (l2 : List Int),s = ⟨.undef :: .p (.int .i64 (.sym kd)) :: .p (.vsl (.sym kb) true ck) :: (undefs 4 ++ .ptr 1 (.lit 0) :: (undefs 5 ++ .p (.int .i64 (.sym most)) :: .sl 9 3 1 (.lit 0) (.sym m2) :: .p (.int .i64 (.sym i)) :: undefs 132)),[(1,.mix [.ptr 2 (.lit 0),i6 st,i6 as_]),hpA 2 3 7 8 3 W ph2 sp2 cy2,hpB 3 4 6 3 W,hpC 4 5 137 2 N,hpP 5 L2,hpP 6 D2,hpF 7 z2 ov2,hpP 8 Q2,(0,.fix 0 o),hpP 9 cr2],10⟩ ∧ FullI N (ofN v) ⟨R2,ws2,C2,G2,ov2,ph2,sp2,cy2⟩ l2 ∧ cr2 = ipv l2 ∧ m2 = l2.length) ?_ ?_
   ·conv => cbv
    refine Br.mk (fun q5 => ?_) (fun q5 => ?_)
    ·have q5 : i < kb := q5
     obtain ⟨bi,hbi⟩ : ∃ b,kp[i.toNat]? = some b := ⟨_,List.getElem?_eq_getElem (by omega)⟩
     have hcki : ck[i.toNat]? = some (.bool bi) := by rw [hck,List.getElem?_map,hbi]; rfl
     conv => cbv
     refine Need.mk ⟨hi0,q5⟩ ?_
     conv => cbv
     refine Cell.at i _ hcki (by simp [I.val]) rfl ?_
     cases bi with
     | true =>
      conv => cbv
      refine Need.mk ⟨by show (0 : Int) ≤ 0; omega,by show 0 < mx; omega⟩ ?_
      conv => cbv
      refine Cell.at 0 _ hT0 rfl rfl ?_
      conv => cbv
      refine Room.new rfl ?_
      conv => cbv
      refine Room.new ⟨by show (cr.length : Int) = m * 1; omega,by show (m + 1) * 8 ≤ 140737488355328; omega,by show m + 1 ≤ 9223372036854775807; omega⟩ ?_
      conv => cbv
      refine Upd.mk fun c5 hc5 => ?_
      have hc5 : c5 = ipv (l ++ [a]) := by rw [show c5 = cr ++ [.int .i64 (.sym a)] from hc5,← ipv_app,← hcr]; rfl
      conv => cbv
      refine Sum.mk fun m5 hm5 => ?_
      have hm5 : m5 = ((l ++ [a]).length : Int) := by rw [show m5 = m + 1 from hm5,hml,List.length_append]; rfl
      conv => cbv
      refine Joined.mk _ (Re.at [(0,0),(1,1),(2,2),(3,3),(4,4),(5,5),(6,6),(8,8),(11,7),(13,9)] []) ⟨m5,c5,l ++ [a],rfl,hIb,hc5,hm5⟩
     | false =>
      conv => cbv
      refine Fit.mk (by show (-9223372036854775808 : Int) ≤ 2 * most; omega) (by show 2 * most ≤ 9223372036854775807; omega) fun m9 hm9 => ?_
      conv => cbv
      refine Br.mk (fun q6 => ?_) (fun q6 => ?_)
      ·conv => cbv
       refine Need.mk ⟨by show (0 : Int) ≤ 0; omega,by show 0 < mx; omega⟩ ?_
       conv => cbv
       refine Cell.at 0 _ hT0 rfl rfl ?_
       conv => cbv
       refine Room.new rfl ?_
       conv => cbv
       refine Room.new ⟨by show (cr.length : Int) = m * 1; omega,by show (m + 1) * 8 ≤ 140737488355328; omega,by show m + 1 ≤ 9223372036854775807; omega⟩ ?_
       conv => cbv
       refine Upd.mk fun c5 hc5 => ?_
       have hc5 : c5 = ipv (l ++ [a]) := by rw [show c5 = cr ++ [.int .i64 (.sym a)] from hc5,← ipv_app,← hcr]; rfl
       conv => cbv
       refine Sum.mk fun m5 hm5 => ?_
       have hm5 : m5 = ((l ++ [a]).length : Int) := by rw [show m5 = m + 1 from hm5,hml,List.length_append]; rfl
       conv => cbv
       refine Joined.mk _ (Re.at [(0,0),(1,1),(2,2),(3,3),(4,4),(5,5),(6,6),(8,8),(11,7),(13,9)] []) ⟨m5,c5,l ++ [a],rfl,hIb,hc5,hm5⟩
      ·conv => cbv
       refine Joined.mk _ (Re.at [(0,0),(1,1),(2,2),(3,3),(4,4),(5,5),(6,6),(8,8),(9,9),(11,7)] []) ⟨m,cr,l,rfl,hIa,hcr,hml⟩
    ·conv => cbv
     refine Fit.mk (by show (-9223372036854775808 : Int) ≤ 2 * most; omega) (by show 2 * most ≤ 9223372036854775807; omega) fun m9 hm9 => ?_
     conv => cbv
     refine Br.mk (fun q6 => ?_) (fun q6 => ?_)
     ·conv => cbv
      refine Need.mk ⟨by show (0 : Int) ≤ 0; omega,by show 0 < mx; omega⟩ ?_
      conv => cbv
      refine Cell.at 0 _ hT0 rfl rfl ?_
      conv => cbv
      refine Room.new rfl ?_
      conv => cbv
      refine Room.new ⟨by show (cr.length : Int) = m * 1; omega,by show (m + 1) * 8 ≤ 140737488355328; omega,by show m + 1 ≤ 9223372036854775807; omega⟩ ?_
      conv => cbv
      refine Upd.mk fun c5 hc5 => ?_
      have hc5 : c5 = ipv (l ++ [a]) := by rw [show c5 = cr ++ [.int .i64 (.sym a)] from hc5,← ipv_app,← hcr]; rfl
      conv => cbv
      refine Sum.mk fun m5 hm5 => ?_
      have hm5 : m5 = ((l ++ [a]).length : Int) := by rw [show m5 = m + 1 from hm5,hml,List.length_append]; rfl
      conv => cbv
      refine Joined.mk _ (Re.at [(0,0),(1,1),(2,2),(3,3),(4,4),(5,5),(6,6),(8,8),(11,7),(13,9)] []) ⟨m5,c5,l ++ [a],rfl,hIb,hc5,hm5⟩
     ·conv => cbv
      refine Joined.mk _ (Re.at [(0,0),(1,1),(2,2),(3,3),(4,4),(5,5),(6,6),(8,8),(9,9),(11,7)] []) ⟨m,cr,l,rfl,hIa,hcr,hml⟩
   rintro s ⟨m2,cr2,l2,rfl,hI2,hcr2,hml2⟩
   have hle2 := hI2.le
   have hmle2 : m2 ≤ most := by rw [hmost,hml2,hsl,hc,hNR2,Int.mul_comm]; exact_mod_cast hle2
   conv => cbv
   refine Br.no (show ¬ most < m2 by omega) ?_
   conv => cbv
   refine Fit.mk (by show (-9223372036854775808 : Int) ≤ i + 1; omega) (by show i + 1 ≤ 9223372036854775807; omega) fun i2 hi2 => ?_
   have hi2 : i2 = i + 1 := hi2
   conv => cbv
   refine Again.mk (3 * most - i2).toNat _ (by omega) (Re.at [(0,0),(1,1),(2,2),(3,3),(4,4),(5,5),(6,6),(7,7),(8,8),(9,9)] []) ⟨i2,m2,ph2,sp2,cy2,R2,ws2,C2,G2,ov2,L2,D2,Q2,cr2,z2,l2,rfl,by omega,by omega,h2,hI2,hcr2,hml2,hcy20,by omega,rfl⟩
 ·have hp2 : ph2 = 0 := hp2
  have hmm : m = most := by rw [hmost,hml,hsl,hc,hNR,Int.mul_comm]; exact_mod_cast hll
  rcases hh with ⟨e2,e3⟩ | ⟨e2,e3,_⟩
  ·subst e1 e2 e3
   conv => cbv
   refine Br.yes (show ¬ (9 : Int) = 0 by decide) ?_
   conv => cbv
   refine Br.yes (show (9 : Int) = 9 from rfl) ?_
   conv => cbv
   refine Br.yes (show mx = 0 from hmx) ?_
   conv => cbv
   refine Br.yes (show m = most from hmm) ?_
   conv => cbv
   refine cfr (heapS_lx R2 ws2 C2 G2 N W ph2 sp2 cy2 L2 D2 Q2 z2 ov2 st as_) [(0,1),(1,2),(2,3),(3,4),(4,5),(5,6),(6,7),(7,8)] (fun r h' n' ⟨e1,e2,e3⟩ => ?_)
   subst e1 e2 e3
   conv => cbv
   refine cfr (phase_lx R2 ws2 C2 G2 N W ph2 sp2 cy2 L2 D2 Q2 z2 ov2) [(0,2),(1,3),(2,4),(3,5),(4,6),(5,7),(6,8)] (fun r h' n' ⟨e1,e2,e3⟩ => ?_)
   subst e1 e2 e3
   conv => cbv
   refine Br.yes (show ph2 = 0 from hp2) ?_
   conv => cbv
   obtain ⟨mo,hmo⟩ : ∃ m : Int,m = objCount R2 := ⟨_,rfl⟩
   have hoc : (objs R2).length = objCount R2 := objs_length h2.a.rows
   refine cfr (heapS_lx R2 ws2 C2 G2 N W ph2 sp2 cy2 L2 D2 Q2 z2 ov2 st as_) [(0,1),(1,2),(2,3),(3,4),(4,5),(5,6),(6,7),(7,8)] (fun r h' n' ⟨e1,e2,e3⟩ => ?_)
   subst e1 e2 e3
   conv => cbv
   refine cfr (arena_lx R2 ws2 C2 G2 N W ph2 sp2 cy2 L2 D2 Q2 z2 ov2) [(0,2),(1,3),(2,4),(3,5),(4,6),(5,7),(6,8)] (fun r h' n' ⟨e1,e2,e3⟩ => ?_)
   subst e1 e2 e3
   conv => cbv
   refine cfr (objects_lx mo R2 N W L2 D2 h2.l h2.n h2.r h2.a.rows h2.w hmo) [(0,3),(1,4),(2,5),(3,6)] (fun r h' n' hrr => ?_)
   obtain ⟨E,e1,e2,e3,hE⟩ := hrr
   subst e1 e2 e3
   conv => cbv
   refine callF_lend (sorted21_lx l m cr hml hcr (by omega) hI.d) (by simp [lends,lendV,hget,I.val,pvle]) (fun r h' n' hrr => ?_) (fun r h' n' hrr => ?_)
   ·obtain ⟨B,m7,T7,e1,e2,e3,hT7,_⟩ := hrr
    subst e1 e2
    exact ⟨trivial,fun u hu => by rw [hT7] at hu; obtain ⟨y,_,rfl⟩ := List.mem_map.1 hu; exact trivial,trivial⟩
   obtain ⟨B,m7,T7,e1,e2,e3,hT7,hm7,hB1,hB2⟩ := hrr
   subst e1 e2 e3
   have hBo : B = objs R2 := asc_eq hB1 (objsTo_asc h2.a.rows _) (fun y => (hB2 y).trans (hob y).symm)
   have hmo2 : mo = m7 := by rw [hm7,hBo,hoc,hmo]
   conv => cbv
   refine callF_lend (plain21_true B m7 E T7 hm7 (by rw [hE,hBo]; rfl) hT7 (by rw [hBo]; have := objCount_le8 h2.a.rows; omega)) (by simp [lends,lendV,hget,I.val,pvle,hmo2]) (fun r h' n' ⟨e1,e2,e3⟩ => by subst e1 e2; exact ⟨trivial,trivial⟩) (fun r h' n' ⟨e1,e2,e3⟩ => ?_)
   subst e1 e2 e3
   conv => cbv
   refine RetF.mk [.p (.bool true)] [(0,.fix 0 o)] 1 (Re.at [(0,0)] []) rfl rfl
  ·subst e1 e2 e3
   conv => cbv
   refine Br.yes (show ¬ (9 : Int) = 0 by decide) ?_
   conv => cbv
   refine Br.yes (show (9 : Int) = 9 from rfl) ?_
   conv => cbv
   refine Br.yes (show mx = 0 from hmx) ?_
   conv => cbv
   refine Br.yes (show m = most from hmm) ?_
   conv => cbv
   refine cfr (heapS_lx R2 ws2 C2 G2 N W ph2 sp2 cy2 L2 D2 Q2 z2 ov2 st as_) [(0,1),(1,2),(2,3),(3,4),(4,5),(5,6),(6,11),(7,8)] (fun r h' n' ⟨e1,e2,e3⟩ => ?_)
   subst e1 e2 e3
   conv => cbv
   refine cfr (phase_lx R2 ws2 C2 G2 N W ph2 sp2 cy2 L2 D2 Q2 z2 ov2) [(0,2),(1,3),(2,4),(3,5),(4,6),(5,11),(6,8)] (fun r h' n' ⟨e1,e2,e3⟩ => ?_)
   subst e1 e2 e3
   conv => cbv
   refine Br.yes (show ph2 = 0 from hp2) ?_
   conv => cbv
   obtain ⟨mo,hmo⟩ : ∃ m : Int,m = objCount R2 := ⟨_,rfl⟩
   have hoc : (objs R2).length = objCount R2 := objs_length h2.a.rows
   refine cfr (heapS_lx R2 ws2 C2 G2 N W ph2 sp2 cy2 L2 D2 Q2 z2 ov2 st as_) [(0,1),(1,2),(2,3),(3,4),(4,5),(5,6),(6,11),(7,8)] (fun r h' n' ⟨e1,e2,e3⟩ => ?_)
   subst e1 e2 e3
   conv => cbv
   refine cfr (arena_lx R2 ws2 C2 G2 N W ph2 sp2 cy2 L2 D2 Q2 z2 ov2) [(0,2),(1,3),(2,4),(3,5),(4,6),(5,11),(6,8)] (fun r h' n' ⟨e1,e2,e3⟩ => ?_)
   subst e1 e2 e3
   conv => cbv
   refine cfr (objects_lx mo R2 N W L2 D2 h2.l h2.n h2.r h2.a.rows h2.w hmo) [(0,3),(1,4),(2,5),(3,6)] (fun r h' n' hrr => ?_)
   obtain ⟨E,e1,e2,e3,hE⟩ := hrr
   subst e1 e2 e3
   conv => cbv
   refine callF_lend (sorted21_lx l m cr hml hcr (by omega) hI.d) (by simp [lends,lendV,hget,I.val,pvle]) (fun r h' n' hrr => ?_) (fun r h' n' hrr => ?_)
   ·obtain ⟨B,m7,T7,e1,e2,e3,hT7,_⟩ := hrr
    subst e1 e2
    exact ⟨trivial,fun u hu => by rw [hT7] at hu; obtain ⟨y,_,rfl⟩ := List.mem_map.1 hu; exact trivial,trivial⟩
   obtain ⟨B,m7,T7,e1,e2,e3,hT7,hm7,hB1,hB2⟩ := hrr
   subst e1 e2 e3
   have hBo : B = objs R2 := asc_eq hB1 (objsTo_asc h2.a.rows _) (fun y => (hB2 y).trans (hob y).symm)
   have hmo2 : mo = m7 := by rw [hm7,hBo,hoc,hmo]
   conv => cbv
   refine callF_lend (plain21_true B m7 E T7 hm7 (by rw [hE,hBo]; rfl) hT7 (by rw [hBo]; have := objCount_le8 h2.a.rows; omega)) (by simp [lends,lendV,hget,I.val,pvle,hmo2]) (fun r h' n' ⟨e1,e2,e3⟩ => by subst e1 e2; exact ⟨trivial,trivial⟩) (fun r h' n' ⟨e1,e2,e3⟩ => ?_)
   subst e1 e2 e3
   conv => cbv
   refine RetF.mk [.p (.bool true)] [(0,.fix 0 o)] 1 (Re.at [(0,0)] []) rfl rfl
end Go.Proofs.YtpbhcdbkmmjimaaGreatDoor
