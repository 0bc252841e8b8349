/-
  Layer 21: StoreForced.
-/
import Derived.Test.YtpbhcdbkmmjimaaGreatDoorV6
import Derived.Test.YtpbhcdbkmmjimaaGreatDoorVy
namespace Go.Proofs.YtpbhcdbkmmjimaaGreatDoor
open Go Go.LX
set_option maxRecDepth 100000
set_option linter.unusedVariables false
set_option linter.unusedSimpArgs false
set_option maxHeartbeats 32000000
theorem inG_lx (l : List Int) (x m : Int) (ZL : List PV) (b : Bool) (hm : m = l.length) (hZ : ZL = ipv l) (hml : m ≤ 9223372036854775806) (hb : b = decide (x ∈ l)) : CallF (fun _ => Tryz.prog) 35 [.p (.vsl (.sym m) true ZL),i6 x] [] 0 (fun r h n => r = .p (.bool b) ∧ h = [] ∧ n = 0) := by
 refine callF_of_body tok Tryz.func35 (by kernel_rfl) rfl rfl rfl ?_; conv => cbv
 refine LoopF.mk (fun k s => ∃ i : Int,s = ⟨.p (.vsl (.sym m) true ZL) :: .p (.int .i64 (.sym x)) :: (undefs 3 ++ .p (.int .i64 (.sym i)) :: undefs 12),[],0⟩ ∧ 0 ≤ i ∧ i ≤ m ∧ x ∉ l.take i.toNat ∧ k = (m - i).toNat) m.toNat _
  (Re.at [] []) ⟨0,rfl,by omega,by omega,by simp,by omega⟩ ?_
 rintro k s ⟨i,rfl,hi0,hi1,hnot,hk⟩
 conv => cbv
 refine Br.mk (fun gi => ?_) (fun gi => ?_)
 ·have gi : i < m := gi
  obtain ⟨k',rfl⟩ : ∃ k',k = k' + 1 := ⟨k - 1,by omega⟩
  obtain ⟨z,hz⟩ : ∃ z,l[i.toNat]? = some z := ⟨_,List.getElem?_eq_getElem (by omega)⟩
  have hc : ZL[i.toNat]? = some (.int .i64 (.sym z)) := by rw [hZ]; exact ipv_get hz
  conv => cbv
  refine Need.mk ⟨hi0,by show i < m; omega⟩ ?_
  conv => cbv
  refine Cell.at i _ hc (by simp [I.val]) rfl ?_
  conv => cbv
  refine Br.mk (fun ge => ?_) (fun ge => ?_)
  ·have ge : z = x := ge
   have hbt : b = true := by rw [hb]; exact decide_eq_true (by rw [← ge]; exact List.mem_of_getElem? hz)
   subst hbt
   conv => cbv
   refine RetF.mk [.p (.bool true)] [] 0 (Re.at [] []) rfl ⟨rfl,rfl,rfl⟩
  ·have ge : ¬ z = x := ge
   conv => cbv
   refine Fit.mk (by show (-9223372036854775808 : Int) ≤ i + 1; omega) (by show i + 1 ≤ 9223372036854775807; omega) fun i2 hi2 => ?_
   have hi2 : i2 = i + 1 := hi2
   have hn2 : x ∉ l.take i2.toNat := by
    rw [show i2.toNat = i.toNat + 1 by omega,List.take_add_one,hz]
    intro h
    rcases List.mem_append.1 h with h | h
    ·exact hnot h
    ·exact ge (by simp at h; exact h.symm)
   conv => cbv
   refine Again.mk k' _ (Nat.lt_succ_self _) (Re.at [] []) ⟨i2,rfl,by omega,by omega,hn2,by omega⟩
 ·have gi : ¬ i < m := gi
  have hbt : b = false := by
   rw [hb]
   rw [List.take_of_length_le (by omega)] at hnot
   exact decide_eq_false hnot
  subst hbt
  conv => cbv
  refine RetF.mk [.p (.bool false)] [] 0 (Re.at [] []) rfl ⟨rfl,rfl,rfl⟩
theorem gpv_cellsG (l : List Gn) : ∀ (i : Nat) (g : Gn),l[i]? = some g → (gpv l)[4 * i]? = some (.int .i64 (.sym g.1)) ∧ (gpv l)[4 * i + 1]? = some (.int .i64 (.sym g.2.1)) ∧ (gpv l)[4 * i + 2]? = some (.vsl (.sym (g.2.2.1.length : Int)) true (ipv g.2.2.1)) ∧ (gpv l)[4 * i + 3]? = some (.bool g.2.2.2) := by
 induction l with
 | nil => intro i g h; simp at h
 | cons x l ih =>
  intro i g h
  cases i with
  | zero => simp at h; subst h; exact ⟨rfl,rfl,rfl,rfl⟩
  | succ i =>
   have h2 := ih i g (by simpa using h)
   rw [show 4 * (i + 1) = (4 * i) + 4 by omega]
   exact h2
theorem keptOfG_take {out : List Gn} {j : Nat} {g : Gn} (h : out[j]? = some g) : keptOf (out.take (j + 1)) = keptOf (out.take j) ++ (if g.2.2.2 = true then [g.2.1] else []) := by
 unfold keptOf
 rw [List.take_add_one,h,List.filter_append,List.map_append]
 congr 1
 cases hb : g.2.2.2 <;> simp [hb]
theorem sz_box7 {X : List Int} (h : Sz [(5,0)] X) : X = [2] := by
 obtain ⟨h1,h2⟩ := h
 match X,h1 with
 | [a],_ =>
  obtain ⟨v,e,q⟩ := h2 0 _ rfl
  cases e
  rcases q with ⟨q,_⟩ | ⟨_,q,_⟩
  ·exact absurd q (by decide)
  ·rw [show a = 2 from q]
theorem sz_gor7 {X : List Int} (h : Sz [(4,0)] X) : X = [10] := by
 obtain ⟨h1,h2⟩ := h
 match X,h1 with
 | [a],_ =>
  obtain ⟨v,e,q⟩ := h2 0 _ rfl
  cases e
  rcases q with ⟨q,_⟩ | ⟨_,q,_⟩
  ·exact absurd q (by decide)
  ·rw [show a = 10 from q]
theorem storeForced_law (o : Unit → Obj) (ho : IsPow o) (a0 : Int) : CallF (fun _ => Tryz.prog) 8 [i6 a0] [(0,.fix 0 o)] 1 (fun r _ _ => r = .p (.bool true)) := by
 refine callF_of_body tok Tryz.func8 (by kernel_rfl) rfl rfl rfl ?_; conv => cbv
 refine Fit.wrap fun xn_n hxn => ?_
 have hyn : 0 ≤ xn_n := by rw [show xn_n = IntKind.u64.wrap a0 from hxn]; simp [IntKind.wrap,IntKind.bits,IntKind.signed]; omega
 clear hxn
 conv => cbv
 refine Sum.mk fun tn_n htn => ?_
 have htn : tn_n = xn_n % 8 := (show tn_n = xn_n.tmod 8 from htn).trans (Int.tmod_eq_emod_of_nonneg hyn)
 conv => cbv
 refine Fit.mk (by show (-9223372036854775808 : Int) ≤ tn_n; omega) (by show tn_n ≤ 9223372036854775807; omega) fun un_n hun => ?_
 have hun : un_n = tn_n := hun
 conv => cbv
 refine Fit.mk (by show (-9223372036854775808 : Int) ≤ 1 + un_n; omega) (by show 1 + un_n ≤ 9223372036854775807; omega) fun n hn => ?_
 have hn : n = 1 + un_n := hn
 have hn0 : 1 ≤ n := by omega
 have hn1 : n ≤ 8 := by omega
 clear hn hun htn hyn
 conv => cbv
 obtain ⟨N,hN⟩ : ∃ N : Int,N = 2 := ⟨_,rfl⟩
 obtain ⟨st,hst⟩ : ∃ N : Int,N = 100 := ⟨_,rfl⟩
 obtain ⟨as_,has⟩ : ∃ N : Int,N = 0 := ⟨_,rfl⟩
 have hCO : COk N st as_ := ⟨by omega,by omega,by omega,by omega⟩
 obtain ⟨z0,hz0⟩ : ∃ z0 : ByteArray,z0 = ⟨(enc []).toArray⟩ := ⟨_,rfl⟩
 obtain ⟨W,hW⟩ : ∃ W : Int,W = 32 * N := ⟨_,rfl⟩
 obtain ⟨L0,hL0⟩ : ∃ L0,L0 = rpv (List.replicate N.toNat ((0,[]) : Rw)) := ⟨_,rfl⟩
 obtain ⟨D0,hD0⟩ : ∃ D0,D0 = ipv (List.replicate W.toNat (0 : Int)) := ⟨_,rfl⟩
 have hM0 := HM.new (by omega : 2 ≤ N) (by omega) hW hL0 hD0 hD0 hz0
 obtain ⟨R0,hR0⟩ : ∃ R0,R0 = List.replicate N.toNat ((0,[]) : Rw) := ⟨_,rfl⟩
 obtain ⟨ws0,hws0⟩ : ∃ ws0,ws0 = List.replicate W.toNat (0 : Int) := ⟨_,rfl⟩
 rw [← hR0,← hws0] at hM0
 have hB0 : Bare0 N ⟨R0,ws0,ws0,[],false,0,0,0⟩ := ⟨hM0.good false 0 0 (by omega) (by omega) ⟨by omega,by omega⟩ (by omega),hR0,rfl⟩
 refine CallF.le (args0 := [.agg [i6 N,i6 st,i6 as_]]) (cfr (newS_lx N W st as_ hCO (by omega) (by omega) hW L0 D0 D0 z0 hL0 hD0 hD0 hz0) [] (fun r h' n' ⟨e1,e2,e3⟩ => ?_)) (by simp [ales,ale,pvle,I.val,hN,hst,has])
 subst e1 e2 e3
 conv => cbv
 refine cfr (awake21_lx o ho) [(0,0)] (fun r h' n' ⟨e1,e2,e3⟩ => ?_)
 subst e1 e2 e3
 conv => cbv
 refine cfr (heapS_lx R0 ws0 ws0 [] N W 0 0 0 L0 D0 D0 z0 false st as_) [(0,1),(1,2),(2,3),(3,4),(4,5),(5,6),(6,7),(7,8)] (fun r h' n' ⟨e1,e2,e3⟩ => ?_)
 subst e1 e2 e3
 conv => cbv
 refine cfr (heapS_lx R0 ws0 ws0 [] N W 0 0 0 L0 D0 D0 z0 false st as_) [(0,1),(1,2),(2,3),(3,4),(4,5),(5,6),(6,7),(7,8)] (fun r h' n' ⟨e1,e2,e3⟩ => ?_)
 subst e1 e2 e3
 conv => cbv
 refine cfr (arena_lx R0 ws0 ws0 [] N W 0 0 0 L0 D0 D0 z0 false) [(0,2),(1,3),(2,4),(3,5),(4,6),(5,7),(6,8)] (fun r h' n' ⟨e1,e2,e3⟩ => ?_)
 subst e1 e2 e3
 conv => cbv
 refine LoopF.mk (fun kk s => ∃ (i m sp1 cy1 : Int) (R1 : List Rw) (ws1 C1 G1 : List Int) (ov1 : Bool) (L1 D1 Q1 cr : List PV) (z1 : ByteArray) (l : List Int),s = ⟨.p (.int .i64 (.sym n)) :: (undefs 2 ++ .ptr 1 (.lit 0) :: .undef :: .sl 9 3 1 (.lit 0) (.sym m) :: .p (.int .i64 (.sym i)) :: undefs 130),[(1,.mix [.ptr 2 (.lit 0),i6 st,i6 as_]),hpA 2 3 7 8 3 W 0 sp1 cy1,hpB 3 4 6 3 W,hpC 4 5 137 2 N,hpP 5 L1,hpP 6 D1,hpF 7 z1 ov1,hpP 8 Q1,(0,.fix 0 o),hpP 9 cr],10⟩ ∧ 0 ≤ i ∧ i ≤ n ∧ HM R1 ws1 C1 G1 N W L1 D1 Q1 z1 ∧ FbI N ⟨R1,ws1,C1,G1,ov1,0,sp1,cy1⟩ l ∧ Mono 0 R1 ∧ objCount R1 = l.length ∧ cr = ipv l ∧ m = l.length ∧ m = i ∧ 0 ≤ cy1 ∧ cy1 ≤ 7000 * i ∧ kk = (n - i).toNat) n.toNat _
  (Re.at [(0,0),(1,1),(2,2),(3,3),(4,4),(5,5),(6,6),(7,7),(8,8)] [9]) ⟨0,0,0,0,R0,ws0,ws0,[],false,L0,D0,D0,[],z0,[],rfl,by omega,by omega,hM0,FbI.new hB0,by rw [hR0]; exact Mono.new 0 _,hB0.count,rfl,rfl,rfl,by omega,by omega,by omega⟩ ?_
 clear hM0 hB0 hR0 hws0 hL0 hD0 hz0
 rintro kk s ⟨i,m,sp1,cy1,R1,ws1,C1,G1,ov1,L1,D1,Q1,cr,z1,l,rfl,hi0,hi1,h1,hI,hMo,hcnt,hcr,hml,hmi,hcy0,hcy1,hkk⟩
 have hcrl : cr.length = l.length := by rw [hcr,ipv_length]
 conv => cbv
 refine Br.mk (fun q => ?_) (fun q => ?_)
 case refine_2 =>
  have q : ¬ i < n := q
  conv => cbv
  clear hMo
  have hml2 : m = ((l.length : Nat) : Int) := hml
  have hmi2 : m = i := hmi
  have hi2 : i = n := by omega
  have hcn : ((objCount R1 : Nat) : Int) = n := by omega
  refine LoopF.mk (fun kk s => ∃ (i sp1 cy1 : Int) (R1 : List Rw) (ws1 C1 G1 : List Int) (ov1 : Bool) (L1 D1 Q1 : List PV) (z1 : ByteArray),s = ⟨.p (.int .i64 (.sym n)) :: (undefs 2 ++ .ptr 1 (.lit 0) :: .undef :: .sl 9 3 1 (.lit 0) (.sym m) :: (undefs 4 ++ .p (.int .i64 (.lit 0)) :: .p (.int .i64 (.sym i)) :: undefs 125)),[(1,.mix [.ptr 2 (.lit 0),i6 st,i6 as_]),hpA 2 3 7 8 3 W 0 sp1 cy1,hpB 3 4 6 3 W,hpC 4 5 137 2 N,hpP 5 L1,hpP 6 D1,hpF 7 z1 ov1,hpP 8 Q1,(0,.fix 0 o),hpP 9 cr],10⟩ ∧ 0 ≤ i ∧ i ≤ 20 ∧ HM R1 ws1 C1 G1 N W L1 D1 Q1 z1 ∧ FbI N ⟨R1,ws1,C1,G1,ov1,0,sp1,cy1⟩ l ∧ objCount R1 = n + i ∧ 0 ≤ cy1 ∧ cy1 ≤ 7000 * (i + 8) ∧ kk = (20 - i).toNat) 20 _
   (Re.at [(0,0),(1,1),(2,2),(3,3),(4,4),(5,5),(6,6),(7,7),(8,8),(9,9)] []) ⟨0,sp1,cy1,R1,ws1,C1,G1,ov1,L1,D1,Q1,z1,rfl,by omega,by omega,h1,hI,by omega,hcy0,by omega,by omega⟩ ?_
  clear hcn hcnt h1 hI hcy0 hcy1 hkk hi0 hi1 q
  have hln : m = n := by omega
  rintro kk s ⟨i,sp1,cy1,R1,ws1,C1,G1,ov1,L1,D1,Q1,z1,rfl,hi0,hi1,h1,hI,hcnt,hcy0,hcy1,hkk⟩
  have hNR := h1.n
  have hob8 := objCount_le8 h1.a.rows
  conv => cbv
  refine Br.mk (fun q => ?_) (fun q => ?_)
  case refine_2 =>
   have q : ¬ i < 20 := q
   exfalso
   omega
  have q : i < 20 := q
  conv => cbv
  refine CallF.re (args0 := [.ptr 1 (.lit 0),.p (.vsl (.sym 1) true [.int .i64 (.sym 4),.int .i64 (.sym 0)]),.p (.vsl (.sym 0) true [])]) (h' := [(1,.mix [.ptr 2 (.lit 0),i6 st,i6 as_]),hpA 2 3 7 8 3 W 0 sp1 cy1,hpB 3 4 6 3 W,hpC 4 5 137 2 N,hpP 5 L1,hpP 6 D1,hpF 7 z1 ov1,hpP 8 Q1,(0,.fix 0 o),hpP 9 cr]) (Re.at [(0,0),(1,1),(2,2),(3,3),(4,4),(5,5),(6,6),(7,7),(8,8),(9,9)] []) (cfr (alloc21_lx R1 ws1 C1 G1 N W 0 sp1 cy1 L1 D1 Q1 z1 ov1 h1 o ho st as_ hCO hI.g (by omega) [(4,0)] 1 [.int .i64 (.sym 4),.int .i64 (.sym 0)] rfl rfl (by decide) [] 0 [] rfl rfl (by decide)) [(0,1),(1,2),(2,3),(3,4),(4,5),(5,6),(6,7),(7,8),(8,0)] (fun r h' n' hrr => ?_))
  rcases hrr with ⟨_,⟨p,hp,w,hw⟩,_⟩ | hrr
  ·exfalso
   rw [List.mem_singleton.1 hp] at hw
   rcases hw with ⟨q,_⟩ | ⟨_,q,q2⟩
   ·exact absurd q (by decide)
   ·rw [q] at q2
    exact absurd (q2.2 (by decide)) (by decide)
  obtain ⟨X,x,out,e,mx,mg,T,cg,R2,ws2,C2,G2,ov2,ph2,sp2,cy2,L2,D2,Q2,z2,e1,hX,hh,h2,hT,hmx,hcg,hmg,hA⟩ := hrr
  have hX2 := sz_gor7 hX
  subst hX2
  have hgd := hA.good h1.w hI.g
  have hcyb : cy2 ≤ cy1 + 7000 := hgd.2.1
  have hcy20 : 0 ≤ cy2 := hgd.1.y
  have hol : out.length ≤ 1000000 := hgd.2.2.2
  have hcgl : cg.length = 4 * out.length := by rw [hcg,gpv_length]
  rw [hst,has,Int.zero_mul] at hA
  have hgor := hI.gor h1.w hA
  have hall : ∀ y ∈ keptOf out,y ∈ l ∧ Kept R2 ws2 y 5 2 := by
   intro y hy
   rcases hgor with ⟨_,ho,_⟩ | ⟨c1,_,c3,_⟩
   ·rw [ho] at hy; cases hy
   ·exact ⟨(c1 y).1 hy,c3 y ((c1 y).1 hy)⟩
  rcases hh with ⟨e2,e3⟩ | ⟨e2,e3,_⟩
  ·subst e1 e2 e3
   conv => cbv
   refine LoopF.mk (fun kk s => ∃ (q kq : Int),s = ⟨.p (.int .i64 (.sym n)) :: (undefs 2 ++ .ptr 1 (.lit 0) :: .undef :: .sl 9 3 1 (.lit 0) (.sym m) :: (undefs 4 ++ .p (.int .i64 (.sym kq)) :: .p (.int .i64 (.sym i)) :: .undef :: .p (.vsl (.sym mg) true cg) :: .p (.int .i64 (.sym e)) :: .p (.int .i64 (.sym q)) :: undefs 121)),[(1,.mix [.ptr 2 (.lit 0),i6 st,i6 as_]),hpA 2 3 7 8 3 W ph2 sp2 cy2,hpB 3 4 6 3 W,hpC 4 5 137 2 N,hpP 5 L2,hpP 6 D2,hpF 7 z2 ov2,hpP 8 Q2,(0,.fix 0 o),hpP 9 cr],10⟩ ∧ 0 ≤ q ∧ q ≤ mg ∧ kq = (keptOf (out.take q.toNat)).length ∧ kk = (mg - q).toNat) mg.toNat _
    (Re.at [(0,0),(1,1),(2,2),(3,3),(4,4),(5,5),(6,6),(7,7),(8,8),(9,9)] []) ⟨0,0,rfl,by omega,by omega,rfl,by omega⟩ ?_
   rintro kk3 s ⟨q,kq,rfl,hq0,hq1,hkq,hkk3⟩
   have hkql : (keptOf (out.take q.toNat)).length ≤ out.length := by
    have w1 := gone_kept (out.take q.toNat)
    rw [List.length_take] at w1
    omega
   conv => cbv
   refine Br.mk (fun qq => ?_) (fun qq => ?_)
   case refine_2 =>
    have qq : ¬ q < mg := qq
    rw [List.take_of_length_le (by omega : out.length ≤ q.toNat)] at hkq
    conv => cbv
    refine Br.mk (fun qk => ?_) (fun qk => ?_)
    ·have qk : 0 < kq := qk
     rcases hgor with ⟨_,ho,_⟩ | ⟨c1,c2,c3,he⟩
     ·exfalso
      rw [ho] at hkq
      have hz : (keptOf ([] : List Gn)).length = 0 := rfl
      omega
     have hml3 : m = ((l.length : Nat) : Int) := hml
     have hkn : kq = n := by omega
     conv => cbv
     refine Br.yes (show kq = n from hkn) ?_
     conv => cbv
     refine Br.mk (fun qe => ?_) (fun qe => ?_)
     ·conv => cbv
      refine RetF.mk [.p (.bool true)] [(0,.fix 0 o)] 1 (Re.at [(0,0)] []) rfl rfl
     ·have qe : ¬ e = 0 := qe
      conv => cbv
      refine Br.yes (show e = 9 by omega) ?_
      conv => cbv
      refine RetF.mk [.p (.bool true)] [(0,.fix 0 o)] 1 (Re.at [(0,0)] []) rfl rfl
    ·have qk : ¬ 0 < kq := qk
     rcases hgor with ⟨he0,ho,_,hI2,hc2⟩ | ⟨c1,c2,_⟩
     case inr =>
      exfalso
      have hml3 : m = ((l.length : Nat) : Int) := hml
      omega
     obtain rfl : kq = 0 := by omega
     obtain rfl : ph2 = 0 := hI2.p
     have hc2 : objCount R2 = objCount R1 + 1 := hc2
     have hcnt2 : ((objCount R1 : Nat) : Int) = n + i := hcnt
     conv => cbv
     refine Fit.mk (by show (-9223372036854775808 : Int) ≤ i + 1; omega) (by show i + 1 ≤ 9223372036854775807; omega) fun i2 hi2 => ?_
     have hi2 : i2 = i + 1 := hi2
     have hcnt3 : ((objCount R2 : Nat) : Int) = n + i2 := by rw [hc2,hi2]; omega
     conv => cbv
     refine Again.mk (20 - i2).toNat _ (by omega) (Re.at [(0,0),(1,1),(2,2),(3,3),(4,4),(5,5),(6,6),(7,7),(8,8),(9,9)] []) ⟨i2,sp2,cy2,R2,ws2,C2,G2,ov2,L2,D2,Q2,z2,rfl,by omega,by omega,h2,hI2,hcnt3,hcy20,by omega,by omega⟩
   have qq : q < mg := qq
   obtain ⟨⟨g1,g2,g3,g4⟩,hg⟩ : ∃ p,out[q.toNat]? = some p := ⟨_,List.getElem?_eq_getElem (by omega)⟩
   have hcc := gpv_cellsG out q.toNat _ hg
   rw [← hcg] at hcc
   dsimp only at hcc
   have htk := keptOfG_take hg
   dsimp only at htk
   have hgin : g4 = true → g2 ∈ keptOf out := fun w => List.mem_map.2 ⟨(g1,g2,g3,g4),List.mem_filter.2 ⟨List.mem_of_getElem? hg,w⟩,rfl⟩
   conv => cbv
   refine Need.mk ⟨hq0,qq⟩ ?_
   conv => cbv
   refine Sum.mk fun w hw => ?_
   have hw : w = q * 4 := hw
   conv => cbv
   refine Sum.mk fun w3 hw3 => ?_
   have hw3 : w3 = w + 3 := hw3
   conv => cbv
   refine Cell.at w3 _ hcc.2.2.2 (by simp [I.val]) (by omega) ?_
   cases g4 with
   | false =>
    conv => cbv
    refine Fit.mk (by show (-9223372036854775808 : Int) ≤ q + 1; omega) (by show q + 1 ≤ 9223372036854775807; omega) fun q5 hq5 => ?_
    have hq5 : q5 = q + 1 := hq5
    conv => cbv
    rw [if_neg (by decide),List.append_nil] at htk
    refine Again.mk (mg - q5).toNat _ (by omega) (Re.at [(0,0),(1,1),(2,2),(3,3),(4,4),(5,5),(6,6),(7,7),(8,8),(9,9)] []) ⟨q5,kq,rfl,by omega,by omega,by rw [show q5.toNat = q.toNat + 1 by omega,htk]; exact hkq,rfl⟩
   | true =>
    conv => cbv
    refine Fit.mk (by show (-9223372036854775808 : Int) ≤ kq + 1; omega) (by show kq + 1 ≤ 9223372036854775807; omega) fun kq2 hkq2 => ?_
    have hkq2 : kq2 = kq + 1 := hkq2
    obtain ⟨hy1,hy2⟩ := hall g2 (hgin rfl)
    rw [if_pos rfl] at htk
    have hkq3 : kq2 = ((keptOf (out.take (q.toNat + 1))).length : Int) := by rw [htk,List.length_append,hkq2,hkq]; rfl
    conv => cbv
    refine drawn_sound tok (by kernel_rfl) [(6,[]),(10,[16,15,14,13,12]),(11,[16,15,14,13,12]),(17,[])] [0,1,2,3,4,5,6,7,8,9,12,13,14,15,16,10,11,17,18,19] (by kernel_rfl) ?_; conv => cbv
    conv => cbv
    refine Need.mk ⟨hq0,qq⟩ ?_
    conv => cbv
    refine Sum.mk fun wa hwa => ?_
    have hwa : wa = q * 4 := hwa
    conv => cbv
    refine Sum.mk fun ya hya => ?_
    have hya : ya = wa + 1 := hya
    conv => cbv
    refine Cell.at ya _ hcc.2.1 (by simp [I.val]) (by omega) ?_
    conv => cbv
    refine callF_lend (inG_lx l g2 m cr true hml hcr (by omega) (decide_eq_true hy1).symm) (by simp [lends,lendV,hget,I.val,pvle]) (fun r h' n' ⟨e1,e2,e3⟩ => by subst e1 e2; exact ⟨trivial,trivial⟩) (fun r h' n' ⟨e1,e2,e3⟩ => ?_)
    subst e1 e2 e3
    conv => cbv
    refine Need.mk ⟨hq0,qq⟩ ?_
    conv => cbv
    refine Sum.mk fun wb hwb => ?_
    have hwb : wb = q * 4 := hwb
    conv => cbv
    refine Sum.mk fun yb hyb => ?_
    have hyb : yb = wb + 1 := hyb
    conv => cbv
    refine Cell.at yb _ hcc.2.1 (by simp [I.val]) (by omega) ?_
    conv => cbv
    refine cfr (heapS_lx R2 ws2 C2 G2 N W ph2 sp2 cy2 L2 D2 Q2 z2 ov2 st as_) [(0,1),(1,2),(2,3),(3,4),(4,5),(5,6),(6,7),(7,8)] (fun r h' n' ⟨e1,e2,e3⟩ => ?_)
    subst e1 e2 e3
    conv => cbv
    refine cfr (arena_lx R2 ws2 C2 G2 N W ph2 sp2 cy2 L2 D2 Q2 z2 ov2) [(0,2),(1,3),(2,4),(3,5),(4,6),(5,7),(6,8)] (fun r h' n' ⟨e1,e2,e3⟩ => ?_)
    subst e1 e2 e3
    conv => cbv
    refine cfr (kind_lx R2 ws2 N g2 W L2 D2 h2.l h2.d h2.n h2.r h2.a h2.w) [(0,3),(1,4),(2,5),(3,6)] (fun r h' n' hrr => ?_)
    obtain ⟨v,e1,e2,e3,hv⟩ := hrr
    subst e1 e2 e3
    have hv5 : v = 5 := by
     cases hv with
     | no hno => exact absurd hy2.obj6 hno
     | is _ l hK => exact (hK.det9 hy2).1
    subst hv5
    conv => cbv
    refine Br.no (fun w => w rfl) ?_
    conv => cbv
    refine Fit.mk (by show (-9223372036854775808 : Int) ≤ q + 1; omega) (by show q + 1 ≤ 9223372036854775807; omega) fun q5 hq5 => ?_
    have hq5 : q5 = q + 1 := hq5
    conv => cbv
    refine Again.mk (mg - q5).toNat _ (by omega) (Re.at [(0,0),(1,1),(2,2),(3,3),(4,4),(5,5),(6,6),(7,7),(8,8),(9,9)] []) ⟨q5,kq2,rfl,by omega,by omega,by rw [show q5.toNat = q.toNat + 1 by omega]; exact hkq3,rfl⟩
  ·subst e1 e2 e3
   conv => cbv
   refine LoopF.mk (fun kk s => ∃ (q kq : Int),s = ⟨.p (.int .i64 (.sym n)) :: (undefs 2 ++ .ptr 1 (.lit 0) :: .undef :: .sl 9 3 1 (.lit 0) (.sym m) :: (undefs 4 ++ .p (.int .i64 (.sym kq)) :: .p (.int .i64 (.sym i)) :: .undef :: .p (.vsl (.sym mg) true cg) :: .p (.int .i64 (.sym e)) :: .p (.int .i64 (.sym q)) :: undefs 121)),[(1,.mix [.ptr 2 (.lit 0),i6 st,i6 as_]),hpA 2 3 7 8 3 W ph2 sp2 cy2,hpB 3 4 6 3 W,hpC 4 5 137 2 N,hpP 5 L2,hpP 6 D2,hpF 7 z2 ov2,hpP 8 Q2,(0,.fix 0 o),hpP 9 cr],10⟩ ∧ 0 ≤ q ∧ q ≤ mg ∧ kq = (keptOf (out.take q.toNat)).length ∧ kk = (mg - q).toNat) mg.toNat _
    (Re.at [(0,0),(1,1),(2,2),(3,3),(4,4),(5,5),(6,6),(8,8),(9,9),(11,7)] []) ⟨0,0,rfl,by omega,by omega,rfl,by omega⟩ ?_
   rintro kk3 s ⟨q,kq,rfl,hq0,hq1,hkq,hkk3⟩
   have hkql : (keptOf (out.take q.toNat)).length ≤ out.length := by
    have w1 := gone_kept (out.take q.toNat)
    rw [List.length_take] at w1
    omega
   conv => cbv
   refine Br.mk (fun qq => ?_) (fun qq => ?_)
   case refine_2 =>
    have qq : ¬ q < mg := qq
    rw [List.take_of_length_le (by omega : out.length ≤ q.toNat)] at hkq
    conv => cbv
    refine Br.mk (fun qk => ?_) (fun qk => ?_)
    ·have qk : 0 < kq := qk
     rcases hgor with ⟨_,ho,_⟩ | ⟨c1,c2,c3,he⟩
     ·exfalso
      rw [ho] at hkq
      have hz : (keptOf ([] : List Gn)).length = 0 := rfl
      omega
     have hml3 : m = ((l.length : Nat) : Int) := hml
     have hkn : kq = n := by omega
     conv => cbv
     refine Br.yes (show kq = n from hkn) ?_
     conv => cbv
     refine Br.mk (fun qe => ?_) (fun qe => ?_)
     ·conv => cbv
      refine RetF.mk [.p (.bool true)] [(0,.fix 0 o)] 1 (Re.at [(0,0)] []) rfl rfl
     ·have qe : ¬ e = 0 := qe
      conv => cbv
      refine Br.yes (show e = 9 by omega) ?_
      conv => cbv
      refine RetF.mk [.p (.bool true)] [(0,.fix 0 o)] 1 (Re.at [(0,0)] []) rfl rfl
    ·have qk : ¬ 0 < kq := qk
     rcases hgor with ⟨he0,ho,_,hI2,hc2⟩ | ⟨c1,c2,_⟩
     case inr =>
      exfalso
      have hml3 : m = ((l.length : Nat) : Int) := hml
      omega
     obtain rfl : kq = 0 := by omega
     obtain rfl : ph2 = 0 := hI2.p
     have hc2 : objCount R2 = objCount R1 + 1 := hc2
     have hcnt2 : ((objCount R1 : Nat) : Int) = n + i := hcnt
     conv => cbv
     refine Fit.mk (by show (-9223372036854775808 : Int) ≤ i + 1; omega) (by show i + 1 ≤ 9223372036854775807; omega) fun i2 hi2 => ?_
     have hi2 : i2 = i + 1 := hi2
     have hcnt3 : ((objCount R2 : Nat) : Int) = n + i2 := by rw [hc2,hi2]; omega
     conv => cbv
     refine Again.mk (20 - i2).toNat _ (by omega) (Re.at [(0,0),(1,1),(2,2),(3,3),(4,4),(5,5),(6,6),(7,7),(8,8),(9,9)] []) ⟨i2,sp2,cy2,R2,ws2,C2,G2,ov2,L2,D2,Q2,z2,rfl,by omega,by omega,h2,hI2,hcnt3,hcy20,by omega,by omega⟩
   have qq : q < mg := qq
   obtain ⟨⟨g1,g2,g3,g4⟩,hg⟩ : ∃ p,out[q.toNat]? = some p := ⟨_,List.getElem?_eq_getElem (by omega)⟩
   have hcc := gpv_cellsG out q.toNat _ hg
   rw [← hcg] at hcc
   dsimp only at hcc
   have htk := keptOfG_take hg
   dsimp only at htk
   have hgin : g4 = true → g2 ∈ keptOf out := fun w => List.mem_map.2 ⟨(g1,g2,g3,g4),List.mem_filter.2 ⟨List.mem_of_getElem? hg,w⟩,rfl⟩
   conv => cbv
   refine Need.mk ⟨hq0,qq⟩ ?_
   conv => cbv
   refine Sum.mk fun w hw => ?_
   have hw : w = q * 4 := hw
   conv => cbv
   refine Sum.mk fun w3 hw3 => ?_
   have hw3 : w3 = w + 3 := hw3
   conv => cbv
   refine Cell.at w3 _ hcc.2.2.2 (by simp [I.val]) (by omega) ?_
   cases g4 with
   | false =>
    conv => cbv
    refine Fit.mk (by show (-9223372036854775808 : Int) ≤ q + 1; omega) (by show q + 1 ≤ 9223372036854775807; omega) fun q5 hq5 => ?_
    have hq5 : q5 = q + 1 := hq5
    conv => cbv
    rw [if_neg (by decide),List.append_nil] at htk
    refine Again.mk (mg - q5).toNat _ (by omega) (Re.at [(0,0),(1,1),(2,2),(3,3),(4,4),(5,5),(6,6),(7,7),(8,8),(9,9)] []) ⟨q5,kq,rfl,by omega,by omega,by rw [show q5.toNat = q.toNat + 1 by omega,htk]; exact hkq,rfl⟩
   | true =>
    conv => cbv
    refine Fit.mk (by show (-9223372036854775808 : Int) ≤ kq + 1; omega) (by show kq + 1 ≤ 9223372036854775807; omega) fun kq2 hkq2 => ?_
    have hkq2 : kq2 = kq + 1 := hkq2
    obtain ⟨hy1,hy2⟩ := hall g2 (hgin rfl)
    rw [if_pos rfl] at htk
    have hkq3 : kq2 = ((keptOf (out.take (q.toNat + 1))).length : Int) := by rw [htk,List.length_append,hkq2,hkq]; rfl
    conv => cbv
    refine drawn_sound tok (by kernel_rfl) [(6,[]),(10,[16,15,14,13,12]),(11,[16,15,14,13,12]),(17,[])] [0,1,2,3,4,5,6,7,8,9,12,13,14,15,16,10,11,17,18,19] (by kernel_rfl) ?_; conv => cbv
    conv => cbv
    refine Need.mk ⟨hq0,qq⟩ ?_
    conv => cbv
    refine Sum.mk fun wa hwa => ?_
    have hwa : wa = q * 4 := hwa
    conv => cbv
    refine Sum.mk fun ya hya => ?_
    have hya : ya = wa + 1 := hya
    conv => cbv
    refine Cell.at ya _ hcc.2.1 (by simp [I.val]) (by omega) ?_
    conv => cbv
    refine callF_lend (inG_lx l g2 m cr true hml hcr (by omega) (decide_eq_true hy1).symm) (by simp [lends,lendV,hget,I.val,pvle]) (fun r h' n' ⟨e1,e2,e3⟩ => by subst e1 e2; exact ⟨trivial,trivial⟩) (fun r h' n' ⟨e1,e2,e3⟩ => ?_)
    subst e1 e2 e3
    conv => cbv
    refine Need.mk ⟨hq0,qq⟩ ?_
    conv => cbv
    refine Sum.mk fun wb hwb => ?_
    have hwb : wb = q * 4 := hwb
    conv => cbv
    refine Sum.mk fun yb hyb => ?_
    have hyb : yb = wb + 1 := hyb
    conv => cbv
    refine Cell.at yb _ hcc.2.1 (by simp [I.val]) (by omega) ?_
    conv => cbv
    refine cfr (heapS_lx R2 ws2 C2 G2 N W ph2 sp2 cy2 L2 D2 Q2 z2 ov2 st as_) [(0,1),(1,2),(2,3),(3,4),(4,5),(5,6),(6,7),(7,8)] (fun r h' n' ⟨e1,e2,e3⟩ => ?_)
    subst e1 e2 e3
    conv => cbv
    refine cfr (arena_lx R2 ws2 C2 G2 N W ph2 sp2 cy2 L2 D2 Q2 z2 ov2) [(0,2),(1,3),(2,4),(3,5),(4,6),(5,7),(6,8)] (fun r h' n' ⟨e1,e2,e3⟩ => ?_)
    subst e1 e2 e3
    conv => cbv
    refine cfr (kind_lx R2 ws2 N g2 W L2 D2 h2.l h2.d h2.n h2.r h2.a h2.w) [(0,3),(1,4),(2,5),(3,6)] (fun r h' n' hrr => ?_)
    obtain ⟨v,e1,e2,e3,hv⟩ := hrr
    subst e1 e2 e3
    have hv5 : v = 5 := by
     cases hv with
     | no hno => exact absurd hy2.obj6 hno
     | is _ l hK => exact (hK.det9 hy2).1
    subst hv5
    conv => cbv
    refine Br.no (fun w => w rfl) ?_
    conv => cbv
    refine Fit.mk (by show (-9223372036854775808 : Int) ≤ q + 1; omega) (by show q + 1 ≤ 9223372036854775807; omega) fun q5 hq5 => ?_
    have hq5 : q5 = q + 1 := hq5
    conv => cbv
    refine Again.mk (mg - q5).toNat _ (by omega) (Re.at [(0,0),(1,1),(2,2),(3,3),(4,4),(5,5),(6,6),(7,7),(8,8),(9,9)] []) ⟨q5,kq2,rfl,by omega,by omega,by rw [show q5.toNat = q.toNat + 1 by omega]; exact hkq3,rfl⟩
 have q : i < n := q
 conv => cbv
 refine CallF.re (args0 := [.ptr 1 (.lit 0),.p (.vsl (.sym 1) true [.int .i64 (.sym 5),.int .i64 (.sym 0)]),.sl 9 3 1 (.lit 0) (.sym m)]) (h' := [(1,.mix [.ptr 2 (.lit 0),i6 st,i6 as_]),hpA 2 3 7 8 3 W 0 sp1 cy1,hpB 3 4 6 3 W,hpC 4 5 137 2 N,hpP 5 L1,hpP 6 D1,hpF 7 z1 ov1,hpP 8 Q1,(0,.fix 0 o),hpP 9 cr]) (Re.at [(0,0),(1,1),(2,2),(3,3),(4,4),(5,5),(6,6),(7,7),(8,8),(9,9)] []) (cfr (allocB_lx R1 ws1 C1 G1 N W 0 sp1 cy1 L1 D1 Q1 z1 ov1 h1 o ho st as_ hCO hI.g (by omega) [(5,0)] 1 [.int .i64 (.sym 5),.int .i64 (.sym 0)] rfl rfl (by decide) l m cr hcr hml (by omega)) [(0,1),(1,2),(2,3),(3,4),(4,5),(5,6),(6,7),(7,8),(8,0),(9,9)] (fun r h' n' hrr => ?_))
 rcases hrr with ⟨_,⟨p,hp,w,hw⟩,_⟩ | hrr
 ·exfalso
  rw [List.mem_singleton.1 hp] at hw
  rcases hw with ⟨q,_⟩ | ⟨_,q,q2⟩
  ·exact absurd q (by decide)
  ·rw [q] at q2
   exact absurd (q2.2 (by decide)) (by decide)
 obtain ⟨X,x,out,e,mx,mg,T,cg,R2,ws2,C2,G2,ov2,ph2,sp2,cy2,L2,D2,Q2,z2,e1,hX,hh,h2,hT,hmx,hcg,hmg,hA⟩ := hrr
 have hX2 := sz_box7 hX
 subst hX2
 have hgd := hA.good h1.w hI.g
 have hcyb : cy2 ≤ cy1 + 7000 := hgd.2.1
 have hcy20 : 0 ≤ cy2 := hgd.1.y
 rw [hst,has,Int.zero_mul] at hA
 obtain ⟨rfl,⟨a,rfl,hna,hmo,hka⟩,hren,hg2,hMo2⟩ := hI.box h1.w (by omega) hMo hcnt (by omega) hA
 rcases hh with ⟨e2,e3⟩ | ⟨_,_,hr2⟩
 case inr => exact absurd (hst ▸ hr2) hren
 have hp2 : ph2 = 0 := hmo.ph
 subst hp2
 subst e1 e2 e3
 have hmx1 : mx = 1 := hmx
 have hT0 : T[0]? = some (.int .i64 (.sym a)) := by rw [hT]; rfl
 conv => cbv
 refine drawn_sound tok (by kernel_rfl) [(4,[7,6,5]),(8,[7,6,5]),(9,[])] [0,1,2,3,5,6,7,4,8,9,10,11] (by kernel_rfl) ?_; conv => cbv
 conv => cbv
 refine Br.no (fun w => w rfl) ?_
 conv => cbv
 refine Need.mk ⟨by show (0 : Int) ≤ 0; omega,by show 0 < mx; omega⟩ ?_
 conv => cbv
 refine Cell.at 0 _ hT0 rfl rfl ?_
 conv => cbv
 refine cfr (heapS_lx R2 ws2 C2 G2 N W 0 sp2 cy2 L2 D2 Q2 z2 ov2 st as_) [(0,1),(1,2),(2,3),(3,4),(4,5),(5,6),(6,7),(7,8)] (fun r h' n' ⟨e1,e2,e3⟩ => ?_)
 subst e1 e2 e3
 conv => cbv
 refine CallF.le (args0 := [i6 5]) (cfr (rInt21_lx 5 (by decide)) [] (fun r h' n' hrr => ?_)) (by simp [ales,ale,pvle,I.val])
 obtain ⟨⟨x9,e1,hx9⟩,e2,e3⟩ := hrr
 subst e1 e2 e3
 have hx10 : x9 = 10 := by rw [hx9]; decide
 subst hx10
 conv => cbv
 refine CallF.le (args0 := [.ptr 2 (.lit 0),i6 a,i6 1,i6 10]) (cfr (store9_lx R2 ws2 C2 G2 N W 0 sp2 cy2 L2 D2 Q2 z2 ov2 h2 o ho a 1 10 (by decide)) [(0,2),(1,3),(2,4),(3,5),(4,6),(5,7),(6,8),(7,0)] (fun r h' n' hrr => ?_)) (by simp [ales,ale,pvle,I.val])
 obtain ⟨es,ws3,C3,G3,ov3,D3,Q3,z3,e1,e2,e3,h3,hSt,_⟩ := hrr
 subst e1 e2 e3
 have hspb := hg2.p
 obtain ⟨rfl,hI3⟩ := hI.add (u := ⟨R2,ws3,C3,G3,ov3,0,sp2,cy2⟩) hna hmo hka hSt rfl rfl (h3.good ov3 sp2 cy2 (by omega) (by omega) hspb hcy20)
 have hcnt3 : objCount R2 = (l ++ [a]).length := by rw [List.length_append,← hcnt]; exact hmo.cnt
 conv => cbv
 refine Br.no (fun w => w rfl) ?_
 conv => cbv
 refine Need.mk ⟨by show (0 : Int) ≤ 0; omega,by show 0 < mx; omega⟩ ?_
 conv => cbv
 refine Cell.at 0 _ hT0 rfl rfl ?_
 conv => cbv
 refine Room.new rfl ?_
 conv => cbv
 refine Room.new ⟨by show (cr.length : Int) = m * 1; omega,by show (m + 1) * 8 ≤ 140737488355328; omega,by show m + 1 ≤ 9223372036854775807; omega⟩ ?_
 conv => cbv
 refine Upd.mk fun c5 hc5 => ?_
 have hc5 : c5 = ipv (l ++ [a]) := by rw [show c5 = cr ++ [.int .i64 (.sym a)] from hc5,← ipv_app,← hcr]; rfl
 conv => cbv
 refine Sum.mk fun m5 hm5 => ?_
 have hm5 : m5 = ((l ++ [a]).length : Int) := by rw [show m5 = m + 1 from hm5,hml,List.length_append]; rfl
 conv => cbv
 refine Fit.mk (by show (-9223372036854775808 : Int) ≤ i + 1; omega) (by show i + 1 ≤ 9223372036854775807; omega) fun i2 hi2 => ?_
 have hi2 : i2 = i + 1 := hi2
 have hm6 : m5 = i2 := by rw [hm5,List.length_append]; show ((l.length + 1 : Nat) : Int) = i2; omega
 conv => cbv
 refine Again.mk (n - i2).toNat _ (by omega) (Re.at [(0,0),(1,1),(2,2),(3,3),(4,4),(5,5),(6,6),(7,7),(8,8),(12,9)] []) ⟨i2,m5,sp2,cy2,R2,ws3,C3,G3,ov3,L2,D3,Q3,c5,z3,l ++ [a],rfl,by omega,by omega,h3,hI3,hMo2,hcnt3,hc5,hm5,hm6,hcy20,by omega,rfl⟩
end Go.Proofs.YtpbhcdbkmmjimaaGreatDoor
