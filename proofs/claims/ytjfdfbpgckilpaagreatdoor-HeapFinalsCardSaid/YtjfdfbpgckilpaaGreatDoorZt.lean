/-
  Layer 9: HeapFinals.
-/
import Derived.Test.YtjfdfbpgckilpaaGreatDoorZs
import Derived.Test.YtjfdfbpgckilpaaGreatDoorIc
import Derived.Test.YtjfdfbpgckilpaaGreatDoorBf
namespace Go.Proofs.YtjfdfbpgckilpaaGreatDoor
open Go Go.LX
set_option maxRecDepth 100000
set_option linter.unusedVariables false
set_option linter.unusedSimpArgs false
set_option maxHeartbeats 32000000
theorem CallF.nils0 {P : Unit → Program} {f : Nat} {x : LV} {h : LH} {n : Nat} {K : LV → LH → Nat → Prop} (hc : CallF P f [.p (.vsl (.sym 0) true []),x] h n K) : CallF P f [.p .nils,x] h n K := by
 cases hc with
 | mk h1 h2 =>
  refine .mk h1 fun c w xs hr hN hl hrel => h2 c w xs hr hN hl (fun i u hu => ?_)
  match i,hu with
  | 1,hu => cases hu; exact hrel 1 _ rfl
  | 0,hu =>
   cases hu
   have h3 := hrel 0 _ rfl
   generalize xs.getD 0 Go.undef = v at h3
   cases h3 with
   | p _ _ h4 =>
    cases h4 with
    | nils => exact .p _ _ (.vsl0 _ _ _ none 0 rfl (Nat.zero_le _))
theorem inF_lx (l : List Int) (x m : Int) (ZL : List PV) (b : Bool) (hm : m = l.length) (hZ : ZL = ipv l) (hml : m ≤ 9223372036854775806) (hb : b = decide (x ∈ l)) : CallF (fun _ => Tryz.prog) 21 [.p (.vsl (.sym m) true ZL),i6 x] [] 0 (fun r h n => r = .p (.bool b) ∧ h = [] ∧ n = 0) := by
 refine callF_of_body tok Tryz.func21 (by kernel_rfl) rfl rfl rfl ?_; conv => cbv
 refine LoopF.mk (fun k s => ∃ i : Int,s = ⟨.p (.vsl (.sym m) true ZL) :: .p (.int .i64 (.sym x)) :: (undefs 3 ++ .p (.int .i64 (.sym i)) :: undefs 12),[],0⟩ ∧ 0 ≤ i ∧ i ≤ m ∧ x ∉ l.take i.toNat ∧ k = (m - i).toNat) m.toNat _
  (Re.at [] []) ⟨0,rfl,by omega,by omega,by simp,by omega⟩ ?_
 rintro k s ⟨i,rfl,hi0,hi1,hnot,hk⟩
 conv => cbv
 refine Br.mk (fun gi => ?_) (fun gi => ?_)
 ·have gi : i < m := gi
  obtain ⟨k',rfl⟩ : ∃ k',k = k' + 1 := ⟨k - 1,by omega⟩
  obtain ⟨z,hz⟩ : ∃ z,l[i.toNat]? = some z := ⟨_,List.getElem?_eq_getElem (by omega)⟩
  have hc : ZL[i.toNat]? = some (.int .i64 (.sym z)) := by rw [hZ]; exact ipv_get hz
  conv => cbv
  refine Need.mk ⟨hi0,by show i < m; omega⟩ ?_
  conv => cbv
  refine Cell.at i _ hc (by simp [I.val]) rfl ?_
  conv => cbv
  refine Br.mk (fun ge => ?_) (fun ge => ?_)
  ·have ge : z = x := ge
   have hbt : b = true := by rw [hb]; exact decide_eq_true (by rw [← ge]; exact List.mem_of_getElem? hz)
   subst hbt
   conv => cbv
   refine RetF.mk [.p (.bool true)] [] 0 (Re.at [] []) rfl ⟨rfl,rfl,rfl⟩
  ·have ge : ¬ z = x := ge
   conv => cbv
   refine Fit.mk (by show (-9223372036854775808 : Int) ≤ i + 1; omega) (by show i + 1 ≤ 9223372036854775807; omega) fun i2 hi2 => ?_
   have hi2 : i2 = i + 1 := hi2
   have hn2 : x ∉ l.take i2.toNat := by
    rw [show i2.toNat = i.toNat + 1 by omega,List.take_add_one,hz]
    intro h
    rcases List.mem_append.1 h with h | h
    ·exact hnot h
    ·exact ge (by simp at h; exact h.symm)
   conv => cbv
   refine Again.mk k' _ (Nat.lt_succ_self _) (Re.at [] []) ⟨i2,rfl,by omega,by omega,hn2,by omega⟩
 ·have gi : ¬ i < m := gi
  have hbt : b = false := by
   rw [hb]
   rw [List.take_of_length_le (by omega)] at hnot
   exact decide_eq_false hnot
  subst hbt
  conv => cbv
  refine RetF.mk [.p (.bool false)] [] 0 (Re.at [] []) rfl ⟨rfl,rfl,rfl⟩
theorem gpvF_getW (l : List Gn) : ∀ (i : Nat) (g : Gn),l[i]? = some g → (gpv l)[4 * i + 2]? = some (.vsl (.sym ((g.2.2.1.length : Nat) : Int)) true (ipv g.2.2.1)) := by
 induction l with
 | nil => intro i g h; simp at h
 | cons x l ih =>
  intro i g h
  cases i with
  | zero => cases h; rfl
  | succ i =>
   rw [show 4 * (i + 1) + 2 = (4 * i + 2) + 4 by omega]
   exact ih i g h
theorem keptOfF_take {out : List Gn} {j : Nat} {g : Gn} (h : out[j]? = some g) : keptOf (out.take (j + 1)) = keptOf (out.take j) ++ (if g.2.2.2 = true then [g.2.1] else []) := by
 unfold keptOf
 rw [List.take_add_one,h,List.filter_append,List.map_append]
 congr 1
 cases hb : g.2.2.2 <;> simp [hb]
theorem gpvF_getK (l : List Gn) : ∀ (i : Nat) (g : Gn),l[i]? = some g → (gpv l)[4 * i + 3]? = some (.bool g.2.2.2) := by
 induction l with
 | nil => intro i g h; simp at h
 | cons a l ih =>
  intro i g h
  cases i with
  | zero => simp at h; subst h; rfl
  | succ i =>
   rw [show 4 * (i + 1) + 3 = 4 * i + 3 + 1 + 1 + 1 + 1 by omega]
   exact ih i g (by simpa using h)
theorem alloctF_bd {R R' : List Rw} {ws ws' : List Int} {a e : Int} (hA : AOk R ws) (hr : R.length ≤ 1000) (h : Alloct R ws 5 2 a e R' ws') : -1000000 ≤ a ∧ a ≤ 1000000 := by
 cases h with
 | arg h => omega
 | room i s R' h ha => omega
 | ok i s _ R' h ha hi hat =>
  have h0 : ofN 2 = 0 := rfl
  have hw : wordsOf 0 = 4 := rfl
  have hs : slotsOf 0 = 8 := rfl
  rw [h0] at hat hi
  rw [hw] at hat
  rw [hs] at hi
  omega
theorem heapFinals_law (o : Unit → Obj) (ho : IsPow o) (n k1 : Int) (sd : List Bool) (L1 : List PV) (hn : -9223372036854775808 ≤ n ∧ n ≤ 9223372036854775807) (hk1 : k1 = sd.length) (hL1 : L1 = sd.map PV.bool) (hkb : k1 ≤ 9223372036854775807) :
  CallF (fun _ => Tryz.prog) 3 [i6 n,.p (.vsl (.sym k1) true L1)] [(0,.fix 0 o)] 1 (fun r _ _ => r = .p (.bool true)) := by
 refine callF_of_bodyB tok Tryz.func3 (by kernel_rfl) rfl rfl rfl [13,23] ?_; conv => cbv
 refine Fit.wrap fun xn hxn => ?_
 have hxn : xn = IntKind.u64.wrap n := hxn
 have hyn : 0 ≤ xn := by rw [hxn]; simp [IntKind.wrap,IntKind.bits,IntKind.signed]; omega
 clear hxn
 conv => cbv
 refine Sum.mk fun tn htn => ?_
 have htn : tn = xn % 10 := (show tn = xn.tmod 10 from htn).trans (Int.tmod_eq_emod_of_nonneg hyn)
 conv => cbv
 refine Fit.mk (by show (-9223372036854775808 : Int) ≤ tn; omega) (by show tn ≤ 9223372036854775807; omega) fun un hun => ?_
 have hun : un = tn := hun
 conv => cbv
 refine Fit.mk (by show (-9223372036854775808 : Int) ≤ 1 + un; omega) (by show 1 + un ≤ 9223372036854775807; omega) fun m hm => ?_
 have hm : m = 1 + un := hm
 have hm0 : 1 ≤ m := by omega
 have hm1 : m ≤ 10 := by omega
 clear hm hun htn hyn
 conv => cbv
 obtain ⟨z0,hz0⟩ : ∃ z0 : ByteArray,z0 = ⟨(enc []).toArray⟩ := ⟨_,rfl⟩
 obtain ⟨N,hN⟩ : ∃ N : Int,N = 20 := ⟨_,rfl⟩
 obtain ⟨W,hW⟩ : ∃ W : Int,W = 32 * N := ⟨_,rfl⟩
 obtain ⟨L0,hL0⟩ : ∃ L0,L0 = rpv (List.replicate N.toNat ((0,[]) : Rw)) := ⟨_,rfl⟩
 obtain ⟨D0,hD0⟩ : ∃ D0,D0 = ipv (List.replicate W.toNat (0 : Int)) := ⟨_,rfl⟩
 have hM0 := HM.new (by omega : 2 ≤ N) (by omega) hW hL0 hD0 hD0 hz0
 obtain ⟨R0,hR0⟩ : ∃ R0,R0 = List.replicate N.toNat ((0,[]) : Rw) := ⟨_,rfl⟩
 obtain ⟨ws0,hws0⟩ : ∃ ws0,ws0 = List.replicate W.toNat (0 : Int) := ⟨_,rfl⟩
 rw [← hR0,← hws0] at hM0
 have hF0 : Fp R0 ws0 [] [] := by rw [hR0,hws0]; exact Fp.new _ _ (by omega)
 refine CallF.le (args0 := [i6 N]) (callF_frame (newH_lx N W (by omega) (by omega) hW L0 D0 D0 z0 hL0 hD0 hD0 hz0) [] rfl trivial rfl rfl (fun r h' n' ⟨e1,e2,e3⟩ => ?_)) (by simp [ales,ale,pvle,I.val,hN])
 subst e1 e2 e3
 conv => cbv
 refine cfr (awake09_lx o ho) [(0,0)] (fun r h' n' ⟨e1,e2,e3⟩ => ?_)
 subst e1 e2 e3
 conv => cbv
 refine cfr (arena_lx R0 ws0 ws0 [] N W 0 0 0 L0 D0 D0 z0 false) [(0,1),(1,2),(2,3),(3,4),(4,5),(5,6),(6,7)] (fun r h' n' ⟨e1,e2,e3⟩ => ?_)
 subst e1 e2 e3
 conv => cbv
 refine LoopF.mk (fun kk s => ∃ (i w : Int) (R : List Rw) (ws C G : List Int) (L D Q : List PV) (z : ByteArray) (ov : Bool) (B : List (Int × Int)) (l : List Int) (cells : List PV),s = ⟨.p (.int .i64 (.sym m)) :: .p (.vsl (.sym k1) true L1) :: (undefs 3 ++ .ptr 8 (.lit 0) :: .undef :: .sl 9 3 1 (.lit 0) (.sym w) :: .p (.int .i64 (.sym w)) :: .p (.int .i64 (.sym i)) :: undefs 186),[hpA 1 2 6 7 3 W 0 0 0,hpB 2 3 5 3 W,hpC 3 4 179 2 N,hpP 4 L,hpP 5 D,hpF 6 z ov,hpP 7 Q,(0,.fix 0 o),(8,.mix [.ptr 1 (.lit 0)]),hpP 9 cells],10⟩ ∧ 0 ≤ i ∧ i ≤ m ∧ kk = (m - i).toNat ∧ HM R ws C G N W L D Q z ∧ Fp R ws B l ∧ i = B.length ∧ cells = ipv l ∧ w = l.length ∧ w ≤ i) m.toNat _
  (Re.at [(0,0),(1,1),(2,2),(3,3),(4,4),(5,5),(6,6),(7,7),(8,8)] [9]) ⟨0,0,R0,ws0,ws0,[],L0,D0,D0,z0,false,[],[],[],rfl,by omega,by omega,by omega,hM0,hF0,rfl,rfl,rfl,by omega⟩ ?_
 clear hM0 hF0 hR0 hws0 hL0 hD0 hz0
 rintro kk s ⟨i,w,R,ws,C,G,L,D,Q,z,ov,B,l,cells,rfl,hi0,hi1,hkk,h,hF,hiB,hcs,hw,hwi⟩
 have hcl : cells.length = l.length := by rw [hcs,ipv_length]
 have hNR := h.n
 conv => cbv
 refine Br.mk (fun q => ?_) (fun q => ?_)
 case refine_2 =>
  have q : ¬ i < m := q
  obtain rfl : i = m := by omega
  conv => cbv
  have hct := hF.count h.a
  refine CallF.nils0 (cfr (cycle_lx R ws C G N W 0 0 L D Q z ov h o ho [] 0 [] rfl rfl (by decide) ⟨by omega,by omega⟩ (by omega) ⟨by omega,by omega⟩ ⟨by omega,by omega⟩) [(0,1),(1,2),(2,3),(3,4),(4,5),(5,6),(6,7),(7,0),(8,8)] (fun r h' n' hrr => ?_))
  obtain ⟨o1,f1,cy1,R1,ws1,C1,G1,ov1,cl1,L1',D1,Q1,z1,sp1,e1,e2,e3,h1,hcl1,hf1,hsp0,hsp1,hcy0,hcy1,hC1,hR1,hcn1⟩ := hrr
  subst e1 e2 e3
  have hct1 := hF.cyc0 h.a h1.a hNR hC1 hR1
  have htold : ∀ g ∈ o1,g.2.2.2 = true → g.2.1 ∈ l ∧ ∃ y0 y1,g.2.2.1 = [y0,y1] ∧ y0 % 2 = 1 ∧ y1 ≠ 0 := fun g hg ht => hF.told h.a hR1 hg ht
  clear hF hC1 hR1 h
  conv => cbv
  obtain ⟨hK1,hK1l,B1,hF1,hB1l,hB1⟩ := hct1
  have hf1b : f1 ≤ 30 := by have := gone_kept o1; omega
  refine LoopF.mk (fun kk s => ∃ q kp : Int,s = ⟨undefs 5 ++ .ptr 8 (.lit 0) :: .undef :: .sl 9 3 1 (.lit 0) (.sym w) :: .p (.int .i64 (.sym w)) :: (undefs 5 ++ .fn 17 [.ptr 8 (.lit 0)] :: .p (.int .i64 (.sym kp)) :: .p (.vsl (.sym f1) true cl1) :: .p (.int .i64 (.sym q)) :: undefs 178),[hpA 1 2 6 7 3 W 0 sp1 cy1,hpB 2 3 5 3 W,hpC 3 4 179 2 N,hpP 4 L1',hpP 5 D1,hpF 6 z1 ov1,hpP 7 Q1,(0,.fix 0 o),(8,.mix [.ptr 1 (.lit 0)]),hpP 9 cells],10⟩ ∧ 0 ≤ q ∧ q ≤ f1 ∧ kk = (f1 - q).toNat ∧ kp = (keptOf (o1.take q.toNat)).length ∧ kp ≤ q) f1.toNat _
   (Re.at [(0,0),(1,1),(2,2),(3,3),(4,4),(5,5),(10,6),(7,7),(8,8),(9,9)] []) ⟨0,0,rfl,by omega,by omega,by omega,rfl,by omega⟩ ?_
  rintro kk s ⟨q,kp,rfl,hq0,hq1,hkk2,hkp,hkpq⟩
  conv => cbv
  refine Br.mk (fun g => ?_) (fun g => ?_)
  case refine_2 =>
   have g : ¬ q < f1 := g
   rw [List.take_of_length_le (by omega : o1.length ≤ q.toNat)] at hkp
   conv => cbv
   have hNR1 := h1.n
   have hc1 := hF1.count h1.a
   refine cfr (arena_lx R1 ws1 C1 G1 N W 0 sp1 cy1 L1' D1 Q1 z1 ov1) [(0,1),(1,2),(2,3),(3,4),(4,5),(5,6),(6,7)] (fun r h' n' ⟨e1,e2,e3⟩ => ?_)
   subst e1 e2 e3
   conv => cbv
   obtain ⟨mo,hmo⟩ : ∃ m : Int,m = objCount R1 := ⟨_,rfl⟩
   refine cfr (objects_lx mo R1 N W L1' D1 h1.l h1.n h1.r h1.a.rows h1.w hmo) [(0,2),(1,3),(2,4),(3,5)] (fun r h' n' hrr => ?_)
   obtain ⟨E,e1,e2,e3,hE⟩ := hrr
   subst e1 e2 e3
   conv => cbv
   refine CallF.re (args0 := [.p (.vsl (.sym w) true cells),.ptr 8 (.lit 0)]) (h' := [hpA 1 2 6 7 3 W 0 sp1 cy1,hpB 2 3 5 3 W,hpC 3 4 179 2 N,hpP 4 L1',hpP 5 D1,hpF 6 z1 ov1,hpP 7 Q1,(0,.fix 0 o),(8,.mix [.ptr 1 (.lit 0)])]) (Re.at [(0,0),(1,1),(2,2),(3,3),(4,4),(5,5),(6,6),(7,7),(8,8)] []) (cfr (cycle_lx R1 ws1 C1 G1 N W sp1 cy1 L1' D1 Q1 z1 ov1 h1 o ho l w cells hcs hw (by omega) ⟨by omega,by omega⟩ (by omega) ⟨by omega,by omega⟩ ⟨by omega,by omega⟩) [(0,1),(1,2),(2,3),(3,4),(4,5),(5,6),(6,7),(7,0),(8,8)] (fun r h' n' hrr => ?_))
   obtain ⟨o2,f2,cy2,R2,ws2,C2,G2,ov2,cl2,L2,D2,Q2,z2,sp2,e1,e2,e3,h2,hcl2,hf2,hsp20,hsp21,hcy20,hcy21,hC2,hR2,hcn2⟩ := hrr
   subst e1 e2 e3
   have hct2 := hF1.cycA h1.a h2.a hNR1 hC2 hR2 (fun p hp => hB1 p hp)
   conv => cbv
   obtain ⟨hK2,hF2⟩ := hct2
   have hc2 := hF2.count h2.a
   have hNR2 := h2.n
   have hg2 := gone_kept o2
   have hf2z : f2 = 0 := by rw [hK2] at hg2; have : (([] : List Int).length) = 0 := rfl; omega
   refine CallF.nils0 (cfr (cycle_lx R2 ws2 C2 G2 N W sp2 cy2 L2 D2 Q2 z2 ov2 h2 o ho [] 0 [] rfl rfl (by decide) ⟨by omega,by omega⟩ (by omega) ⟨by omega,by omega⟩ ⟨by omega,by omega⟩) [(0,1),(1,2),(2,3),(3,4),(4,5),(5,11),(6,7),(7,0),(8,8)] (fun r h' n' hrr => ?_))
   obtain ⟨o3,f3,cy3,R3,ws3,C3,G3,ov3,cl3,L3,D3,Q3,z3,sp3,e1,e2,e3,h3,hcl3,hf3,hsp30,hsp31,hcy30,hcy31,hC3,hR3,hcn3⟩ := hrr
   subst e1 e2 e3
   have hct3 := hF2.cyc0 h2.a h3.a hNR2 hC3 hR3
   conv => cbv
   obtain ⟨hK3,hK3l,B3,hF3,hB3l,_⟩ := hct3
   have hc3 := hF3.count h3.a
   have hg3 := gone_kept o3
   have hB3z : B3.length = 0 := hB3l
   have hK3z : (keptOf o3).length = 0 := hK3l
   have hf3w : f3 = 2 * w := by omega
   have hcl2l : cl2.length = 4 * o2.length := by rw [hcl2,gpv_length]
   have hcl3l : cl3.length = 4 * o3.length := by rw [hcl3,gpv_length]
   have hno : ∀ (j : Nat) (g : Gn),(o2 ++ o3)[j]? = some g → g.2.2.2 = false := by
    intro j g hg
    cases hgb : g.2.2.2 with
    | false => rfl
    | true =>
     rcases List.mem_append.1 (List.mem_of_getElem? hg) with q | q
     ·have : g.2.1 ∈ keptOf o2 := List.mem_map.2 ⟨g,List.mem_filter.2 ⟨q,hgb⟩,rfl⟩
      rw [hK2] at this; cases this
     ·have : g.2.1 ∈ keptOf o3 := List.mem_map.2 ⟨g,List.mem_filter.2 ⟨q,hgb⟩,rfl⟩
      cases (hK3 _).1 this
   refine LoopF.mk (fun kk s => ∃ i : Int,s = ⟨undefs 5 ++ .ptr 8 (.lit 0) :: (undefs 2 ++ .p (.int .i64 (.sym w)) :: undefs 6 ++ .p (.int .i64 (.sym kp)) :: undefs 2 ++ .p (.int .i64 (.sym mo)) :: .p (.vsl (.sym f2) true cl2) :: .p (.vsl (.sym f3) true cl3) :: .p (.int .i64 (.sym i)) :: undefs 174),[hpA 1 2 6 7 3 W 0 sp3 cy3,hpB 2 3 5 3 W,hpC 3 4 179 2 N,hpP 4 L3,hpP 5 D3,hpF 6 z3 ov3,hpP 7 Q3,(0,.fix 0 o),(8,.mix [.ptr 1 (.lit 0)])],9⟩ ∧ 0 ≤ i ∧ i ≤ f2 + f3 ∧ kk = (f2 + f3 - i).toNat) (f2 + f3).toNat _
    (Re.at [(0,0),(1,1),(2,2),(3,3),(4,4),(5,5),(12,6),(7,7),(8,8)] []) ⟨0,rfl,by omega,by omega,by omega⟩ ?_
   rintro kk s ⟨i,rfl,hi0,hi1,hkk4⟩
   conv => cbv
   refine Fit.mk (by show (-9223372036854775808 : Int) ≤ f2 + f3; omega) (by show f2 + f3 ≤ 9223372036854775807; omega) fun fs hfs => ?_
   have hfs : fs = f2 + f3 := hfs
   conv => cbv
   refine Br.mk (fun g => ?_) (fun g => ?_)
   ·have g : i < fs := g
    conv => cbv
    refine Need.mk (by show (cl2.length : Int) = f2 * 4; omega) ?_
    conv => cbv
    refine Need.mk ⟨by show f2 * 48 ≤ 140737488355328; omega,by show f2 ≤ 9223372036854775807; omega⟩ ?_
    conv => cbv
    refine Need.mk (by show (cl3.length : Int) = f3 * 4; omega) ?_
    conv => cbv
    refine Room.new ⟨by show (cl2.length : Int) = f2 * 4; omega,by show (f2 + f3) * 48 ≤ 140737488355328; omega,by show f2 + f3 ≤ 9223372036854775807; omega⟩ ?_
    conv => cbv
    refine Upd.mk fun TT hTT => ?_
    have hTT : TT = gpv (o2 ++ o3) := by rw [show TT = cl2 ++ cl3 from hTT,hcl2,hcl3,gpv_app]
    conv => cbv
    refine Sum.mk fun fz hfz => ?_
    have hfz : fz = f2 + f3 := hfz
    obtain ⟨gg,hgg⟩ : ∃ g,(o2 ++ o3)[i.toNat]? = some g := ⟨_,List.getElem?_eq_getElem (by rw [List.length_append]; omega)⟩
    have hcK : TT[4 * i.toNat + 3]? = some (.bool false) := by rw [hTT,gpvF_getK _ _ _ hgg,hno _ _ hgg]
    conv => cbv
    refine Need.mk (show 0 ≤ i ∧ i < fz by omega) ?_
    conv => cbv
    refine Sum.mk fun w9 hw9 => ?_
    have hw9 : w9 = i * 4 := hw9
    conv => cbv
    refine Sum.mk fun w3 hw3 => ?_
    have hw3 : w3 = w9 + 3 := hw3
    conv => cbv
    refine Cell.at w3 _ hcK (by simp [I.val]) (by omega) ?_
    conv => cbv
    refine Fit.mk (by show (-9223372036854775808 : Int) ≤ i + 1; omega) (by show i + 1 ≤ 9223372036854775807; omega) fun i2 hi2 => ?_
    have hi2 : i2 = i + 1 := hi2
    conv => cbv
    refine Again.mk (f2 + f3 - i2).toNat _ (by omega) (Re.at [(0,0),(1,1),(2,2),(3,3),(4,4),(5,5),(6,6),(7,7),(8,8)] []) ⟨i2,rfl,by omega,by omega,rfl⟩
   have g : ¬ i < fs := g
   conv => cbv
   refine Br.yes (show kp = w by omega) ?_
   conv => cbv
   refine Fit.mk (by show (-9223372036854775808 : Int) ≤ 2 * w; omega) (by show 2 * w ≤ 9223372036854775807; omega) fun t1 ht1 => ?_
   have ht1 : t1 = 2 * w := ht1
   conv => cbv
   refine Br.yes (show mo = t1 by omega) ?_
   conv => cbv
   refine Br.yes (show f2 = 0 from hf2z) ?_
   conv => cbv
   refine Fit.mk (by show (-9223372036854775808 : Int) ≤ 2 * w; omega) (by show 2 * w ≤ 9223372036854775807; omega) fun t2 ht2 => ?_
   have ht2 : t2 = 2 * w := ht2
   conv => cbv
   refine Br.yes (show f3 = t2 by omega) ?_
   conv => cbv
   refine cfr (arena_lx R3 ws3 C3 G3 N W 0 sp3 cy3 L3 D3 Q3 z3 ov3) [(0,1),(1,2),(2,3),(3,4),(4,5),(5,6),(6,7)] (fun r h' n' ⟨e1,e2,e3⟩ => ?_)
   subst e1 e2 e3
   conv => cbv
   obtain ⟨mz,hmz⟩ : ∃ m : Int,m = objCount R3 := ⟨_,rfl⟩
   refine cfr (objects_lx mz R3 N W L3 D3 h3.l h3.n h3.r h3.a.rows h3.w hmz) [(0,2),(1,3),(2,4),(3,5)] (fun r h' n' hrr => ?_)
   obtain ⟨E3,e1,e2,e3,hE3⟩ := hrr
   subst e1 e2 e3
   conv => cbv
   refine Br.yes (show mz = 0 by omega) ?_
   conv => cbv
   refine RetF.mk [.p (.bool true)] [(0,.fix 0 o)] 1 (Re.at [(0,0)] []) rfl rfl
  have g : q < f1 := g
  obtain ⟨⟨gk,ga,gw,gb⟩,hg⟩ : ∃ g,o1[q.toNat]? = some g := ⟨_,List.getElem?_eq_getElem (by omega)⟩
  conv => cbv
  refine JoinF.mk (fun s => ∃ kp2 : Int,s = ⟨undefs 5 ++ .ptr 8 (.lit 0) :: .undef :: .sl 9 3 1 (.lit 0) (.sym w) :: .p (.int .i64 (.sym w)) :: (undefs 5 ++ .fn 17 [.ptr 8 (.lit 0)] :: .p (.int .i64 (.sym kp2)) :: .p (.vsl (.sym f1) true cl1) :: .p (.int .i64 (.sym q)) :: undefs 178),[hpA 1 2 6 7 3 W 0 sp1 cy1,hpB 2 3 5 3 W,hpC 3 4 179 2 N,hpP 4 L1',hpP 5 D1,hpF 6 z1 ov1,hpP 7 Q1,(0,.fix 0 o),(8,.mix [.ptr 1 (.lit 0)]),hpP 9 cells],10⟩ ∧ kp2 = (keptOf (o1.take (q.toNat + 1))).length ∧ kp2 ≤ q + 1) ?_ ?_
  ·conv => cbv
   have hcK : cl1[4 * q.toNat + 3]? = some (.bool gb) := by rw [hcl1]; exact gpvF_getK o1 _ _ hg
   have hcA : cl1[4 * q.toNat + 1]? = some (.int .i64 (.sym ga)) := by rw [hcl1]; exact gpv_get o1 _ _ hg
   refine Need.mk (show 0 ≤ q ∧ q < f1 by omega) ?_
   conv => cbv
   refine Sum.mk fun w9 hw9 => ?_
   have hw9 : w9 = q * 4 := hw9
   conv => cbv
   refine Sum.mk fun w3 hw3 => ?_
   have hw3 : w3 = w9 + 3 := hw3
   conv => cbv
   refine Cell.at w3 _ hcK (by simp [I.val]) (by omega) ?_
   cases gb with
   | false =>
    have htk : keptOf (o1.take (q.toNat + 1)) = keptOf (o1.take q.toNat) ++ [] := keptOfF_take hg
    conv => cbv
    refine Joined.mk _ (Re.at [(0,0),(1,1),(2,2),(3,3),(4,4),(5,5),(6,6),(7,7),(8,8),(9,9)] []) ⟨kp,rfl,by rw [htk,List.append_nil]; exact hkp,by omega⟩
   | true =>
   have htk : keptOf (o1.take (q.toNat + 1)) = keptOf (o1.take q.toNat) ++ [ga] := keptOfF_take hg
   obtain ⟨hgl,y0,y1,hgw,hy0,hy1⟩ := htold _ (List.mem_of_getElem? hg) rfl
   conv => cbv
   obtain ⟨gn,gv,hcW,hgn,hgv⟩ : ∃ (gn : Int) (gv : List PV),cl1[4 * q.toNat + 2]? = some (.vsl (.sym gn) true gv) ∧ gn = gw.length ∧ gv = ipv gw := ⟨_,_,by rw [hcl1]; exact gpvF_getW o1 _ _ hg,rfl,rfl⟩
   have hgw : gw = [y0,y1] := hgw
   have hgn : gn = 2 := by rw [hgn,hgw]; rfl
   have hv0 : gv[0]? = some (.int .i64 (.sym y0)) := by rw [hgv,hgw]; rfl
   have hv1 : gv[1]? = some (.int .i64 (.sym y1)) := by rw [hgv,hgw]; rfl
   refine Fit.mk (by show (-9223372036854775808 : Int) ≤ kp + 1; omega) (by show kp + 1 ≤ 9223372036854775807; omega) fun kp1 hkp1 => ?_
   have hkp1 : kp1 = kp + 1 := hkp1
   conv => cbv
   refine Need.mk (show 0 ≤ q ∧ q < f1 by omega) ?_
   conv => cbv
   refine Sum.mk fun ua hua => ?_
   have hua : ua = q * 4 := hua
   conv => cbv
   refine Sum.mk fun va hva => ?_
   have hva : va = ua + 1 := hva
   conv => cbv
   refine Cell.at va _ hcA (by simp [I.val]) (by omega) ?_
   conv => cbv
   refine callF_lend (inF_lx l ga w cells true hw hcs (by omega) (decide_eq_true hgl).symm) (by simp [lends,lendV,hget,I.val,pvle]) (fun r h' n' ⟨e1,e2,e3⟩ => by subst e1 e2; exact ⟨trivial,trivial⟩) (fun r h' n' ⟨e1,e2,e3⟩ => ?_)
   subst e1 e2 e3
   conv => cbv
   refine Need.mk (show 0 ≤ q ∧ q < f1 by omega) ?_
   conv => cbv
   refine Sum.mk fun ub hub => ?_
   have hub : ub = q * 4 := hub
   conv => cbv
   refine Sum.mk fun vb hvb => ?_
   have hvb : vb = ub + 2 := hvb
   conv => cbv
   refine Cell.at vb _ hcW (by simp [I.val]) (by omega) ?_
   conv => cbv
   refine Br.no (show ¬ (gn ≠ 2) from fun w => w hgn) ?_
   conv => cbv
   refine Need.mk (show 0 ≤ q ∧ q < f1 by omega) ?_
   conv => cbv
   refine Sum.mk fun uc huc => ?_
   have huc : uc = q * 4 := huc
   conv => cbv
   refine Sum.mk fun vc hvc => ?_
   have hvc : vc = uc + 2 := hvc
   conv => cbv
   refine Cell.at vc _ hcW (by simp [I.val]) (by omega) ?_
   conv => cbv
   refine Need.mk (show (0 : Int) ≤ 0 ∧ 0 < gn by omega) ?_
   conv => cbv
   refine Cell.at 0 _ hv0 (by simp [I.val]) rfl ?_
   conv => cbv
   refine callF_frame (rIsPtr_lx y0) [] rfl trivial rfl rfl (fun r h' n' hrr => ?_)
   obtain ⟨bp,e1,e2,e3,hbp⟩ := hrr
   subst e1 e2 e3
   obtain rfl : bp = true := hbp.2 hy0
   conv => cbv
   refine Need.mk (show 0 ≤ q ∧ q < f1 by omega) ?_
   conv => cbv
   refine Sum.mk fun ud hud => ?_
   have hud : ud = q * 4 := hud
   conv => cbv
   refine Sum.mk fun vd hvd => ?_
   have hvd : vd = ud + 2 := hvd
   conv => cbv
   refine Cell.at vd _ hcW (by simp [I.val]) (by omega) ?_
   conv => cbv
   refine Need.mk (show (0 : Int) ≤ 1 ∧ 1 < gn by omega) ?_
   conv => cbv
   refine Cell.at 1 _ hv1 (by simp [I.val]) rfl ?_
   conv => cbv
   refine Br.no (show ¬ (y1 = 0) from hy1) ?_
   conv => cbv
   refine Joined.mk _ (Re.at [(0,0),(1,1),(2,2),(3,3),(4,4),(5,5),(6,6),(7,7),(8,8),(9,9)] []) ⟨kp1,rfl,by rw [htk,List.length_append,hkp1,hkp]; rfl,by omega⟩
  rintro s ⟨kp2,rfl,hkp2,hkpq2⟩
  conv => cbv
  refine Fit.mk (by show (-9223372036854775808 : Int) ≤ q + 1; omega) (by show q + 1 ≤ 9223372036854775807; omega) fun q2 hq2 => ?_
  have hq2 : q2 = q + 1 := hq2
  rw [show q.toNat + 1 = q2.toNat by omega] at hkp2
  conv => cbv
  refine Again.mk (f1 - q2).toNat _ (by omega) (Re.at [(0,0),(1,1),(2,2),(3,3),(4,4),(5,5),(6,6),(7,7),(8,8),(9,9)] []) ⟨q2,kp2,rfl,by omega,by omega,rfl,hkp2,by omega⟩
 have q : i < m := q
 conv => cbv
 refine CallF.le (args0 := [.ptr 1 (.lit 0),i6 5,i6 2]) (cfr (alloc9_lx R ws C G N W 0 0 0 L D Q z ov h 5 2) [(0,1),(1,2),(2,3),(3,4),(4,5),(5,6),(6,7)] (fun r h' n' hrr => ?_)) (by simp [ales,ale,pvle,I.val])
 obtain ⟨b,eb,R1,ws1,C1,L1',D1,Q1,e1,e2,e3,h1,hT1,_⟩ := hrr
 subst e1 e2 e3
 conv => cbv
 refine CallF.le (args0 := [.ptr 1 (.lit 0),i6 5,i6 2]) (cfr (alloc9_lx R1 ws1 C1 G N W 0 0 0 L1' D1 Q1 z ov h1 5 2) [(0,1),(1,2),(2,3),(3,4),(4,5),(5,6),(6,7)] (fun r h' n' hrr => ?_)) (by simp [ales,ale,pvle,I.val])
 obtain ⟨c,ec,R2,ws2,C2,L2,D2,Q2,e1,e2,e3,h2,hT2,_⟩ := hrr
 subst e1 e2 e3
 have hcb := alloctF_bd h1.a (by have := h1.r; omega) hT2
 conv => cbv
 refine drawn_sound tok (by kernel_rfl) [(3,[1,0]),(4,[])] [0,1,2,3,4] (by kernel_rfl) ?_; conv => cbv
 conv => cbv
 refine callF_frame (rPtr_lx c hcb) [] rfl trivial rfl rfl (fun r h' n' hrr => ?_)
 obtain ⟨v,e1,e2,e3,hv⟩ := hrr
 subst e1 e2 e3
 have hvb : -9223372036854775808 ≤ v ∧ v ≤ 9223372036854775807 := ⟨by omega,by omega⟩
 conv => cbv
 refine CallF.le (args0 := [.ptr 1 (.lit 0),i6 b,i6 0,i6 v]) (cfr (store9_lx R2 ws2 C2 G N W 0 0 0 L2 D2 Q2 z ov h2 o ho b 0 v hvb) [(0,1),(1,2),(2,3),(3,4),(4,5),(5,6),(6,7),(7,0)] (fun r h' n' hrr => ?_)) (by simp [ales,ale,pvle,I.val])
 obtain ⟨es,ws3,C3,G3,ov3,D3,Q3,z3,e1,e2,e3,h3,hSt,_⟩ := hrr
 subst e1 e2 e3
 have hstp := hF.step h.a (by omega) hT1 hT2 (by rw [← hv]; exact hSt)
 clear hT1 hT2 hSt h h1 h2 hF
 conv => cbv
 obtain ⟨hF3,hbl,hb1⟩ := hstp
 refine JoinF.mk (fun s => ∃ (w2 : Int) (ws C G : List Int) (D Q : List PV) (z : ByteArray) (ov : Bool) (l2 : List Int) (cells2 : List PV),s = ⟨.p (.int .i64 (.sym m)) :: .p (.vsl (.sym k1) true L1) :: (undefs 3 ++ .ptr 8 (.lit 0) :: .undef :: .sl 9 3 1 (.lit 0) (.sym w2) :: .p (.int .i64 (.sym w2)) :: .p (.int .i64 (.sym i)) :: undefs 186),[hpA 1 2 6 7 3 W 0 0 0,hpB 2 3 5 3 W,hpC 3 4 179 2 N,hpP 4 L2,hpP 5 D,hpF 6 z ov,hpP 7 Q,(0,.fix 0 o),(8,.mix [.ptr 1 (.lit 0)]),hpP 9 cells2],10⟩ ∧ HM R2 ws C G N W L2 D Q z ∧ Fp R2 ws (B ++ [(b,c)]) l2 ∧ cells2 = ipv l2 ∧ w2 = l2.length ∧ w2 ≤ i + 1) ?_ ?_
 ·conv => cbv
  refine Br.mk (fun g => ?_) (fun g => ?_)
  case refine_2 =>
   conv => cbv
   refine Joined.mk _ (Re.at [(0,0),(1,1),(2,2),(3,3),(4,4),(5,5),(6,6),(7,7),(8,8),(9,9)] []) ⟨w,ws3,C3,G3,D3,Q3,z3,ov3,l,cells,rfl,h3,hF3,hcs,hw,by omega⟩
  have g : i < k1 := g
  obtain ⟨sb,hsb⟩ : ∃ b,sd[i.toNat]? = some b := ⟨_,List.getElem?_eq_getElem (by omega)⟩
  have hsc : L1[i.toNat]? = some (.bool sb) := by rw [hL1,List.getElem?_map,hsb]; rfl
  conv => cbv
  refine Need.mk (show 0 ≤ i ∧ i < k1 by omega) ?_
  conv => cbv
  refine Cell.at i _ hsc (by simp [I.val]) rfl ?_
  cases sb with
  | false =>
   conv => cbv
   refine Joined.mk _ (Re.at [(0,0),(1,1),(2,2),(3,3),(4,4),(5,5),(6,6),(7,7),(8,8),(9,9)] []) ⟨w,ws3,C3,G3,D3,Q3,z3,ov3,l,cells,rfl,h3,hF3,hcs,hw,by omega⟩
  | true =>
  conv => cbv
  refine drawn_sound tok (by kernel_rfl) [(4,[1,0]),(5,[])] [0,1,2,3,4,5] (by kernel_rfl) ?_; conv => cbv
  conv => cbv
  refine Fit.mk (by show (-9223372036854775808 : Int) ≤ i + 1; omega) (by show i + 1 ≤ 9223372036854775807; omega) fun iy hiy => ?_
  have hiy : iy = i + 1 := hiy
  conv => cbv
  refine callF_frame (rInt_lx iy ⟨by omega,by omega⟩) [] rfl trivial rfl rfl (fun r h' n' hrr => ?_)
  obtain ⟨y,e1,e2,e3,hy⟩ := hrr
  subst e1 e2 e3
  have hy0 : y ≠ 0 := by omega
  have hyb : -9223372036854775808 ≤ y ∧ y ≤ 9223372036854775807 := ⟨by omega,by omega⟩
  conv => cbv
  refine CallF.le (args0 := [.ptr 1 (.lit 0),i6 b,i6 1,i6 y]) (cfr (store9_lx R2 ws3 C3 G3 N W 0 0 0 L2 D3 Q3 z3 ov3 h3 o ho b 1 y hyb) [(0,1),(1,2),(2,3),(3,4),(4,5),(5,6),(6,7),(7,0)] (fun r h' n' hrr => ?_)) (by simp [ales,ale,pvle,I.val])
  obtain ⟨es4,ws4,C4,G4,ov4,D4,Q4,z4,e1,e2,e3,h4,hSt4,_⟩ := hrr
  subst e1 e2 e3
  have hF4 := hF3.said h3.a hbl hy0 hSt4
  conv => cbv
  refine Room.new rfl ?_
  conv => cbv
  refine Room.new ⟨by show (cells.length : Int) = w * 1; omega,by show (w + 1) * 8 ≤ 140737488355328; omega,by show w + 1 ≤ 9223372036854775807; omega⟩ ?_
  conv => cbv
  refine Upd.mk fun cc hcc => ?_
  have hcc : cc = ipv (l ++ [b]) := by rw [show cc = cells ++ [.int .i64 (.sym b)] from hcc,hcs,← ipv_app]; rfl
  conv => cbv
  refine Sum.mk fun j2 hj2 => ?_
  have hj2 : j2 = w + 1 := hj2
  conv => cbv
  refine Fit.mk (by show (-9223372036854775808 : Int) ≤ w + 1; omega) (by show w + 1 ≤ 9223372036854775807; omega) fun w9 hw9 => ?_
  have hw9 : w9 = w + 1 := hw9
  obtain rfl : j2 = w9 := hj2.trans hw9.symm
  have hjl : j2 = ((l ++ [b]).length : Int) := by rw [hj2,hw,List.length_append]; rfl
  conv => cbv
  refine Joined.mk _ (Re.at [(0,0),(1,1),(2,2),(3,3),(4,4),(5,5),(6,6),(7,7),(8,8),(11,9)] []) ⟨j2,ws4,C4,G4,D4,Q4,z4,ov4,l ++ [b],cc,rfl,h4,hF4,hcc,hjl,by omega⟩
 rintro s ⟨w2,ws,C,G,D,Q,z,ov,l2,cells2,rfl,h,hF,hcs2,hw2,hwi2⟩
 conv => cbv
 refine Fit.mk (by show (-9223372036854775808 : Int) ≤ i + 1; omega) (by show i + 1 ≤ 9223372036854775807; omega) fun i2 hi2 => ?_
 have hi2 : i2 = i + 1 := hi2
 have hBl : i2 = ((B ++ [(b,c)]).length : Int) := by rw [hi2,hiB,List.length_append]; rfl
 conv => cbv
 refine Again.mk (m - i2).toNat _ (by omega) (Re.at [(0,0),(1,1),(2,2),(3,3),(4,4),(5,5),(6,6),(7,7),(8,8),(9,9)] []) ⟨i2,w2,R2,ws,C,G,L2,D,Q,z,ov,B ++ [(b,c)],l2,cells2,rfl,by omega,by omega,rfl,h,hF,hBl,hcs2,hw2,by omega⟩
end Go.Proofs.YtjfdfbpgckilpaaGreatDoor
