/-
  Layer 22: LiveChain.
-/
import Derived.Test.YtjfdfbpgckilpaaGreatDoorBi
import Derived.Test.YtjfdfbpgckilpaaGreatDoorBg
import Derived.Test.YtjfdfbpgckilpaaGreatDoorBf
namespace Go.Proofs.YtjfdfbpgckilpaaGreatDoor
open Go Go.LX
set_option maxRecDepth 100000
set_option linter.unusedVariables false
set_option linter.unusedSimpArgs false
set_option maxHeartbeats 32000000
theorem ipv_drop (l : List Int) (p : Nat) : ipv (l.drop p) = (ipv l).drop p := by rw [ipv,ipv,List.map_drop]
theorem take_off {l : List Int} (h : l.Pairwise (· < ·)) (p : Nat) (x : Int) : x ∈ l.take p ↔ x ∈ l ∧ ¬ x ∈ l.drop p := by
 have hp := h
 rw [← List.take_append_drop p l,List.pairwise_append] at hp
 constructor
 ·intro hx
  refine ⟨List.mem_of_mem_take hx,fun hd => ?_⟩
  have := hp.2.2 x hx x hd
  omega
 ·rintro ⟨h1,h2⟩
  rw [← List.take_append_drop p l] at h1
  rcases List.mem_append.1 h1 with h3 | h3
  ·exact h3
  ·exact absurd h3 h2
theorem liveChain_law (o : Unit → Obj) (ho : IsPow o) (n at_ : Int) (rg : Bool) (hn : -9223372036854775808 ≤ n ∧ n ≤ 9223372036854775807) (hat : -9223372036854775808 ≤ at_ ∧ at_ ≤ 9223372036854775807) :
  CallF (fun _ => Tryz.prog) 8 [i6 n,i6 at_,.p (.bool rg)] [(0,.fix 0 o)] 1 (fun r _ _ => r = .p (.bool true)) := by
 refine callF_of_body tok Tryz.func8 (by kernel_rfl) rfl rfl rfl ?_; conv => cbv
 refine Fit.wrap fun xn hxn => ?_
 have hxn : xn = IntKind.u64.wrap n := hxn
 have hyn : 0 ≤ xn := by rw [hxn]; simp [IntKind.wrap,IntKind.bits,IntKind.signed]; omega
 clear hxn
 conv => cbv
 refine Sum.mk fun tn htn => ?_
 have htn : tn = xn % 30 := (show tn = xn.tmod 30 from htn).trans (Int.tmod_eq_emod_of_nonneg hyn)
 conv => cbv
 refine Fit.mk (by show (-9223372036854775808 : Int) ≤ tn; omega) (by show tn ≤ 9223372036854775807; omega) fun un hun => ?_
 have hun : un = tn := hun
 conv => cbv
 refine Fit.mk (by show (-9223372036854775808 : Int) ≤ 1 + un; omega) (by show 1 + un ≤ 9223372036854775807; omega) fun m hm => ?_
 have hm : m = 1 + un := hm
 have hm0 : 1 ≤ m := by omega
 have hm1 : m ≤ 30 := by omega
 clear hm hun htn hyn
 conv => cbv
 refine Fit.wrap fun xs hxs => ?_
 have hxs : xs = IntKind.u64.wrap at_ := hxs
 have hys : 0 ≤ xs := by rw [hxs]; simp [IntKind.wrap,IntKind.bits,IntKind.signed]; omega
 clear hxs
 conv => cbv
 refine Fit.mk (by show (0 : Int) ≤ m; omega) (by show m ≤ 18446744073709551615; omega) fun m2 hm2 => ?_
 have hm2 : m2 = m := hm2
 conv => cbv
 refine Need.mk (show ¬ m2 = 0 by omega) ?_
 conv => cbv
 refine Sum.mk fun ts hts => ?_
 have hts : ts = xs % m2 := (show ts = xs.tmod m2 from hts).trans (Int.tmod_eq_emod_of_nonneg hys)
 have hts0 : 0 ≤ ts := by rw [hts]; exact Int.emod_nonneg _ (by omega)
 have hts1 : ts < m2 := by rw [hts]; exact Int.emod_lt_of_pos _ (by omega)
 clear hts
 conv => cbv
 refine Fit.mk (by show (-9223372036854775808 : Int) ≤ ts; omega) (by show ts ≤ 9223372036854775807; omega) fun p hp => ?_
 have hp : p = ts := hp
 have hp0 : 0 ≤ p := by omega
 have hp1 : p < m := by omega
 clear hp hts0 hts1 hm2 hys
 conv => cbv
 obtain ⟨z0,hz0⟩ : ∃ z0 : ByteArray,z0 = ⟨(enc []).toArray⟩ := ⟨_,rfl⟩
 obtain ⟨N,hN⟩ : ∃ N : Int,N = 10 := ⟨_,rfl⟩
 obtain ⟨W,hW⟩ : ∃ W : Int,W = 32 * N := ⟨_,rfl⟩
 obtain ⟨L0,hL0⟩ : ∃ L0,L0 = rpv (List.replicate N.toNat ((0,[]) : Rw)) := ⟨_,rfl⟩
 obtain ⟨D0,hD0⟩ : ∃ D0,D0 = ipv (List.replicate W.toNat (0 : Int)) := ⟨_,rfl⟩
 have hM0 := HM.new (by omega : 2 ≤ N) (by omega) hW hL0 hD0 hD0 hz0
 obtain ⟨R0,hR0⟩ : ∃ R0,R0 = List.replicate N.toNat ((0,[]) : Rw) := ⟨_,rfl⟩
 obtain ⟨ws0,hws0⟩ : ∃ ws0,ws0 = List.replicate W.toNat (0 : Int) := ⟨_,rfl⟩
 rw [← hR0,← hws0] at hM0
 have hLn0 : Line R0 ws0 [] (fun _ => 0) := by rw [hR0,hws0]; exact Line.new _ _ (by omega)
 refine CallF.le (args0 := [i6 N]) (callF_frame (newH_lx N W (by omega) (by omega) hW L0 D0 D0 z0 hL0 hD0 hD0 hz0) [] rfl trivial rfl rfl (fun r h' n' ⟨e1,e2,e3⟩ => ?_)) (by simp [ales,ale,pvle,I.val,hN])
 subst e1 e2 e3
 conv => cbv
 refine cfr (awake22_lx o ho) [(0,0)] (fun r h' n' ⟨e1,e2,e3⟩ => ?_)
 subst e1 e2 e3
 conv => cbv
 refine cfr (arena_lx R0 ws0 ws0 [] N W 0 0 0 L0 D0 D0 z0 false) [(0,1),(1,2),(2,3),(3,4),(4,5),(5,6),(6,7)] (fun r h' n' ⟨e1,e2,e3⟩ => ?_)
 subst e1 e2 e3
 conv => cbv
 refine LoopF.mk (fun kk s => ∃ (i : Int) (R : List Rw) (ws C : List Int) (L D Q : List PV) (l : List Int) (cells : List PV),s = ⟨.p (.int .i64 (.sym m)) :: .p (.int .i64 (.sym p)) :: .p (.bool rg) :: (undefs 4 ++ .ptr 1 (.lit 0) :: .undef :: .sl 8 3 1 (.lit 0) (.sym i) :: .p (.int .i64 (.sym i)) :: undefs 115),[hpA 1 2 6 7 3 W 0 0 0,hpB 2 3 5 3 W,hpC 3 4 179 2 N,hpP 4 L,hpP 5 D,hpF 6 z0 false,hpP 7 Q,(0,.fix 0 o),hpP 8 cells],9⟩ ∧ 0 ≤ i ∧ i ≤ m ∧ kk = (m - i).toNat ∧ HM R ws C [] N W L D Q z0 ∧ Line R ws l (fun _ => 0) ∧ cells = ipv l ∧ i = l.length) m.toNat _
  (Re.at [(0,0),(1,1),(2,2),(3,3),(4,4),(5,5),(6,6),(7,7)] [8]) ⟨0,R0,ws0,ws0,L0,D0,D0,[],[],rfl,by omega,by omega,by omega,hM0,hLn0,rfl,rfl⟩ ?_
 clear hM0 hLn0 hR0 hws0 hL0 hD0 hz0
 rintro kk s ⟨i,R,ws,C,L,D,Q,l,cells,rfl,hi0,hi1,hkk,h,hLn,hcs,hil⟩
 have hcl : cells.length = l.length := by rw [hcs,ipv_length]
 have hNR := h.n
 conv => cbv
 refine Br.mk (fun q => ?_) (fun q => ?_)
 ·have q : i < m := q
  conv => cbv
  refine CallF.le (args0 := [.ptr 1 (.lit 0),i6 5,i6 2]) (cfr (alloc9_lx R ws C [] N W 0 0 0 L D Q z0 false h 5 2) [(0,1),(1,2),(2,3),(3,4),(4,5),(5,6),(6,7)] (fun r h' n' hrr => ?_)) (by simp [ales,ale,pvle,I.val])
  obtain ⟨b,e,R',ws',C',L',D',Q',e1,e2,e3,h2,hT,_⟩ := hrr
  subst e1 e2 e3
  have hal := hLn.alloc h.a (by omega) hT
  conv => cbv
  obtain ⟨he,hLn2⟩ := hal
  refine Br.no (show ¬ (e ≠ 0) from fun w => w he) ?_
  conv => cbv
  refine Room.new rfl ?_
  conv => cbv
  refine Room.new ⟨by show (cells.length : Int) = i * 1; omega,by show (i + 1) * 8 ≤ 140737488355328; omega,by show i + 1 ≤ 9223372036854775807; omega⟩ ?_
  conv => cbv
  refine Upd.mk fun cells2 hcs2 => ?_
  have hcs3 : cells2 = ipv (l ++ [b]) := by rw [show cells2 = cells ++ [.int .i64 (.sym b)] from hcs2,hcs,← ipv_app]; rfl
  conv => cbv
  refine Sum.mk fun j2 hj2 => ?_
  have hj2 : j2 = i + 1 := hj2
  conv => cbv
  refine Fit.mk (by show (-9223372036854775808 : Int) ≤ i + 1; omega) (by show i + 1 ≤ 9223372036854775807; omega) fun i2 hi2 => ?_
  have hi2 : i2 = i + 1 := hi2
  obtain rfl : j2 = i2 := hj2.trans hi2.symm
  conv => cbv
  refine Again.mk (m - j2).toNat _ (by omega) (Re.at [(0,0),(1,1),(2,2),(3,3),(4,4),(5,5),(6,6),(7,7),(10,8)] []) ⟨j2,R',ws',C',L',D',Q',l ++ [b],cells2,rfl,by omega,by omega,rfl,h2,hLn2,hcs3,by rw [List.length_append]; show j2 = ((l.length + 1 : Nat) : Int); omega⟩
 have q : ¬ i < m := q
 obtain rfl : i = m := by omega
 conv => cbv
 refine LoopF.mk (fun kk s => ∃ (q : Int) (ws C G : List Int) (D Q : List PV) (z : ByteArray) (ov : Bool),s = ⟨.p (.int .i64 (.sym i)) :: .p (.int .i64 (.sym p)) :: .p (.bool rg) :: (undefs 4 ++ .ptr 1 (.lit 0) :: .undef :: .sl 8 3 1 (.lit 0) (.sym i) :: undefs 3 ++ .p (.int .i64 (.sym q)) :: undefs 112),[hpA 1 2 6 7 3 W 0 0 0,hpB 2 3 5 3 W,hpC 3 4 179 2 N,hpP 4 L,hpP 5 D,hpF 6 z ov,hpP 7 Q,(0,.fix 0 o),hpP 8 cells],9⟩ ∧ 0 ≤ q ∧ q < i ∧ kk = (i - q).toNat ∧ HM R ws C G N W L D Q z ∧ Line R ws l (fun k => if k < q.toNat then nxt l k else 0)) i.toNat _
  (Re.at [(0,0),(1,1),(2,2),(3,3),(4,4),(5,5),(6,6),(7,7),(8,8)] []) ⟨0,ws,C,[],D,Q,z0,false,rfl,by omega,by omega,by omega,h,hLn.congr (fun k _ => by rw [if_neg (by show ¬ k < 0; omega)])⟩ ?_
 clear h hLn
 rintro kk s ⟨q,ws,C,G,D,Q,z,ov,rfl,hq0,hq1,hkk,h,hLn⟩
 conv => cbv
 refine Fit.mk (by show (-9223372036854775808 : Int) ≤ q + 1; omega) (by show q + 1 ≤ 9223372036854775807; omega) fun q2 hq2 => ?_
 have hq2 : q2 = q + 1 := hq2
 conv => cbv
 refine Br.mk (fun g => ?_) (fun g => ?_)
 ·have g : q2 < i := g
  conv => cbv
  refine drawn_sound tok (by kernel_rfl) [(10,[4,3,2,1,0]),(11,[])] [0,1,2,3,4,5,6,7,8,9,10,11] (by kernel_rfl) ?_; conv => cbv
  obtain ⟨a,ha⟩ : ∃ a,l[q.toNat]? = some a := ⟨_,List.getElem?_eq_getElem (by omega)⟩
  obtain ⟨b,hb⟩ : ∃ b,l[q2.toNat]? = some b := ⟨_,List.getElem?_eq_getElem (by omega)⟩
  have hca : cells[q.toNat]? = some (.int .i64 (.sym a)) := by rw [hcs]; exact ipv_get ha
  have hcb : cells[q2.toNat]? = some (.int .i64 (.sym b)) := by rw [hcs]; exact ipv_get hb
  have hbp := hLn.pl _ _ hb
  conv => cbv
  refine Need.mk (show 0 ≤ q ∧ q < i by omega) ?_
  conv => cbv
  refine Cell.at q _ hca (by simp [I.val]) rfl ?_
  conv => cbv
  refine Fit.mk (by show (-9223372036854775808 : Int) ≤ q + 1; omega) (by show q + 1 ≤ 9223372036854775807; omega) fun q3 hq3 => ?_
  obtain rfl : q2 = q3 := by have : q3 = q + 1 := hq3; omega
  conv => cbv
  refine Need.mk (show 0 ≤ q2 ∧ q2 < i by omega) ?_
  conv => cbv
  refine Cell.at q2 _ hcb (by simp [I.val]) rfl ?_
  conv => cbv
  refine callF_frame (rPtr_lx b ⟨by omega,by omega⟩) [] rfl trivial rfl rfl (fun r h' n' hrr => ?_)
  obtain ⟨v,e1,e2,e3,hv⟩ := hrr
  subst e1 e2 e3
  have hvb : -9223372036854775808 ≤ v ∧ v ≤ 9223372036854775807 := ⟨by omega,by omega⟩
  conv => cbv
  refine CallF.le (args0 := [.ptr 1 (.lit 0),i6 a,i6 0,i6 v]) (cfr (store9_lx R ws C G N W 0 0 0 L D Q z ov h o ho a 0 v hvb) [(0,1),(1,2),(2,3),(3,4),(4,5),(5,6),(6,7),(7,0)] (fun r h' n' hrr => ?_)) (by simp [ales,ale,pvle,I.val])
  obtain ⟨es,ws',C3,G',ov',D',Q',z',e1,e2,e3,h2,hSt,hCC⟩ := hrr
  subst e1 e2 e3
  have hst := (hLn.store ha hSt).2
  have hLn2 : Line R ws' l (fun k => if k < q2.toNat then nxt l k else 0) := hst.congr (fun k hk => by
   have e : q2.toNat = q.toNat + 1 := by omega
   by_cases ek : k = q.toNat
   ·subst ek
    rw [if_pos rfl,if_pos (by omega)]
    unfold nxt
    rw [← e,hb]
    show 2 * b + 1 = v
    omega
   ·rw [if_neg ek]
    by_cases e2 : k < q.toNat
    ·rw [if_pos e2,if_pos (by omega)]
    ·rw [if_neg e2,if_neg (by omega)])
  conv => cbv
  refine Fit.mk (by show (-9223372036854775808 : Int) ≤ q + 1; omega) (by show q + 1 ≤ 9223372036854775807; omega) fun q4 hq4 => ?_
  obtain rfl : q2 = q4 := by have : q4 = q + 1 := hq4; omega
  conv => cbv
  refine Again.mk (i - q2).toNat _ (by omega) (Re.at [(0,0),(1,1),(2,2),(3,3),(4,4),(5,5),(6,6),(7,7),(8,8)] []) ⟨q2,ws',C3,G',D',Q',z',ov',rfl,by omega,by omega,rfl,h2,hLn2⟩
 have g : ¬ q2 < i := g
 have hLn : Line R ws l (nxt l) := hLn.congr (fun k hk => by
  by_cases e : k < q.toNat
  ·rw [if_pos e]
  ·rw [if_neg e]
   unfold nxt
   rw [List.getElem?_eq_none (by omega)])
 conv => cbv
 refine Room.new ⟨hp0,by show p ≤ i; omega⟩ ?_
 conv => cbv
 refine Sum.mk fun wl hwl => ?_
 have hwl : wl = i - p := hwl
 conv => cbv
 obtain ⟨a,ha⟩ : ∃ a,l[p.toNat]? = some a := ⟨_,List.getElem?_eq_getElem (by omega)⟩
 have hca : cells[p.toNat]? = some (.int .i64 (.sym a)) := by rw [hcs]; exact ipv_get ha
 cases rg with
 | false =>
  conv => cbv
  refine Need.mk (show 0 ≤ p ∧ p < i by omega) ?_
  conv => cbv
  refine Cell.at p _ hca (by simp [I.val]) rfl ?_
  conv => cbv
  refine CallF.re (args0 := [.ptr 1 (.lit 0),.p (.vsl (.sym 1) true [.int .i64 (.sym a)])]) (h' := [hpA 1 2 6 7 3 W 0 0 0,hpB 2 3 5 3 W,hpC 3 4 179 2 N,hpP 4 L,hpP 5 D,hpF 6 z ov,hpP 7 Q,(0,.fix 0 o),hpP 8 cells]) (Re.at [(0,0),(1,1),(2,2),(3,3),(4,4),(5,5),(6,6),(7,7),(8,8)] []) (cfr (reach_lx R ws C G N W 0 0 0 L D Q z ov h [a] 1 [.int .i64 (.sym a)] rfl rfl (by simp)) [(0,1),(1,2),(2,3),(3,4),(4,5),(5,6),(6,7)] (fun r h' n' hrr => ?_))
  obtain ⟨X,j,O,e1,e2,e3,hO,hj,hXa,hXm⟩ := hrr
  subst e1 e2 e3
  have hX : X = l.drop p.toNat := asc_eq hXa (hLn.rising.sublist (List.drop_sublist _ _)) (fun x => (hXm x).trans (hLn.rch ha x))
  have hXl : (X.length : Int) < 1000000 := by rw [hX]; rw [List.length_drop]; omega
  conv => cbv
  refine callF_lend (plaini64_lx X (l.drop p.toNat) j wl O (cells.drop p.toNat) hj (by rw [List.length_drop]; omega) (by rw [hO]; exact preI_ints X) (by rw [hcs]; rw [← ipv_drop]; exact preI_ints _) hXl) (by simp [lends,lendV,hget,I.val,pvle]) (fun r h' n' hrr => by obtain ⟨⟨b,e1,_⟩,e2,_⟩ := hrr; subst e1 e2; exact ⟨trivial,trivial⟩) (fun r h' n' hrr => ?_)
  obtain ⟨⟨b1,e1,hb1⟩,e2,e3⟩ := hrr
  subst e1 e2 e3
  obtain rfl : b1 = true := hb1.2 hX
  conv => cbv
  refine Need.mk (show 0 ≤ p ∧ p < i by omega) ?_
  conv => cbv
  refine Cell.at p _ hca (by simp [I.val]) rfl ?_
  conv => cbv
  refine CallF.re (args0 := [.ptr 1 (.lit 0),.p (.vsl (.sym 1) true [.int .i64 (.sym a)])]) (h' := [hpA 1 2 6 7 3 W 0 0 0,hpB 2 3 5 3 W,hpC 3 4 179 2 N,hpP 4 L,hpP 5 D,hpF 6 z ov,hpP 7 Q,(0,.fix 0 o),hpP 8 cells]) (Re.at [(0,0),(1,1),(2,2),(3,3),(4,4),(5,5),(6,6),(7,7),(8,8)] []) (cfr (lost_lx R ws C G N W 0 0 0 L D Q z ov h [a] 1 [.int .i64 (.sym a)] rfl rfl (by simp)) [(0,1),(1,2),(2,3),(3,4),(4,5),(5,6),(6,7)] (fun r h' n' hrr => ?_))
  obtain ⟨Y,jy,OY,e1,e2,e3,hOY,hjy,hYa,hYm⟩ := hrr
  subst e1 e2 e3
  have hY : Y = l.take p.toNat := asc_eq hYa (hLn.rising.sublist (List.take_sublist _ _)) (fun x => by rw [hYm,hLn.obj,hLn.rch ha,take_off hLn.rising])
  have hjy2 : jy = p := by rw [hjy,hY,List.length_take]; omega
  conv => cbv
  refine Fit.mk (by show (-9223372036854775808 : Int) ≤ i - wl; omega) (by show i - wl ≤ 9223372036854775807; omega) fun df hdf => ?_
  have hdf : df = i - wl := hdf
  conv => cbv
  refine Br.yes (show jy = df by omega) ?_
  conv => cbv
  refine CallF.re (args0 := [.ptr 1 (.lit 0),.p (.vsl (.sym i) true cells)]) (h' := [hpA 1 2 6 7 3 W 0 0 0,hpB 2 3 5 3 W,hpC 3 4 179 2 N,hpP 4 L,hpP 5 D,hpF 6 z ov,hpP 7 Q,(0,.fix 0 o)]) (Re.at [(0,0),(1,1),(2,2),(3,3),(4,4),(5,5),(6,6),(7,7)] []) (cfr (broken_lx R ws C G N W 0 0 0 L D Q z ov h l i cells hil hcs (by omega)) [(0,1),(1,2),(2,3),(3,4),(4,5),(5,6),(6,7)] (fun r h' n' hrr => ?_))
  obtain ⟨Z,jz,OZ,e1,e2,e3,hOZ,hjz,hZa,hZm⟩ := hrr
  subst e1 e2 e3
  have hjz2 : jz = 0 := by
   rw [hjz,show Z = [] from List.eq_nil_iff_forall_not_mem.2 (fun x hx => hLn.brk (fun k hk => nxt_in hk) ((hLn.obj x).1 ((hZm x).1 hx).1.obj) ((hZm x).1 hx).2)]; rfl
  conv => cbv
  refine Br.yes (show jz = 0 from hjz2) ?_
  conv => cbv
  refine RetF.mk [.p (.bool true)] [(0,.fix 0 o)] 1 (Re.at [(0,0)] []) rfl rfl
 | true =>
 conv => cbv
 refine drawn_sound tok (by kernel_rfl) [(9,[5,4,3,2,1,0]),(10,[])] [0,1,2,3,4,5,6,7,8,9,10] (by kernel_rfl) ?_; conv => cbv
 obtain ⟨la,hla⟩ : ∃ la : Int,la = i - 1 := ⟨_,rfl⟩
 obtain ⟨c,hc⟩ : ∃ a,l[la.toNat]? = some a := ⟨_,List.getElem?_eq_getElem (by omega)⟩
 obtain ⟨f,hf⟩ : ∃ b,l[0]? = some b := ⟨_,List.getElem?_eq_getElem (by omega)⟩
 have hcc : cells[la.toNat]? = some (.int .i64 (.sym c)) := by rw [hcs]; exact ipv_get hc
 have hcf : cells[0]? = some (.int .i64 (.sym f)) := by rw [hcs]; exact ipv_get hf
 have hfp := hLn.pl _ _ hf
 conv => cbv
 refine Fit.mk (by show (-9223372036854775808 : Int) ≤ i - 1; omega) (by show i - 1 ≤ 9223372036854775807; omega) fun la2 hla2 => ?_
 obtain rfl : la = la2 := by have : la2 = i - 1 := hla2; omega
 conv => cbv
 refine Need.mk (show 0 ≤ la ∧ la < i by omega) ?_
 conv => cbv
 refine Cell.at la _ hcc (by simp [I.val]) rfl ?_
 conv => cbv
 refine Need.mk (show (0 : Int) ≤ 0 ∧ 0 < i by omega) ?_
 conv => cbv
 refine Cell.at 0 _ hcf (by simp [I.val]) rfl ?_
 conv => cbv
 refine callF_frame (rPtr_lx f ⟨by omega,by omega⟩) [] rfl trivial rfl rfl (fun r h' n' hrr => ?_)
 obtain ⟨v,e1,e2,e3,hv⟩ := hrr
 subst e1 e2 e3
 have hvb : -9223372036854775808 ≤ v ∧ v ≤ 9223372036854775807 := ⟨by omega,by omega⟩
 conv => cbv
 refine CallF.le (args0 := [.ptr 1 (.lit 0),i6 c,i6 0,i6 v]) (cfr (store9_lx R ws C G N W 0 0 0 L D Q z ov h o ho c 0 v hvb) [(0,1),(1,2),(2,3),(3,4),(4,5),(5,6),(6,7),(7,0)] (fun r h' n' hrr => ?_)) (by simp [ales,ale,pvle,I.val])
 obtain ⟨es,ws',C3,G',ov',D',Q',z',e1,e2,e3,h2,hSt,hCC⟩ := hrr
 subst e1 e2 e3
 have hst := (hLn.store hc hSt).2
 have hhd : l.headD 0 = f := by
  cases l with
  | nil => simp at hf
  | cons y l => cases hf; rfl
 have hLn2 : Line R ws' l (nxtR l) := hst.congr (fun k hk => by
  by_cases ek : k = la.toNat
  ·subst ek
   rw [if_pos rfl]
   unfold nxtR
   rw [List.getElem?_eq_none (by omega),hhd]
   show 2 * f + 1 = v
   omega
  ·rw [if_neg ek]
   unfold nxtR nxt
   rw [List.getElem?_eq_getElem (by omega : k + 1 < l.length)])
 clear hLn hst hSt h
 conv => cbv
 refine Need.mk (show 0 ≤ p ∧ p < i by omega) ?_
 conv => cbv
 refine Cell.at p _ hca (by simp [I.val]) rfl ?_
 conv => cbv
 refine CallF.re (args0 := [.ptr 1 (.lit 0),.p (.vsl (.sym 1) true [.int .i64 (.sym a)])]) (h' := [hpA 1 2 6 7 3 W 0 0 0,hpB 2 3 5 3 W,hpC 3 4 179 2 N,hpP 4 L,hpP 5 D',hpF 6 z' ov',hpP 7 Q',(0,.fix 0 o),hpP 8 cells]) (Re.at [(0,0),(1,1),(2,2),(3,3),(4,4),(5,5),(6,6),(7,7),(8,8)] []) (cfr (reach_lx R ws' C3 G' N W 0 0 0 L D' Q' z' ov' h2 [a] 1 [.int .i64 (.sym a)] rfl rfl (by simp)) [(0,1),(1,2),(2,3),(3,4),(4,5),(5,6),(6,7)] (fun r h' n' hrr => ?_))
 obtain ⟨X,j,O,e1,e2,e3,hO,hj,hXa,hXm⟩ := hrr
 subst e1 e2 e3
 have hX : X = l := asc_eq hXa hLn2.rising (fun x => (hXm x).trans (hLn2.ring ha x))
 have hXl : (X.length : Int) < 1000000 := by rw [hX]; omega
 conv => cbv
 refine callF_lend (plaini64_lx X l j i O cells hj hil (by rw [hO]; exact preI_ints X) (by rw [hcs]; exact preI_ints _) hXl) (by simp [lends,lendV,hget,I.val,pvle]) (fun r h' n' hrr => by obtain ⟨⟨b,e1,_⟩,e2,_⟩ := hrr; subst e1 e2; exact ⟨trivial,trivial⟩) (fun r h' n' hrr => ?_)
 obtain ⟨⟨b1,e1,hb1⟩,e2,e3⟩ := hrr
 subst e1 e2 e3
 obtain rfl : b1 = true := hb1.2 hX
 conv => cbv
 refine Need.mk (show 0 ≤ p ∧ p < i by omega) ?_
 conv => cbv
 refine Cell.at p _ hca (by simp [I.val]) rfl ?_
 conv => cbv
 refine CallF.re (args0 := [.ptr 1 (.lit 0),.p (.vsl (.sym 1) true [.int .i64 (.sym a)])]) (h' := [hpA 1 2 6 7 3 W 0 0 0,hpB 2 3 5 3 W,hpC 3 4 179 2 N,hpP 4 L,hpP 5 D',hpF 6 z' ov',hpP 7 Q',(0,.fix 0 o),hpP 8 cells]) (Re.at [(0,0),(1,1),(2,2),(3,3),(4,4),(5,5),(6,6),(7,7),(8,8)] []) (cfr (lost_lx R ws' C3 G' N W 0 0 0 L D' Q' z' ov' h2 [a] 1 [.int .i64 (.sym a)] rfl rfl (by simp)) [(0,1),(1,2),(2,3),(3,4),(4,5),(5,6),(6,7)] (fun r h' n' hrr => ?_))
 obtain ⟨Y,jy,OY,e1,e2,e3,hOY,hjy,hYa,hYm⟩ := hrr
 subst e1 e2 e3
 have hY : Y = [] := List.eq_nil_iff_forall_not_mem.2 (fun x hx => ((hYm x).1 hx).2 ((hLn2.ring ha x).2 ((hLn2.obj x).1 ((hYm x).1 hx).1)))
 have hjy2 : jy = 0 := by rw [hjy,hY]; rfl
 conv => cbv
 refine Fit.mk (by show (-9223372036854775808 : Int) ≤ i - i; omega) (by show i - i ≤ 9223372036854775807; omega) fun df hdf => ?_
 have hdf : df = i - i := hdf
 conv => cbv
 refine Br.yes (show jy = df by omega) ?_
 conv => cbv
 refine CallF.re (args0 := [.ptr 1 (.lit 0),.p (.vsl (.sym i) true cells)]) (h' := [hpA 1 2 6 7 3 W 0 0 0,hpB 2 3 5 3 W,hpC 3 4 179 2 N,hpP 4 L,hpP 5 D',hpF 6 z' ov',hpP 7 Q',(0,.fix 0 o)]) (Re.at [(0,0),(1,1),(2,2),(3,3),(4,4),(5,5),(6,6),(7,7)] []) (cfr (broken_lx R ws' C3 G' N W 0 0 0 L D' Q' z' ov' h2 l i cells hil hcs (by omega)) [(0,1),(1,2),(2,3),(3,4),(4,5),(5,6),(6,7)] (fun r h' n' hrr => ?_))
 obtain ⟨Z,jz,OZ,e1,e2,e3,hOZ,hjz,hZa,hZm⟩ := hrr
 subst e1 e2 e3
 have hjz2 : jz = 0 := by
  rw [hjz,show Z = [] from List.eq_nil_iff_forall_not_mem.2 (fun x hx => hLn2.brk (fun k hk => nxtR_in hk) ((hLn2.obj x).1 ((hZm x).1 hx).1.obj) ((hZm x).1 hx).2)]; rfl
 conv => cbv
 refine Br.yes (show jz = 0 from hjz2) ?_
 conv => cbv
 refine RetF.mk [.p (.bool true)] [(0,.fix 0 o)] 1 (Re.at [(0,0)] []) rfl rfl
end Go.Proofs.YtjfdfbpgckilpaaGreatDoor
