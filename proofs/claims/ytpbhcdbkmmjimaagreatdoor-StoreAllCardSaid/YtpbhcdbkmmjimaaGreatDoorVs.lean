/-
  Layer 21: StoreAll.
-/
import Derived.Test.YtpbhcdbkmmjimaaGreatDoorVw
namespace Go.Proofs.YtpbhcdbkmmjimaaGreatDoor
open Go Go.LX
set_option maxRecDepth 100000
set_option linter.unusedVariables false
set_option linter.unusedSimpArgs false
set_option maxHeartbeats 32000000
theorem sz_gors {n : Nat} {X : List Int} (h : Sz (List.replicate n (4,0)) X) : ((List.replicate n ((4 : Int),(0 : Int))).map Prod.fst).zip X = List.replicate n (4,10) := by
 obtain ⟨h1,h2⟩ := h
 rw [List.length_replicate] at h1
 have hX : X = List.replicate n 10 := by
  refine List.eq_replicate_iff.2 ⟨h1,fun b hb => ?_⟩
  obtain ⟨i,hi⟩ := List.getElem?_of_mem hb
  have hil := (List.getElem?_eq_some_iff.1 hi).1
  obtain ⟨v,e,q⟩ := h2 i (4,0) (by rw [List.getElem?_replicate,if_pos (by omega)])
  rw [hi] at e
  cases e
  rcases q with ⟨q,_⟩ | ⟨_,q,_⟩
  ·exact absurd q (by decide)
  ·exact q
 rw [hX,List.map_replicate,List.zip_replicate']
theorem zero_twos : ∀ n : Nat,pvles (repsP [.int .i64 (.lit 0),.int .i64 (.lit 0)] n) (twosP (List.replicate n (0,0)))
 | 0 => by simp [repsP,twosP,pvles]
 | n + 1 => by
  have h := zero_twos n
  rw [List.replicate_succ]
  show pvles (_ :: _ :: repsP _ n) (_ :: _ :: twosP _)
  exact ⟨by simp [pvle,I.val],by simp [pvle,I.val],h⟩
theorem upd_twos : ∀ (l : List (Int × Int)) (i : Nat) (p : Int × Int),i < l.length → pvles (updL (twosP l) (2 * i) [.int .i64 (.lit p.1),.int .i64 (.lit p.2)]) (twosP (l.set i p))
 | [],i,p,h => by simp at h
 | q :: l,0,p,h => ⟨by simp [pvle,I.val],by simp [pvle,I.val],pvles_refl _⟩
 | q :: l,i + 1,p,h => ⟨by simp [pvle,I.val],by simp [pvle,I.val],upd_twos l i p (by simpa using h)⟩
theorem set_rep {α : Type} (a b : α) (i m : Nat) (h : 0 < m) : (List.replicate i a ++ List.replicate m b).set i a = List.replicate (i + 1) a ++ List.replicate (m - 1) b := by
 obtain ⟨k,rfl⟩ : ∃ k,m = k + 1 := ⟨m - 1,by omega⟩
 rw [List.set_append_right _ _ (by rw [List.length_replicate]; exact Nat.le_refl _),List.length_replicate,Nat.sub_self,List.replicate_succ,List.set_cons_zero,List.replicate_succ',List.append_assoc]
 rfl
theorem storeAll_law (o : Unit → Obj) (ho : IsPow o) (a0 a1 : Int) : CallF (fun _ => Tryz.prog) 5 [i6 a0,i6 a1] [(0,.fix 0 o)] 1 (fun r _ _ => r = .p (.bool true)) := by
 refine callF_of_body tok Tryz.func5 (by kernel_rfl) rfl rfl rfl ?_; conv => cbv
 refine Fit.wrap fun xn_N hxn => ?_
 have hyn : 0 ≤ xn_N := by rw [show xn_N = IntKind.u64.wrap a0 from hxn]; simp [IntKind.wrap,IntKind.bits,IntKind.signed]; omega
 clear hxn
 conv => cbv
 refine Sum.mk fun tn_N htn => ?_
 have htn : tn_N = xn_N % 3 := (show tn_N = xn_N.tmod 3 from htn).trans (Int.tmod_eq_emod_of_nonneg hyn)
 conv => cbv
 refine Fit.mk (by show (-9223372036854775808 : Int) ≤ tn_N; omega) (by show tn_N ≤ 9223372036854775807; omega) fun un_N hun => ?_
 have hun : un_N = tn_N := hun
 conv => cbv
 refine Fit.mk (by show (-9223372036854775808 : Int) ≤ 2 + un_N; omega) (by show 2 + un_N ≤ 9223372036854775807; omega) fun N hN => ?_
 have hN : N = 2 + un_N := hN
 have hN0 : 2 ≤ N := by omega
 have hN1 : N ≤ 4 := by omega
 clear hN hun htn hyn
 conv => cbv
 refine Fit.wrap fun xn_n hxn => ?_
 have hyn : 0 ≤ xn_n := by rw [show xn_n = IntKind.u64.wrap a1 from hxn]; simp [IntKind.wrap,IntKind.bits,IntKind.signed]; omega
 clear hxn
 conv => cbv
 refine Sum.mk fun tn_n htn => ?_
 have htn : tn_n = xn_n % 40 := (show tn_n = xn_n.tmod 40 from htn).trans (Int.tmod_eq_emod_of_nonneg hyn)
 conv => cbv
 refine Fit.mk (by show (-9223372036854775808 : Int) ≤ tn_n; omega) (by show tn_n ≤ 9223372036854775807; omega) fun un_n hun => ?_
 have hun : un_n = tn_n := hun
 conv => cbv
 have hn0 : 0 ≤ un_n := by omega
 have hn1 : un_n ≤ 39 := by omega
 clear hun htn hyn
 obtain ⟨st,hst⟩ : ∃ N : Int,N = 100 := ⟨_,rfl⟩
 obtain ⟨as_,has⟩ : ∃ N : Int,N = 0 := ⟨_,rfl⟩
 have hCO : COk N st as_ := ⟨by omega,by omega,by omega,by omega⟩
 obtain ⟨z0,hz0⟩ : ∃ z0 : ByteArray,z0 = ⟨(enc []).toArray⟩ := ⟨_,rfl⟩
 obtain ⟨W,hW⟩ : ∃ W : Int,W = 32 * N := ⟨_,rfl⟩
 obtain ⟨L0,hL0⟩ : ∃ L0,L0 = rpv (List.replicate N.toNat ((0,[]) : Rw)) := ⟨_,rfl⟩
 obtain ⟨D0,hD0⟩ : ∃ D0,D0 = ipv (List.replicate W.toNat (0 : Int)) := ⟨_,rfl⟩
 have hM0 := HM.new (by omega : 2 ≤ N) (by omega) hW hL0 hD0 hD0 hz0
 obtain ⟨R0,hR0⟩ : ∃ R0,R0 = List.replicate N.toNat ((0,[]) : Rw) := ⟨_,rfl⟩
 obtain ⟨ws0,hws0⟩ : ∃ ws0,ws0 = List.replicate W.toNat (0 : Int) := ⟨_,rfl⟩
 rw [← hR0,← hws0] at hM0
 have hB0 : Bare0 N ⟨R0,ws0,ws0,[],false,0,0,0⟩ := ⟨hM0.good false 0 0 (by omega) (by omega) ⟨by omega,by omega⟩ (by omega),hR0,rfl⟩
 refine CallF.le (args0 := [.agg [i6 N,i6 st,i6 as_]]) (cfr (newS_lx N W st as_ hCO (by omega) (by omega) hW L0 D0 D0 z0 hL0 hD0 hD0 hz0) [] (fun r h' n' ⟨e1,e2,e3⟩ => ?_)) (by simp [ales,ale,pvle,I.val,hst,has])
 subst e1 e2 e3
 conv => cbv
 refine cfr (awake21_lx o ho) [(0,0)] (fun r h' n' ⟨e1,e2,e3⟩ => ?_)
 subst e1 e2 e3
 conv => cbv
 refine cfr (heapS_lx R0 ws0 ws0 [] N W 0 0 0 L0 D0 D0 z0 false st as_) [(0,1),(1,2),(2,3),(3,4),(4,5),(5,6),(6,7),(7,8)] (fun r h' n' ⟨e1,e2,e3⟩ => ?_)
 subst e1 e2 e3
 conv => cbv
 refine cfr (heapS_lx R0 ws0 ws0 [] N W 0 0 0 L0 D0 D0 z0 false st as_) [(0,1),(1,2),(2,3),(3,4),(4,5),(5,6),(6,7),(7,8)] (fun r h' n' ⟨e1,e2,e3⟩ => ?_)
 subst e1 e2 e3
 conv => cbv
 refine cfr (arena_lx R0 ws0 ws0 [] N W 0 0 0 L0 D0 D0 z0 false) [(0,2),(1,3),(2,4),(3,5),(4,6),(5,7),(6,8)] (fun r h' n' ⟨e1,e2,e3⟩ => ?_)
 subst e1 e2 e3
 conv => cbv
 refine Need.mk ⟨by show 0 ≤ un_n; omega,Int.le_refl _,by show un_n * 16 ≤ 140737488355328; omega,by show un_n ≤ 9223372036854775807; omega⟩ ?_
 conv => cbv
 refine Upd.mk fun c0 hc0 => ?_
 obtain ⟨cn,hcn⟩ : ∃ c,c = twosP (List.replicate un_n.toNat (0,0)) := ⟨_,rfl⟩
 have hle : pvles c0 cn := by
  have hc0 : c0 = repsP [.int .i64 (.lit 0),.int .i64 (.lit 0)] un_n.toNat := hc0
  rw [hc0,hcn]; exact zero_twos _
 unfold pvles at hle
 clear hc0
 conv => cbv
 refine LoopF.mk (fun kk s => ∃ (i : Int) (cs : List PV),s = ⟨.p (.int .i64 (.sym N)) :: .p (.int .i64 (.sym un_n)) :: (undefs 3 ++ .ptr 1 (.lit 0) :: .undef :: .sl 9 64 2 (.lit 0) (.sym un_n) :: (undefs 45 ++ .p (.int .i64 (.sym un_n)) :: .p (.int .i64 (.sym i)) :: undefs 63)),[(1,.mix [.ptr 2 (.lit 0),i6 st,i6 as_]),hpA 2 3 7 8 3 W 0 0 0,hpB 3 4 6 3 W,hpC 4 5 137 2 N,hpP 5 L0,hpP 6 D0,hpF 7 z0 false,hpP 8 D0,(0,.fix 0 o),hpP 9 cs],10⟩ ∧ 0 ≤ i ∧ i ≤ un_n ∧ cs = twosP (List.replicate i.toNat (4,0) ++ List.replicate (un_n.toNat - i.toNat) (0,0)) ∧ kk = (un_n - i).toNat) un_n.toNat _
  (Re.at [(0,0),(1,1),(2,2),(3,3),(4,4),(5,5),(6,6),(7,7),(8,8),(9,9)] []) ⟨0,cn,rfl,by omega,by omega,by rw [hcn]; rfl,by omega⟩ ?_
 rintro kk s ⟨i,cs,rfl,hi0,hi1,hcs,hkk⟩
 conv => cbv
 refine Br.mk (fun q => ?_) (fun q => ?_)
 case refine_2 =>
  have q : ¬ i < un_n := q
  conv => cbv
  rw [show un_n.toNat - i.toNat = 0 by omega,show i.toNat = un_n.toNat by omega,List.replicate_zero,List.append_nil] at hcs
  refine CallF.re (args0 := [.ptr 1 (.lit 0),.p (.vsl (.sym un_n) true cs),.p (.vsl (.sym 0) true [])]) (h' := [(1,.mix [.ptr 2 (.lit 0),i6 st,i6 as_]),hpA 2 3 7 8 3 W 0 0 0,hpB 3 4 6 3 W,hpC 4 5 137 2 N,hpP 5 L0,hpP 6 D0,hpF 7 z0 false,hpP 8 D0,(0,.fix 0 o)]) (Re.at [(0,0),(1,1),(2,2),(3,3),(4,4),(5,5),(6,6),(7,7),(8,8)] []) (cfr (alloc21_lx R0 ws0 ws0 [] N W 0 0 0 L0 D0 D0 z0 false hM0 o ho st as_ hCO hB0.g (by decide) (List.replicate un_n.toNat (4,0)) un_n cs (by rw [List.length_replicate]; omega) hcs (by rw [List.length_replicate]; omega) [] 0 [] rfl rfl (by decide)) [(0,1),(1,2),(2,3),(3,4),(4,5),(5,6),(6,7),(7,8),(8,0)] (fun r h' n' hrr => ?_))
  rcases hrr with ⟨_,⟨p,hp,v,hv⟩,_⟩ | hrr
  ·exfalso
   rw [(List.mem_replicate.1 hp).2] at hv
   rcases hv with ⟨q,_⟩ | ⟨_,q,q2⟩
   ·exact absurd q (by decide)
   ·rw [q] at q2
    exact absurd (q2.2 (by decide)) (by decide)
  obtain ⟨X,x,out,e,mx,mg,T,cg,R1,ws1,C1,G1,ov1,ph1,sp1,cy1,L1,D1,Q1,z1,e1,hX,hh,h1,hT,hmx,hcg,hmg,hA⟩ := hrr
  rw [sz_gors hX,hst,has,Int.zero_mul] at hA
  obtain ⟨hout,hfit,hnot⟩ := storeAll_fact hW hB0 hA
  subst hout
  have hmg0 : mg = 0 := hmg
  have hcg0 : cg = [] := hcg
  subst hmg0 hcg0
  have hoc : (objs R1).length = objCount R1 := objs_length h1.a.rows
  obtain ⟨mo,hmo⟩ : ∃ m : Int,m = objCount R1 := ⟨_,rfl⟩
  rcases hh with ⟨e2,e3⟩ | ⟨e2,e3,_⟩
  ·by_cases hf : ((un_n.toNat : Nat) : Int) ≤ 2 * N
   ·obtain ⟨rfl,hxo,hxl⟩ := hfit hf
    subst e1 e2 e3
    conv => cbv
    refine Fit.mk (by show (-9223372036854775808 : Int) ≤ 2 * N; omega) (by show 2 * N ≤ 9223372036854775807; omega) fun n2 hn2 => ?_
    have hn2 : n2 = 2 * N := hn2
    conv => cbv
    refine Br.yes (show un_n ≤ n2 by omega) ?_
    conv => cbv
    refine cfr (heapS_lx R1 ws1 C1 G1 N W ph1 sp1 cy1 L1 D1 Q1 z1 ov1 st as_) [(0,1),(1,2),(2,3),(3,4),(4,5),(5,6),(6,7),(7,8)] (fun r h' n' ⟨e1,e2,e3⟩ => ?_)
    subst e1 e2 e3
    conv => cbv
    refine cfr (arena_lx R1 ws1 C1 G1 N W ph1 sp1 cy1 L1 D1 Q1 z1 ov1) [(0,2),(1,3),(2,4),(3,5),(4,6),(5,7),(6,8)] (fun r h' n' ⟨e1,e2,e3⟩ => ?_)
    subst e1 e2 e3
    conv => cbv
    refine cfr (objects_lx mo R1 N W L1 D1 h1.l h1.n h1.r h1.a.rows h1.w hmo) [(0,3),(1,4),(2,5),(3,6)] (fun r h' n' hrr => ?_)
    obtain ⟨E,e1,e2,e3,hE⟩ := hrr
    subst e1 e2 e3
    conv => cbv
    refine Br.yes (show (0 : Int) = 0 from rfl) ?_
    conv => cbv
    refine Br.yes (show (0 : Int) = 0 from rfl) ?_
    conv => cbv
    have hmo2 : mo = mx := by rw [hmo,← hoc,← hxo]; exact hmx.symm
    refine callF_lend (plain21_true x mx T E hmx hT (by rw [hE]; exact congrArg ipv hxo.symm) (by omega)) (by simp [lends,lendV,hget,I.val,pvle,hmo2]) (fun r h' n' ⟨e1,e2,e3⟩ => by subst e1 e2; exact ⟨trivial,trivial⟩) (fun r h' n' ⟨e1,e2,e3⟩ => ?_)
    subst e1 e2 e3
    conv => cbv
    refine Br.yes (show mx = un_n by omega) ?_
    conv => cbv
    refine RetF.mk [.p (.bool true)] [(0,.fix 0 o)] 1 (Re.at [(0,0)] []) rfl rfl
   ·obtain ⟨rfl,rfl,ho0⟩ := hnot hf
    subst e1 e2 e3
    conv => cbv
    refine Fit.mk (by show (-9223372036854775808 : Int) ≤ 2 * N; omega) (by show 2 * N ≤ 9223372036854775807; omega) fun n2 hn2 => ?_
    have hn2 : n2 = 2 * N := hn2
    conv => cbv
    refine Br.no (show ¬ un_n ≤ n2 by omega) ?_
    conv => cbv
    refine cfr (heapS_lx R1 ws1 C1 G1 N W ph1 sp1 cy1 L1 D1 Q1 z1 ov1 st as_) [(0,1),(1,2),(2,3),(3,4),(4,5),(5,6),(6,7),(7,8)] (fun r h' n' ⟨e1,e2,e3⟩ => ?_)
    subst e1 e2 e3
    conv => cbv
    refine cfr (arena_lx R1 ws1 C1 G1 N W ph1 sp1 cy1 L1 D1 Q1 z1 ov1) [(0,2),(1,3),(2,4),(3,5),(4,6),(5,7),(6,8)] (fun r h' n' ⟨e1,e2,e3⟩ => ?_)
    subst e1 e2 e3
    conv => cbv
    refine cfr (objects_lx mo R1 N W L1 D1 h1.l h1.n h1.r h1.a.rows h1.w hmo) [(0,3),(1,4),(2,5),(3,6)] (fun r h' n' hrr => ?_)
    obtain ⟨E,e1,e2,e3,hE⟩ := hrr
    subst e1 e2 e3
    conv => cbv
    refine Br.no (show ¬ (9 : Int) = 0 by decide) ?_
    conv => cbv
    refine Br.yes (show (0 : Int) = 0 from rfl) ?_
    conv => cbv
    refine Br.yes (show (9 : Int) = 9 from rfl) ?_
    conv => cbv
    refine Br.yes (show mx = 0 from hmx) ?_
    conv => cbv
    refine Br.yes (show mo = 0 by rw [hmo,← hoc,ho0]; rfl) ?_
    conv => cbv
    refine RetF.mk [.p (.bool true)] [(0,.fix 0 o)] 1 (Re.at [(0,0)] []) rfl rfl
  ·by_cases hf : ((un_n.toNat : Nat) : Int) ≤ 2 * N
   ·obtain ⟨rfl,hxo,hxl⟩ := hfit hf
    subst e1 e2 e3
    conv => cbv
    refine Fit.mk (by show (-9223372036854775808 : Int) ≤ 2 * N; omega) (by show 2 * N ≤ 9223372036854775807; omega) fun n2 hn2 => ?_
    have hn2 : n2 = 2 * N := hn2
    conv => cbv
    refine Br.yes (show un_n ≤ n2 by omega) ?_
    conv => cbv
    refine cfr (heapS_lx R1 ws1 C1 G1 N W ph1 sp1 cy1 L1 D1 Q1 z1 ov1 st as_) [(0,1),(1,2),(2,3),(3,4),(4,5),(5,6),(6,10),(7,8)] (fun r h' n' ⟨e1,e2,e3⟩ => ?_)
    subst e1 e2 e3
    conv => cbv
    refine cfr (arena_lx R1 ws1 C1 G1 N W ph1 sp1 cy1 L1 D1 Q1 z1 ov1) [(0,2),(1,3),(2,4),(3,5),(4,6),(5,10),(6,8)] (fun r h' n' ⟨e1,e2,e3⟩ => ?_)
    subst e1 e2 e3
    conv => cbv
    refine cfr (objects_lx mo R1 N W L1 D1 h1.l h1.n h1.r h1.a.rows h1.w hmo) [(0,3),(1,4),(2,5),(3,6)] (fun r h' n' hrr => ?_)
    obtain ⟨E,e1,e2,e3,hE⟩ := hrr
    subst e1 e2 e3
    conv => cbv
    refine Br.yes (show (0 : Int) = 0 from rfl) ?_
    conv => cbv
    refine Br.yes (show (0 : Int) = 0 from rfl) ?_
    conv => cbv
    have hmo2 : mo = mx := by rw [hmo,← hoc,← hxo]; exact hmx.symm
    refine callF_lend (plain21_true x mx T E hmx hT (by rw [hE]; exact congrArg ipv hxo.symm) (by omega)) (by simp [lends,lendV,hget,I.val,pvle,hmo2]) (fun r h' n' ⟨e1,e2,e3⟩ => by subst e1 e2; exact ⟨trivial,trivial⟩) (fun r h' n' ⟨e1,e2,e3⟩ => ?_)
    subst e1 e2 e3
    conv => cbv
    refine Br.yes (show mx = un_n by omega) ?_
    conv => cbv
    refine RetF.mk [.p (.bool true)] [(0,.fix 0 o)] 1 (Re.at [(0,0)] []) rfl rfl
   ·obtain ⟨rfl,rfl,ho0⟩ := hnot hf
    subst e1 e2 e3
    conv => cbv
    refine Fit.mk (by show (-9223372036854775808 : Int) ≤ 2 * N; omega) (by show 2 * N ≤ 9223372036854775807; omega) fun n2 hn2 => ?_
    have hn2 : n2 = 2 * N := hn2
    conv => cbv
    refine Br.no (show ¬ un_n ≤ n2 by omega) ?_
    conv => cbv
    refine cfr (heapS_lx R1 ws1 C1 G1 N W ph1 sp1 cy1 L1 D1 Q1 z1 ov1 st as_) [(0,1),(1,2),(2,3),(3,4),(4,5),(5,6),(6,10),(7,8)] (fun r h' n' ⟨e1,e2,e3⟩ => ?_)
    subst e1 e2 e3
    conv => cbv
    refine cfr (arena_lx R1 ws1 C1 G1 N W ph1 sp1 cy1 L1 D1 Q1 z1 ov1) [(0,2),(1,3),(2,4),(3,5),(4,6),(5,10),(6,8)] (fun r h' n' ⟨e1,e2,e3⟩ => ?_)
    subst e1 e2 e3
    conv => cbv
    refine cfr (objects_lx mo R1 N W L1 D1 h1.l h1.n h1.r h1.a.rows h1.w hmo) [(0,3),(1,4),(2,5),(3,6)] (fun r h' n' hrr => ?_)
    obtain ⟨E,e1,e2,e3,hE⟩ := hrr
    subst e1 e2 e3
    conv => cbv
    refine Br.no (show ¬ (9 : Int) = 0 by decide) ?_
    conv => cbv
    refine Br.yes (show (0 : Int) = 0 from rfl) ?_
    conv => cbv
    refine Br.yes (show (9 : Int) = 9 from rfl) ?_
    conv => cbv
    refine Br.yes (show mx = 0 from hmx) ?_
    conv => cbv
    refine Br.yes (show mo = 0 by rw [hmo,← hoc,ho0]; rfl) ?_
    conv => cbv
    refine RetF.mk [.p (.bool true)] [(0,.fix 0 o)] 1 (Re.at [(0,0)] []) rfl rfl
 have q : i < un_n := q
 have hcl : cs.length = 2 * un_n.toNat := by rw [hcs,twosP_length,List.length_append,List.length_replicate,List.length_replicate]; omega
 conv => cbv
 refine Need.mk ⟨hi0,q⟩ ?_
 conv => cbv
 refine Sum.mk fun w hw => ?_
 have hw : w = i * 2 := hw
 conv => cbv
 refine Need.mk (by show w + 2 ≤ (cs.length : Int); omega) ?_
 conv => cbv
 refine Upd.mk fun c2 hc2 => ?_
 obtain ⟨c3,hc3⟩ : ∃ c,c = twosP (List.replicate (i.toNat + 1) (4,0) ++ List.replicate (un_n.toNat - (i.toNat + 1)) (0,0)) := ⟨_,rfl⟩
 have hle : pvles c2 c3 := by
  have hc2 : c2 = updL cs w.toNat [.int .i64 (.lit 4),.int .i64 (.lit 0)] := hc2
  rw [hc2,hc3,hcs,show w.toNat = 2 * i.toNat by omega,show un_n.toNat - (i.toNat + 1) = un_n.toNat - i.toNat - 1 by omega,← set_rep (4,0) (0,0) i.toNat (un_n.toNat - i.toNat) (by omega)]
  exact upd_twos _ i.toNat (4,0) (by rw [List.length_append,List.length_replicate,List.length_replicate]; omega)
 unfold pvles at hle
 clear hc2
 conv => cbv
 refine Fit.mk (by show (-9223372036854775808 : Int) ≤ i + 1; omega) (by show i + 1 ≤ 9223372036854775807; omega) fun i2 hi2 => ?_
 have hi2 : i2 = i + 1 := hi2
 conv => cbv
 refine Again.mk (un_n - i2).toNat _ (by omega) (Re.at [(0,0),(1,1),(2,2),(3,3),(4,4),(5,5),(6,6),(7,7),(8,8),(9,9)] []) ⟨i2,c3,rfl,by omega,by omega,by rw [show i2.toNat = i.toNat + 1 by omega]; exact hc3,rfl⟩
end Go.Proofs.YtpbhcdbkmmjimaaGreatDoor
