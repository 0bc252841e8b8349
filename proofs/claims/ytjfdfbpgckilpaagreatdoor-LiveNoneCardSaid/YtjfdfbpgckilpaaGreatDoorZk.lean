/-
  Layer 22: LiveNone.
-/
import Derived.Test.YtjfdfbpgckilpaaGreatDoorBi
import Derived.Test.YtjfdfbpgckilpaaGreatDoorBg
import Derived.Test.YtjfdfbpgckilpaaGreatDoorBf
namespace Go.Proofs.YtjfdfbpgckilpaaGreatDoor
open Go Go.LX
set_option maxRecDepth 100000
set_option linter.unusedVariables false
set_option linter.unusedSimpArgs false
set_option maxHeartbeats 32000000
theorem Freet.gone {R R' : List Rw} {ws : List Int} {b e : Int} (hA : AOk R ws) (hF : Freet R b e R') (hb : b ∈ objs R) : (∀ x,x ∈ objs R' ↔ x ∈ objs R ∧ x ≠ b) ∧ ∀ x k l,x ≠ b → Kept R ws x k l → Kept R' ws x k l := by
 have hA' := (hA.freet hF).1
 cases hF with
 | none h => exact absurd ((obj_iff hA b).1 hb) h
 | ok q s e he hs hat =>
  obtain ⟨_,_,_,g4⟩ := free_objs hA.rows he hs b hat
  constructor
  ·intro x
   rw [obj_iff hA',obj_iff hA,isObj_iff,isObj_iff]
   constructor
   ·rintro ⟨w,hw⟩; exact ⟨⟨w,((g4 x w).1 hw).1⟩,((g4 x w).1 hw).2⟩
   ·rintro ⟨⟨w,hw⟩,hne⟩; exact ⟨w,(g4 x w).2 ⟨hw,hne⟩⟩
  ·rintro x k l hne ⟨w,q1,q2,q3,q4,q5,q6⟩
   exact .mk k l w ((g4 x w).2 ⟨q1,hne⟩) q2 q3 q4 q5 q6
theorem loadedL_det {R : List Rw} {ws : List Int} {a i x y : Int} (h : Loaded R ws a i x 0) (h' : Loaded R ws a i y 0) : x = y := by
 cases h with
 | ok _ _ _ _ _ h1 =>
  cases h' with
  | ok _ _ _ _ _ h2 => rw [h1] at h2; exact Option.some.inj h2
structure One (R : List Rw) (ws : List Int) (a b i : Int) : Prop where
 obj : ∀ x,x ∈ objs R ↔ x = a
 ne : b ≠ a
 ai : Loaded R ws a i (b * 2 + 1) 0
structure Two (R : List Rw) (ws : List Int) (a b i : Int) : Prop where
 obj : ∀ x,x ∈ objs R ↔ x = a ∨ x = b
 ne : b ≠ a
 ka : Kept R ws a 4 10
 ai : Loaded R ws a i (b * 2 + 1) 0
 la : ∀ j w,Loaded R ws a j w 0 → w = b * 2 + 1 ∨ w = 0
 lb : ∀ j w,Loaded R ws b j w 0 → w = 0
theorem Two.rchb {R : List Rw} {ws : List Int} {a b i : Int} (h : Two R ws a b i) (x : Int) : Rch R ws [b] x ↔ x = b := by
 constructor
 ·intro hx
  induction hx with
  | root c hc ho => exact List.mem_singleton.1 hc
  | next c d _ hl ih =>
   subst ih
   obtain ⟨j,w,h1,h2,_⟩ := hl
   have := h.lb j w h1
   omega
 ·rintro rfl; exact .root _ List.mem_cons_self ((h.obj _).2 (.inr rfl))
theorem Two.brk {R : List Rw} {ws : List Int} {a b i x : Int} (h : Two R ws a b i) (hx : x ∈ objs R) : ¬ Brk R ws x := by
 rintro ⟨j,w,h1,h2,h3⟩
 rcases (h.obj x).1 hx with rfl | rfl
 ·rcases h.la j w h1 with rfl | rfl
  ·exact h3 ((h.obj _).2 (.inr (by omega)))
  ·omega
 ·have := h.lb j w h1; omega
theorem Two.free {R R' : List Rw} {ws : List Int} {a b i e : Int} (hA : AOk R ws) (h : Two R ws a b i) (hF : Freet R b e R') : One R' ws a b i := by
 obtain ⟨h1,h2⟩ := hF.gone hA ((h.obj b).2 (.inr rfl))
 refine ⟨fun x => ?_,h.ne,?_⟩
 ·rw [h1,h.obj]
  constructor
  ·rintro ⟨h3 | h3,h4⟩
   ·exact h3
   ·exact absurd h3 h4
  ·rintro rfl; exact ⟨.inl rfl,fun q => h.ne q.symm⟩
 ·have hai := h.ai
  generalize b * 2 + 1 = y at hai
  cases hai with
  | ok k l _ hK hi hx => exact .ok k l _ (h2 a k l (fun q => h.ne q.symm) hK) hi hx
theorem One.brk {R : List Rw} {ws : List Int} {a b i : Int} (h : One R ws a b i) : Brk R ws a := ⟨i,b * 2 + 1,h.ai,by omega,fun q => h.ne (by have := (h.obj _).1 q; omega)⟩
theorem One.rch {R : List Rw} {ws : List Int} {a b i : Int} (h : One R ws a b i) {A : List Int} (ha : a ∈ A) (x : Int) : Rch R ws A x ↔ x = a :=
 ⟨fun hx => (h.obj x).1 hx.obj,fun hx => by rw [hx]; exact .root a ha ((h.obj a).2 rfl)⟩
theorem One.rch_no {R : List Rw} {ws : List Int} {a b i : Int} (h : One R ws a b i) {A : List Int} (ha : ¬ a ∈ A) (x : Int) : ¬ Rch R ws A x := by
 intro hx
 induction hx with
 | root c hc ho => rw [(h.obj c).1 ho] at hc; exact ha hc
 | next c d _ hl ih => exact ih
theorem two_of {R0 R1 R2 : List Rw} {ws0 ws1 ws2 ws3 : List Int} {a b i e1 e2 e3 : Int} (hA0 : AOk R0 ws0) (hc : objCount R0 = 0) (hno : ∀ x,¬ IsObj R0 x) (hr : 2 ≤ R0.length) (hT1 : Alloct R0 ws0 4 10 a e1 R1 ws1) (hT2 : Alloct R1 ws1 5 2 b e2 R2 ws2) (hi : 0 ≤ i ∧ i < 10) (hS : Stored R2 ws2 a i (b * 2 + 1) e3 ws3) : Two R2 ws3 a b i := by
 have he1 : e1 = 0 := by have := alloct_err hA0 hT1 (by omega); rw [if_pos (by decide)] at this; exact this
 obtain ⟨ka1,_,hc1,za1,_,ho1,_⟩ := alloct_ok hA0 hT1 he1
 obtain ⟨hA1,hl1⟩ := AOk.alloct hA0 hT1
 have he2 : e2 = 0 := by have := alloct_err hA1 hT2 (by omega); rw [if_pos (by decide)] at this; exact this
 obtain ⟨kb2,hnb,_,zb2,kp2,ho2,wd2⟩ := alloct_ok hA1 hT2 he2
 obtain ⟨hA2,_⟩ := AOk.alloct hA1 hT2
 have ka2 := kp2 _ _ _ ka1
 obtain ⟨kp3,ot3⟩ := stored_to hA2 hS
 obtain ⟨_,ai3,own3⟩ := stored_own hA2 ka2 hi hS
 have hne : b ≠ a := fun q => hnb (by rw [q]; exact ka1.obj6)
 refine ⟨fun x => ?_,hne,kp3 _ _ _ ka2,ai3,fun j w hl => ?_,fun j w hl => ?_⟩
 ·rw [obj_iff hA2]
  constructor
  ·intro hx
   rcases ho2 x hx with q | q
   ·exact .inr q
   ·rcases ho1 x q with q2 | q2
    ·exact .inl q2
    ·exact absurd q2 (hno x)
  ·rintro (rfl | rfl)
   ·exact ka2.obj6
   ·exact kb2.obj6
 ·by_cases hj : j = i
  ·subst hj; exact .inl (loadedL_det hl ai3)
  ·have hb : 0 ≤ j ∧ j < 10 := by
    cases hl with
    | ok k l _ hK hi hx => have := (hK.det9 (kp3 _ _ _ ka2)).2; omega
   have h0 : Loaded R2 ws2 a j 0 0 := .ok 4 10 0 ka2 hb (by rw [wd2 a 4 10 j ka1 hb.1 hb.2]; exact za1 j hb.1 hb.2)
   exact .inr (loadedL_det hl (own3 j 0 hj h0))
 ·have hb : 0 ≤ j ∧ j < 2 := by
   cases hl with
   | ok k l _ hK hi hx => have := (hK.det9 (kp3 _ _ _ kb2)).2; omega
  have h0 : Loaded R2 ws2 b j 0 0 := .ok 5 2 0 kb2 hb (zb2 j hb.1 hb.2)
  exact loadedL_det hl (ot3 b j 0 hne h0)
theorem liveNone_law (o : Unit → Obj) (ho : IsPow o) (at_ i : Int) (hat : -9223372036854775808 ≤ at_ ∧ at_ ≤ 9223372036854775807) (hi : -9223372036854775808 ≤ i ∧ i ≤ 9223372036854775807) :
  CallF (fun _ => Tryz.prog) 9 [i6 at_,i6 i] [(0,.fix 0 o)] 1 (fun r _ _ => r = .p (.bool true)) := by
 refine callF_of_body tok Tryz.func9 (by kernel_rfl) rfl rfl rfl ?_; conv => cbv
 obtain ⟨z0,hz0⟩ : ∃ z0 : ByteArray,z0 = ⟨(enc []).toArray⟩ := ⟨_,rfl⟩
 obtain ⟨N,hN⟩ : ∃ N : Int,N = 4 := ⟨_,rfl⟩
 obtain ⟨W,hW⟩ : ∃ W : Int,W = 32 * N := ⟨_,rfl⟩
 obtain ⟨L0,hL0⟩ : ∃ L0,L0 = rpv (List.replicate N.toNat ((0,[]) : Rw)) := ⟨_,rfl⟩
 obtain ⟨D0,hD0⟩ : ∃ D0,D0 = ipv (List.replicate W.toNat (0 : Int)) := ⟨_,rfl⟩
 have hM0 := HM.new (by omega : 2 ≤ N) (by omega) hW hL0 hD0 hD0 hz0
 obtain ⟨R0,hR0⟩ : ∃ R0,R0 = List.replicate N.toNat ((0,[]) : Rw) := ⟨_,rfl⟩
 obtain ⟨ws0,hws0⟩ : ∃ ws0,ws0 = List.replicate W.toNat (0 : Int) := ⟨_,rfl⟩
 rw [← hR0,← hws0] at hM0
 have hc0 : objCount R0 = 0 := by rw [hR0]; exact new_count _
 have hno0 : ∀ x,¬ IsObj R0 x := fun x => by rw [hR0]; exact new_none _ x
 have hl0 : 2 ≤ R0.length := by rw [hR0,List.length_replicate]; omega
 refine CallF.le (args0 := [i6 N]) (callF_frame (newH_lx N W (by omega) (by omega) hW L0 D0 D0 z0 hL0 hD0 hD0 hz0) [] rfl trivial rfl rfl (fun r h' n' ⟨e1,e2,e3⟩ => ?_)) (by simp [ales,ale,pvle,I.val,hN])
 subst e1 e2 e3
 conv => cbv
 refine cfr (awake22_lx o ho) [(0,0)] (fun r h' n' ⟨e1,e2,e3⟩ => ?_)
 subst e1 e2 e3
 conv => cbv
 refine cfr (arena_lx R0 ws0 ws0 [] N W 0 0 0 L0 D0 D0 z0 false) [(0,1),(1,2),(2,3),(3,4),(4,5),(5,6),(6,7)] (fun r h' n' ⟨e1,e2,e3⟩ => ?_)
 subst e1 e2 e3
 conv => cbv
 refine CallF.le (args0 := [.ptr 1 (.lit 0),i6 4,i6 10]) (cfr (alloc9_lx R0 ws0 ws0 [] N W 0 0 0 L0 D0 D0 z0 false hM0 4 10) [(0,1),(1,2),(2,3),(3,4),(4,5),(5,6),(6,7)] (fun r h' n' hrr => ?_)) (by simp [ales,ale,pvle,I.val])
 obtain ⟨a,ea,R1,ws1,C1,L1,D1,Q1,e1,e2,e3,h1,hT1,_⟩ := hrr
 subst e1 e2 e3
 conv => cbv
 refine CallF.le (args0 := [.ptr 1 (.lit 0),i6 5,i6 2]) (cfr (alloc9_lx R1 ws1 C1 [] N W 0 0 0 L1 D1 Q1 z0 false h1 5 2) [(0,1),(1,2),(2,3),(3,4),(4,5),(5,6),(6,7)] (fun r h' n' hrr => ?_)) (by simp [ales,ale,pvle,I.val])
 obtain ⟨b,eb,R,ws2,C,L,D2,Q2,e1,e2,e3,h2,hT2,_⟩ := hrr
 subst e1 e2 e3
 conv => cbv
 refine Fit.wrap fun xa hxa => ?_
 have hxa : xa = IntKind.u64.wrap i := hxa
 have hxa0 : 0 ≤ xa := by rw [hxa]; simp [IntKind.wrap,IntKind.bits,IntKind.signed]; omega
 clear hxa
 conv => cbv
 refine Sum.mk fun ya hya => ?_
 have hya : ya = xa % 10 := (show ya = xa.tmod 10 from hya).trans (Int.tmod_eq_emod_of_nonneg hxa0)
 conv => cbv
 refine Fit.mk (by show (-9223372036854775808 : Int) ≤ ya; omega) (by show ya ≤ 9223372036854775807; omega) fun ix hix => ?_
 have hix : ix = ya := hix
 have hix0 : 0 ≤ ix ∧ ix < 10 := by omega
 clear hix hya hxa0
 conv => cbv
 have hbb : -1000000 ≤ b ∧ b ≤ 1000000 := by
  cases hT2 with
  | arg h => omega
  | room i s R' h ha => omega
  | ok i s _ R' h ha hi hat =>
   have h0 : ofN 2 = 0 := rfl
   have hw : wordsOf 0 = 4 := rfl
   have hs : slotsOf 0 = 8 := rfl
   rw [h0] at hat hi
   rw [hw] at hat
   rw [hs] at hi
   have := h1.r
   omega
 refine callF_frame (rPtr_lx b hbb) [] rfl trivial rfl rfl (fun r h' n' hrr => ?_)
 obtain ⟨v,e1,e2,e3,hv⟩ := hrr
 subst e1 e2 e3
 have hvb : -9223372036854775808 ≤ v ∧ v ≤ 9223372036854775807 := ⟨by omega,by omega⟩
 conv => cbv
 refine cfr (store9_lx R ws2 C [] N W 0 0 0 L D2 Q2 z0 false h2 o ho a ix v hvb) [(0,1),(1,2),(2,3),(3,4),(4,5),(5,6),(6,7),(7,0)] (fun r h' n' hrr => ?_)
 obtain ⟨es,ws,C3,G,ov,D,Q,z,e1,e2,e3,h,hSt,_⟩ := hrr
 subst e1 e2 e3
 have hTwo : Two R ws a b ix := two_of hM0.a hc0 hno0 hl0 hT1 hT2 hix0 (by rw [← hv]; exact hSt)
 clear hT1 hT2 hSt hM0 h1 h2
 conv => cbv
 refine CallF.re (args0 := [.ptr 1 (.lit 0),.p (.vsl (.sym 1) true [.int .i64 (.sym a)])]) (h' := [hpA 1 2 6 7 3 W 0 0 0,hpB 2 3 5 3 W,hpC 3 4 179 2 N,hpP 4 L,hpP 5 D,hpF 6 z ov,hpP 7 Q,(0,.fix 0 o)]) (Re.at [(0,0),(1,1),(2,2),(3,3),(4,4),(5,5),(6,6),(7,7)] []) (cfr (broken_lx R ws C3 G N W 0 0 0 L D Q z ov h [a] 1 [.int .i64 (.sym a)] rfl rfl (by simp)) [(0,1),(1,2),(2,3),(3,4),(4,5),(5,6),(6,7)] (fun r h' n' hrr => ?_))
 obtain ⟨X1,j1,O1,e1,e2,e3,hO1,hj1,hXa1,hXm1⟩ := hrr
 subst e1 e2 e3
 have hj1 : j1 = 0 := by
  rw [hj1,show X1 = [] from List.eq_nil_iff_forall_not_mem.2 (fun x hx => hTwo.brk ((hXm1 x).1 hx).1.obj ((hXm1 x).1 hx).2)]; rfl
 conv => cbv
 refine Br.yes (show j1 = 0 from hj1) ?_
 conv => cbv
 refine CallF.re (args0 := [.ptr 1 (.lit 0),.p (.vsl (.sym 1) true [.int .i64 (.sym b)])]) (h' := [hpA 1 2 6 7 3 W 0 0 0,hpB 2 3 5 3 W,hpC 3 4 179 2 N,hpP 4 L,hpP 5 D,hpF 6 z ov,hpP 7 Q,(0,.fix 0 o)]) (Re.at [(0,0),(1,1),(2,2),(3,3),(4,4),(5,5),(6,6),(7,7)] []) (cfr (reach_lx R ws C3 G N W 0 0 0 L D Q z ov h [b] 1 [.int .i64 (.sym b)] rfl rfl (by simp)) [(0,1),(1,2),(2,3),(3,4),(4,5),(5,6),(6,7)] (fun r h' n' hrr => ?_))
 obtain ⟨X2,j2,O2,e1,e2,e3,hO2,hj2,hXa2,hXm2⟩ := hrr
 subst e1 e2 e3
 have hX2 : X2 = [b] := asc_eq hXa2 (List.pairwise_singleton _ _) (fun x => by rw [hXm2,hTwo.rchb,List.mem_singleton])
 conv => cbv
 refine CallF.re (args0 := [.p (.vsl (.sym j2) true O2),.p (.vsl (.sym 1) true [.int .i64 (.sym b)])]) (h' := [hpA 1 2 6 7 3 W 0 0 0,hpB 2 3 5 3 W,hpC 3 4 179 2 N,hpP 4 L,hpP 5 D,hpF 6 z ov,hpP 7 Q,(0,.fix 0 o)]) (Re.at [(0,0),(1,1),(2,2),(3,3),(4,4),(5,5),(6,6),(7,7)] []) (callF_frame (plaini64_lx X2 [b] j2 1 O2 [.int .i64 (.sym b)] hj2 rfl (by rw [hO2]; exact preI_ints X2) (preI_ints [b]) (by rw [hX2]; show ((1 : Nat) : Int) < 1000000; omega)) [] rfl trivial rfl rfl (fun r h' n' hrr => ?_))
 obtain ⟨⟨b2,e1,hb2⟩,e2,e3⟩ := hrr
 subst e1 e2 e3
 obtain rfl : b2 = true := hb2.2 hX2
 conv => cbv
 refine cfr (arena_lx R ws C3 G N W 0 0 0 L D Q z ov) [(0,1),(1,2),(2,3),(3,4),(4,5),(5,6),(6,7)] (fun r h' n' ⟨e1,e2,e3⟩ => ?_)
 subst e1 e2 e3
 conv => cbv
 refine cfr (freeA_lx b R ws N W L D h.l h.d h.n h.r h.a h.w) [(0,2),(1,3),(2,4),(3,5)] (fun r h' n' hrr => ?_)
 obtain ⟨ef,R',L',e1,e2,e3,hL',hF⟩ := hrr
 subst e1 e2 e3
 have hOne := hTwo.free h.a hF
 have h' := h.freet hF hL'
 have hab := obj_bd h'.a ((hOne.obj a).2 rfl)
 have hNR := h'.n
 have hRr := h.n
 have hN4 : (R'.length : Int) = 4 := by omega
 conv => cbv
 refine Fit.wrap fun xa hxa => ?_
 have hxa : xa = IntKind.u64.wrap at_ := hxa
 have hxa0 : 0 ≤ xa := by rw [hxa]; simp [IntKind.wrap,IntKind.bits,IntKind.signed]; omega
 clear hxa
 conv => cbv
 refine Sum.mk fun ya hya => ?_
 have hya : ya = xa % 1000 := (show ya = xa.tmod 1000 from hya).trans (Int.tmod_eq_emod_of_nonneg hxa0)
 conv => cbv
 refine Fit.mk (by show (-9223372036854775808 : Int) ≤ ya; omega) (by show ya ≤ 9223372036854775807; omega) fun yb hyb => ?_
 have hyb : yb = ya := hyb
 conv => cbv
 refine Fit.mk (by show (-9223372036854775808 : Int) ≤ 1000 + yb; omega) (by show 1000 + yb ≤ 9223372036854775807; omega) fun ot hot => ?_
 have hot : ot = 1000 + yb := hot
 have hot0 : 1000 ≤ ot := by omega
 clear hot hyb hya
 conv => cbv
 refine CallF.re (args0 := [.ptr 1 (.lit 0),.p (.vsl (.sym 1) true [.int .i64 (.sym a)])]) (h' := [hpA 1 2 6 7 3 W 0 0 0,hpB 2 3 5 3 W,hpC 3 4 179 2 N,hpP 4 L',hpP 5 D,hpF 6 z ov,hpP 7 Q,(0,.fix 0 o)]) (Re.at [(0,0),(1,1),(2,2),(3,3),(4,4),(5,5),(6,6),(7,7)] []) (cfr (broken_lx R' ws C3 G N W 0 0 0 L' D Q z ov h' [a] 1 [.int .i64 (.sym a)] rfl rfl (by simp)) [(0,1),(1,2),(2,3),(3,4),(4,5),(5,6),(6,7)] (fun r h' n' hrr => ?_))
 obtain ⟨X3,j3,O3,e1,e2,e3,hO3,hj3,hXa3,hXm3⟩ := hrr
 subst e1 e2 e3
 have hX3 : X3 = [a] := asc_eq hXa3 (List.pairwise_singleton _ _) (fun x => by
  rw [hXm3,hOne.rch List.mem_cons_self,List.mem_singleton]
  exact ⟨fun q => q.1,fun q => ⟨q,by rw [q]; exact hOne.brk⟩⟩)
 conv => cbv
 refine CallF.re (args0 := [.p (.vsl (.sym j3) true O3),.p (.vsl (.sym 1) true [.int .i64 (.sym a)])]) (h' := [hpA 1 2 6 7 3 W 0 0 0,hpB 2 3 5 3 W,hpC 3 4 179 2 N,hpP 4 L',hpP 5 D,hpF 6 z ov,hpP 7 Q,(0,.fix 0 o)]) (Re.at [(0,0),(1,1),(2,2),(3,3),(4,4),(5,5),(6,6),(7,7)] []) (callF_frame (plaini64_lx X3 [a] j3 1 O3 [.int .i64 (.sym a)] hj3 rfl (by rw [hO3]; exact preI_ints X3) (preI_ints [a]) (by rw [hX3]; show ((1 : Nat) : Int) < 1000000; omega)) [] rfl trivial rfl rfl (fun r h' n' hrr => ?_))
 obtain ⟨⟨b3,e1,hb3⟩,e2,e3⟩ := hrr
 subst e1 e2 e3
 obtain rfl : b3 = true := hb3.2 hX3
 conv => cbv
 refine CallF.re (args0 := [.ptr 1 (.lit 0),.p (.vsl (.sym 4) true [.int .i64 (.sym a),.int .i64 (.sym b),.int .i64 (.sym ot),.int .i64 (.sym (-1))])]) (h' := [hpA 1 2 6 7 3 W 0 0 0,hpB 2 3 5 3 W,hpC 3 4 179 2 N,hpP 4 L',hpP 5 D,hpF 6 z ov,hpP 7 Q,(0,.fix 0 o)]) (Re.at [(0,0),(1,1),(2,2),(3,3),(4,4),(5,5),(6,6),(7,7)] []) (cfr (reach_lx R' ws C3 G N W 0 0 0 L' D Q z ov h' [a,b,ot,-1] 4 [.int .i64 (.sym a),.int .i64 (.sym b),.int .i64 (.sym ot),.int .i64 (.sym (-1))] rfl rfl (by simp)) [(0,1),(1,2),(2,3),(3,4),(4,5),(5,6),(6,7)] (fun r h' n' hrr => ?_))
 obtain ⟨X4,j4,O4,e1,e2,e3,hO4,hj4,hXa4,hXm4⟩ := hrr
 subst e1 e2 e3
 have hX4 : X4 = [a] := asc_eq hXa4 (List.pairwise_singleton _ _) (fun x => by rw [hXm4,hOne.rch List.mem_cons_self,List.mem_singleton])
 conv => cbv
 refine CallF.re (args0 := [.p (.vsl (.sym j4) true O4),.p (.vsl (.sym 1) true [.int .i64 (.sym a)])]) (h' := [hpA 1 2 6 7 3 W 0 0 0,hpB 2 3 5 3 W,hpC 3 4 179 2 N,hpP 4 L',hpP 5 D,hpF 6 z ov,hpP 7 Q,(0,.fix 0 o)]) (Re.at [(0,0),(1,1),(2,2),(3,3),(4,4),(5,5),(6,6),(7,7)] []) (callF_frame (plaini64_lx X4 [a] j4 1 O4 [.int .i64 (.sym a)] hj4 rfl (by rw [hO4]; exact preI_ints X4) (preI_ints [a]) (by rw [hX4]; show ((1 : Nat) : Int) < 1000000; omega)) [] rfl trivial rfl rfl (fun r h' n' hrr => ?_))
 obtain ⟨⟨b4,e1,hb4⟩,e2,e3⟩ := hrr
 subst e1 e2 e3
 obtain rfl : b4 = true := hb4.2 hX4
 conv => cbv
 refine CallF.re (args0 := [.ptr 1 (.lit 0),.p (.vsl (.sym 1) true [.int .i64 (.sym ot)])]) (h' := [hpA 1 2 6 7 3 W 0 0 0,hpB 2 3 5 3 W,hpC 3 4 179 2 N,hpP 4 L',hpP 5 D,hpF 6 z ov,hpP 7 Q,(0,.fix 0 o)]) (Re.at [(0,0),(1,1),(2,2),(3,3),(4,4),(5,5),(6,6),(7,7)] []) (cfr (reach_lx R' ws C3 G N W 0 0 0 L' D Q z ov h' [ot] 1 [.int .i64 (.sym ot)] rfl rfl (by simp)) [(0,1),(1,2),(2,3),(3,4),(4,5),(5,6),(6,7)] (fun r h' n' hrr => ?_))
 obtain ⟨X5,j5,O5,e1,e2,e3,hO5,hj5,hXa5,hXm5⟩ := hrr
 subst e1 e2 e3
 have hj5 : j5 = 0 := by
  rw [hj5,show X5 = [] from List.eq_nil_iff_forall_not_mem.2 (fun x hx => hOne.rch_no (fun q => by have := List.mem_singleton.1 q; omega) x ((hXm5 x).1 hx))]; rfl
 conv => cbv
 refine Br.yes (show j5 = 0 from hj5) ?_
 conv => cbv
 refine CallF.re (args0 := [.ptr 1 (.lit 0),.p (.vsl (.sym 1) true [.int .i64 (.sym b)])]) (h' := [hpA 1 2 6 7 3 W 0 0 0,hpB 2 3 5 3 W,hpC 3 4 179 2 N,hpP 4 L',hpP 5 D,hpF 6 z ov,hpP 7 Q,(0,.fix 0 o)]) (Re.at [(0,0),(1,1),(2,2),(3,3),(4,4),(5,5),(6,6),(7,7)] []) (cfr (lost_lx R' ws C3 G N W 0 0 0 L' D Q z ov h' [b] 1 [.int .i64 (.sym b)] rfl rfl (by simp)) [(0,1),(1,2),(2,3),(3,4),(4,5),(5,6),(6,7)] (fun r h' n' hrr => ?_))
 obtain ⟨X6,j6,O6,e1,e2,e3,hO6,hj6,hXa6,hXm6⟩ := hrr
 subst e1 e2 e3
 have hX6 : X6 = [a] := asc_eq hXa6 (List.pairwise_singleton _ _) (fun x => by
  rw [hXm6,hOne.obj,List.mem_singleton]
  exact ⟨fun q => q.1,fun q => ⟨q,hOne.rch_no (fun w => hOne.ne (List.mem_singleton.1 w).symm) x⟩⟩)
 conv => cbv
 refine CallF.re (args0 := [.p (.vsl (.sym j6) true O6),.p (.vsl (.sym 1) true [.int .i64 (.sym a)])]) (h' := [hpA 1 2 6 7 3 W 0 0 0,hpB 2 3 5 3 W,hpC 3 4 179 2 N,hpP 4 L',hpP 5 D,hpF 6 z ov,hpP 7 Q,(0,.fix 0 o)]) (Re.at [(0,0),(1,1),(2,2),(3,3),(4,4),(5,5),(6,6),(7,7)] []) (callF_frame (plaini64_lx X6 [a] j6 1 O6 [.int .i64 (.sym a)] hj6 rfl (by rw [hO6]; exact preI_ints X6) (preI_ints [a]) (by rw [hX6]; show ((1 : Nat) : Int) < 1000000; omega)) [] rfl trivial rfl rfl (fun r h' n' hrr => ?_))
 obtain ⟨⟨b6,e1,hb6⟩,e2,e3⟩ := hrr
 subst e1 e2 e3
 obtain rfl : b6 = true := hb6.2 hX6
 conv => cbv
 refine RetF.mk [.p (.bool true)] [(0,.fix 0 o)] 1 (Re.at [(0,0)] []) rfl rfl
end Go.Proofs.YtjfdfbpgckilpaaGreatDoor
