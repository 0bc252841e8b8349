/-
  Layer 18: ChooseElse.
-/
import Derived.Test.YtkhfgngcoiablaaGreatDoorBh
import Derived.Test.YtkhfgngcoiablaaGreatDoorBg
namespace Go.Proofs.YtkhfgngcoiablaaGreatDoor
open Go Go.LX
set_option maxRecDepth 100000
set_option linter.unusedVariables false
set_option linter.unusedSimpArgs false
set_option maxHeartbeats 32000000
def caseOf (j : Nat) : Cas := (1 + (j : Int) % 2,(j : Int) % 2,0,0)
def casesTo (n : Nat) : List Cas := (List.range n).map caseOf
theorem casesTo_len (n : Nat) : (casesTo n).length = n := by simp [casesTo]
theorem casesTo_succ (n : Nat) : casesTo (n + 1) = casesTo n ++ [caseOf n] := by simp [casesTo,List.range_succ]
theorem casesTo_get {n i : Nat} {c : Cas} (h : (casesTo n)[i]? = some c) : c = caseOf i := by
 unfold casesTo at h
 rw [List.getElem?_map] at h
 have hi : i < n := by
  rcases Nat.lt_or_ge i n with q | q
  ·exact q
  ·rw [List.getElem?_eq_none (by simpa using q)] at h; cases h
 rw [List.getElem?_range hi] at h
 exact (Option.some.inj h).symm
def okC (c : Cas) : Prop := (c.1 = 1 ∧ c.2.1 = 0 ∨ c.1 = 2 ∧ c.2.1 = 1 ∨ c.1 = 2 ∧ c.2.1 = 2 ∨ c.1 = 1 ∧ c.2.1 = 3 ∨ c.1 = 3)
theorem okC_of (j : Nat) : okC (caseOf j) := by
 unfold okC caseOf
 rcases (by omega : (j : Int) % 2 = 0 ∨ (j : Int) % 2 = 1) with e | e <;> simp [e]
theorem okC_k {c : Cas} (h : okC c) : c.1 = 1 ∨ c.1 = 2 ∨ c.1 = 3 := by unfold okC at h; omega
theorem casesTo_ok {n : Nat} {c : Cas} (h : c ∈ casesTo n) : okC c := by
 obtain ⟨i,hi⟩ := List.getElem?_of_mem h
 rw [casesTo_get hi]; exact okC_of i
theorem casesTo_no {n : Nat} {c : Cas} (h : c ∈ casesTo n) : c.1 ≠ 3 ∧ ¬ (c.2.1 = 2 ∨ c.2.1 = 3) := by
 obtain ⟨i,hi⟩ := List.getElem?_of_mem h
 rw [casesTo_get hi]
 unfold caseOf
 show 1 + (i : Int) % 2 ≠ 3 ∧ ¬ ((i : Int) % 2 = 2 ∨ (i : Int) % 2 = 3)
 omega
theorem pick_else {n : Nat} {p : Int} (h : Picked (casesTo n ++ [(3,0,0,0)]) (fun c : Cas => decide (c.2.1 = 2 ∨ c.2.1 = 3)) p) : p = n := by
 rcases h.none (fun c hc h3 => by
  rcases List.mem_append.1 hc with hc | hc
  ·exact decide_eq_false (casesTo_no hc).2
  ·rw [List.mem_singleton] at hc; subst hc; exact absurd rfl h3) with ⟨_,e⟩ | ⟨j,c,e,hj,h3,_⟩
 ·exact absurd rfl (e (3,0,0,0) (by simp))
 ·by_cases hjn : j < n
  ·rw [List.getElem?_append_left (by rw [casesTo_len]; exact hjn)] at hj
   exact absurd h3 (casesTo_no (List.mem_of_getElem? hj)).1
  ·have := (List.getElem?_eq_some_iff.1 hj).1
   rw [List.length_append,casesTo_len,List.length_singleton] at this
   omega
theorem pick_none {n : Nat} {p : Int} (h : Picked (casesTo n) (fun c : Cas => decide (c.2.1 = 2 ∨ c.2.1 = 3)) p) : p = -1 := by
 rcases h.none (fun c hc h3 => decide_eq_false (casesTo_no hc).2) with ⟨e,_⟩ | ⟨j,c,_,hj,h3,_⟩
 ·exact e
 ·exact absurd h3 (casesTo_no (List.mem_of_getElem? hj)).1
theorem pick_stray {n : Nat} {p : Int} (h : Picked (casesTo n ++ [(2,2,0,0),(3,0,0,0)]) (fun c : Cas => decide (c.2.1 = 2 ∨ c.2.1 = 3)) p) : p = n := by
 refine h.one n (2,2,0,0) ?_ (by decide) (by decide) (fun i d hd h3 hr => ?_)
 ·rw [List.getElem?_append_right (by rw [casesTo_len]; exact Nat.le_refl _),casesTo_len,Nat.sub_self]; rfl
 ·by_cases hi : i < n
  ·rw [List.getElem?_append_left (by rw [casesTo_len]; exact hi)] at hd
   have := (casesTo_no (List.mem_of_getElem? hd)).2
   exact absurd (of_decide_eq_true hr) this
  ·rw [List.getElem?_append_right (by rw [casesTo_len]; omega),casesTo_len] at hd
   match e : i - n,hd with
   | 0,hd => omega
   | 1,hd => cases hd; exact absurd rfl h3
   | _ + 2,hd => cases hd
theorem pick_eight {p : Int} (h : Picked [(1,3,0,0)] (fun c : Cas => decide (c.2.1 = 2 ∨ c.2.1 = 3)) p) : p = 0 := by
 refine h.one 0 (1,3,0,0) rfl (by decide) (by decide) (fun i d hd _ _ => ?_)
 match i,hd with
 | 0,_ => rfl
 | _ + 1,hd => cases hd
theorem waits_half (w1 w2 : Int) (h1 : w1 % 2 = 1) : ∀ n : Nat,n < 4 → ((waitsTo [0,w1,w2,8,0,0] (casesTo n) (casesTo n).length).length : Int) = (n : Int) / 2 := by
 intro n hn
 have a1 : wordOf [0,w1,w2,8,0,0] 0 = 0 := rfl
 have a2 : wordOf [0,w1,w2,8,0,0] 1 = w1 := rfl
 have no0 : ¬ ((1 : Int) ≠ 3 ∧ wordOf [0,w1,w2,8,0,0] 0 % 2 = 1) := by rw [a1]; decide
 have yes1 : (2 : Int) ≠ 3 ∧ wordOf [0,w1,w2,8,0,0] 1 % 2 = 1 := ⟨by decide,by rw [a2]; exact h1⟩
 rcases (by omega : n = 0 ∨ n = 1 ∨ n = 2 ∨ n = 3) with e | e | e | e <;> subst e
 ·rfl
 ·show ((waitsTo [0,w1,w2,8,0,0] (casesTo 1) 1).length : Int) = _
  rw [waitsTo_no (c := (1,0,0,0)) rfl no0]; rfl
 ·show ((waitsTo [0,w1,w2,8,0,0] (casesTo 2) 2).length : Int) = _
  rw [waitsTo_yes (c := (2,1,0,0)) rfl yes1,waitsTo_no (c := (1,0,0,0)) rfl no0]; rfl
 ·show ((waitsTo [0,w1,w2,8,0,0] (casesTo 3) 3).length : Int) = _
  rw [waitsTo_no (c := (1,0,0,0)) rfl no0,waitsTo_yes (c := (2,1,0,0)) rfl yes1,waitsTo_no (c := (1,0,0,0)) rfl no0]; rfl
theorem rdyS (R : List Rw) (ws C G : List Int) (N W ph sp cy : Int) (L D Q : List PV) (z : ByteArray) (ov : Bool) (h : HM R ws C G N W L D Q z) (M : Hp) (hM : Cont R ws M) (q : Qs) (hY : Sys M q) (o : Unit → Obj) (w1 w2 a gg : Int) (hw1 : (-9223372036854775808 ≤ w1 ∧ w1 ≤ 9223372036854775807)) (hw2 : (-9223372036854775808 ≤ w2 ∧ w2 ≤ 9223372036854775807)) (h01 : w1 ≠ 0) (h02 : w2 ≠ 0) (ha : atW w1 = a) (hg : atW w2 = gg) (hMa : M a = some (1,[0,0,0,0,-1,-1,-1,-1,-1])) (hMg : ∀ F,M gg ≠ some (1,F)) (hM8 : ∀ F,M (-1) ≠ some (1,F)) (hq : ∀ d,q a d = []) {c : Cas} (hc : okC c) (h1 : c.1 = 1) : CallF (fun _ => Tryz.prog) 152 [.ptr 0 (.lit 0),i6 (wordOf [0,w1,w2,8,0,0] c.2.1)] [hpA 0 1 5 6 3 W ph sp cy,hpB 1 2 4 3 W,hpC 2 3 233 2 N,hpP 3 L,hpP 4 D,hpF 5 z ov,hpP 6 Q,(7,.fix 0 o)] 8 (fun r h n => r = .p (.bool ((fun c : Cas => decide (c.2.1 = 2 ∨ c.2.1 = 3)) c)) ∧ h = [hpA 0 1 5 6 3 W ph sp cy,hpB 1 2 4 3 W,hpC 2 3 233 2 N,hpP 3 L,hpP 4 D,hpF 5 z ov,hpP 6 Q,(7,.fix 0 o)] ∧ n = 8) := by
 rcases hc with ⟨_,e⟩ | ⟨e,_⟩ | ⟨e,_⟩ | ⟨_,e⟩ | e
 ·rw [e,show wordOf [0,w1,w2,8,0,0] 0 = 0 from rfl,show (fun c : Cas => decide (c.2.1 = 2 ∨ c.2.1 = 3)) c = false from decide_eq_false (by omega)]
  exact sendRZero_lx R ws C G N W ph sp cy L D Q z ov h M hM o 0 rfl
 ·omega
 ·omega
 ·rw [e,show wordOf [0,w1,w2,8,0,0] 3 = 8 from rfl,show (fun c : Cas => decide (c.2.1 = 2 ∨ c.2.1 = 3)) c = true from decide_eq_true (by omega)]
  exact sendRStray_lx R ws C G N W ph sp cy L D Q z ov h M hM o 8 (by decide) (by decide) (by rw [show atW 8 = -1 from atW_even (by decide)]; exact hM8)
 ·omega
theorem rdyT (R : List Rw) (ws C G : List Int) (N W ph sp cy : Int) (L D Q : List PV) (z : ByteArray) (ov : Bool) (h : HM R ws C G N W L D Q z) (M : Hp) (hM : Cont R ws M) (q : Qs) (hY : Sys M q) (o : Unit → Obj) (w1 w2 a gg : Int) (hw1 : (-9223372036854775808 ≤ w1 ∧ w1 ≤ 9223372036854775807)) (hw2 : (-9223372036854775808 ≤ w2 ∧ w2 ≤ 9223372036854775807)) (h01 : w1 ≠ 0) (h02 : w2 ≠ 0) (ha : atW w1 = a) (hg : atW w2 = gg) (hMa : M a = some (1,[0,0,0,0,-1,-1,-1,-1,-1])) (hMg : ∀ F,M gg ≠ some (1,F)) (hM8 : ∀ F,M (-1) ≠ some (1,F)) (hq : ∀ d,q a d = []) {c : Cas} (hc : okC c) (h1 : c.1 = 2) : CallF (fun _ => Tryz.prog) 75 [.ptr 0 (.lit 0),i6 (wordOf [0,w1,w2,8,0,0] c.2.1)] [hpA 0 1 5 6 3 W ph sp cy,hpB 1 2 4 3 W,hpC 2 3 233 2 N,hpP 3 L,hpP 4 D,hpF 5 z ov,hpP 6 Q,(7,.fix 0 o)] 8 (fun r h n => r = .p (.bool ((fun c : Cas => decide (c.2.1 = 2 ∨ c.2.1 = 3)) c)) ∧ h = [hpA 0 1 5 6 3 W ph sp cy,hpB 1 2 4 3 W,hpC 2 3 233 2 N,hpP 3 L,hpP 4 D,hpF 5 z ov,hpP 6 Q,(7,.fix 0 o)] ∧ n = 8) := by
 rcases hc with ⟨e,_⟩ | ⟨_,e⟩ | ⟨_,e⟩ | ⟨e,_⟩ | e
 ·omega
 ·rw [e,show wordOf [0,w1,w2,8,0,0] 1 = w1 from rfl,show (fun c : Cas => decide (c.2.1 = 2 ∨ c.2.1 = 3)) c = false from decide_eq_false (by omega)]
  exact takeRNone0_lx R ws C G N W ph sp cy L D Q z ov h M hM q hY o w1 hw1 h01 a 0 0 0 0 (-1) (-1) (-1) (-1) (-1) ha hMa rfl (hq _) (by decide)
 ·rw [e,show wordOf [0,w1,w2,8,0,0] 2 = w2 from rfl,show (fun c : Cas => decide (c.2.1 = 2 ∨ c.2.1 = 3)) c = true from decide_eq_true (by omega)]
  exact takeRStray_lx R ws C G N W ph sp cy L D Q z ov h M hM o w2 hw2 h02 (by rw [hg]; exact hMg)
 ·omega
 ·omega
theorem chooseElse_law (o : Unit → Obj) (ho : IsPow o) (draw n : Int) : CallF (fun _ => Tryz.prog) 9 [i6 draw,i6 n] [(0,.fix 0 o)] 1 (fun r _ _ => r = .p (.bool true)) := by
 refine callF_of_body tok Tryz.func9 (by kernel_rfl) rfl rfl rfl ?_; conv => cbv
 refine CallF.re (args0 := [.p (.vsl (.sym 1) true [.int .i64 (.sym 0)]),i6 1]) (h' := [(0,.fix 0 o)]) (Re.at [(0,0)] []) (cfr (made18_lx o ho [0] 1 1 [.int .i64 (.sym 0)] rfl rfl) [(0,0)] (fun r h' n' hrr => ?_))
 obtain ⟨N,W,C,R,ws,vs,L,D,Q,z,P,B,V,Qr,M,CS,GS,chs,bufs,grs,nc,ng,e1,e2,e3,S,hB,hY,hcs,hgs,hnc,hng,hnm,hn1,hn4,hngo,hcnt,hR,hW⟩ := hrr
 subst e1 e2 e3
 conv => cbv
 refine Fit.wrap fun xn hxn => ?_
 have hxn : xn = IntKind.u64.wrap n := hxn
 have hyn : 0 ≤ xn := by rw [hxn]; simp [IntKind.wrap,IntKind.bits,IntKind.signed]; omega
 clear hxn
 conv => cbv
 refine Sum.mk fun tn htn => ?_
 have htn : tn = xn % 4 := (show tn = xn.tmod 4 from htn).trans (Int.tmod_eq_emod_of_nonneg hyn)
 conv => cbv
 refine Fit.mk (by show (-9223372036854775808 : Int) ≤ tn; omega) (by show tn ≤ 9223372036854775807; omega) fun u hu => ?_
 have hu : u = tn := hu
 have hu0 : 0 ≤ u := by omega
 have hu1 : u < 4 := by omega
 clear hu htn hyn
 conv => cbv
 refine cfr (awake18_lx o ho) [(0,0)] (fun r h' n' ⟨e1,e2,e3⟩ => ?_)
 subst e1 e2 e3
 conv => cbv
 have hnc1 : nc = 1 := by omega
 obtain ⟨c,hcc⟩ := chA1 hnc hnc1
 have hc0 : chs[0]? = some c := by rw [hcc]; rfl
 obtain ⟨b,hb0,hBC⟩ := hB.ch 0 c 0 hc0 rfl
 have hMc := hBC.c
 rw [capS (by decide)] at hMc
 have hcl := S.c.len S.h.a hMc
 have hcw : atW (2 * c + 1) = c := atW_ptr c
 have hngb := ngor_bd 1
 obtain ⟨g,hg0⟩ : ∃ g,grs[0]? = some g := ⟨_,List.getElem?_eq_getElem (by omega)⟩
 have hMg : M g = some (4,[0,0,0,0,0,0,0,0,0,-1]) := hB.gr 0 g hg0
 have hgl := S.c.len S.h.a hMg
 have hgc : g ≠ c := fun q => by rw [q,hMc] at hMg; cases hMg
 have hgw : atW (2 * g + 1) = g := atW_ptr g
 have hgn : ∀ F,M g ≠ some (1,F) := fun F q => by rw [hMg] at q; cases q
 have hM8 : ∀ F,M (-1) ≠ some (1,F) := fun F e => by rw [neg_none S.h.a S.c] at e; cases e
 have hh := S.h
 have hc := S.c
 obtain rfl : b = -1 := by
  rcases hBC.b with q | ⟨q,_⟩
  ·exact q.2
  ·rw [capS (by decide)] at q; omega
 refine CallF.le (args0 := [.ptr 17 (.lit 0),i6 0]) (cfr (ch18_lx R ws vs C N W 0 0 0 L D Q z false P B V Qr [] 0 M nc ng CS GS o 0 chs hcs hnc (by omega) (by omega)) [(0,2),(1,3),(2,4),(3,5),(4,6),(5,7),(6,8),(7,9),(8,10),(9,11),(10,12),(11,13),(12,14),(13,15),(14,16),(15,0),(16,17),(17,18),(18,19)] (fun r h' n' hrr => ?_)) (by simp [ales,ale,pvle,I.val])
 obtain ⟨⟨x1,e1,hx1⟩,e2,e3⟩ := hrr
 subst e1 e2 e3
 conv => cbv
 obtain rfl : c = x1 := (ix0 hx1 hc0).symm
 refine Fit.mk (by show (-9223372036854775808 : Int) ≤ 2 * c; omega) (by show 2 * c ≤ 9223372036854775807; omega) fun a1 ha1 => ?_
 have ha1 : a1 = 2 * c := ha1
 conv => cbv
 refine Fit.mk (by show (-9223372036854775808 : Int) ≤ a1 + 1; omega) (by show a1 + 1 ≤ 9223372036854775807; omega) fun w1 hw1 => ?_
 have hw1 : w1 = a1 + 1 := hw1
 conv => cbv
 refine CallF.le (args0 := [.ptr 17 (.lit 0),i6 0]) (cfr (gor18_lx R ws vs C N W 0 0 0 L D Q z false P B V Qr [] 0 M nc ng CS GS o 0 grs hgs hng (by omega) (by omega)) [(0,2),(1,3),(2,4),(3,5),(4,6),(5,7),(6,8),(7,9),(8,10),(9,11),(10,12),(11,13),(12,14),(13,15),(14,16),(15,0),(16,17),(17,18),(18,19)] (fun r h' n' hrr => ?_)) (by simp [ales,ale,pvle,I.val])
 obtain ⟨⟨x2,e1,hx2⟩,e2,e3⟩ := hrr
 subst e1 e2 e3
 conv => cbv
 obtain rfl : g = x2 := (ix0 hx2 hg0).symm
 refine Fit.mk (by show (-9223372036854775808 : Int) ≤ 2 * g; omega) (by show 2 * g ≤ 9223372036854775807; omega) fun a2 ha2 => ?_
 have ha2 : a2 = 2 * g := ha2
 conv => cbv
 refine Fit.mk (by show (-9223372036854775808 : Int) ≤ a2 + 1; omega) (by show a2 + 1 ≤ 9223372036854775807; omega) fun w2 hw2 => ?_
 have hw2 : w2 = a2 + 1 := hw2
 conv => cbv
 refine Need.mk (show (0 : Int) ≤ 1 ∧ (1 : Int) < 6 by omega) ?_
 conv => cbv
 refine Need.mk (show (0 : Int) ≤ 2 ∧ (2 : Int) < 6 by omega) ?_
 conv => cbv
 refine Need.mk (show (0 : Int) ≤ 3 ∧ (3 : Int) < 6 by omega) ?_
 conv => cbv
 refine LoopF.mk (fun kk s => ∃ (i ln : Int) (LS : List PV),s = ⟨.p (.int .i64 (.sym draw)) :: .p (.int .i64 (.sym u)) :: (undefs 3 ++ .ptr 17 (.lit 0) :: .ptr 20 (.lit 0) :: .sl 21 85 4 (.lit 0) (.sym ln) :: .p (.int .i64 (.sym i)) :: undefs 113),[hpA 2 3 7 8 3 W 0 0 0,hpB 3 4 6 3 W,hpC 4 5 233 2 N,hpP 5 L,hpP 6 D,hpF 7 z false,hpP 8 Q,hpR 9 10 15 3 W 16 0 0 0,hpB 10 11 14 3 W,hpD 11 12 3 1 N 13 231 8 N,hpP 12 P,hpP 13 B,hpP 14 V,hpP 15 Qr,(16,.mix [.p (.vsl (.sym 0) true []),.p (.bool false)]),(0,.fix 0 o),(17,.mix [.ptr 2 (.lit 0),.ptr 9 (.lit 0),.sl 18 3 1 (.lit 0) (.sym nc),.sl 19 3 1 (.lit 0) (.sym ng)]),hpP 18 CS,hpP 19 GS,(20,.pure false [.int .i64 (.lit 0),.int .i64 (.lit 0),.int .i64 (.lit 0),.int .i64 (.lit 0),.int .i64 (.sym w1),.int .i64 (.sym w2),.int .i64 (.lit 8),.int .i64 (.lit 0),.int .i64 (.lit 0),.int .i64 (.lit 0)]),hpP 21 LS],22⟩ ∧ 0 ≤ i ∧ i ≤ u ∧ kk = (u - i).toNat ∧ ln = i ∧ LS.length = 4 * i.toNat ∧ CasAt LS (casesTo i.toNat)) u.toNat _
  (Re.at [(0,0),(2,2),(3,3),(4,4),(5,5),(6,6),(7,7),(8,8),(9,9),(10,10),(11,11),(12,12),(13,13),(14,14),(15,15),(16,16),(17,17),(18,18),(19,19),(20,20)] [21]) ⟨0,0,[],rfl,by omega,by omega,by omega,rfl,rfl,fun i c h => by simp [casesTo] at h⟩ ?_
 rintro kk s ⟨i,ln,LS,rfl,hi0,hi1,hkk,hln,hLl,hCA⟩
 have hkk : kk = (u - i).toNat := hkk
 conv => cbv
 refine Br.mk (fun gi => ?_) (fun gi => ?_)
 ·have gi : i < u := gi
  conv => cbv
  refine Sum.mk fun k0 hk0 => ?_
  have hk0 : k0 = i % 2 := (show k0 = i.tmod 2 from hk0).trans (Int.tmod_eq_emod_of_nonneg hi0)
  conv => cbv
  refine Fit.mk (by show (-9223372036854775808 : Int) ≤ 1 + k0; omega) (by show 1 + k0 ≤ 9223372036854775807; omega) fun k1 hk1 => ?_
  have hk1 : k1 = 1 + k0 := hk1
  conv => cbv
  refine Sum.mk fun k2 hk2 => ?_
  have hk2 : k2 = i % 2 := (show k2 = i.tmod 2 from hk2).trans (Int.tmod_eq_emod_of_nonneg hi0)
  conv => cbv
  refine Room.new rfl ?_
  conv => cbv
  refine Room.new ⟨?_,?_,?_⟩ ?_
  ·show ((LS.length : Nat) : Int) = ln * 4; omega
  ·show (ln + 1) * 32 ≤ 140737488355328; omega
  ·show ln + 1 ≤ 9223372036854775807; omega
  conv => cbv
  refine Upd.mk fun LS2 hLS2 => ?_
  have hLS2 : LS2 = LS ++ [.int .i64 (.sym k1),.int .i64 (.sym k2),.int .i64 (.lit 0),.int .i64 (.lit 0)] := hLS2
  conv => cbv
  refine Sum.mk fun ln2 hln2 => ?_
  have hln2 : ln2 = ln + 1 := hln2
  conv => cbv
  refine Fit.mk (by show (-9223372036854775808 : Int) ≤ i + 1; omega) (by show i + 1 ≤ 9223372036854775807; omega) fun i2 hi2 => ?_
  have hi2 : i2 = i + 1 := hi2
  have hi3 : i2.toNat = i.toNat + 1 := by omega
  have hCA2 : CasAt LS2 (casesTo i2.toNat) := by
   rw [hLS2,hi3,casesTo_succ]
   refine hCA.add (by rw [casesTo_len]; exact hLl) ?_
   have h1 := CasAt.one (.sym k1) (.sym k2) (.lit 0) (.lit 0)
   have e : ((I.sym k1).val,(I.sym k2).val,(I.lit 0).val,(I.lit 0).val) = caseOf i.toNat := by
    unfold caseOf
    show (k1,k2,(0 : Int),(0 : Int)) = _
    rw [hk1,hk0,hk2,show ((i.toNat : Nat) : Int) = i by omega]
   rw [e] at h1
   exact h1
  conv => cbv
  refine Again.mk (u - i2).toNat _ (by omega) (Re.at [(0,0),(2,2),(3,3),(4,4),(5,5),(6,6),(7,7),(8,8),(9,9),(10,10),(11,11),(12,12),(13,13),(14,14),(15,15),(16,16),(17,17),(18,18),(19,19),(20,20),(23,21)] []) ⟨i2,ln2,LS2,rfl,by omega,by omega,rfl,by omega,by rw [hLS2,List.length_append,hLl,hi3]; rfl,hCA2⟩
 ·have gi : ¬ i < u := gi
  conv => cbv
  obtain rfl : i = u := by omega
  have hi4 : i.toNat < 4 := by omega
  have hcl4 := casesTo_len i.toNat
  have hPS : ∀ x,okC x → x.1 = 1 → _ := fun x h1 h2 => rdyS R ws C [] N W 0 0 0 L D Q z false hh M hc (fun _ _ => []) hY o w1 w2 c g (by omega) (by omega) (by omega) (by omega) (by rw [show w1 = 2 * c + 1 by omega]; exact hcw) (by rw [show w2 = 2 * g + 1 by omega]; exact hgw) hMc hgn hM8 (fun _ => rfl) h1 h2
  have hPT : ∀ x,okC x → x.1 = 2 → _ := fun x h1 h2 => rdyT R ws C [] N W 0 0 0 L D Q z false hh M hc (fun _ _ => []) hY o w1 w2 c g (by omega) (by omega) (by omega) (by omega) (by rw [show w1 = 2 * c + 1 by omega]; exact hcw) (by rw [show w2 = 2 * g + 1 by omega]; exact hgw) hMc hgn hM8 (fun _ => rfl) h1 h2
  refine readF_sound tok (by kernel_rfl) [0,2,3,4,5,6,7,8,9,10,11,12,13,14,15,16,17,18,19,20,21,22] [8] [(6,[10,8,7,4,3,2,1,0]),(9,[10,4,3,2,1,0]),(11,[])] [0,1,2,3,4,5,7,8,10,6,9,11,12] (by kernel_rfl) ?_
  conv => cbv
  refine Room.new (show ((LS.length : Nat) : Int) = ln * 4 by omega) ?_
  conv => cbv
  refine Need.mk (show ln * 32 ≤ 140737488355328 ∧ ln ≤ 9223372036854775807 by omega) ?_
  conv => cbv
  refine Need.mk rfl ?_
  conv => cbv
  refine Room.new ⟨?_,?_,?_⟩ ?_
  ·show ((LS.length : Nat) : Int) = ln * 4; omega
  ·show (ln + 1) * 32 ≤ 140737488355328; omega
  ·show ln + 1 ≤ 9223372036854775807; omega
  conv => cbv
  refine Upd.mk fun LS2 hLS2 => ?_
  have hLS2 : LS2 = LS ++ [.int .i64 (.lit 3),.int .i64 (.lit 0),.int .i64 (.lit 0),.int .i64 (.lit 0)] := hLS2
  conv => cbv
  refine Sum.mk fun ln2 hln2 => ?_
  have hln2 : ln2 = ln + 1 := hln2
  conv => cbv
  have hok : ∀ x ∈ (casesTo i.toNat ++ [(3,0,0,0)]),okC x := by
   intro x hx
   rcases List.mem_append.1 hx with hx | hx
   ·exact casesTo_ok hx
   ·rw [List.mem_singleton] at hx; subst hx; unfold okC; decide
  refine CallF.le (args0 := [.ptr 2 (.lit 0),.agg [i6 0,i6 0,i6 0,i6 0,i6 w1,i6 w2,i6 8,i6 0,i6 0,i6 0],.sl 24 85 4 (.lit 0) (.sym ln2),i6 draw]) (cfr (chPick_lx R ws C [] N W 0 0 0 L D Q z false hh o 0 0 0 0 w1 w2 8 0 0 0 draw ln2 (casesTo i.toNat ++ [(3,0,0,0)]) LS2 (by rw [List.length_append,hcl4]; show ln2 = ((i.toNat + 1 : Nat) : Int); omega) (by rw [hLS2]; exact hCA.add (by rw [hcl4]; exact hLl) (CasAt.one (.lit 3) (.lit 0) (.lit 0) (.lit 0))) (by rw [List.length_append,hcl4]; show i.toNat + 1 ≤ 30; omega) (fun x hx => okC_k (hok x hx)) (fun c : Cas => decide (c.2.1 = 2 ∨ c.2.1 = 3)) (fun x hx h1 => hPS x (hok x hx) h1) (fun x hx h1 => hPT x (hok x hx) h1)) [(0,2),(1,3),(2,4),(3,5),(4,6),(5,7),(6,8),(7,0),(8,24)] (fun r h' n' hrr => ?_)) (by simp [ales,ale,pvle,I.val])
  obtain ⟨pA,e1,e2,e3,hpkA⟩ := hrr
  subst e1 e2 e3
  have hpkA1 := pick_else hpkA
  conv => cbv
  refine drawn_sound tok (by kernel_rfl) [(7,[])] [0,1,2,3,4,5,6,7,8] (by kernel_rfl) ?_; conv => cbv
  have hok : ∀ x ∈ (casesTo i.toNat),okC x := by
   exact fun x hx => casesTo_ok hx
  refine CallF.le (args0 := [.ptr 2 (.lit 0),.agg [i6 0,i6 0,i6 0,i6 0,i6 w1,i6 w2,i6 8,i6 0,i6 0,i6 0],.sl 21 85 4 (.lit 0) (.sym ln),i6 draw]) (cfr (chPick_lx R ws C [] N W 0 0 0 L D Q z false hh o 0 0 0 0 w1 w2 8 0 0 0 draw ln (casesTo i.toNat) LS (by rw [hcl4]; show ln = ((i.toNat : Nat) : Int); omega) hCA (by rw [hcl4]; omega) (fun x hx => okC_k (hok x hx)) (fun c : Cas => decide (c.2.1 = 2 ∨ c.2.1 = 3)) (fun x hx h1 => hPS x (hok x hx) h1) (fun x hx h1 => hPT x (hok x hx) h1)) [(0,2),(1,3),(2,4),(3,5),(4,6),(5,7),(6,8),(7,0),(8,21)] (fun r h' n' hrr => ?_)) (by simp [ales,ale,pvle,I.val])
  obtain ⟨pB,e1,e2,e3,hpkB⟩ := hrr
  subst e1 e2 e3
  have hpkB1 := pick_none hpkB
  conv => cbv
  refine readF_sound tok (by kernel_rfl) [0,2,3,4,5,6,7,8,9,10,11,12,13,14,15,16,17,18,19,20,21,22] [9] [(6,[11,9,8,7,4,3,2,1,0]),(10,[11,4,3,2,1,0]),(12,[])] [0,1,2,3,4,5,7,8,9,11,6,10,12,13] (by kernel_rfl) ?_
  conv => cbv
  refine Room.new (show ((LS.length : Nat) : Int) = ln * 4 by omega) ?_
  conv => cbv
  refine Need.mk (show ln * 32 ≤ 140737488355328 ∧ ln ≤ 9223372036854775807 by omega) ?_
  conv => cbv
  refine Need.mk rfl ?_
  conv => cbv
  refine Room.new ⟨?_,?_,?_⟩ ?_
  ·show ((LS.length : Nat) : Int) = ln * 4; omega
  ·show (ln + 2) * 32 ≤ 140737488355328; omega
  ·show ln + 2 ≤ 9223372036854775807; omega
  conv => cbv
  refine Upd.mk fun LS3 hLS3 => ?_
  have hLS3 : LS3 = LS ++ [.int .i64 (.lit 2),.int .i64 (.lit 2),.int .i64 (.lit 0),.int .i64 (.lit 0),.int .i64 (.lit 3),.int .i64 (.lit 0),.int .i64 (.lit 0),.int .i64 (.lit 0)] := hLS3
  conv => cbv
  refine Sum.mk fun ln3 hln3 => ?_
  have hln3 : ln3 = ln + 2 := hln3
  conv => cbv
  have hok : ∀ x ∈ (casesTo i.toNat ++ [(2,2,0,0),(3,0,0,0)]),okC x := by
   intro x hx
   rcases List.mem_append.1 hx with hx | hx
   ·exact casesTo_ok hx
   ·simp only [List.mem_cons,List.not_mem_nil,or_false] at hx
    rcases hx with e | e <;> subst e <;> unfold okC <;> decide
  refine CallF.le (args0 := [.ptr 2 (.lit 0),.agg [i6 0,i6 0,i6 0,i6 0,i6 w1,i6 w2,i6 8,i6 0,i6 0,i6 0],.sl 26 85 4 (.lit 0) (.sym ln3),i6 draw]) (cfr (chPick_lx R ws C [] N W 0 0 0 L D Q z false hh o 0 0 0 0 w1 w2 8 0 0 0 draw ln3 (casesTo i.toNat ++ [(2,2,0,0),(3,0,0,0)]) LS3 (by rw [List.length_append,hcl4]; show ln3 = ((i.toNat + 2 : Nat) : Int); omega) (by rw [hLS3]; exact hCA.add (by rw [hcl4]; exact hLl) ((CasAt.one (.lit 2) (.lit 2) (.lit 0) (.lit 0)).add rfl (CasAt.one (.lit 3) (.lit 0) (.lit 0) (.lit 0)))) (by rw [List.length_append,hcl4]; show i.toNat + 2 ≤ 30; omega) (fun x hx => okC_k (hok x hx)) (fun c : Cas => decide (c.2.1 = 2 ∨ c.2.1 = 3)) (fun x hx h1 => hPS x (hok x hx) h1) (fun x hx h1 => hPT x (hok x hx) h1)) [(0,2),(1,3),(2,4),(3,5),(4,6),(5,7),(6,8),(7,0),(8,26)] (fun r h' n' hrr => ?_)) (by simp [ales,ale,pvle,I.val])
  obtain ⟨pD,e1,e2,e3,hpkD⟩ := hrr
  subst e1 e2 e3
  have hpkD1 := pick_stray hpkD
  conv => cbv
  refine drawn_sound tok (by kernel_rfl) [(6,[7,4,3,2,1,0]),(8,[])] [0,1,2,3,4,5,7,6,8,9] (by kernel_rfl) ?_; conv => cbv
  obtain ⟨CL,hCL⟩ : ∃ CL,CL = casPV [(1,3,0,0)] := ⟨_,rfl⟩
  have hle : pvles [.int .i64 (.lit 1),.int .i64 (.lit 3),.int .i64 (.lit 0),.int .i64 (.lit 0)] CL := by rw [hCL]; simp [casPV,pvles,pvle,I.val]
  unfold pvles at hle
  have hok : ∀ x ∈ [(1,3,0,0)],okC x := by
   intro x hx
   rw [List.mem_singleton] at hx; subst hx; unfold okC; decide
  refine CallF.re (args0 := [.ptr 2 (.lit 0),.agg [i6 0,i6 0,i6 0,i6 0,i6 w1,i6 w2,i6 8,i6 0,i6 0,i6 0],.sl 27 85 4 (.lit 0) (.sym 1),i6 draw]) (h' := [hpA 2 3 7 8 3 W 0 0 0,hpB 3 4 6 3 W,hpC 4 5 233 2 N,hpP 5 L,hpP 6 D,hpF 7 z false,hpP 8 Q,hpR 9 10 15 3 W 16 0 0 0,hpB 10 11 14 3 W,hpD 11 12 3 1 N 13 231 8 N,hpP 12 P,hpP 13 B,hpP 14 V,hpP 15 Qr,(16,.mix [.p (.vsl (.sym 0) true []),.p (.bool false)]),(0,.fix 0 o),(17,.mix [.ptr 2 (.lit 0),.ptr 9 (.lit 0),.sl 18 3 1 (.lit 0) (.sym nc),.sl 19 3 1 (.lit 0) (.sym ng)]),hpP 18 CS,hpP 19 GS,(20,.pure false [.int .i64 (.lit 0),.int .i64 (.lit 0),.int .i64 (.lit 0),.int .i64 (.lit 0),.int .i64 (.sym w1),.int .i64 (.sym w2),.int .i64 (.lit 8),.int .i64 (.lit 0),.int .i64 (.lit 0),.int .i64 (.lit 0)]),hpP 21 LS,hpP 27 CL]) (Re.at [(0,0),(2,2),(3,3),(4,4),(5,5),(6,6),(7,7),(8,8),(9,9),(10,10),(11,11),(12,12),(13,13),(14,14),(15,15),(16,16),(17,17),(18,18),(19,19),(20,20),(21,21),(27,27)] []) (cfr (chPick_lx R ws C [] N W 0 0 0 L D Q z false hh o 0 0 0 0 w1 w2 8 0 0 0 draw 1 [(1,3,0,0)] CL rfl (by rw [hCL]; exact CasAt.of _) (by decide) (fun x hx => okC_k (hok x hx)) (fun c : Cas => decide (c.2.1 = 2 ∨ c.2.1 = 3)) (fun x hx h1 => hPS x (hok x hx) h1) (fun x hx h1 => hPT x (hok x hx) h1)) [(0,2),(1,3),(2,4),(3,5),(4,6),(5,7),(6,8),(7,0),(8,27)] (fun r h' n' hrr => ?_))
  obtain ⟨pE,e1,e2,e3,hpkE⟩ := hrr
  subst e1 e2 e3
  have hpkE1 := pick_eight hpkE
  conv => cbv
  have hin : ((i.toNat : Nat) : Int) = i := by omega
  refine Br.yes (show pA = i from hpkA1.trans hin) ?_
  conv => cbv
  refine Br.yes (show pB = -1 from hpkB1) ?_
  conv => cbv
  refine Br.yes (show pD = i from hpkD1.trans hin) ?_
  conv => cbv
  refine Br.yes (show pE = 0 from hpkE1) ?_
  conv => cbv
  refine CallF.le (args0 := [.agg [i6 0,i6 0,i6 0,i6 0,i6 w1,i6 w2,i6 8,i6 0,i6 0,i6 0],.sl 21 85 4 (.lit 0) (.sym ln)]) (cfr (chWaits_lx 0 0 0 0 w1 w2 8 0 0 0 ln (casesTo i.toNat) LS (by rw [hcl4]; show ln = ((i.toNat : Nat) : Int); omega) hCA (by rw [hcl4]; omega) (fun x hx => okC_k (casesTo_ok hx)) (fun x => ?_)) [(0,21)] (fun r h' n' hrr => ?_)) (by simp [ales,ale,pvle,I.val])
  ·unfold wordOf
   split
   ·rename_i hx
    rcases (by omega : x = 0 ∨ x = 1 ∨ x = 2 ∨ x = 3 ∨ x = 4 ∨ x = 5) with e | e | e | e | e | e <;> subst e
    ·exact (by decide : (-9223372036854775808 : Int) ≤ 0 ∧ (0 : Int) ≤ 9223372036854775807)
    ·show (-9223372036854775808 : Int) ≤ w1 ∧ w1 ≤ 9223372036854775807; omega
    ·show (-9223372036854775808 : Int) ≤ w2 ∧ w2 ≤ 9223372036854775807; omega
    ·exact (by decide : (-9223372036854775808 : Int) ≤ 8 ∧ (8 : Int) ≤ 9223372036854775807)
    ·exact (by decide : (-9223372036854775808 : Int) ≤ 0 ∧ (0 : Int) ≤ 9223372036854775807)
    ·exact (by decide : (-9223372036854775808 : Int) ≤ 0 ∧ (0 : Int) ≤ 9223372036854775807)
   ·decide
  obtain ⟨wn,wl,WL,e1,e2,e3,hwn,hWL,hwl⟩ := hrr
  subst e1 e2 e3
  have hw2 : wn = i / 2 := by
   rw [hwn,hwl,waits_half w1 w2 (by omega) i.toNat hi4,hin]
  conv => cbv
  have htd : i.tdiv 2 = i / 2 := Int.tdiv_eq_ediv_of_nonneg hi0
  refine Fit.mk (by show (-9223372036854775808 : Int) ≤ i.tdiv 2; rw [htd]; omega) (by show i.tdiv 2 ≤ 9223372036854775807; rw [htd]; omega) fun hf hhf => ?_
  have hhf : hf = i / 2 := (show hf = i.tdiv 2 from hhf).trans htd
  conv => cbv
  refine Br.yes (show wn = hf from hw2.trans hhf.symm) ?_
  conv => cbv
  refine RetF.mk [.p (.bool true)] [(0,.fix 0 o)] 1 (Re.at [(0,0)] []) rfl rfl
end Go.Proofs.YtkhfgngcoiablaaGreatDoor
