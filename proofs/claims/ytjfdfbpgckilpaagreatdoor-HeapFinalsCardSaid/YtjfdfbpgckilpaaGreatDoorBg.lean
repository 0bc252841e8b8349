/-
  The ground of the proof, part 7: the calculus and what is proved with it.
-/
import Derived.Test.YtjfdfbpgckilpaaGreatDoorBe
import Derived.Test.YtjfdfbpgckilpaaGreatDoorBf
namespace Go.Proofs.YtjfdfbpgckilpaaGreatDoor
open Go Go.LX
set_option maxRecDepth 100000
set_option linter.unusedVariables false
set_option linter.unusedSimpArgs false
set_option maxHeartbeats 32000000
theorem rok_of {R : List Rw} (h : RowsOk R) : ROk R := fun e he => ⟨(h e he).1,fun hne => by
 obtain ⟨h1,h2,_⟩ := (h e he).2 hne
 refine ⟨?_,h2⟩
 intro h0
 rw [h0] at h2
 exact hne (List.length_eq_zero_iff.1 h2)⟩
theorem slot_spec {R : List Rw} {a w : Int} {e : Rw} (h0 : 0 ≤ a) (h1 : a < 32 * R.length) (he : R[(a / 32).toNat]? = some e) (hw : w = wordsOf (clsOf e)) :
  ((w = 0 ∨ (a % 32) % w ≠ 0) → SlotAt R a 0 0 false) ∧ (w ≠ 0 → (a % 32) % w = 0 → SlotAt R a (a / 32) ((a % 32) / w) true) := by
 have hw5 := wordsOf_cases (clsOf e)
 rw [← hw] at hw5
 constructor
 ·intro hno
  refine .no (fun q' s' e' he' hs' hlt' hat' => ?_)
  have hs0 : 0 ≤ (s' : Int) * wordsOf (clsOf e') := Int.mul_nonneg (by omega) (wordsOf_bd _).1
  have : q' = (a / 32).toNat := by omega
  subst this
  rw [he] at he'
  cases he'
  rw [← hw] at hat' hs0 hlt' hs'
  rcases hno with h | h
  ·exact hs' h
  ·have : a % 32 = s' * w := by omega
   rw [this,Int.mul_emod_left] at h
   exact h rfl
 ·intro hw0 hz
  have hwz : w * ((a % 32) / w) + (a % 32) % w = a % 32 := Int.mul_ediv_add_emod (a % 32) w
  have hd0 : 0 ≤ (a % 32) / w := Int.ediv_nonneg (by omega) (by omega)
  obtain ⟨sn,hsn⟩ : ∃ sn : Nat,(sn : Int) = (a % 32) / w := ⟨((a % 32) / w).toNat,by omega⟩
  rw [← hsn] at hwz
  have hmul : (sn : Int) * w = a % 32 := by rw [Int.mul_comm]; omega
  rw [← hsn,show a / 32 = ((a / 32).toNat : Int) by omega]
  refine .is (a / 32).toNat sn e he ?_ ?_ ?_
  ·rw [← hw]; exact hw0
  ·rw [← hw,hmul]; omega
  ·rw [← hw,hmul]; omega
theorem obj_in {R : List Rw} (hR : RowsOk R) {a : Int} (h : IsObj R a) : 0 ≤ a ∧ a < 32 * R.length := by
 obtain ⟨w,h⟩ := isObj_iff.1 h
 obtain ⟨h1,h2,h3,_⟩ := h.facts hR
 omega
theorem ris_lx (R : List Rw) (vs : List Int) (n at_ W : Int) (C B V : List PV) (hC : C = cpv R) (hB : B = bpv R) (hV : V = ipv vs) (hn : n = R.length) (hR : R.length ≤ 1000) (hA : AOk R vs) (hW : W = 32 * n) : CallF (fun _ => Tryz.prog) 107 [.ptr 0 (.lit 0),i6 at_] [hpB 0 1 4 3 W,hpD 1 2 3 1 n 3 254 8 n,hpP 2 C,hpP 3 B,hpP 4 V] 5
  (fun r h n' => ∃ b : Bool,r = .p (.bool b) ∧ h = [hpB 0 1 4 3 W,hpD 1 2 3 1 n 3 254 8 n,hpP 2 C,hpP 3 B,hpP 4 V] ∧ n' = 5 ∧ (b = true ↔ IsObj R at_)) := by
 refine callF_of_body tok Tryz.func107 (by kernel_rfl) rfl rfl rfl ?_; conv => cbv
 refine Br.mk (fun g => ?_) (fun g => ?_)
 ·have g : at_ < 0 := g
  have hno : ¬ IsObj R at_ := fun h => by have := obj_in hA.rows h; omega
  conv => cbv
  refine RetF.mk [.p (.bool false)] [hpB 0 1 4 3 W,hpD 1 2 3 1 n 3 254 8 n,hpP 2 C,hpP 3 B,hpP 4 V] 5 (Re.at [(0,0),(1,1),(2,2),(3,3),(4,4)] []) rfl ⟨false,rfl,rfl,rfl,iff_of_false (by decide) hno⟩
 have g : ¬ at_ < 0 := g
 conv => cbv
 refine Br.mk (fun g2 => ?_) (fun g2 => ?_)
 ·have g2 : W ≤ at_ := g2
  have hno : ¬ IsObj R at_ := fun h => by have := obj_in hA.rows h; omega
  conv => cbv
  refine RetF.mk [.p (.bool false)] [hpB 0 1 4 3 W,hpD 1 2 3 1 n 3 254 8 n,hpP 2 C,hpP 3 B,hpP 4 V] 5 (Re.at [(0,0),(1,1),(2,2),(3,3),(4,4)] []) rfl ⟨false,rfl,rfl,rfl,iff_of_false (by decide) hno⟩
 have g2 : ¬ W ≤ at_ := g2
 conv => cbv
 have ht : Int.tdiv at_ 32 = at_ / 32 := Int.tdiv_eq_ediv_of_nonneg (by omega)
 refine Fit.mk (by show (-9223372036854775808 : Int) ≤ Int.tdiv at_ 32; omega) (by show Int.tdiv at_ 32 ≤ 9223372036854775807; omega) fun q hq => ?_
 have hq : q = at_ / 32 := (show q = Int.tdiv at_ 32 from hq).trans ht
 clear ht
 obtain ⟨e,he⟩ : ∃ e,R[q.toNat]? = some e := ⟨_,List.getElem?_eq_getElem (by omega)⟩
 obtain ⟨cv,hcv⟩ : ∃ cv,cv = clsOf e := ⟨_,rfl⟩
 obtain ⟨w,hw⟩ : ∃ w,w = wordsOf cv := ⟨_,rfl⟩
 have hcc := cpv_get he
 rw [← hC,← hcv] at hcc
 have hw5 := wordsOf_cases cv
 rw [← hw] at hw5
 obtain ⟨sp1,sp2⟩ := slot_spec (R := R) (a := at_) (w := w) (by omega) (by omega) (hq ▸ he) (by rw [hw,hcv])
 conv => cbv
 refine Need.mk ⟨by show 0 ≤ q; omega,by show q < n; omega⟩ ?_
 conv => cbv
 refine Cell.at q _ hcc (by simp [I.val]) rfl ?_
 conv => cbv
 refine callF_frame (refWordsA_lx cv w hw) [] rfl trivial rfl rfl (fun r h' n' ⟨e1,e2,e3⟩ => ?_)
 subst e1 e2 e3
 conv => cbv
 refine drawn_sound tok (by kernel_rfl) [(19,[])] [0,1,2,3,4,5,6,7,8,9,10,11,12,13,14,15,16,17,18,19,20,21] (by kernel_rfl) ?_; conv => cbv
 refine Br.mk (fun g3 => ?_) (fun g3 => ?_)
 case refine_2 =>
  have g3 : ¬ 0 < w := g3
  have hno : ¬ IsObj R at_ := by
   rcases obj_slot hA.rows (sp1 (.inl (by omega))) with ⟨h,_⟩ | ⟨_,h⟩
   ·cases h
   ·exact h
  conv => cbv
  refine RetF.mk [.p (.bool false)] [hpB 0 1 4 3 W,hpD 1 2 3 1 n 3 254 8 n,hpP 2 C,hpP 3 B,hpP 4 V] 5 (Re.at [(0,0),(1,1),(2,2),(3,3),(4,4)] []) rfl ⟨false,rfl,rfl,rfl,iff_of_false (by decide) hno⟩
 have g3 : 0 < w := g3
 conv => cbv
 refine Sum.mk fun z hz => ?_
 have hz : z = at_ % 32 := (show z = Int.tmod at_ 32 from hz).trans (Int.tmod_eq_emod_of_nonneg (by omega))
 conv => cbv
 refine Need.mk (show w ≠ 0 by omega) ?_
 conv => cbv
 refine Sum.mk fun y hy => ?_
 have hy : y = z % w := (show y = Int.tmod z w from hy).trans (Int.tmod_eq_emod_of_nonneg (by omega))
 conv => cbv
 refine Br.mk (fun g4 => ?_) (fun g4 => ?_)
 case refine_2 =>
  have g4 : ¬ y = 0 := g4
  have hno : ¬ IsObj R at_ := by
   rcases obj_slot hA.rows (sp1 (.inr (by rw [← hz,← hy]; exact g4))) with ⟨h,_⟩ | ⟨_,h⟩
   ·cases h
   ·exact h
  conv => cbv
  refine RetF.mk [.p (.bool false)] [hpB 0 1 4 3 W,hpD 1 2 3 1 n 3 254 8 n,hpP 2 C,hpP 3 B,hpP 4 V] 5 (Re.at [(0,0),(1,1),(2,2),(3,3),(4,4)] []) rfl ⟨false,rfl,rfl,rfl,iff_of_false (by decide) hno⟩
 have g4 : y = 0 := g4
 have hsl := sp2 (by omega) (by rw [← hz,← hy]; exact g4)
 rw [← hz,← hq] at hsl
 have hd0 : 0 ≤ z / w := Int.ediv_nonneg (by omega) (by omega)
 have hdz : z / w ≤ z := Int.ediv_le_self _ (by omega)
 have ht2 : Int.tdiv z w = z / w := Int.tdiv_eq_ediv_of_nonneg (by omega)
 have hiff : UsedAt R q (z / w) ↔ IsObj R at_ := by
  rcases obj_slot hA.rows hsl with ⟨_,h1,h2,h3,h4,h5,e',h6,h7,h8⟩ | ⟨h,_⟩
  ·rw [h8]
   constructor
   ·rintro ⟨e2,_,he2,_,hs2⟩
    rw [h6] at he2; cases he2; exact hs2
   ·intro hs2; exact ⟨e',h1,h6,h2,hs2⟩
  ·cases h
 conv => cbv
 refine Sum.mk fun z2 hz2 => ?_
 have hz2 : z2 = z := (show z2 = Int.tmod at_ 32 from hz2).trans ((Int.tmod_eq_emod_of_nonneg (by omega)).trans hz.symm)
 conv => cbv
 refine Need.mk (show w ≠ 0 by omega) ?_
 conv => cbv
 have ht3 : Int.tdiv z2 w = z / w := by rw [hz2]; exact ht2
 refine Fit.mk (by show (-9223372036854775808 : Int) ≤ Int.tdiv z2 w; omega) (by show Int.tdiv z2 w ≤ 9223372036854775807; omega) fun s0 hs0 => ?_
 have hs0 : s0 = z / w := (show s0 = Int.tdiv z2 w from hs0).trans ht3
 rw [← hs0] at hiff
 conv => cbv
 refine cfr (rused_lx q s0 R n C B hC hB hn hR (rok_of hA.rows)) [(0,1),(1,2),(2,3)] (fun r h' n' hrr => ?_)
 obtain ⟨b,e1,e2,e3,hb⟩ := hrr
 subst e1 e2 e3
 have hbi := hb.trans hiff
 clear hb
 cases b with
 | true =>
  conv => cbv
  refine RetF.mk [.p (.bool true)] [hpB 0 1 4 3 W,hpD 1 2 3 1 n 3 254 8 n,hpP 2 C,hpP 3 B,hpP 4 V] 5 (Re.at [(0,0),(1,1),(2,2),(3,3),(4,4)] []) rfl ⟨true,rfl,rfl,rfl,hbi⟩
 | false =>
  conv => cbv
  refine RetF.mk [.p (.bool false)] [hpB 0 1 4 3 W,hpD 1 2 3 1 n 3 254 8 n,hpP 2 C,hpP 3 B,hpP 4 V] 5 (Re.at [(0,0),(1,1),(2,2),(3,3),(4,4)] []) rfl ⟨false,rfl,rfl,rfl,hbi⟩
theorem rkind_lx (R : List Rw) (vs : List Int) (n at_ W : Int) (C B V : List PV) (hC : C = cpv R) (hB : B = bpv R) (hV : V = ipv vs) (hn : n = R.length) (hR : R.length ≤ 1000) (hA : AOk R vs) (hW : W = 32 * n) : CallF (fun _ => Tryz.prog) 146 [.ptr 0 (.lit 0),i6 at_] [hpB 0 1 4 3 W,hpD 1 2 3 1 n 3 254 8 n,hpP 2 C,hpP 3 B,hpP 4 V] 5
  (fun r h n' => ∃ v : Int,r = .p (.int .i64 (.sym v)) ∧ h = [hpB 0 1 4 3 W,hpD 1 2 3 1 n 3 254 8 n,hpP 2 C,hpP 3 B,hpP 4 V] ∧ n' = 5 ∧ KindR R vs at_ v) := by
 have hlen := hA.len
 refine callF_of_body tok Tryz.func146 (by kernel_rfl) rfl rfl rfl ?_; conv => cbv
 refine cfr (ris_lx R vs n at_ W C B V hC hB hV hn hR hA hW) [(0,0),(1,1),(2,2),(3,3),(4,4)] (fun r h' n' hrr => ?_)
 obtain ⟨b,e1,e2,e3,hb⟩ := hrr
 subst e1 e2 e3
 cases b with
 | false =>
  have hno : ¬ IsObj R at_ := fun h => by cases hb.2 h
  conv => cbv
  refine RetF.mk [i6 0] [hpB 0 1 4 3 W,hpD 1 2 3 1 n 3 254 8 n,hpP 2 C,hpP 3 B,hpP 4 V] 5 (Re.at [(0,0),(1,1),(2,2),(3,3),(4,4)] []) rfl ⟨0,rfl,rfl,rfl,.no hno⟩
 | true =>
  have hobj := hb.1 rfl
  conv => cbv
  obtain ⟨k,l,hk⟩ := Kept.of hA hobj
  have hk' := hk
  have hb2 := hk.bounds hA
  obtain ⟨w,_,hx,q1,q2,q3,_⟩ := hk'
  have hc := ipv_get hx
  rw [← hV] at hc
  have hh := (hdr_of q1 q2 q3).1
  refine Need.mk ⟨hb2.1,by show at_ < W; omega⟩ ?_
  conv => cbv
  refine Cell.at at_ _ hc (by simp [I.val]) rfl ?_
  conv => cbv
  refine Sum.mk fun v hv => ?_
  have hv : v = k := (show v = Int.tmod (k + 16 * l) 16 from hv).trans hh
  have hK : KindR R vs at_ v := by rw [hv]; exact .is k l hk
  conv => cbv
  refine RetF.mk [i6 v] [hpB 0 1 4 3 W,hpD 1 2 3 1 n 3 254 8 n,hpP 2 C,hpP 3 B,hpP 4 V] 5 (Re.at [(0,0),(1,1),(2,2),(3,3),(4,4)] []) rfl ⟨v,rfl,rfl,rfl,hK⟩
theorem rlen_lx (R : List Rw) (vs : List Int) (n at_ W : Int) (C B V : List PV) (hC : C = cpv R) (hB : B = bpv R) (hV : V = ipv vs) (hn : n = R.length) (hR : R.length ≤ 1000) (hA : AOk R vs) (hW : W = 32 * n) : CallF (fun _ => Tryz.prog) 86 [.ptr 0 (.lit 0),i6 at_] [hpB 0 1 4 3 W,hpD 1 2 3 1 n 3 254 8 n,hpP 2 C,hpP 3 B,hpP 4 V] 5
  (fun r h n' => ∃ v : Int,r = .p (.int .i64 (.sym v)) ∧ h = [hpB 0 1 4 3 W,hpD 1 2 3 1 n 3 254 8 n,hpP 2 C,hpP 3 B,hpP 4 V] ∧ n' = 5 ∧ LenR R vs at_ v) := by
 have hlen := hA.len
 refine callF_of_body tok Tryz.func86 (by kernel_rfl) rfl rfl rfl ?_; conv => cbv
 refine cfr (ris_lx R vs n at_ W C B V hC hB hV hn hR hA hW) [(0,0),(1,1),(2,2),(3,3),(4,4)] (fun r h' n' hrr => ?_)
 obtain ⟨b,e1,e2,e3,hb⟩ := hrr
 subst e1 e2 e3
 cases b with
 | false =>
  have hno : ¬ IsObj R at_ := fun h => by cases hb.2 h
  conv => cbv
  refine RetF.mk [i6 0] [hpB 0 1 4 3 W,hpD 1 2 3 1 n 3 254 8 n,hpP 2 C,hpP 3 B,hpP 4 V] 5 (Re.at [(0,0),(1,1),(2,2),(3,3),(4,4)] []) rfl ⟨0,rfl,rfl,rfl,.no hno⟩
 | true =>
  have hobj := hb.1 rfl
  conv => cbv
  obtain ⟨k,l,hk⟩ := Kept.of hA hobj
  have hk' := hk
  have hb2 := hk.bounds hA
  obtain ⟨w,_,hx,q1,q2,q3,_⟩ := hk'
  have hc := ipv_get hx
  rw [← hV] at hc
  have hh := (hdr_of q1 q2 q3).2
  refine Need.mk ⟨hb2.1,by show at_ < W; omega⟩ ?_
  conv => cbv
  refine Cell.at at_ _ hc (by simp [I.val]) rfl ?_
  conv => cbv
  refine Fit.mk (by show (-9223372036854775808 : Int) ≤ Int.tdiv (k + 16 * l) 16; omega) (by show Int.tdiv (k + 16 * l) 16 ≤ 9223372036854775807; omega) fun v hv => ?_
  have hv : v = l := (show v = Int.tdiv (k + 16 * l) 16 from hv).trans hh
  have hK : LenR R vs at_ v := by rw [hv]; exact .is k l hk
  conv => cbv
  refine RetF.mk [i6 v] [hpB 0 1 4 3 W,hpD 1 2 3 1 n 3 254 8 n,hpP 2 C,hpP 3 B,hpP 4 V] 5 (Re.at [(0,0),(1,1),(2,2),(3,3),(4,4)] []) rfl ⟨v,rfl,rfl,rfl,hK⟩
theorem rload_lx (i : Int) (R : List Rw) (vs : List Int) (n at_ W : Int) (C B V : List PV) (hC : C = cpv R) (hB : B = bpv R) (hV : V = ipv vs) (hn : n = R.length) (hR : R.length ≤ 1000) (hA : AOk R vs) (hW : W = 32 * n) : CallF (fun _ => Tryz.prog) 81 [.ptr 0 (.lit 0),i6 at_,i6 i] [hpB 0 1 4 3 W,hpD 1 2 3 1 n 3 254 8 n,hpP 2 C,hpP 3 B,hpP 4 V] 5
  (fun r h n' => ∃ x e : Int,r = .tup [i6 x,i6 e] ∧ h = [hpB 0 1 4 3 W,hpD 1 2 3 1 n 3 254 8 n,hpP 2 C,hpP 3 B,hpP 4 V] ∧ n' = 5 ∧ Loaded R vs at_ i x e) := by
 have hlen := hA.len
 refine callF_of_body tok Tryz.func81 (by kernel_rfl) rfl rfl rfl ?_; conv => cbv
 refine cfr (ris_lx R vs n at_ W C B V hC hB hV hn hR hA hW) [(0,0),(1,1),(2,2),(3,3),(4,4)] (fun r h' n' hrr => ?_)
 obtain ⟨b,e1,e2,e3,hb⟩ := hrr
 subst e1 e2 e3
 cases b with
 | false =>
  have hno : ¬ IsObj R at_ := fun h => by cases hb.2 h
  conv => cbv
  refine RetF.mk [i6 0,i6 8] [hpB 0 1 4 3 W,hpD 1 2 3 1 n 3 254 8 n,hpP 2 C,hpP 3 B,hpP 4 V] 5 (Re.at [(0,0),(1,1),(2,2),(3,3),(4,4)] []) rfl ⟨0,8,rfl,rfl,rfl,.none hno⟩
 | true =>
  have hobj := hb.1 rfl
  conv => cbv
  obtain ⟨k,l,hk⟩ := Kept.of hA hobj
  have hb2 := hk.bounds hA
  refine Br.mk (fun g => ?_) (fun g => ?_)
  ·have g : i < 0 := g
   conv => cbv
   refine RetF.mk [i6 0,i6 1] [hpB 0 1 4 3 W,hpD 1 2 3 1 n 3 254 8 n,hpP 2 C,hpP 3 B,hpP 4 V] 5 (Re.at [(0,0),(1,1),(2,2),(3,3),(4,4)] []) rfl ⟨0,1,rfl,rfl,rfl,.arg k l hk (by omega)⟩
  have g : ¬ i < 0 := g
  conv => cbv
  refine cfr (rlen_lx R vs n at_ W C B V hC hB hV hn hR hA hW) [(0,0),(1,1),(2,2),(3,3),(4,4)] (fun r h' n' hrr => ?_)
  obtain ⟨v,e1,e2,e3,hL⟩ := hrr
  subst e1 e2 e3
  conv => cbv
  have hvl : v = l := lenR_of6 hk hL
  refine Br.mk (fun g2 => ?_) (fun g2 => ?_)
  ·have g2 : v ≤ i := g2
   conv => cbv
   refine RetF.mk [i6 0,i6 1] [hpB 0 1 4 3 W,hpD 1 2 3 1 n 3 254 8 n,hpP 2 C,hpP 3 B,hpP 4 V] 5 (Re.at [(0,0),(1,1),(2,2),(3,3),(4,4)] []) rfl ⟨0,1,rfl,rfl,rfl,.arg k l hk (by omega)⟩
  have g2 : ¬ v ≤ i := g2
  obtain ⟨x,hx⟩ : ∃ x,vs[(at_ + 1 + i).toNat]? = some x := ⟨_,List.getElem?_eq_getElem (by omega)⟩
  have hc := ipv_get hx
  rw [← hV] at hc
  conv => cbv
  refine Fit.mk (by show (-9223372036854775808 : Int) ≤ at_ + 1; omega) (by show at_ + 1 ≤ 9223372036854775807; omega) fun a1 ha1 => ?_
  have ha1 : a1 = at_ + 1 := ha1
  conv => cbv
  refine Fit.mk (by show (-9223372036854775808 : Int) ≤ a1 + i; omega) (by show a1 + i ≤ 9223372036854775807; omega) fun a2 ha2 => ?_
  have ha2 : a2 = a1 + i := ha2
  have ha2 : a2 = at_ + 1 + i := by omega
  conv => cbv
  refine Need.mk ⟨by show 0 ≤ a2; omega,by show a2 < W; omega⟩ ?_
  conv => cbv
  refine Cell.at a2 _ hc (by simp [I.val]) (by omega) ?_
  conv => cbv
  refine RetF.mk [i6 x,i6 0] [hpB 0 1 4 3 W,hpD 1 2 3 1 n 3 254 8 n,hpP 2 C,hpP 3 B,hpP 4 V] 5 (Re.at [(0,0),(1,1),(2,2),(3,3),(4,4)] []) rfl ⟨x,0,rfl,rfl,rfl,.ok k l x hk (by omega) hx⟩
theorem rstore_lx (i x : Int) (R : List Rw) (vs : List Int) (n at_ W : Int) (C B V : List PV) (hC : C = cpv R) (hB : B = bpv R) (hV : V = ipv vs) (hn : n = R.length) (hR : R.length ≤ 1000) (hA : AOk R vs) (hW : W = 32 * n) : CallF (fun _ => Tryz.prog) 147 [.ptr 0 (.lit 0),i6 at_,i6 i,i6 x] [hpB 0 1 4 3 W,hpD 1 2 3 1 n 3 254 8 n,hpP 2 C,hpP 3 B,hpP 4 V] 5
  (fun r h n' => ∃ (e : Int) (vs' : List Int) (V' : List PV),r = .p (.int .i64 (.sym e)) ∧ h = [hpB 0 1 4 3 W,hpD 1 2 3 1 n 3 254 8 n,hpP 2 C,hpP 3 B,hpP 4 V'] ∧ n' = 5 ∧ V' = ipv vs' ∧ Stored R vs at_ i x e vs') := by
 have hlen := hA.len
 have hVl : V.length = vs.length := by rw [hV,ipv_length]
 refine callF_of_body tok Tryz.func147 (by kernel_rfl) rfl rfl rfl ?_; conv => cbv
 refine cfr (rload_lx i R vs n at_ W C B V hC hB hV hn hR hA hW) [(0,0),(1,1),(2,2),(3,3),(4,4)] (fun r h' n' hrr => ?_)
 obtain ⟨y,e,e1,e2,e3,hLd⟩ := hrr
 subst e1 e2 e3
 cases hLd with
 | none hno =>
  conv => cbv
  refine Br.mk (fun g => ?_) (fun g => ?_)
  case refine_1 =>
   have gf : False := absurd g (by decide)
   cases gf
  conv => cbv
  refine RetF.mk [i6 8] [hpB 0 1 4 3 W,hpD 1 2 3 1 n 3 254 8 n,hpP 2 C,hpP 3 B,hpP 4 V] 5 (Re.at [(0,0),(1,1),(2,2),(3,3),(4,4)] []) rfl ⟨8,vs,V,rfl,rfl,rfl,hV,.none hno⟩
 | arg k l hk hi =>
  conv => cbv
  refine Br.mk (fun g => ?_) (fun g => ?_)
  case refine_1 =>
   have gf : False := absurd g (by decide)
   cases gf
  conv => cbv
  refine RetF.mk [i6 1] [hpB 0 1 4 3 W,hpD 1 2 3 1 n 3 254 8 n,hpP 2 C,hpP 3 B,hpP 4 V] 5 (Re.at [(0,0),(1,1),(2,2),(3,3),(4,4)] []) rfl ⟨1,vs,V,rfl,rfl,rfl,hV,.arg k l hk hi⟩
 | ok k l _ hk hi hx =>
  conv => cbv
  refine Br.mk (fun g => ?_) (fun g => ?_)
  case refine_2 =>
   have gf : False := g rfl
   cases gf
  conv => cbv
  have hb2 := hk.bounds hA
  refine Fit.mk (by show (-9223372036854775808 : Int) ≤ at_ + 1; omega) (by show at_ + 1 ≤ 9223372036854775807; omega) fun a1 ha1 => ?_
  have ha1 : a1 = at_ + 1 := ha1
  conv => cbv
  refine Fit.mk (by show (-9223372036854775808 : Int) ≤ a1 + i; omega) (by show a1 + i ≤ 9223372036854775807; omega) fun a2 ha2 => ?_
  have ha2 : a2 = a1 + i := ha2
  have ha2 : a2 = at_ + 1 + i := by omega
  conv => cbv
  refine Need.mk ⟨by show 0 ≤ a2; omega,by show a2 < W; omega⟩ ?_
  conv => cbv
  refine Need.mk (by show a2 + ((1 : Nat) : Int) ≤ (V.length : Int); omega) ?_
  conv => cbv
  refine Upd.mk fun V2 hV2 => ?_
  have hV2 : V2 = updL V a2.toNat [.int .i64 (.sym x)] := hV2
  have hV3 : V2 = ipv (vs.set (at_ + 1 + i).toNat x) := by rw [hV2,hV,updL_ipv,ha2]
  clear hV2
  conv => cbv
  refine RetF.mk [i6 0] [hpB 0 1 4 3 W,hpD 1 2 3 1 n 3 254 8 n,hpP 2 C,hpP 3 B,hpP 4 V2] 5 (Re.at [(0,0),(1,1),(2,2),(3,3),(4,4)] []) rfl ⟨0,_,V2,rfl,rfl,rfl,hV3,.ok k l hk hi⟩
theorem obj_at {R : List Rw} (hR : RowsOk R) {a : Int} (h : IsObj R a) : ∃ (s : Nat) (e : Rw),R[(a / 32).toNat]? = some e ∧ clsOf e = e.1 ∧ wordsOf e.1 ≠ 0 ∧ e.2[s]? = some true ∧ a = 32 * (a / 32) + s * wordsOf e.1 := by
 obtain ⟨q,s,e,he,hs,hat⟩ := h
 have hne : e.2 ≠ [] := by intro e0; rw [e0] at hs; simp at hs
 obtain ⟨g1,g2,_⟩ := (hR _ (List.mem_of_getElem? he)).2 hne
 have hsl := (List.getElem?_eq_some_iff.1 hs).1
 have k2 := slots_words g1 (s := s) (by omega)
 have k3 : 0 ≤ (s : Int) * wordsOf e.1 := Int.mul_nonneg (by omega) (wordsOf_bd _).1
 have w1 := wordsOf_cases e.1
 have hq : a / 32 = q := by omega
 refine ⟨s,e,by rw [hq]; exact he,?_,g1,hs,by rw [hq]; exact hat⟩
 unfold clsOf
 first | rw [if_neg hne] | (split <;> simp_all)
theorem rfreeA_lx (R : List Rw) (vs : List Int) (n at_ W : Int) (C B V : List PV) (hC : C = cpv R) (hB : B = bpv R) (hV : V = ipv vs) (hn : n = R.length) (hR : R.length ≤ 1000) (hA : AOk R vs) (hW : W = 32 * n) : CallF (fun _ => Tryz.prog) 102 [.ptr 0 (.lit 0),i6 at_] [hpB 0 1 4 3 W,hpD 1 2 3 1 n 3 254 8 n,hpP 2 C,hpP 3 B,hpP 4 V] 5
  (fun r h n' => ∃ (e : Int) (R' : List Rw) (C' B' : List PV),r = .p (.int .i64 (.sym e)) ∧ h = [hpB 0 1 4 3 W,hpD 1 2 3 1 n 3 254 8 n,hpP 2 C',hpP 3 B',hpP 4 V] ∧ n' = 5 ∧ C' = cpv R' ∧ B' = bpv R' ∧ Freet R at_ e R') := by
 have hlen := hA.len
 refine callF_of_body tok Tryz.func102 (by kernel_rfl) rfl rfl rfl ?_; conv => cbv
 refine cfr (ris_lx R vs n at_ W C B V hC hB hV hn hR hA hW) [(0,0),(1,1),(2,2),(3,3),(4,4)] (fun r h' n' hrr => ?_)
 obtain ⟨b,e1,e2,e3,hb⟩ := hrr
 subst e1 e2 e3
 cases b with
 | false =>
  have hno : ¬ IsObj R at_ := fun h => by cases hb.2 h
  conv => cbv
  refine RetF.mk [i6 8] [hpB 0 1 4 3 W,hpD 1 2 3 1 n 3 254 8 n,hpP 2 C,hpP 3 B,hpP 4 V] 5 (Re.at [(0,0),(1,1),(2,2),(3,3),(4,4)] []) rfl ⟨8,R,C,B,rfl,rfl,rfl,hC,hB,.none hno⟩
 | true =>
  have hobj := hb.1 rfl
  conv => cbv
  have hin := obj_in hA.rows hobj
  have ht : Int.tdiv at_ 32 = at_ / 32 := Int.tdiv_eq_ediv_of_nonneg (by omega)
  refine Fit.mk (by show (-9223372036854775808 : Int) ≤ Int.tdiv at_ 32; omega) (by show Int.tdiv at_ 32 ≤ 9223372036854775807; omega) fun q hq => ?_
  have hq : q = at_ / 32 := (show q = Int.tdiv at_ 32 from hq).trans ht
  clear ht
  conv => cbv
  obtain ⟨sn,e,he,hce,hw0,hs1,hat⟩ := obj_at hA.rows hobj
  rw [← hq] at he hat
  obtain ⟨cv,hcv⟩ : ∃ cv,cv = clsOf e := ⟨_,rfl⟩
  obtain ⟨w,hw⟩ : ∃ w,w = wordsOf cv := ⟨_,rfl⟩
  have hcc := cpv_get he
  rw [← hC,← hcv] at hcc
  have hwe : wordsOf e.1 = w := by rw [hw,hcv,hce]
  rw [hwe] at hw0 hat
  have hw5 := wordsOf_cases cv
  rw [← hw] at hw5
  have hmul0 : 0 ≤ (sn : Int) * w := Int.mul_nonneg (by omega) (by omega)
  have hdiv : (sn : Int) * w / w = sn := Int.mul_ediv_cancel _ hw0
  obtain ⟨sw,hsw⟩ : ∃ sw,sw = (sn : Int) * w := ⟨_,rfl⟩
  rw [← hsw] at hmul0 hdiv hat
  obtain ⟨si,hsi⟩ : ∃ si : Int,si = sn := ⟨_,rfl⟩
  rw [← hsi] at hdiv
  have hsi0 : 0 ≤ si := by omega
  have ht : Int.tdiv sw w = sw / w := Int.tdiv_eq_ediv_of_nonneg (by omega)
  have hle : sw / w ≤ sw := Int.ediv_le_self _ (by omega)
  rw [hdiv] at ht hle
  refine drawn_sound tok (by kernel_rfl) [(17,[6,5,4,3,2,1,0]),(19,[])] [0,1,2,3,4,5,6,7,8,9,10,11,12,13,14,15,16,17,18,19] (by kernel_rfl) ?_; conv => cbv
  refine Sum.mk fun z hz => ?_
  have hz : z = at_ % 32 := (show z = Int.tmod at_ 32 from hz).trans (Int.tmod_eq_emod_of_nonneg (by omega))
  have hz : z = sw := by omega
  conv => cbv
  refine Need.mk ⟨by show 0 ≤ q; omega,by show q < n; omega⟩ ?_
  conv => cbv
  refine Cell.at q _ hcc (by simp [I.val]) rfl ?_
  conv => cbv
  refine callF_frame (refWordsA_lx cv w hw) [] rfl trivial rfl rfl (fun r h' n' ⟨e1,e2,e3⟩ => ?_)
  subst e1 e2 e3
  conv => cbv
  refine Need.mk (show w ≠ 0 by omega) ?_
  conv => cbv
  have ht3 : Int.tdiv z w = si := by rw [hz]; exact ht
  refine Fit.mk (by show (-9223372036854775808 : Int) ≤ Int.tdiv z w; omega) (by show Int.tdiv z w ≤ 9223372036854775807; omega) fun s0 hs0 => ?_
  have hs0 : s0 = si := (show s0 = Int.tdiv z w from hs0).trans ht3
  conv => cbv
  refine cfr (rfree_lx q s0 R n C B hC hB hn hR (rok_of hA.rows)) [(0,1),(1,2),(2,3)] (fun r h' n' hrr => ?_)
  obtain ⟨b,R2,C2,B2,e1,e2,e3,hC2,hB2,hF⟩ := hrr
  subst e1 e2 e3
  have hsn : s0.toNat = sn := by omega
  have hFr : Freet R at_ 0 R2 := by
   cases hF with
   | no hno => exact absurd ⟨e,by omega,he,by omega,by rw [hsn]; exact hs1⟩ hno
   | yes e' _ he' _ hs' =>
    rw [he] at he'; cases he'
    exact .ok q.toNat s0.toNat e he hs' (by rw [hwe,hsn,← hsw,show (q.toNat : Int) = q by omega]; exact hat)
  conv => cbv
  refine RetF.mk [i6 0] [hpB 0 1 4 3 W,hpD 1 2 3 1 n 3 254 8 n,hpP 2 C2,hpP 3 B2,hpP 4 V] 5 (Re.at [(0,0),(1,1),(2,2),(3,3),(4,4)] []) rfl ⟨0,R2,C2,B2,rfl,rfl,rfl,hC2,hB2,hFr⟩
theorem rnewA_lx (n W : Int) (h2 : 2 ≤ n) (h8 : n ≤ 128) (hW : W = 32 * n) : CallF (fun _ => Tryz.prog) 132 [i6 n] [] 0
  (fun r h m => ∃ C B V : List PV,r = .tup [.ptr 0 (.lit 0),.p (.int .i64 (.lit 0))] ∧ h = [hpB 0 1 4 3 W,hpD 1 2 3 1 n 3 254 8 n,hpP 2 C,hpP 3 B,hpP 4 V] ∧ m = 5 ∧ C = cpv (List.replicate n.toNat (0,[])) ∧ B = bpv (List.replicate n.toNat (0,[])) ∧ V = ipv (List.replicate W.toNat 0)) := by
 refine callF_of_body tok Tryz.func132 (by kernel_rfl) rfl rfl rfl ?_; conv => cbv
 refine callF_frame (rnew_lx n ⟨h2,h8⟩) [] rfl trivial rfl rfl (fun r h' n' hrr => ?_)
 obtain ⟨C,B,e1,e2,e3,hC,hB⟩ := hrr
 subst e1 e2 e3
 obtain ⟨V,hV⟩ : ∃ V,V = ipv (List.replicate W.toNat 0) := ⟨_,rfl⟩
 conv => cbv
 refine Fit.mk (by show (-9223372036854775808 : Int) ≤ n * 32; omega) (by show n * 32 ≤ 9223372036854775807; omega) fun v hv => ?_
 have hv : v = n * 32 := hv
 have hvW : v = W := by omega
 conv => cbv
 refine Need.mk ⟨by show 0 ≤ v; omega,Int.le_refl _,by show v * 8 ≤ 140737488355328; omega,by show v ≤ 9223372036854775807; omega⟩ ?_
 conv => cbv
 refine Upd.mk fun D0 hD0 => ?_
 have hle : pvles D0 V := by
  have hD0 : D0 = repsP [.int .i64 (.lit 0)] v.toNat := hD0
  rw [hD0,hV,hvW]; exact zero_ipv _
 clear hD0
 unfold pvles at hle
 conv => cbv
 refine RetF.mk [.ptr 0 (.lit 0),.p (.int .i64 (.lit 0))] [hpB 0 1 4 3 W,hpD 1 2 3 1 n 3 254 8 n,hpP 2 C,hpP 3 B,hpP 4 V] 5 (Re.at [(4,0),(0,1),(1,2),(2,3),(3,4)] []) rfl ⟨C,B,V,rfl,rfl,rfl,hC,hB,hV⟩
theorem rclassOf_lx (n : Int) : CallF (fun _ => Tryz.prog) 211 [i6 n] [] 0 (fun r h m => ∃ (c : Int) (b : Bool),r = .tup [i6 c,.p (.bool b)] ∧ h = [] ∧ m = 0 ∧ OfR n c b) := by
 refine callF_of_body tok Tryz.func211 (by kernel_rfl) rfl rfl rfl ?_; conv => cbv
 refine LoopF.mk (fun k s => ∃ c : Int,s = ⟨.p (.int .i64 (.sym n)) :: (undefs 3 ++ .p (.int .i64 (.sym c)) :: undefs 13),[],0⟩ ∧ 0 ≤ c ∧ c ≤ 4 ∧ (1 ≤ c → 4 ≤ n) ∧ (2 ≤ c → 8 ≤ n) ∧ (3 ≤ c → 16 ≤ n) ∧ (4 ≤ c → 32 ≤ n) ∧ k = (4 - c).toNat) 4 _
  (Re.at [] []) ⟨0,rfl,by omega,by omega,by omega,by omega,by omega,by omega,by omega⟩ ?_
 rintro k s ⟨c,rfl,h0,h4,q1,q2,q3,q4,hk⟩
 conv => cbv
 refine Br.mk (fun g => ?_) (fun g => ?_)
 case refine_2 =>
  have g : ¬ c < 4 := g
  have q : OfR n 0 false := .no (by omega)
  conv => cbv
  refine RetF.mk [i6 0,.p (.bool false)] [] 0 (Re.at [] []) rfl ⟨0,false,rfl,rfl,rfl,q⟩
 have g : c < 4 := g
 conv => cbv
 refine Br.mk (fun g2 => ?_) (fun g2 => ?_)
 case refine_2 =>
  have g2 : ¬ 0 ≤ n := g2
  have q : OfR n 0 false := .no (by omega)
  conv => cbv
  refine RetF.mk [i6 0,.p (.bool false)] [] 0 (Re.at [] []) rfl ⟨0,false,rfl,rfl,rfl,q⟩
 have g2 : 0 ≤ n := g2
 obtain ⟨k',rfl⟩ : ∃ k',k = k' + 1 := ⟨k - 1,by omega⟩
 obtain ⟨w,hw⟩ : ∃ w,w = wordsOf c := ⟨_,rfl⟩
 have hw4 : c = 0 ∧ w = 4 ∨ c = 1 ∧ w = 8 ∨ c = 2 ∧ w = 16 ∨ c = 3 ∧ w = 32 := by
  have : c = 0 ∨ c = 1 ∨ c = 2 ∨ c = 3 := by omega
  rcases this with e | e | e | e <;> (rw [e] at hw; rw [hw,e]; decide)
 conv => cbv
 refine callF_frame (refWordsA_lx c w hw) [] rfl trivial rfl rfl (fun r h' n' ⟨e1,e2,e3⟩ => ?_)
 subst e1 e2 e3
 conv => cbv
 refine Br.mk (fun g3 => ?_) (fun g3 => ?_)
 ·have g3 : n < w := g3
  have hc : c = ofN n := by
   unfold ofN
   rcases hw4 with ⟨e1,e2⟩ | ⟨e1,e2⟩ | ⟨e1,e2⟩ | ⟨e1,e2⟩
   ·rw [if_pos (by omega)]; exact e1
   ·rw [if_neg (by omega),if_pos (by omega)]; exact e1
   ·rw [if_neg (by omega),if_neg (by omega),if_pos (by omega)]; exact e1
   ·rw [if_neg (by omega),if_neg (by omega),if_neg (by omega)]; exact e1
  have qq : OfR n c true := .yes c hc (by omega)
  conv => cbv
  refine RetF.mk [i6 c,.p (.bool true)] [] 0 (Re.at [] []) rfl ⟨c,true,rfl,rfl,rfl,qq⟩
 ·have g3 : ¬ n < w := g3
  conv => cbv
  refine Fit.mk (by show (-9223372036854775808 : Int) ≤ c + 1; omega) (by show c + 1 ≤ 9223372036854775807; omega) fun c2 hc2 => ?_
  have hc2 : c2 = c + 1 := hc2
  conv => cbv
  refine Again.mk k' _ (Nat.lt_succ_self _) (Re.at [] []) ⟨c2,rfl,by omega,by omega,by omega,by omega,by omega,by omega,by omega⟩
theorem robjects_lx (m : Int) (R : List Rw) (vs : List Int) (n W : Int) (C B V : List PV) (hC : C = cpv R) (hB : B = bpv R) (hV : V = ipv vs) (hn : n = R.length) (hR : R.length ≤ 1000) (hA : AOk R vs) (hW : W = 32 * n) (hm : m = objCount R) : CallF (fun _ => Tryz.prog) 52 [.ptr 0 (.lit 0)] [hpB 0 1 4 3 W,hpD 1 2 3 1 n 3 254 8 n,hpP 2 C,hpP 3 B,hpP 4 V] 5
  (fun r h n' => ∃ O : List PV,r = .sl 5 3 1 (.lit 0) (.sym m) ∧ h = [hpB 0 1 4 3 W,hpD 1 2 3 1 n 3 254 8 n,hpP 2 C,hpP 3 B,hpP 4 V,hpP 5 O] ∧ n' = 6 ∧ O = ipv (objsTo R R.length)) := by
 have hlen := hA.len
 obtain ⟨gl,hg⟩ : ∃ gl : List Int → Int,∀ l,gl l = l.length := ⟨_,fun _ => rfl⟩
 have g0 : gl [] = 0 := by rw [hg]; rfl
 have P0 : (∀ x,x ∈ ([] : List Int) ↔ IsObj R x ∧ x < 0) := fun x => ⟨fun h => (by cases h),fun ⟨h,h2⟩ => by have := obj_in hA.rows h; omega⟩
 refine callF_of_body tok Tryz.func52 (by kernel_rfl) rfl rfl rfl ?_; conv => cbv
 refine LoopF.mk (fun k s => ∃ (a j : Int) (O : List PV) (l : List Int),s = ⟨.ptr 0 (.lit 0) :: (undefs 2 ++ .sl 5 3 1 (.lit 0) (.sym j) :: .p (.int .i64 (.sym a)) :: undefs 17),[hpB 0 1 4 3 W,hpD 1 2 3 1 n 3 254 8 n,hpP 2 C,hpP 3 B,hpP 4 V,hpP 5 O],6⟩ ∧ O = ipv l ∧ j = gl l ∧ l.Pairwise (· < ·) ∧ (∀ x,x ∈ l ↔ IsObj R x ∧ x < a) ∧ 0 ≤ a ∧ a ≤ W ∧ 0 ≤ j ∧ j ≤ a ∧ k = (W - a).toNat) W.toNat _
  (Re.at [(0,0),(1,1),(2,2),(3,3),(4,4)] [5]) ⟨0,0,[],[],rfl,rfl,g0.symm,.nil,P0,by omega,by omega,by omega,by omega,by omega⟩ ?_
 clear P0 g0
 rintro k s ⟨a,j,O,l,rfl,hO,hj,hasc,hmem,ha0,ha1,hj0,hj1,hk⟩
 conv => cbv
 refine Br.mk (fun ga => ?_) (fun ga => ?_)
 ·have ga : a < W := ga
  obtain ⟨k',rfl⟩ : ∃ k',k = k' + 1 := ⟨k - 1,by omega⟩
  conv => cbv
  refine cfr (ris_lx R vs n a W C B V hC hB hV hn hR hA hW) [(0,0),(1,1),(2,2),(3,3),(4,4)] (fun r h' n' hrr => ?_)
  obtain ⟨b,e1,e2,e3,hb⟩ := hrr
  subst e1 e2 e3
  cases b with
  | false =>
   have hno : ¬ IsObj R a := fun h => by cases hb.2 h
   have hm2 : ∀ x,x ∈ l ↔ IsObj R x ∧ x < a + 1 := fun x => by
    rw [hmem x]
    constructor
    ·rintro ⟨h1,h2⟩; exact ⟨h1,by omega⟩
    ·rintro ⟨h1,h2⟩
     refine ⟨h1,?_⟩
     have : x ≠ a := fun e => hno (e ▸ h1)
     omega
   conv => cbv
   refine Fit.mk (by show (-9223372036854775808 : Int) ≤ a + 1; omega) (by show a + 1 ≤ 9223372036854775807; omega) fun a2 ha2 => ?_
   have ha2 : a2 = a + 1 := ha2
   rw [← ha2] at hm2
   conv => cbv
   refine Again.mk k' _ (Nat.lt_succ_self _) (Re.at [(0,0),(1,1),(2,2),(3,3),(4,4),(5,5)] []) ⟨a2,j,O,l,rfl,hO,hj,hasc,hm2,by omega,by omega,by omega,by omega,by omega⟩
  | true =>
   have hobj := hb.1 rfl
   have hm2 : ∀ x,x ∈ l ++ [a] ↔ IsObj R x ∧ x < a + 1 := fun x => by
    rw [List.mem_append,hmem x,List.mem_singleton]
    constructor
    ·rintro (⟨h1,h2⟩ | rfl)
     ·exact ⟨h1,by omega⟩
     ·exact ⟨hobj,by omega⟩
    ·rintro ⟨h1,h2⟩
     by_cases e : x = a
     ·exact .inr e
     ·exact .inl ⟨h1,by omega⟩
   have hasc2 : (l ++ [a]).Pairwise (· < ·) := List.pairwise_append.2 ⟨hasc,List.pairwise_singleton _ _,fun x hx y hy => by
    have := (hmem x).1 hx
    rw [List.mem_singleton.1 hy]; exact this.2⟩
   have hol : (O.length : Int) = j := by rw [hO,ipv_length,hj,hg]
   conv => cbv
   refine Room.new rfl ?_
   conv => cbv
   refine Room.new ⟨?_,?_,?_⟩ ?_
   ·show (O.length : Int) = j * 1; omega
   ·show (j + 1) * 8 ≤ 140737488355328; omega
   ·show j + 1 ≤ 9223372036854775807; omega
   conv => cbv
   refine Upd.mk fun O3 hO3 => ?_
   have hO3 : O3 = O ++ [.int .i64 (.sym a)] := hO3
   have hO3 : O3 = ipv (l ++ [a]) := by rw [hO3,hO,← ipv_app]; rfl
   conv => cbv
   refine Sum.mk fun j2 hj2 => ?_
   have hj2 : j2 = j + 1 := hj2
   have hj3 : j2 = gl (l ++ [a]) := by rw [hj2,hj,hg,hg,List.length_append]; rfl
   conv => cbv
   refine Fit.mk (by show (-9223372036854775808 : Int) ≤ a + 1; omega) (by show a + 1 ≤ 9223372036854775807; omega) fun a2 ha2 => ?_
   have ha2 : a2 = a + 1 := ha2
   rw [← ha2] at hm2
   conv => cbv
   refine Again.mk k' _ (Nat.lt_succ_self _) (Re.at [(0,0),(1,1),(2,2),(3,3),(4,4),(7,5)] []) ⟨a2,j2,O3,l ++ [a],rfl,hO3,hj3,hasc2,hm2,by omega,by omega,by omega,by omega,by omega⟩
 ·have ga : ¬ a < W := ga
  have hl : l = objsTo R R.length := objs_is hA.rows hasc fun x => by
   rw [hmem x]
   exact ⟨fun h => h.1,fun h => ⟨h,by have := obj_in hA.rows h; omega⟩⟩
  have hjm : j = m := by rw [hj,hg,hl,objs_length hA.rows,hm]
  rw [hl] at hO
  conv => cbv
  refine RetF.mk [.sl 5 3 1 (.lit 0) (.sym m)] [hpB 0 1 4 3 W,hpD 1 2 3 1 n 3 254 8 n,hpP 2 C,hpP 3 B,hpP 4 V,hpP 5 O] 6 (Re.at [(0,0),(1,1),(2,2),(3,3),(4,4),(5,5)] []) rfl ⟨O,rfl,rfl,rfl,hO⟩
theorem zer_snoc : ∀ (n : Nat) (ws : List Int) (j : Nat),zer ws j (n + 1) = (zer ws j n).set (j + n) 0
 | 0,ws,j => rfl
 | n + 1,ws,j => by
  rw [zer,zer_snoc n,zer,show j + 1 + n = j + (n + 1) by omega]
theorem rallocA_lx (kind m : Int) (R : List Rw) (vs : List Int) (n W : Int) (C B V : List PV) (hC : C = cpv R) (hB : B = bpv R) (hV : V = ipv vs) (hn : n = R.length) (hR : R.length ≤ 1000) (hA : AOk R vs) (hW : W = 32 * n) : CallF (fun _ => Tryz.prog) 168 [.ptr 0 (.lit 0),i6 kind,i6 m] [hpB 0 1 4 3 W,hpD 1 2 3 1 n 3 254 8 n,hpP 2 C,hpP 3 B,hpP 4 V] 5
  (fun r h n' => ∃ (at_ e : Int) (R' : List Rw) (vs' : List Int) (C' B' V' : List PV),r = .tup [i6 at_,i6 e] ∧ h = [hpB 0 1 4 3 W,hpD 1 2 3 1 n 3 254 8 n,hpP 2 C',hpP 3 B',hpP 4 V'] ∧ n' = 5 ∧ C' = cpv R' ∧ B' = bpv R' ∧ V' = ipv vs' ∧ AlloctV R vs kind m at_ e R' vs') := by
 have hlen := hA.len
 have hVl : V.length = vs.length := by rw [hV,ipv_length]
 refine callF_of_body tok Tryz.func168 (by kernel_rfl) rfl rfl rfl ?_; conv => cbv
 refine callF_frame (rclassOf_lx m) [] rfl trivial rfl rfl (fun r h' n' hrr => ?_)
 obtain ⟨c,b,e1,e2,e3,hO⟩ := hrr
 subst e1 e2 e3
 conv => cbv
 refine Br.mk (fun g => ?_) (fun g => ?_)
 ·have g : kind < 1 := g
  have hno : ¬ (0 ≤ m ∧ m ≤ 31 ∧ 1 ≤ kind ∧ kind ≤ 6) := fun h => by omega
  conv => cbv
  refine RetF.mk [i6 0,i6 1] [hpB 0 1 4 3 W,hpD 1 2 3 1 n 3 254 8 n,hpP 2 C,hpP 3 B,hpP 4 V] 5 (Re.at [(0,0),(1,1),(2,2),(3,3),(4,4)] []) rfl ⟨0,1,R,vs,C,B,V,rfl,rfl,rfl,hC,hB,hV,.arg hno⟩
 have g : ¬ kind < 1 := g
 conv => cbv
 refine Br.mk (fun g2 => ?_) (fun g2 => ?_)
 ·have g2 : 6 < kind := g2
  have hno : ¬ (0 ≤ m ∧ m ≤ 31 ∧ 1 ≤ kind ∧ kind ≤ 6) := fun h => by omega
  conv => cbv
  refine RetF.mk [i6 0,i6 1] [hpB 0 1 4 3 W,hpD 1 2 3 1 n 3 254 8 n,hpP 2 C,hpP 3 B,hpP 4 V] 5 (Re.at [(0,0),(1,1),(2,2),(3,3),(4,4)] []) rfl ⟨0,1,R,vs,C,B,V,rfl,rfl,rfl,hC,hB,hV,.arg hno⟩
 have g2 : ¬ 6 < kind := g2
 cases hO with
 | no hno =>
  conv => cbv
  refine RetF.mk [i6 0,i6 1] [hpB 0 1 4 3 W,hpD 1 2 3 1 n 3 254 8 n,hpP 2 C,hpP 3 B,hpP 4 V] 5 (Re.at [(0,0),(1,1),(2,2),(3,3),(4,4)] []) rfl ⟨0,1,R,vs,C,B,V,rfl,rfl,rfl,hC,hB,hV,.arg (fun h => hno ⟨h.1,h.2.1⟩)⟩
 | yes _ hc hyes =>
  have hyk : 0 ≤ m ∧ m ≤ 31 ∧ 1 ≤ kind ∧ kind ≤ 6 := by omega
  conv => cbv
  refine cfr (ralloc_lx c R n C B hC hB hn hR (rok_of hA.rows)) [(0,1),(1,2),(2,3)] (fun r h' n' hrr => ?_)
  obtain ⟨i,s,b,R2,C2,B2,e1,e2,e3,hC2,hB2,hAl⟩ := hrr
  subst e1 e2 e3
  cases b with
  | false =>
   conv => cbv
   rw [hc] at hAl
   refine RetF.mk [i6 0,i6 9] [hpB 0 1 4 3 W,hpD 1 2 3 1 n 3 254 8 n,hpP 2 C2,hpP 3 B2,hpP 4 V] 5 (Re.at [(0,0),(1,1),(2,2),(3,3),(4,4)] []) rfl ⟨0,9,R2,vs,C2,B2,V,rfl,rfl,rfl,hC2,hB2,hV,.room i s R2 hyk hAl⟩
  | true =>
   conv => cbv
   obtain ⟨hi0,hi1,hs0,hs1⟩ := alloced_in hA.rows hAl
   obtain ⟨w,hw⟩ : ∃ w,w = wordsOf c := ⟨_,rfl⟩
   have hmw : m < w ∧ w ≠ 0 := by rw [hw,hc]; exact ofN_words hyes
   have hwb := wordsOf_bd c
   rw [← hw] at hwb
   have hsw : (s.toNat : Int) * w + w ≤ 32 := by rw [hw]; exact slots_words (by rw [← hw]; exact hmw.2) (by omega)
   rw [show (s.toNat : Int) = s by omega] at hsw
   obtain ⟨sw,hsw2⟩ : ∃ sw,sw = s * w := ⟨_,rfl⟩
   have hsw0 : 0 ≤ sw := by rw [hsw2]; exact Int.mul_nonneg hs0 (by rw [hw]; exact (wordsOf_bd _).1)
   rw [← hsw2] at hsw
   refine Fit.mk (by show (-9223372036854775808 : Int) ≤ i * 32; omega) (by show i * 32 ≤ 9223372036854775807; omega) fun i32 hi32 => ?_
   have hi32 : i32 = i * 32 := hi32
   conv => cbv
   refine callF_frame (refWordsA_lx c w hw) [] rfl trivial rfl rfl (fun r h' n' ⟨e1,e2,e3⟩ => ?_)
   subst e1 e2 e3
   conv => cbv
   refine Fit.mk (by show (-9223372036854775808 : Int) ≤ s * w; rw [← hsw2]; omega) (by show s * w ≤ 9223372036854775807; rw [← hsw2]; omega) fun sw' hsw' => ?_
   have hsw' : sw' = sw := by rw [hsw2]; exact hsw'
   conv => cbv
   refine Fit.mk (by show (-9223372036854775808 : Int) ≤ i32 + sw'; omega) (by show i32 + sw' ≤ 9223372036854775807; omega) fun at_ hat => ?_
   have hat : at_ = i32 + sw' := hat
   have hat2 : at_ = 32 * i + sw := by omega
   conv => cbv
   have hloc : at_ + w ≤ W := by omega
   refine LoopF.mk (fun k st => ∃ (j : Int) (V2 : List PV),st = ⟨.ptr 0 (.lit 0) :: .p (.int .i64 (.sym kind)) :: .p (.int .i64 (.sym m)) :: (undefs 5 ++ .p (.int .i64 (.sym c)) :: (undefs 3 ++ .p (.int .i64 (.sym at_)) :: .p (.int .i64 (.sym j)) :: undefs 59)),[hpB 0 1 4 3 W,hpD 1 2 3 1 n 3 254 8 n,hpP 2 C2,hpP 3 B2,hpP 4 V2],5⟩ ∧ V2 = ipv (zer vs at_.toNat j.toNat) ∧ 0 ≤ j ∧ j ≤ w ∧ k = (w - j).toNat) w.toNat _
    (Re.at [(0,0),(1,1),(2,2),(3,3),(4,4)] []) ⟨0,V,rfl,hV,by omega,by omega,by omega⟩ ?_
   rintro k st ⟨j,V2,rfl,hV2,hj0,hj1,hk⟩
   have hV2l : V2.length = vs.length := by rw [hV2,ipv_length,zer_length]
   conv => cbv
   refine callF_frame (refWordsA_lx c w hw) [] rfl trivial rfl rfl (fun r h' n' ⟨e1,e2,e3⟩ => ?_)
   subst e1 e2 e3
   conv => cbv
   refine Br.mk (fun g3 => ?_) (fun g3 => ?_)
   ·have g3 : j < w := g3
    obtain ⟨k',rfl⟩ : ∃ k',k = k' + 1 := ⟨k - 1,by omega⟩
    obtain ⟨j2,hj2⟩ : ∃ j2,j2 = j + 1 := ⟨_,rfl⟩
    obtain ⟨V3,hV3⟩ : ∃ V3,V3 = ipv (zer vs at_.toNat j2.toNat) := ⟨_,rfl⟩
    conv => cbv
    refine Fit.mk (by show (-9223372036854775808 : Int) ≤ at_ + j; omega) (by show at_ + j ≤ 9223372036854775807; omega) fun x hx => ?_
    have hx : x = at_ + j := hx
    conv => cbv
    refine Need.mk ⟨by show 0 ≤ x; omega,by show x < W; omega⟩ ?_
    conv => cbv
    refine Need.mk (by show x + ((1 : Nat) : Int) ≤ (V2.length : Int); omega) ?_
    conv => cbv
    refine Upd.mk fun D2 hD2 => ?_
    have hle : pvles D2 V3 := by
     have hD2 : D2 = updL V2 x.toNat (repsP [.int .i64 (.lit 0)] 1) := hD2
     rw [hD2,hV3,hV2,show j2.toNat = j.toNat + 1 by omega,zer_snoc,show at_.toNat + j.toNat = x.toNat by omega]
     exact upd_zer 1 _ _ _ (pvles_self _)
    clear hD2
    unfold pvles at hle
    conv => cbv
    refine Fit.mk (by show (-9223372036854775808 : Int) ≤ j + 1; omega) (by show j + 1 ≤ 9223372036854775807; omega) fun j3 hj3 => ?_
    have hj3 : j3 = j + 1 := hj3
    obtain rfl : j3 = j2 := by omega
    conv => cbv
    refine Again.mk k' _ (Nat.lt_succ_self _) (Re.at [(0,0),(1,1),(2,2),(3,3),(4,4)] []) ⟨j3,V3,rfl,hV3,by omega,by omega,by omega⟩
   ·have g3 : ¬ j < w := g3
    have hjw : j = w := by omega
    subst hjw
    obtain ⟨V3,hV3⟩ : ∃ V3,V3 = ipv ((zer vs at_.toNat j.toNat).set at_.toNat (kind + 16 * m)) := ⟨_,rfl⟩
    have hres : AlloctV R vs kind m at_ 0 R2 ((zer vs at_.toNat j.toNat).set at_.toNat (kind + 16 * m)) := by
     rw [hw,hc]
     exact .ok i s at_ R2 hyk (hc ▸ hAl) (by rw [hat2,hsw2,hw,hc])
    conv => cbv
    refine Fit.mk (by show (-9223372036854775808 : Int) ≤ 16 * m; omega) (by show 16 * m ≤ 9223372036854775807; omega) fun x hx => ?_
    have hx : x = 16 * m := hx
    conv => cbv
    refine Fit.mk (by show (-9223372036854775808 : Int) ≤ kind + x; omega) (by show kind + x ≤ 9223372036854775807; omega) fun y hy => ?_
    have hy : y = kind + x := hy
    conv => cbv
    refine Need.mk ⟨by show 0 ≤ at_; omega,by show at_ < W; omega⟩ ?_
    conv => cbv
    refine Need.mk (by show at_ + ((1 : Nat) : Int) ≤ (V2.length : Int); omega) ?_
    conv => cbv
    refine Upd.mk fun D2 hD2 => ?_
    have hD2 : D2 = updL V2 at_.toNat [.int .i64 (.sym y)] := hD2
    have hD2 : D2 = V3 := by rw [hD2,hV2,hV3,updL_ipv,hy,hx]
    subst hD2
    conv => cbv
    refine RetF.mk [i6 at_,i6 0] [hpB 0 1 4 3 W,hpD 1 2 3 1 n 3 254 8 n,hpP 2 C2,hpP 3 B2,hpP 4 D2] 5 (Re.at [(0,0),(1,1),(2,2),(3,3),(4,4)] []) rfl ⟨at_,0,R2,_,C2,B2,D2,rfl,rfl,rfl,hC2,hB2,hV3,hres⟩
end Go.Proofs.YtjfdfbpgckilpaaGreatDoor
namespace Go.Proofs.YtjfdfbpgckilpaaGreatDoor
open Go Go.LX
set_option maxRecDepth 100000
set_option linter.unusedVariables false
set_option maxHeartbeats 32000000
theorem ipv_getx (A : List Int) (i : Nat) : (ipv A)[i]? = A[i]?.map (fun z => PV.int .i64 (.sym z)) := by rw [ipv,List.getElem?_map]
def PreI (k : IntKind) (l : List PV) (A : List Int) : Prop := ∀ (i : Nat) (x : Int),A[i]? = some x → l[i]? = some (.int k (.sym x))
theorem preI_ints (A : List Int) : PreI .i64 (ipv A) A := fun i x h => by rw [ipv_getx,h]; rfl
theorem eqi64_lx (x y : Int) :
  CallF (fun _ => Tryz.prog) 88 [i6 x,i6 y] [] 0 (fun r h n => (∃ b : Bool,r = .p (.bool b) ∧ (b = true ↔ x = y)) ∧ h = [] ∧ n = 0) := by
 refine callF_of_body tok Tryz.func88 (by kernel_rfl) rfl rfl rfl ?_; conv => cbv
 refine Br.mk (fun e => ?_) (fun e => ?_)
 ·have e : x = y := e
  conv => cbv
  refine RetF.mk [.p (.bool true)] [] 0 (Re.at [] []) rfl ⟨⟨true,rfl,by simp [e]⟩,rfl,rfl⟩
 ·have e : ¬ x = y := e
  conv => cbv
  refine RetF.mk [.p (.bool false)] [] 0 (Re.at [] []) rfl ⟨⟨false,rfl,by simp [e]⟩,rfl,rfl⟩
theorem samei64_lx (A B : List Int) (m n : Int) (la lb : List PV) (hm : m = A.length) (hn : n = B.length) (ha : PreI .i64 la A) (hb : PreI .i64 lb B) (hA : (A.length : Int) < 1000000) :
  CallF (fun _ => Tryz.prog) 87 [.p (.vsl (.sym m) true la),.p (.vsl (.sym n) true lb),.p (.fn 88)] [] 0 (fun r h n => (∃ b : Bool,r = .p (.bool b) ∧ (b = true ↔ A = B)) ∧ h = [] ∧ n = 0) := by
 refine callF_of_body tok Tryz.func87 (by kernel_rfl) rfl rfl rfl ?_; conv => cbv
 refine Br.mk (fun e1 => ?_) (fun e1 => ?_)
 ·simp only [I.val] at e1
  conv => cbv
  refine RetF.mk [.p (.bool false)] [] 0 (Re.at [] []) rfl ⟨⟨false,rfl,by simp; intro h; subst h; omega⟩,rfl,rfl⟩
 ·simp only [I.val] at e1
  conv => cbv
  have hmn : m = n := by omega
  refine LoopF.mk (fun k s => ∃ i : Int,s = ⟨.p (.vsl (.sym m) true la) :: .p (.vsl (.sym n) true lb) :: .p (.fn 88) :: .undef :: .undef :: .undef :: .undef :: .p (.int .i64 (.sym i)) :: undefs 22,[],0⟩ ∧ 0 ≤ i ∧ i ≤ m ∧ A.take i.toNat = B.take i.toNat ∧ k = (m - i).toNat) m.toNat _
   (Re.at [] []) ⟨0,rfl,by omega,by omega,rfl,by omega⟩ ?_
  rintro k s ⟨i,rfl,hi0,him,ht,hk⟩
  conv => cbv
  refine Br.mk (fun e2 => ?_) (fun e2 => ?_)
  ·simp only [I.val] at e2
   conv => cbv
   refine draw_sound tok (by kernel_rfl) rfl (by kernel_rfl) ?_
   conv => cbv
   obtain ⟨x1,hea⟩ : ∃ e,A[i.toNat]? = some e := ⟨_,List.getElem?_eq_getElem (by omega)⟩
   obtain ⟨x2,heb⟩ : ∃ e,B[i.toNat]? = some e := ⟨_,List.getElem?_eq_getElem (by omega)⟩
   have a1 := ha _ _ hea
   have b1 := hb _ _ heb
   refine Need.mk ⟨hi0,by simpa [I.val] using e2⟩ ?_
   conv => cbv
   refine Cell.at i _ a1 (by simp [I.val]) (by omega) ?_
   conv => cbv
   refine Need.mk ⟨hi0,by simp only [I.val]; omega⟩ ?_
   conv => cbv
   refine Cell.at i _ b1 (by simp [I.val]) (by omega) ?_
   conv => cbv
   refine callF_val (eqi64_lx x1 x2) (by simp [ales,ale,renVs,renV,pvle]) rfl (fun r ⟨b,hr,_⟩ => by subst hr; rfl) (fun r ⟨b,hr,he⟩ => ?_)
   subst hr
   have iff1 : b = true ↔ A[i.toNat]? = B[i.toNat]? := by rw [he,hea,heb]; simp
   cases b with
   | false =>
    conv => cbv
    refine RetF.mk [.p (.bool false)] [] 0 (Re.at [] []) rfl ⟨⟨false,rfl,by simp only [Bool.false_eq_true,false_iff]; intro h; subst h; simp at iff1⟩,rfl,rfl⟩
   | true =>
    obtain ⟨k',rfl⟩ : ∃ k',k = k' + 1 := ⟨k - 1,by omega⟩
    conv => cbv
    refine Fit.mk (by show (-9223372036854775808 : Int) ≤ i + 1; omega) (by show i + 1 ≤ 9223372036854775807; omega) ?_
    intro i2 hi2
    have hi3 : i2 = i + 1 := hi2
    clear hi2
    conv => cbv
    refine Again.mk k' _ (Nat.lt_succ_self _) (Re.at [] []) ⟨i2,rfl,by omega,by omega,?_,by omega⟩
    rw [show i2.toNat = i.toNat + 1 by omega,List.take_add_one,List.take_add_one,ht,iff1.1 rfl]
  ·simp only [I.val] at e2
   conv => cbv
   refine RetF.mk [.p (.bool true)] [] 0 (Re.at [] []) rfl ⟨⟨true,rfl,?_⟩,rfl,rfl⟩
   have : i.toNat = A.length := by omega
   rw [this,List.take_length] at ht
   rw [List.take_of_length_le (by omega)] at ht
   simp [ht]
theorem plaini64_lx (A B : List Int) (m n : Int) (la lb : List PV) (hm : m = A.length) (hn : n = B.length) (ha : PreI .i64 la A) (hb : PreI .i64 lb B) (hA : (A.length : Int) < 1000000) :
  CallF (fun _ => Tryz.prog) 35 [.p (.vsl (.sym m) true la),.p (.vsl (.sym n) true lb)] [] 0 (fun r h n => (∃ b : Bool,r = .p (.bool b) ∧ (b = true ↔ A = B)) ∧ h = [] ∧ n = 0) := by
 refine callF_of_body tok Tryz.func35 (by kernel_rfl) rfl rfl rfl ?_; conv => cbv
 refine callF_val (samei64_lx A B m n la lb hm hn ha hb hA) (by simp [ales,ale,renVs,renV,pvle,I.val]) rfl (fun r ⟨b,hr,_⟩ => by subst hr; rfl) (fun r ⟨b,hr,hb⟩ => ?_)
 subst hr
 conv => cbv
 refine RetF.mk [.p (.bool b)] [] 0 (Re.at [] []) rfl ⟨⟨b,rfl,hb⟩,rfl,rfl⟩
end Go.Proofs.YtjfdfbpgckilpaaGreatDoor
namespace Go.Proofs.YtjfdfbpgckilpaaGreatDoor
open Go Go.LX
set_option maxRecDepth 100000
set_option linter.unusedVariables false
set_option linter.unusedSimpArgs false
set_option maxHeartbeats 32000000
structure RM (R : List Rw) (vs C G : List Int) (N W : Int) (P B V Q la : List PV) (m : Int) : Prop where
 a : AOk R vs
 n : N = R.length
 r : R.length ≤ 1000
 w : W = 32 * N
 p : P = cpv R
 b : B = bpv R
 v : V = ipv vs
 q : Q = ipv C
 c : (C.length : Int) = W
 l : la = i64s G
 m : m = G.length
 g : ∀ x ∈ G,0 ≤ x ∧ x < W
 g8 : G.length ≤ 8
theorem RM.shade {R : List Rw} {vs C G C' G' : List Int} {N W m m' : Int} {P B V Q Q' la la' : List PV} {ph a : Int} {ov ov' : Bool} (h : RM R vs C G N W P B V Q la m) (hs : (C',G',ov') = Go.Proofs.YtjfdfbpgckilpaaGreatDoor.shade R ph a (C,G,ov)) (hQ : Q' = ipv C') (hl : la' = i64s G') (hm : m' = G'.length) : RM R vs C' G' N W P B V Q' la' m' := by
 unfold Go.Proofs.YtjfdfbpgckilpaaGreatDoor.shade at hs
 split at hs
 ·rename_i hc
  have hb := obj_bd h.a hc.2.1
  have hn := h.n; have hw := h.w
  split at hs
  ·rename_i h8
   have h8 : G.length < 8 := h8
   have hl8 : (G ++ [a]).length ≤ 8 := by rw [List.length_append]; show G.length + 1 ≤ 8; omega
   cases hs
   refine ⟨h.a,h.n,h.r,h.w,h.p,h.b,h.v,hQ,by rw [List.length_set]; exact h.c,hl,hm,fun x hx => ?_,hl8⟩
   rcases List.mem_append.1 hx with hx | hx
   ·exact h.g x hx
   ·rw [List.mem_singleton.1 hx]; omega
  ·cases hs
   exact ⟨h.a,h.n,h.r,h.w,h.p,h.b,h.v,hQ,by rw [List.length_set]; exact h.c,hl,hm,h.g,h.g8⟩
 ·cases hs
  exact ⟨h.a,h.n,h.r,h.w,h.p,h.b,h.v,hQ,h.c,hl,hm,h.g,h.g8⟩
theorem rIsPtr_lx (w : Int) : CallF (fun _ => Tryz.prog) 22 [i6 w] [] 0 (fun r h n => ∃ b : Bool,r = .p (.bool b) ∧ h = [] ∧ n = 0 ∧ (b = true ↔ w % 2 = 1)) := by
 refine callF_of_body tok Tryz.func22 (by kernel_rfl) rfl rfl rfl ?_; conv => cbv
 refine Sum.mk fun u hu => ?_
 have hu : u = w % 2 := hu.trans (and1_bv w)
 conv => cbv
 refine Br.mk (fun g => ?_) (fun g => ?_)
 ·have g : u = 1 := g
  conv => cbv
  refine RetF.mk [.p (.bool true)] [] 0 (Re.at [] []) rfl ⟨true,rfl,rfl,rfl,fun _ => (by omega),fun _ => rfl⟩
 ·have g : ¬ u = 1 := g
  conv => cbv
  refine RetF.mk [.p (.bool false)] [] 0 (Re.at [] []) rfl ⟨false,rfl,rfl,rfl,fun k => (by cases k),fun k => absurd k (by omega)⟩
theorem rAt_lx (w : Int) (hw : -9223372036854775808 ≤ w ∧ w ≤ 9223372036854775807) : CallF (fun _ => Tryz.prog) 109 [i6 w] [] 0 (fun r h n => ∃ x : Int,r = .p (.int .i64 (.sym x)) ∧ h = [] ∧ n = 0 ∧ (w % 2 = 1 → x = (w - 1) / 2) ∧ (¬ w % 2 = 1 → x = -1)) := by
 refine callF_of_body tok Tryz.func109 (by kernel_rfl) rfl rfl rfl ?_; conv => cbv
 refine callF_frame (rIsPtr_lx w) [] rfl trivial rfl rfl (fun r h' n' hrr => ?_)
 obtain ⟨b,e1,e2,e3,hb⟩ := hrr
 subst e1 e2 e3
 cases b with
 | false =>
  have hb : ¬ w % 2 = 1 := fun k => by have := hb.2 k; cases this
  conv => cbv
  refine RetF.mk [i6 (-1)] [] 0 (Re.at [] []) rfl ⟨-1,rfl,rfl,rfl,fun k => absurd k hb,fun _ => rfl⟩
 | true =>
  have hb : w % 2 = 1 := hb.1 rfl
  conv => cbv
  refine Fit.mk (by show (-9223372036854775808 : Int) ≤ w - 1; omega) (by show w - 1 ≤ 9223372036854775807; omega) fun v hv => ?_
  have hv : v = w - 1 := hv
  have hdv : v.tdiv 2 = (w - 1) / 2 := by rw [hv]; exact Int.tdiv_eq_ediv_of_dvd (by omega)
  conv => cbv
  refine Fit.mk (by show (-9223372036854775808 : Int) ≤ v.tdiv 2; omega) (by show v.tdiv 2 ≤ 9223372036854775807; omega) fun y hy => ?_
  have hy : y = (w - 1) / 2 := hy.trans hdv
  conv => cbv
  refine RetF.mk [i6 y] [] 0 (Re.at [] []) rfl ⟨y,rfl,rfl,rfl,fun _ => hy,fun k => absurd hb k⟩
theorem rshade_lx (R : List Rw) (vs C G : List Int) (N W ph sp cy : Int) (P B V Q la : List PV) (m : Int) (ov : Bool) (h : RM R vs C G N W P B V Q la m) (a : Int) : CallF (fun _ => Tryz.prog) 83 [.ptr 0 (.lit 0),i6 a] [hpR 0 1 6 3 W 7 ph sp cy,hpB 1 2 5 3 W,hpD 2 3 3 1 N 4 254 8 N,hpP 3 P,hpP 4 B,hpP 5 V,hpP 6 Q,(7,.mix [.p (.vsl (.sym m) true la),.p (.bool ov)])] 8 (fun r h n => ∃ (C' G' : List Int) (ov' : Bool) (Q' la' : List PV) (m' : Int),r = .tup [] ∧ h = [hpR 0 1 6 3 W 7 ph sp cy,hpB 1 2 5 3 W,hpD 2 3 3 1 N 4 254 8 N,hpP 3 P,hpP 4 B,hpP 5 V,hpP 6 Q',(7,.mix [.p (.vsl (.sym m') true la'),.p (.bool ov')])] ∧ n = 8 ∧ RM R vs C' G' N W P B V Q' la' m' ∧ (C',G',ov') = shade R ph a (C,G,ov)) := by
 have hCl := h.c; have hWn := h.w; have hNr := h.n; have hRr := h.r
 have hQl : Q.length = C.length := by rw [h.q,ipv_length]
 refine callF_of_body tok Tryz.func83 (by kernel_rfl) rfl rfl rfl ?_; conv => cbv
 refine Br.mk (fun g => ?_) (fun g => ?_)
 ·have g : ph = 1 := g
  conv => cbv
  refine cfr (ris_lx R vs N a W P B V h.p h.b h.v h.n h.r h.a h.w) [(0,1),(1,2),(2,3),(3,4),(4,5)] (fun r h' n' hrr => ?_)
  obtain ⟨b,e1,e2,e3,hb⟩ := hrr
  subst e1 e2 e3
  cases b with
  | false =>
   conv => cbv
   refine RetF.mk [] [hpR 0 1 6 3 W 7 ph sp cy,hpB 1 2 5 3 W,hpD 2 3 3 1 N 4 254 8 N,hpP 3 P,hpP 4 B,hpP 5 V,hpP 6 Q,(7,.mix [.p (.vsl (.sym m) true la),.p (.bool ov)])] 8 (Re.at [(0,0),(1,1),(2,2),(3,3),(4,4),(5,5),(6,6),(7,7)] []) rfl ⟨C,G,ov,Q,la,m,rfl,rfl,rfl,h,by unfold Go.Proofs.YtjfdfbpgckilpaaGreatDoor.shade; rw [if_neg (fun k => by have := hb.2 ((obj_iff h.a a).1 k.2.1); cases this)]⟩
  | true =>
   have hob : a ∈ objs R := (obj_iff h.a a).2 (hb.1 rfl)
   have hbd := obj_bd h.a hob
   obtain ⟨x,hx⟩ : ∃ x,C[a.toNat]? = some x := ⟨_,List.getElem?_eq_getElem (by omega)⟩
   have hq : Q[a.toNat]? = some (.int .i64 (.sym x)) := by rw [h.q]; exact ipv_get hx
   conv => cbv
   refine Need.mk ⟨by show 0 ≤ a; omega,by show a < W; omega⟩ ?_
   conv => cbv
   refine Cell.at a _ hq (by simp [I.val]) rfl ?_
   conv => cbv
   refine Br.mk (fun g2 => ?_) (fun g2 => ?_)
   ·have g2 : x = 0 := g2
    conv => cbv
    refine Need.mk ⟨by show 0 ≤ a; omega,by show a < W; omega⟩ ?_
    conv => cbv
    obtain ⟨Q3,hQ3⟩ : ∃ Q3,Q3 = ipv (C.set a.toNat 1) := ⟨_,rfl⟩
    refine Need.mk (by show a + 1 ≤ (Q.length : Int); omega) ?_
    conv => cbv
    refine Upd.mk fun Q2 hQ2 => ?_
    have hle : pvles Q2 Q3 := by
     have hQ2 : Q2 = Q.set a.toNat (.int .i64 (.lit 1)) := hQ2
     rw [hQ2,hQ3,h.q,← ipv_set]
     exact pvles_set _ _ _ _ _ (pvles_refl _) (by simp [pvle,I.val])
    unfold pvles at hle
    clear hQ2
    conv => cbv
    refine cfr (refPush_lx G a m la ov h.m h.l h.g8) [(0,7)] (fun r h' n' hrr => ?_)
    obtain ⟨b2,ov',m',la',G',e1,e2,e3,hm',hl',hp1,hp2⟩ := hrr
    subst e1 e2 e3
    have hsh : (C.set a.toNat 1,G',ov') = Go.Proofs.YtjfdfbpgckilpaaGreatDoor.shade R ph a (C,G,ov) := by
     unfold Go.Proofs.YtjfdfbpgckilpaaGreatDoor.shade
     rw [if_pos ⟨g,hob,by rw [hx,g2]⟩]
     dsimp only
     split
     ·obtain ⟨_,q1,q2⟩ := hp1 (by assumption)
      rw [q1,q2]
     ·obtain ⟨_,q1,q2⟩ := hp2 (by omega)
      rw [q1,q2]
    conv => cbv
    refine RetF.mk [] [hpR 0 1 6 3 W 7 ph sp cy,hpB 1 2 5 3 W,hpD 2 3 3 1 N 4 254 8 N,hpP 3 P,hpP 4 B,hpP 5 V,hpP 6 Q3,(7,.mix [.p (.vsl (.sym m') true la'),.p (.bool ov')])] 8 (Re.at [(0,0),(1,1),(2,2),(3,3),(4,4),(5,5),(6,6),(7,7)] []) rfl ⟨_,G',ov',Q3,la',m',rfl,rfl,rfl,h.shade hsh hQ3 hl' hm',hsh⟩
   ·have g2 : ¬ x = 0 := g2
    conv => cbv
    refine RetF.mk [] [hpR 0 1 6 3 W 7 ph sp cy,hpB 1 2 5 3 W,hpD 2 3 3 1 N 4 254 8 N,hpP 3 P,hpP 4 B,hpP 5 V,hpP 6 Q,(7,.mix [.p (.vsl (.sym m) true la),.p (.bool ov)])] 8 (Re.at [(0,0),(1,1),(2,2),(3,3),(4,4),(5,5),(6,6),(7,7)] []) rfl ⟨C,G,ov,Q,la,m,rfl,rfl,rfl,h,by unfold Go.Proofs.YtjfdfbpgckilpaaGreatDoor.shade; rw [if_neg (fun k => g2 (Option.some.inj (hx.symm.trans k.2.2)))]⟩
 ·have g : ¬ ph = 1 := g
  conv => cbv
  refine RetF.mk [] [hpR 0 1 6 3 W 7 ph sp cy,hpB 1 2 5 3 W,hpD 2 3 3 1 N 4 254 8 N,hpP 3 P,hpP 4 B,hpP 5 V,hpP 6 Q,(7,.mix [.p (.vsl (.sym m) true la),.p (.bool ov)])] 8 (Re.at [(0,0),(1,1),(2,2),(3,3),(4,4),(5,5),(6,6),(7,7)] []) rfl ⟨C,G,ov,Q,la,m,rfl,rfl,rfl,h,by unfold Go.Proofs.YtjfdfbpgckilpaaGreatDoor.shade; rw [if_neg (fun k => g k.1)]⟩
theorem RM.stored {R : List Rw} {vs vs' C G : List Int} {N W m : Int} {P B V V' Q la : List PV} {a i x e : Int} (h : RM R vs C G N W P B V Q la m) (hx : -9223372036854775808 ≤ x ∧ x ≤ 9223372036854775807) (hs : Stored R vs a i x e vs') (hV : V' = ipv vs') : RM R vs' C G N W P B V' Q la m :=
 ⟨h.a.stored hx hs,h.n,h.r,h.w,h.p,h.b,hV,h.q,h.c,h.l,h.m,h.g,h.g8⟩
theorem rstore9_lx (R : List Rw) (vs C G : List Int) (N W ph sp cy : Int) (P B V Q la : List PV) (m : Int) (ov : Bool) (h : RM R vs C G N W P B V Q la m) (a i x : Int) (hx : -9223372036854775808 ≤ x ∧ x ≤ 9223372036854775807) : CallF (fun _ => Tryz.prog) 82 [.ptr 0 (.lit 0),i6 a,i6 i,i6 x] [hpR 0 1 6 3 W 7 ph sp cy,hpB 1 2 5 3 W,hpD 2 3 3 1 N 4 254 8 N,hpP 3 P,hpP 4 B,hpP 5 V,hpP 6 Q,(7,.mix [.p (.vsl (.sym m) true la),.p (.bool ov)])] 8 (fun r h n => ∃ (e : Int) (vs' C' G' : List Int) (ov' : Bool) (V' Q' la' : List PV) (m' : Int),r = .p (.int .i64 (.sym e)) ∧ h = [hpR 0 1 6 3 W 7 ph sp cy,hpB 1 2 5 3 W,hpD 2 3 3 1 N 4 254 8 N,hpP 3 P,hpP 4 B,hpP 5 V',hpP 6 Q',(7,.mix [.p (.vsl (.sym m') true la'),.p (.bool ov')])] ∧ n = 8 ∧ RM R vs' C' G' N W P B V' Q' la' m' ∧ Stored R vs a i x e vs' ∧ (C',G',ov') = storeS R ph e x (C,G,ov)) := by
 refine callF_of_body tok Tryz.func82 (by kernel_rfl) rfl rfl rfl ?_; conv => cbv
 refine cfr (rstore_lx i x R vs N a W P B V h.p h.b h.v h.n h.r h.a h.w) [(0,1),(1,2),(2,3),(3,4),(4,5)] (fun r h' n' hrr => ?_)
 obtain ⟨e,vs',V',e1,e2,e3,hV',hT⟩ := hrr
 subst e1 e2 e3
 conv => cbv
 have h2 := h.stored hx hT hV'
 refine Br.mk (fun g => ?_) (fun g => ?_)
 ·have g : e = 0 := g
  conv => cbv
  refine callF_frame (rIsPtr_lx x) [] rfl trivial rfl rfl (fun r h' n' hrr => ?_)
  obtain ⟨b,e1,e2,e3,hb⟩ := hrr
  subst e1 e2 e3
  cases b with
  | false =>
   have hb : ¬ x % 2 = 1 := fun k => by have := hb.2 k; cases this
   conv => cbv
   refine RetF.mk [i6 e] [hpR 0 1 6 3 W 7 ph sp cy,hpB 1 2 5 3 W,hpD 2 3 3 1 N 4 254 8 N,hpP 3 P,hpP 4 B,hpP 5 V',hpP 6 Q,(7,.mix [.p (.vsl (.sym m) true la),.p (.bool ov)])] 8 (Re.at [(0,0),(1,1),(2,2),(3,3),(4,4),(5,5),(6,6),(7,7)] []) rfl ⟨e,vs',C,G,ov,V',Q,la,m,rfl,rfl,rfl,h2,hT,by unfold storeS shadeW; rw [if_pos g,if_neg hb]⟩
  | true =>
   have hb : x % 2 = 1 := hb.1 rfl
   conv => cbv
   refine callF_frame (rAt_lx x hx) [] rfl trivial rfl rfl (fun r h' n' hrr => ?_)
   obtain ⟨y,e1,e2,e3,hy,_⟩ := hrr
   subst e1 e2 e3
   have hy := hy hb
   conv => cbv
   refine cfr (rshade_lx R vs' C G N W ph sp cy P B V' Q la m ov h2 y) [(0,0),(1,1),(2,2),(3,3),(4,4),(5,5),(6,6),(7,7)] (fun r h' n' hrr => ?_)
   obtain ⟨C',G',ov',Q',la',m',e1,e2,e3,h3,hs⟩ := hrr
   subst e1 e2 e3
   conv => cbv
   refine RetF.mk [i6 e] [hpR 0 1 6 3 W 7 ph sp cy,hpB 1 2 5 3 W,hpD 2 3 3 1 N 4 254 8 N,hpP 3 P,hpP 4 B,hpP 5 V',hpP 6 Q',(7,.mix [.p (.vsl (.sym m') true la'),.p (.bool ov')])] 8 (Re.at [(0,0),(1,1),(2,2),(3,3),(4,4),(5,5),(6,6),(7,7)] []) rfl ⟨e,vs',C',G',ov',V',Q',la',m',rfl,rfl,rfl,h3,hT,by unfold storeS shadeW; rw [if_pos g,if_pos hb,← hy]; exact hs⟩
 ·have g : ¬ e = 0 := g
  conv => cbv
  refine RetF.mk [i6 e] [hpR 0 1 6 3 W 7 ph sp cy,hpB 1 2 5 3 W,hpD 2 3 3 1 N 4 254 8 N,hpP 3 P,hpP 4 B,hpP 5 V',hpP 6 Q,(7,.mix [.p (.vsl (.sym m) true la),.p (.bool ov)])] 8 (Re.at [(0,0),(1,1),(2,2),(3,3),(4,4),(5,5),(6,6),(7,7)] []) rfl ⟨e,vs',C,G,ov,V',Q,la,m,rfl,rfl,rfl,h2,hT,by unfold storeS; rw [if_neg g]⟩
theorem rwords9_lx (R : List Rw) (vs C G : List Int) (N W ph sp cy : Int) (P B V Q la : List PV) (m : Int) (ov : Bool) (h : RM R vs C G N W P B V Q la m) (a : Int) : CallF (fun _ => Tryz.prog) 108 [.ptr 0 (.lit 0),i6 a] [hpR 0 1 6 3 W 7 ph sp cy,hpB 1 2 5 3 W,hpD 2 3 3 1 N 4 254 8 N,hpP 3 P,hpP 4 B,hpP 5 V,hpP 6 Q,(7,.mix [.p (.vsl (.sym m) true la),.p (.bool ov)])] 8 (fun r h n => ∃ (X : List Int) (k : Int) (O : List PV),r = .sl 8 3 1 (.lit 0) (.sym k) ∧ h = [hpR 0 1 6 3 W 7 ph sp cy,hpB 1 2 5 3 W,hpD 2 3 3 1 N 4 254 8 N,hpP 3 P,hpP 4 B,hpP 5 V,hpP 6 Q,(7,.mix [.p (.vsl (.sym m) true la),.p (.bool ov)]),hpP 8 O] ∧ n = 9 ∧ O = ipv X ∧ k = X.length ∧ Wrds R vs a X) := by
 have hVl : V.length = vs.length := by rw [h.v,ipv_length]
 have hWn := h.w; have hNr := h.n; have hRr := h.r
 have hlen := h.a.len
 obtain ⟨v,hv⟩ : ∃ v,LenR R vs a v := by
  by_cases ho : IsObj R a
  ·obtain ⟨k,l,hk⟩ := Kept.of h.a ho; exact ⟨l,.is k l hk⟩
  ·exact ⟨0,.no ho⟩
 obtain ⟨X,hX,hvX,hX31⟩ := wrds_ex h.a hv
 refine callF_of_body tok Tryz.func108 (by kernel_rfl) rfl rfl rfl ?_; conv => cbv
 refine LoopF.mk (fun k s => ∃ (i : Int) (O : List PV),s = ⟨.ptr 0 (.lit 0) :: .p (.int .i64 (.sym a)) :: (undefs 3 ++ .sl 8 3 1 (.lit 0) (.sym i) :: .p (.int .i64 (.sym i)) :: undefs 27),[hpR 0 1 6 3 W 7 ph sp cy,hpB 1 2 5 3 W,hpD 2 3 3 1 N 4 254 8 N,hpP 3 P,hpP 4 B,hpP 5 V,hpP 6 Q,(7,.mix [.p (.vsl (.sym m) true la),.p (.bool ov)]),hpP 8 O],9⟩ ∧ 0 ≤ i ∧ i ≤ v ∧ O = ipv (X.take i.toNat) ∧ k = (v - i).toNat) v.toNat _
  (Re.at [(0,0),(1,1),(2,2),(3,3),(4,4),(5,5),(6,6),(7,7)] [8]) ⟨0,[],rfl,by omega,by omega,by simp [ipv],by omega⟩ ?_
 rintro k s ⟨i,O,rfl,hi0,hi1,hO,hk⟩
 have hOl : (O.length : Int) = i := by rw [hO,ipv_length,List.length_take]; omega
 conv => cbv
 refine cfr (rlen_lx R vs N a W P B V h.p h.b h.v h.n h.r h.a h.w) [(0,1),(1,2),(2,3),(3,4),(4,5)] (fun r h' n' hrr => ?_)
 obtain ⟨v2,e1,e2,e3,hv2⟩ := hrr
 subst e1 e2 e3
 obtain rfl : v2 = v := by
  cases hv with
  | no hn => cases hv2 with
   | no _ => rfl
   | is k l hk => exact absurd hk.obj6 hn
  | is k l hk => cases hv2 with
   | no hn => exact absurd hk.obj6 hn
   | is k' l' hk' => exact (hk'.det9 hk).2
 conv => cbv
 refine Br.mk (fun gi => ?_) (fun gi => ?_)
 ·have gi : i < v2 := gi
  obtain ⟨k',rfl⟩ : ∃ k',k = k' + 1 := ⟨k - 1,by omega⟩
  obtain ⟨x0,hx0⟩ : ∃ x0,X[i.toNat]? = some x0 := ⟨_,List.getElem?_eq_getElem (by omega)⟩
  have hld := hX.2 _ _ hx0
  rw [show ((i.toNat : Nat) : Int) = i by omega] at hld
  obtain ⟨hab,hxv⟩ : (0 ≤ a ∧ a + 1 + v2 ≤ W) ∧ vs[(a + 1 + i).toNat]? = some x0 := by
   cases hld with
   | ok k0 l0 _ hK hi hx =>
    have hb := hK.bounds h.a
    have : l0 = v2 := by
     clear hX hvX hO hOl
     cases hv with
     | no hn => exact absurd hK.obj6 hn
     | is k' l' hK' => exact (hK.det9 hK').2
    exact ⟨⟨by omega,by omega⟩,hx⟩
  have hq : V[(a + 1 + i).toNat]? = some (.int .i64 (.sym x0)) := by rw [h.v]; exact ipv_get hxv
  conv => cbv
  refine Fit.mk (by show (-9223372036854775808 : Int) ≤ a + 1; omega) (by show a + 1 ≤ 9223372036854775807; omega) fun a1 ha1 => ?_
  have ha1 : a1 = a + 1 := ha1
  conv => cbv
  refine Fit.mk (by show (-9223372036854775808 : Int) ≤ a1 + i; omega) (by show a1 + i ≤ 9223372036854775807; omega) fun a2 ha2 => ?_
  have ha2 : a2 = a1 + i := ha2
  rw [show (a + 1 + i).toNat = a2.toNat by omega] at hq
  conv => cbv
  refine Need.mk ⟨by show 0 ≤ a2; omega,by show a2 < W; omega⟩ ?_
  conv => cbv
  refine Cell.at a2 _ hq (by simp [I.val]) rfl ?_
  conv => cbv
  refine Room.new rfl ?_
  conv => cbv
  refine Room.new ⟨?_,?_,?_⟩ ?_
  ·show (O.length : Int) = i * 1; omega
  ·show (i + 1) * 8 ≤ 140737488355328; omega
  ·show i + 1 ≤ 9223372036854775807; omega
  conv => cbv
  refine Upd.mk fun O3 hO3 => ?_
  have hO3 : O3 = O ++ [.int .i64 (.sym x0)] := hO3
  have hO3 : O3 = ipv (X.take (i.toNat + 1)) := by
   rw [hO3,hO,List.take_add_one,hx0]
   simp [ipv]
  conv => cbv
  refine Sum.mk fun j2 hj2 => ?_
  have hj2 : j2 = i + 1 := hj2
  conv => cbv
  refine Fit.mk (by show (-9223372036854775808 : Int) ≤ i + 1; omega) (by show i + 1 ≤ 9223372036854775807; omega) fun i2 hi2 => ?_
  have hi2 : i2 = i + 1 := hi2
  obtain rfl : j2 = i2 := by omega
  have htt : j2.toNat = i.toNat + 1 := by omega
  rw [← htt] at hO3
  conv => cbv
  refine Again.mk k' _ (Nat.lt_succ_self _) (Re.at [(0,0),(1,1),(2,2),(3,3),(4,4),(5,5),(6,6),(7,7),(10,8)] []) ⟨j2,O3,rfl,by omega,by omega,hO3,by omega⟩
 ·have gi : ¬ i < v2 := gi
  obtain rfl : i = v2 := by omega
  have hOX : O = ipv X := by rw [hO,List.take_of_length_le (by omega)]
  conv => cbv
  refine RetF.mk [.sl 8 3 1 (.lit 0) (.sym i)] [hpR 0 1 6 3 W 7 ph sp cy,hpB 1 2 5 3 W,hpD 2 3 3 1 N 4 254 8 N,hpP 3 P,hpP 4 B,hpP 5 V,hpP 6 Q,(7,.mix [.p (.vsl (.sym m) true la),.p (.bool ov)]),hpP 8 O] 9 (Re.at [(0,0),(1,1),(2,2),(3,3),(4,4),(5,5),(6,6),(7,7),(8,8)] []) rfl ⟨X,i,O,rfl,rfl,rfl,hOX,hvX,hX⟩
theorem alloctV_gen9 {R R' : List Rw} {vs vs' : List Int} {kind n a e : Int} (hA : AOk R vs) (h : AlloctV R vs kind n a e R' vs') :
  AOk R' vs' ∧ R'.length = R.length ∧ ((e ≠ 0 ∧ a = 0 ∧ R' = R ∧ vs' = vs) ∨ (e = 0 ∧ (0 ≤ n ∧ n ≤ 31 ∧ 1 ≤ kind ∧ kind ≤ 6) ∧ Kept R' vs' a kind n ∧ (∀ b k l,Kept R vs b k l → Kept R' vs' b k l ∧ b ≠ a ∧ ∀ i,0 ≤ i → i < l → vs'[(b + 1 + i).toNat]? = vs[(b + 1 + i).toNat]?) ∧ (∀ b,IsObj R' b → b = a ∨ IsObj R b))) := by
 cases h with
 | arg h => exact ⟨hA,rfl,.inl ⟨by decide,rfl,rfl,rfl⟩⟩
 | room i s R' hc ha =>
  obtain ⟨rfl,_⟩ := full_count hA.rows (ofN_slots n) ha
  exact ⟨hA,rfl,.inl ⟨by decide,rfl,rfl,rfl⟩⟩
 | ok i s _ R' hc ha hat =>
  obtain ⟨w,hw⟩ : ∃ w,w = wordsOf (ofN n) := ⟨_,rfl⟩
  obtain ⟨q1,q2,q3,q4,q5⟩ := alloc_objs hA.rows ha a w hat hw
  have hobj : ObjAt R' a w := (q5 _ _).2 (.inr ⟨rfl,rfl⟩)
  obtain ⟨f1,f2,f3,_⟩ := hobj.facts q1
  have hnw : n < w := by rw [hw]; exact (ofN_words ⟨hc.1,hc.2.1⟩).1
  have hlv := hA.len
  have gv : ∀ j : Nat,j < vs.length → j ≠ a.toNat → ((zer vs a.toNat (wordsOf (ofN n)).toNat).set a.toNat (kind + 16 * n))[j]? = if a.toNat ≤ j ∧ j < a.toNat + (wordsOf (ofN n)).toNat then some 0 else vs[j]? := fun j hj hne => by
   rw [List.getElem?_set_ne (fun e => hne e.symm),zer_get _ _ _ _ hj]
  rw [← hw] at gv ⊢
  have farv : ∀ j : Nat,(j : Int) < a ∨ a + w ≤ j → ((zer vs a.toNat w.toNat).set a.toNat (kind + 16 * n))[j]? = vs[j]? := fun j hj => by
   by_cases hjl : j < vs.length
   ·rw [gv j hjl (by omega),if_neg (by omega)]
   ·rw [List.getElem?_eq_none (by rw [List.length_set,zer_length]; omega),List.getElem?_eq_none (by omega)]
  have hbdv : ∀ x ∈ (zer vs a.toNat w.toNat).set a.toNat (kind + 16 * n),-9223372036854775808 ≤ x ∧ x ≤ 9223372036854775807 := by
   intro x hx
   rcases List.mem_or_eq_of_mem_set hx with hx | rfl
   ·obtain ⟨j,hj⟩ := List.getElem?_of_mem hx
    have hjl : j < vs.length := by have := (List.getElem?_eq_some_iff.1 hj).1; rw [zer_length] at this; exact this
    rw [zer_get _ _ _ _ hjl] at hj
    split at hj
    ·cases hj; omega
    ·exact hA.bd x (List.mem_of_getElem? hj)
   ·omega
  obtain ⟨r1,r2,r3,r4⟩ := alloc_gen hA hc ha hat hw (by rw [List.length_set,zer_length]) (by rw [List.getElem?_set_self (by rw [zer_length]; omega)]) farv hbdv
  exact ⟨r1,q2,.inr ⟨rfl,hc,r2,r3,r4⟩⟩
theorem RM.alloct {R R' : List Rw} {vs vs' C C' G : List Int} {N W m : Int} {P P' B B' V V' Q Q' la : List PV} {kind n a e : Int} (h : RM R vs C G N W P B V Q la m) (hs : AlloctV R vs kind n a e R' vs') (hP : P' = cpv R') (hB : B' = bpv R') (hV : V' = ipv vs') (hC : C'.length = C.length) (hQ : Q' = ipv C') : RM R' vs' C' G N W P' B' V' Q' la m := by
 obtain ⟨h1,h2,_⟩ := alloctV_gen9 h.a hs
 exact ⟨h1,by rw [h2]; exact h.n,by rw [h2]; exact h.r,h.w,hP,hB,hV,hQ,by rw [hC]; exact h.c,h.l,h.m,h.g,h.g8⟩
theorem ralloc9_lx (R : List Rw) (vs C G : List Int) (N W ph sp cy : Int) (P B V Q la : List PV) (m : Int) (ov : Bool) (h : RM R vs C G N W P B V Q la m) (kind mm : Int) : CallF (fun _ => Tryz.prog) 103 [.ptr 0 (.lit 0),i6 kind,i6 mm] [hpR 0 1 6 3 W 7 ph sp cy,hpB 1 2 5 3 W,hpD 2 3 3 1 N 4 254 8 N,hpP 3 P,hpP 4 B,hpP 5 V,hpP 6 Q,(7,.mix [.p (.vsl (.sym m) true la),.p (.bool ov)])] 8 (fun r h n => ∃ (a e : Int) (R' : List Rw) (vs' C' : List Int) (P' B' V' Q' : List PV),r = .tup [i6 a,i6 e] ∧ h = [hpR 0 1 6 3 W 7 ph sp cy,hpB 1 2 5 3 W,hpD 2 3 3 1 N 4 254 8 N,hpP 3 P',hpP 4 B',hpP 5 V',hpP 6 Q',(7,.mix [.p (.vsl (.sym m) true la),.p (.bool ov)])] ∧ n = 8 ∧ RM R' vs' C' G N W P' B' V' Q' la m ∧ AlloctV R vs kind mm a e R' vs' ∧ C' = allocC ph a e C) := by
 have hCl := h.c; have hWn := h.w; have hNr := h.n; have hRr := h.r
 have hQl : Q.length = C.length := by rw [h.q,ipv_length]
 refine callF_of_body tok Tryz.func103 (by kernel_rfl) rfl rfl rfl ?_; conv => cbv
 refine cfr (rallocA_lx kind mm R vs N W P B V h.p h.b h.v h.n h.r h.a h.w) [(0,1),(1,2),(2,3),(3,4),(4,5)] (fun r h' n' hrr => ?_)
 obtain ⟨a,e,R',vs',P',B',V',e1,e2,e3,hP',hB',hV',hT⟩ := hrr
 subst e1 e2 e3
 conv => cbv
 have hgen := alloctV_gen9 h.a hT
 refine Br.mk (fun g => ?_) (fun g => ?_)
 ·have g : e ≠ 0 := g
  have ha0 : a = 0 := by
   rcases hgen.2.2 with h | h
   ·exact h.2.1
   ·exact absurd h.1 g
  conv => cbv
  refine RetF.mk [i6 a,i6 e] [hpR 0 1 6 3 W 7 ph sp cy,hpB 1 2 5 3 W,hpD 2 3 3 1 N 4 254 8 N,hpP 3 P',hpP 4 B',hpP 5 V',hpP 6 Q,(7,.mix [.p (.vsl (.sym m) true la),.p (.bool ov)])] 8 (Re.at [(0,0),(1,1),(2,2),(3,3),(4,4),(5,5),(6,6),(7,7)] []) rfl ⟨a,e,R',vs',C,P',B',V',Q,rfl,rfl,rfl,h.alloct hT hP' hB' hV' rfl h.q,hT,by unfold allocC; rw [if_neg g]⟩
 ·have g : ¬ e ≠ 0 := g
  have g : e = 0 := by omega
  have hA1 := hgen.1
  have hlR := hgen.2.1
  have hb : 0 ≤ a ∧ a < W := by
   rcases hgen.2.2 with h | h
   ·exact absurd g h.1
   ·have h1 := (h.2.2.1).bounds hA1
    omega
  obtain ⟨C',hC'⟩ : ∃ C',C' = allocC ph a e C := ⟨_,rfl⟩
  obtain ⟨Q',hQ'⟩ : ∃ Q',Q' = ipv C' := ⟨_,rfl⟩
  have hfin := h.alloct hT hP' hB' hV' (by rw [hC']; exact allocC_length _ _ _ _) hQ'
  conv => cbv
  refine Need.mk ⟨by show 0 ≤ a; omega,by show a < W; omega⟩ ?_
  conv => cbv
  refine Need.mk (by show a + 1 ≤ (Q.length : Int); omega) ?_
  conv => cbv
  refine Upd.mk fun Q2 hQ2 => ?_
  have hQ2 : Q2 = Q.set a.toNat (.int .i64 (.lit 0)) := hQ2
  conv => cbv
  refine Br.mk (fun gp => ?_) (fun gp => ?_)
  ·have gp : ph ≠ 0 := gp
   conv => cbv
   refine Need.mk ⟨by show 0 ≤ a; omega,by show a < W; omega⟩ ?_
   conv => cbv
   refine Need.mk (by show a + 1 ≤ (Q2.length : Int); rw [hQ2,List.length_set]; omega) ?_
   conv => cbv
   refine Upd.mk fun Q3 hQ3 => ?_
   have hle : pvles Q3 Q' := by
    have hQ3 : Q3 = Q2.set a.toNat (.int .i64 (.lit 2)) := hQ3
    rw [hQ3,hQ2,hQ',hC',allocC,if_pos g,if_neg gp,h.q,← ipv_set,List.set_set]
    exact pvles_set _ _ _ _ _ (pvles_refl _) (by simp [pvle,I.val])
   unfold pvles at hle
   clear hQ3 hQ2
   conv => cbv
   refine RetF.mk [i6 a,i6 e] [hpR 0 1 6 3 W 7 ph sp cy,hpB 1 2 5 3 W,hpD 2 3 3 1 N 4 254 8 N,hpP 3 P',hpP 4 B',hpP 5 V',hpP 6 Q',(7,.mix [.p (.vsl (.sym m) true la),.p (.bool ov)])] 8 (Re.at [(0,0),(1,1),(2,2),(3,3),(4,4),(5,5),(6,6),(7,7)] []) rfl ⟨a,e,R',vs',C',P',B',V',Q',rfl,rfl,rfl,hfin,hT,hC'⟩
  ·have gp : ¬ ph ≠ 0 := gp
   have gp : ph = 0 := by omega
   have hle : pvles Q2 Q' := by
    rw [hQ2,hQ',hC',allocC,if_pos g,if_pos gp,h.q,← ipv_set]
    exact pvles_set _ _ _ _ _ (pvles_refl _) (by simp [pvle,I.val])
   unfold pvles at hle
   clear hQ2
   conv => cbv
   refine RetF.mk [i6 a,i6 e] [hpR 0 1 6 3 W 7 ph sp cy,hpB 1 2 5 3 W,hpD 2 3 3 1 N 4 254 8 N,hpP 3 P',hpP 4 B',hpP 5 V',hpP 6 Q',(7,.mix [.p (.vsl (.sym m) true la),.p (.bool ov)])] 8 (Re.at [(0,0),(1,1),(2,2),(3,3),(4,4),(5,5),(6,6),(7,7)] []) rfl ⟨a,e,R',vs',C',P',B',V',Q',rfl,rfl,rfl,hfin,hT,hC'⟩
theorem rbegin_lx (R : List Rw) (vs C G : List Int) (N W ph sp cy : Int) (P B V Q la : List PV) (m : Int) (ov : Bool) (h : RM R vs C G N W P B V Q la m) (A : List Int) (k : Int) (rs : List PV) (hrs : rs = ipv A) (hk : k = A.length) (hA : (A.length : Int) < 1000000) (hph : ph = 0) : CallF (fun _ => Tryz.prog) 29 [.ptr 0 (.lit 0),.p (.vsl (.sym k) true rs)] [hpR 0 1 6 3 W 7 ph sp cy,hpB 1 2 5 3 W,hpD 2 3 3 1 N 4 254 8 N,hpP 3 P,hpP 4 B,hpP 5 V,hpP 6 Q,(7,.mix [.p (.vsl (.sym m) true la),.p (.bool ov)])] 8 (fun r h n => ∃ (C' G' : List Int) (ov' : Bool) (Q' la' : List PV) (m' : Int),r = .p (.int .i64 (.lit 0)) ∧ h = [hpR 0 1 6 3 W 8 1 sp cy,hpB 1 2 5 3 W,hpD 2 3 3 1 N 4 254 8 N,hpP 3 P,hpP 4 B,hpP 5 V,hpP 6 Q',(8,.mix [.p (.vsl (.sym m') true la'),.p (.bool ov')])] ∧ n = 9 ∧ RM R vs C' G' N W P B V Q' la' m' ∧ (C',G',ov') = begS R W A) := by
 have hCl := h.c; have hWn := h.w; have hNr := h.n; have hRr := h.r
 have hQl : Q.length = C.length := by rw [h.q,ipv_length]
 refine callF_of_body tok Tryz.func29 (by kernel_rfl) rfl rfl rfl ?_; conv => cbv
 refine Br.no (show ¬ (ph ≠ 0) by omega) ?_
 conv => cbv
 refine LoopF.mk (fun kk s => ∃ (i : Int) (C' : List Int) (Q' : List PV),s = ⟨.ptr 0 (.lit 0) :: .p (.vsl (.sym k) true rs) :: (undefs 3 ++ .p (.int .i64 (.sym i)) :: undefs 41),[hpR 0 1 6 3 W 7 ph sp cy,hpB 1 2 5 3 W,hpD 2 3 3 1 N 4 254 8 N,hpP 3 P,hpP 4 B,hpP 5 V,hpP 6 Q',(7,.mix [.p (.vsl (.sym m) true la),.p (.bool ov)])],8⟩ ∧ 0 ≤ i ∧ i ≤ W ∧ Q' = ipv C' ∧ C' = List.replicate i.toNat 0 ++ C.drop i.toNat ∧ kk = (W - i).toNat) W.toNat _
  (Re.at [(0,0),(1,1),(2,2),(3,3),(4,4),(5,5),(6,6),(7,7)] []) ⟨0,C,Q,rfl,by omega,by omega,h.q,by simp,by omega⟩ ?_
 rintro kk s ⟨i,C',Q',rfl,hi0,hi1,hQ',hC',hkk⟩
 have hC'l : C'.length = C.length := by rw [hC',List.length_append,List.length_replicate,List.length_drop]; omega
 have hQ'l : Q'.length = C.length := by rw [hQ',ipv_length]; exact hC'l
 conv => cbv
 refine Br.mk (fun gi => ?_) (fun gi => ?_)
 ·have gi : i < W := gi
  obtain ⟨k',rfl⟩ : ∃ k',kk = k' + 1 := ⟨kk - 1,by omega⟩
  conv => cbv
  refine Need.mk ⟨hi0,gi⟩ ?_
  conv => cbv
  refine Need.mk (by show i + 1 ≤ (Q'.length : Int); omega) ?_
  conv => cbv
  obtain ⟨C2,hC2⟩ : ∃ C2,C2 = C'.set i.toNat 0 := ⟨_,rfl⟩
  obtain ⟨Q3,hQ3⟩ : ∃ Q3,Q3 = ipv C2 := ⟨_,rfl⟩
  refine Upd.mk fun Q2 hQ2 => ?_
  have hle : pvles Q2 Q3 := by
   have hQ2 : Q2 = Q'.set i.toNat (.int .i64 (.lit 0)) := hQ2
   rw [hQ2,hQ3,hC2,hQ',← ipv_set]
   exact pvles_set _ _ _ _ _ (pvles_refl _) (by simp [pvle,I.val])
  unfold pvles at hle
  clear hQ2
  have hC3 : C2 = List.replicate (i.toNat + 1) 0 ++ C.drop (i.toNat + 1) := by
   rw [hC2,hC',List.set_append_right _ _ (by rw [List.length_replicate]; omega),List.length_replicate,Nat.sub_self,List.drop_eq_getElem_cons (by omega),List.set_cons_zero,List.replicate_succ',List.append_assoc]
   rfl
  conv => cbv
  refine Fit.mk (by show (-9223372036854775808 : Int) ≤ i + 1; omega) (by show i + 1 ≤ 9223372036854775807; omega) fun i2 hi2 => ?_
  have hi2 : i2 = i + 1 := hi2
  rw [show i.toNat + 1 = i2.toNat by omega] at hC3
  conv => cbv
  refine Again.mk k' _ (Nat.lt_succ_self _) (Re.at [(0,0),(1,1),(2,2),(3,3),(4,4),(5,5),(6,6),(7,7)] []) ⟨i2,C2,Q3,rfl,by omega,by omega,hQ3,hC3,by omega⟩
 ·have gi : ¬ i < W := gi
  have hC' : C' = List.replicate W.toNat 0 := by rw [hC',show i.toNat = W.toNat by omega,List.drop_of_length_le (by omega),List.append_nil]
  have hM0 : RM R vs (List.replicate W.toNat 0) [] N W P B V Q' [] 0 := ⟨h.a,h.n,h.r,h.w,h.p,h.b,h.v,by rw [hQ',hC'],by rw [List.length_replicate]; omega,rfl,rfl,fun x hx => (by cases hx),Nat.zero_le _⟩
  clear hQ' hC' hC'l hQ'l
  conv => cbv
  refine LoopF.mk (fun kk s => ∃ (i : Int) (C' G' : List Int) (ov' : Bool) (Q' la' : List PV) (m' : Int),s = ⟨.ptr 0 (.lit 0) :: .p (.vsl (.sym k) true rs) :: (undefs 4 ++ .p (.int .i64 (.sym i)) :: undefs 40),[hpR 0 1 6 3 W 8 1 sp cy,hpB 1 2 5 3 W,hpD 2 3 3 1 N 4 254 8 N,hpP 3 P,hpP 4 B,hpP 5 V,hpP 6 Q',(8,.mix [.p (.vsl (.sym m') true la'),.p (.bool ov')])],9⟩ ∧ 0 ≤ i ∧ i ≤ k ∧ RM R vs C' G' N W P B V Q' la' m' ∧ (C',G',ov') = begS R W (A.take i.toNat) ∧ kk = (k - i).toNat) k.toNat _
   (Re.at [(0,0),(1,1),(2,2),(3,3),(4,4),(5,5),(6,6),(8,8)] []) ⟨0,_,_,_,Q',[],0,rfl,by omega,by omega,hM0,rfl,by omega⟩ ?_
  clear hM0
  rintro kk s ⟨i,C',G',ov',Q',la',m',rfl,hi0,hi1,h2,hS,hk2⟩
  conv => cbv
  refine Br.mk (fun gi => ?_) (fun gi => ?_)
  ·have gi : i < k := gi
   obtain ⟨k',rfl⟩ : ∃ k',kk = k' + 1 := ⟨kk - 1,by omega⟩
   obtain ⟨a,ha⟩ : ∃ a,A[i.toNat]? = some a := ⟨_,List.getElem?_eq_getElem (by omega)⟩
   have hc : rs[i.toNat]? = some (.int .i64 (.sym a)) := by rw [hrs]; exact ipv_get ha
   conv => cbv
   refine Need.mk ⟨hi0,gi⟩ ?_
   conv => cbv
   refine Cell.at i _ hc (by simp [I.val]) rfl ?_
   conv => cbv
   refine cfr (rshade_lx R vs C' G' N W 1 sp cy P B V Q' la' m' ov' h2 a) [(0,0),(1,1),(2,2),(3,3),(4,4),(5,5),(6,6),(7,8)] (fun r h' n' hrr => ?_)
   obtain ⟨C2,G2,ov2,Q2,la2,m2,e1,e2,e3,h3,hS2⟩ := hrr
   subst e1 e2 e3
   have hS3 : (C2,G2,ov2) = begS R W (A.take (i.toNat + 1)) := by
    rw [hS2,hS]
    unfold begS
    rw [List.take_add_one,ha,Option.toList_some,List.foldl_append]; rfl
   conv => cbv
   refine Fit.mk (by show (-9223372036854775808 : Int) ≤ i + 1; omega) (by show i + 1 ≤ 9223372036854775807; omega) fun i2 hi2 => ?_
   have hi2 : i2 = i + 1 := hi2
   rw [show i.toNat + 1 = i2.toNat by omega] at hS3
   conv => cbv
   refine Again.mk k' _ (Nat.lt_succ_self _) (Re.at [(0,0),(1,1),(2,2),(3,3),(4,4),(5,5),(6,6),(8,8)] []) ⟨i2,C2,G2,ov2,Q2,la2,m2,rfl,by omega,by omega,h3,hS3,by omega⟩
  ·have gi : ¬ i < k := gi
   rw [List.take_of_length_le (by omega)] at hS
   conv => cbv
   refine RetF.mk [.p (.int .i64 (.lit 0))] [hpR 0 1 6 3 W 8 1 sp cy,hpB 1 2 5 3 W,hpD 2 3 3 1 N 4 254 8 N,hpP 3 P,hpP 4 B,hpP 5 V,hpP 6 Q',(8,.mix [.p (.vsl (.sym m') true la'),.p (.bool ov')])] 9 (Re.at [(0,0),(1,1),(2,2),(3,3),(4,4),(5,5),(6,6),(8,8)] []) rfl ⟨C',G',ov',Q',la',m',rfl,rfl,rfl,h2,hS⟩
theorem rbeginState_lx (R : List Rw) (vs C G : List Int) (N W ph sp cy : Int) (P B V Q la : List PV) (m : Int) (ov : Bool) (h : RM R vs C G N W P B V Q la m) (k : Int) (rs : List PV) (hph : ph ≠ 0) : CallF (fun _ => Tryz.prog) 29 [.ptr 0 (.lit 0),.p (.vsl (.sym k) true rs)] [hpR 0 1 6 3 W 7 ph sp cy,hpB 1 2 5 3 W,hpD 2 3 3 1 N 4 254 8 N,hpP 3 P,hpP 4 B,hpP 5 V,hpP 6 Q,(7,.mix [.p (.vsl (.sym m) true la),.p (.bool ov)])] 8 (fun r h n => r = .p (.int .i64 (.lit 11)) ∧ h = [hpR 0 1 6 3 W 7 ph sp cy,hpB 1 2 5 3 W,hpD 2 3 3 1 N 4 254 8 N,hpP 3 P,hpP 4 B,hpP 5 V,hpP 6 Q,(7,.mix [.p (.vsl (.sym m) true la),.p (.bool ov)])] ∧ n = 8) := by
 refine callF_of_body tok Tryz.func29 (by kernel_rfl) rfl rfl rfl ?_; conv => cbv
 refine Br.yes (show ph ≠ 0 from hph) ?_
 conv => cbv
 refine RetF.mk [.p (.int .i64 (.lit 11))] [hpR 0 1 6 3 W 7 ph sp cy,hpB 1 2 5 3 W,hpD 2 3 3 1 N 4 254 8 N,hpP 3 P,hpP 4 B,hpP 5 V,hpP 6 Q,(7,.mix [.p (.vsl (.sym m) true la),.p (.bool ov)])] 8 (Re.at [(0,0),(1,1),(2,2),(3,3),(4,4),(5,5),(6,6),(7,7)] []) rfl ⟨rfl,rfl,rfl⟩
theorem RM.over {R : List Rw} {vs C G G' : List Int} {N W m m' : Int} {P B V Q la la' : List PV} (h : RM R vs C G N W P B V Q la m) (hl : la' = i64s G') (hm : m' = G'.length) (hG : ∀ x ∈ G',x ∈ G) (h8 : G'.length ≤ G.length) : RM R vs C G' N W P B V Q la' m' :=
 ⟨h.a,h.n,h.r,h.w,h.p,h.b,h.v,h.q,h.c,hl,hm,fun x hx => h.g x (hG x hx),Nat.le_trans h8 h.g8⟩
theorem rgrey_lx (R : List Rw) (vs C G : List Int) (N W ph sp cy : Int) (P B V Q la : List PV) (m : Int) (ov : Bool) (h : RM R vs C G N W P B V Q la m) : CallF (fun _ => Tryz.prog) 149 [.ptr 0 (.lit 0)] [hpR 0 1 6 3 W 7 ph sp cy,hpB 1 2 5 3 W,hpD 2 3 3 1 N 4 254 8 N,hpP 3 P,hpP 4 B,hpP 5 V,hpP 6 Q,(7,.mix [.p (.vsl (.sym m) true la),.p (.bool ov)])] 8 (fun r h n => ∃ (v : Int) (b : Bool) (G' : List Int) (ov' : Bool) (la' : List PV) (m' : Int),r = .tup [i6 v,.p (.bool b)] ∧ h = [hpR 0 1 6 3 W 7 ph sp cy,hpB 1 2 5 3 W,hpD 2 3 3 1 N 4 254 8 N,hpP 3 P,hpP 4 B,hpP 5 V,hpP 6 Q,(7,.mix [.p (.vsl (.sym m') true la'),.p (.bool ov')])] ∧ n = 8 ∧ RM R vs C G' N W P B V Q la' m' ∧ NextG R C G ov v b G' ov') := by
 have hCl := h.c; have hWn := h.w; have hNr := h.n; have hRr := h.r
 have hQl : Q.length = C.length := by rw [h.q,ipv_length]
 cases ov with
 | false =>
  refine callF_of_body tok Tryz.func149 (by kernel_rfl) rfl rfl rfl ?_; conv => cbv
  refine cfr (refPop_lx G m la false h.m h.l h.g8) [(0,7)] (fun r h' n' hrr => ?_)
  obtain ⟨v,b,m',la',G',e1,e2,e3,hm',hl',h4⟩ := hrr
  subst e1 e2 e3
  have hGs : ∀ x ∈ G',x ∈ G := by
   intro x hx
   rcases h4 with ⟨_,_,_,e⟩ | ⟨e,_⟩
   ·rw [e] at hx; cases hx
   ·rw [e]; exact List.mem_append_left _ hx
  have hG8 : G'.length ≤ G.length := by
   rcases h4 with ⟨_,_,_,e⟩ | ⟨e,_⟩
   ·rw [e]; exact Nat.zero_le _
   ·rw [e,List.length_append]; omega
  have h1 : RM R vs C G' N W P B V Q la' m' := h.over hl' hm' hGs hG8
  cases b with
  | true =>
   conv => cbv
   have hG : G = G' ++ [v] := by
    rcases h4 with ⟨_,_,e,_⟩ | ⟨e,_⟩
    ·cases e
    ·exact e
   refine RetF.mk [i6 v,.p (.bool true)] [hpR 0 1 6 3 W 7 ph sp cy,hpB 1 2 5 3 W,hpD 2 3 3 1 N 4 254 8 N,hpP 3 P,hpP 4 B,hpP 5 V,hpP 6 Q,(7,.mix [.p (.vsl (.sym m') true la'),.p (.bool false)])] 8 (Re.at [(0,0),(1,1),(2,2),(3,3),(4,4),(5,5),(6,6),(7,7)] []) rfl ⟨v,true,G',false,la',m',rfl,rfl,rfl,h1,.pop G' v hG⟩
  | false =>
   conv => cbv
   have hgg : G = [] ∧ v = 0 ∧ G' = [] := by
    rcases h4 with ⟨e,e1,_,e2⟩ | ⟨_,e⟩
    ·exact ⟨e,e1,e2⟩
    ·cases e
   have hG0 := hgg.1
   have hv0 := hgg.2.1
   have hG' := hgg.2.2
   refine RetF.mk [i6 v,.p (.bool false)] [hpR 0 1 6 3 W 7 ph sp cy,hpB 1 2 5 3 W,hpD 2 3 3 1 N 4 254 8 N,hpP 3 P,hpP 4 B,hpP 5 V,hpP 6 Q,(7,.mix [.p (.vsl (.sym m') true la'),.p (.bool false)])] 8 (Re.at [(0,0),(1,1),(2,2),(3,3),(4,4),(5,5),(6,6),(7,7)] []) rfl ⟨v,false,G',false,la',m',rfl,rfl,rfl,h1,by rw [hG',hv0]; exact .none hG0 rfl⟩
 | true =>
  refine callF_of_body tok Tryz.func149 (by kernel_rfl) rfl rfl rfl ?_; conv => cbv
  refine cfr (refPop_lx G m la true h.m h.l h.g8) [(0,7)] (fun r h' n' hrr => ?_)
  obtain ⟨v,b,m',la',G',e1,e2,e3,hm',hl',h4⟩ := hrr
  subst e1 e2 e3
  have hGs : ∀ x ∈ G',x ∈ G := by
   intro x hx
   rcases h4 with ⟨_,_,_,e⟩ | ⟨e,_⟩
   ·rw [e] at hx; cases hx
   ·rw [e]; exact List.mem_append_left _ hx
  have hG8 : G'.length ≤ G.length := by
   rcases h4 with ⟨_,_,_,e⟩ | ⟨e,_⟩
   ·rw [e]; exact Nat.zero_le _
   ·rw [e,List.length_append]; omega
  have h1 : RM R vs C G' N W P B V Q la' m' := h.over hl' hm' hGs hG8
  cases b with
  | true =>
   conv => cbv
   have hG : G = G' ++ [v] := by
    rcases h4 with ⟨_,_,e,_⟩ | ⟨e,_⟩
    ·cases e
    ·exact e
   refine RetF.mk [i6 v,.p (.bool true)] [hpR 0 1 6 3 W 7 ph sp cy,hpB 1 2 5 3 W,hpD 2 3 3 1 N 4 254 8 N,hpP 3 P,hpP 4 B,hpP 5 V,hpP 6 Q,(7,.mix [.p (.vsl (.sym m') true la'),.p (.bool true)])] 8 (Re.at [(0,0),(1,1),(2,2),(3,3),(4,4),(5,5),(6,6),(7,7)] []) rfl ⟨v,true,G',true,la',m',rfl,rfl,rfl,h1,.pop G' v hG⟩
  | false =>
   conv => cbv
   have hgg : G = [] ∧ v = 0 ∧ G' = [] := by
    rcases h4 with ⟨e,e1,_,e2⟩ | ⟨_,e⟩
    ·exact ⟨e,e1,e2⟩
    ·cases e
   have hG0 := hgg.1
   have hv0 := hgg.2.1
   have hG' := hgg.2.2
   obtain ⟨mo,hmo⟩ : ∃ m : Int,m = objCount R := ⟨_,rfl⟩
   refine cfr (robjects_lx mo R vs N W P B V h.p h.b h.v h.n h.r h.a h.w hmo) [(0,1),(1,2),(2,3),(3,4),(4,5)] (fun r h' n' hrr => ?_)
   obtain ⟨O,e1,e2,e3,hO⟩ := hrr
   subst e1 e2 e3
   have hOl : (O.length : Int) = mo := by rw [hO,ipv_length,objs_length h.a.rows,hmo]
   have hO : O = ipv (objs R) := hO
   have hol : ((objs R).length : Int) = mo := by rw [← hOl,hO,ipv_length]
   have hob : mo ≤ 8000 := by have := objsTo_le R R.length; rw [objs_length h.a.rows] at this; omega
   conv => cbv
   refine LoopF.mk (fun k s => ∃ i : Int,s = ⟨.ptr 0 (.lit 0) :: (undefs 5 ++ .sl 8 3 1 (.lit 0) (.sym mo) :: .p (.int .i64 (.sym i)) :: undefs 53),[hpR 0 1 6 3 W 7 ph sp cy,hpB 1 2 5 3 W,hpD 2 3 3 1 N 4 254 8 N,hpP 3 P,hpP 4 B,hpP 5 V,hpP 6 Q,(7,.mix [.p (.vsl (.sym m') true la'),.p (.bool true)]),hpP 8 O],9⟩ ∧ 0 ≤ i ∧ i ≤ mo ∧ (∀ (j : Nat) b,(j : Int) < i → (objs R)[j]? = some b → C[b.toNat]? ≠ some 1) ∧ k = (mo - i).toNat) mo.toNat _
    (Re.at [(0,0),(1,1),(2,2),(3,3),(4,4),(5,5),(6,6),(7,7),(8,8)] []) ⟨0,rfl,by omega,by omega,fun j b hj => by omega,by omega⟩ ?_
   rintro k s ⟨i,rfl,hi0,hi1,hn,hk⟩
   conv => cbv
   refine Br.mk (fun gi => ?_) (fun gi => ?_)
   ·have gi : i < mo := gi
    obtain ⟨k',rfl⟩ : ∃ k',k = k' + 1 := ⟨k - 1,by omega⟩
    obtain ⟨a,ha⟩ : ∃ a,(objs R)[i.toNat]? = some a := ⟨_,List.getElem?_eq_getElem (by omega)⟩
    have hc : O[i.toNat]? = some (.int .i64 (.sym a)) := by rw [hO]; exact ipv_get ha
    have hab := obj_bd h.a (List.mem_of_getElem? ha)
    obtain ⟨x,hx⟩ : ∃ x,C[a.toNat]? = some x := ⟨_,List.getElem?_eq_getElem (by omega)⟩
    have hq : Q[a.toNat]? = some (.int .i64 (.sym x)) := by rw [h.q]; exact ipv_get hx
    conv => cbv
    refine drawn_sound tok (by kernel_rfl) [] [0,1,2,3,4,5,6,7,8,9,10] (by kernel_rfl) ?_; conv => cbv
    refine Need.mk ⟨hi0,gi⟩ ?_
    conv => cbv
    refine Cell.at i _ hc (by simp [I.val]) rfl ?_
    conv => cbv
    refine Need.mk ⟨by show 0 ≤ a; omega,by show a < W; omega⟩ ?_
    conv => cbv
    refine Cell.at a _ hq (by simp [I.val]) rfl ?_
    conv => cbv
    refine Br.mk (fun gx => ?_) (fun gx => ?_)
    ·have gx : x = 1 := gx
     conv => cbv
     refine Need.mk ⟨hi0,gi⟩ ?_
     conv => cbv
     refine Cell.at i _ hc (by simp [I.val]) rfl ?_
     conv => cbv
     refine RetF.mk [i6 a,.p (.bool true)] [hpR 0 1 6 3 W 7 ph sp cy,hpB 1 2 5 3 W,hpD 2 3 3 1 N 4 254 8 N,hpP 3 P,hpP 4 B,hpP 5 V,hpP 6 Q,(7,.mix [.p (.vsl (.sym m') true la'),.p (.bool true)])] 8 (Re.at [(0,0),(1,1),(2,2),(3,3),(4,4),(5,5),(6,6),(7,7)] []) rfl ⟨a,true,G',true,la',m',rfl,rfl,rfl,h1,by rw [hG']; exact .found i.toNat a hG0 rfl ha (by rw [hx,gx]) (fun j b hj => hn j b (by omega))⟩
    ·have gx : ¬ x = 1 := gx
     have hna : C[a.toNat]? ≠ some 1 := fun hk => gx (Option.some.inj (hx.symm.trans hk))
     conv => cbv
     refine Fit.mk (by show (-9223372036854775808 : Int) ≤ i + 1; omega) (by show i + 1 ≤ 9223372036854775807; omega) fun i2 hi2 => ?_
     have hi2 : i2 = i + 1 := hi2
     have hn2 : ∀ (j : Nat) b,(j : Int) < i2 → (objs R)[j]? = some b → C[b.toNat]? ≠ some 1 := by
      intro j b hj hjb
      by_cases q : j = i.toNat
      ·rw [q,ha] at hjb; obtain rfl := Option.some.inj hjb; exact hna
      ·exact hn j b (by omega) hjb
     conv => cbv
     refine Again.mk k' _ (Nat.lt_succ_self _) (Re.at [(0,0),(1,1),(2,2),(3,3),(4,4),(5,5),(6,6),(7,7),(8,8)] []) ⟨i2,rfl,by omega,by omega,hn2,by omega⟩
   ·have gi : ¬ i < mo := gi
    conv => cbv
    refine RetF.mk [i6 0,.p (.bool false)] [hpR 0 1 6 3 W 7 ph sp cy,hpB 1 2 5 3 W,hpD 2 3 3 1 N 4 254 8 N,hpP 3 P,hpP 4 B,hpP 5 V,hpP 6 Q,(7,.mix [.p (.vsl (.sym m') true la'),.p (.bool false)])] 8 (Re.at [(0,0),(1,1),(2,2),(3,3),(4,4),(5,5),(6,6),(7,7)] []) rfl ⟨0,false,G',false,la',m',rfl,rfl,rfl,h1,by rw [hG']; exact .settle hG0 rfl (fun j b hj => hn j b (by have := (List.getElem?_eq_some_iff.1 hj).1; omega) hj)⟩
theorem rwordsV_lx (R : List Rw) (vs C G : List Int) (N W ph sp cy : Int) (P B V Q la : List PV) (m : Int) (ov : Bool) (h : RM R vs C G N W P B V Q la m) (a : Int) : CallF (fun _ => Tryz.prog) 108 [.ptr 0 (.lit 0),i6 a] [hpR 0 1 6 3 W 7 ph sp cy,hpB 1 2 5 3 W,hpD 2 3 3 1 N 4 254 8 N,hpP 3 P,hpP 4 B,hpP 5 V,hpP 6 Q,(7,.mix [.p (.vsl (.sym m) true la),.p (.bool ov)])] 8 (fun r h n => ∃ (X : List Int) (k : Int) (O : List PV),r = .p (.vsl (.sym k) true O) ∧ h = [hpR 0 1 6 3 W 7 ph sp cy,hpB 1 2 5 3 W,hpD 2 3 3 1 N 4 254 8 N,hpP 3 P,hpP 4 B,hpP 5 V,hpP 6 Q,(7,.mix [.p (.vsl (.sym m) true la),.p (.bool ov)])] ∧ n = 8 ∧ O = ipv X ∧ k = X.length ∧ Wrds R vs a X) :=
 (rwords9_lx R vs C G N W ph sp cy P B V Q la m ov h a).ret fun r h' n' ⟨X,k,O,e1,e2,e3,hO,hm,hX⟩ => by
  subst e1 e2 e3
  exact RetF.mk [.p (.vsl (.sym k) true O)] [hpR 0 1 6 3 W 7 ph sp cy,hpB 1 2 5 3 W,hpD 2 3 3 1 N 4 254 8 N,hpP 3 P,hpP 4 B,hpP 5 V,hpP 6 Q,(7,.mix [.p (.vsl (.sym m) true la),.p (.bool ov)])] 8 (Re.at [(0,0),(1,1),(2,2),(3,3),(4,4),(5,5),(6,6),(7,7)] []) rfl ⟨X,k,O,rfl,rfl,rfl,hO,hm,hX⟩
theorem Wrds.le {R : List Rw} {ws X : List Int} {a : Int} (hA : AOk R ws) (h : Wrds R ws a X) : X.length ≤ 31 := by
 have hle := h.1
 generalize hxl : (X.length : Int) = xl at hle
 cases hle with
 | no _ => omega
 | is k l hk => have := hk.bounds hA; omega
theorem rmark_lx (R : List Rw) (vs C G : List Int) (N W ph sp cy : Int) (P B V Q la : List PV) (m : Int) (ov : Bool) (h : RM R vs C G N W P B V Q la m) (hph : ph = 1) : CallF (fun _ => Tryz.prog) 84 [.ptr 0 (.lit 0)] [hpR 0 1 6 3 W 7 ph sp cy,hpB 1 2 5 3 W,hpD 2 3 3 1 N 4 254 8 N,hpP 3 P,hpP 4 B,hpP 5 V,hpP 6 Q,(7,.mix [.p (.vsl (.sym m) true la),.p (.bool ov)])] 8 (fun r h n => ∃ (out : List Gn) (k ph' sp' : Int) (cells : List PV) (vs' C' G' : List Int) (ov' : Bool) (V' Q' la' : List PV) (m' : Int),r = .p (.vsl (.sym k) true cells) ∧ h = [hpR 0 1 6 3 W 7 ph' sp' cy,hpB 1 2 5 3 W,hpD 2 3 3 1 N 4 254 8 N,hpP 3 P,hpP 4 B,hpP 5 V',hpP 6 Q',(7,.mix [.p (.vsl (.sym m') true la'),.p (.bool ov')])] ∧ n = 8 ∧ RM R vs' C' G' N W P B V' Q' la' m' ∧ cells = gpv out ∧ k = out.length ∧ Marked R vs C G ov sp out ph' sp' vs' C' G' ov') := by
 subst hph
 have hCl := h.c; have hWn := h.w; have hNr := h.n; have hRr := h.r
 have hQl : Q.length = C.length := by rw [h.q,ipv_length]
 refine callF_of_body tok Tryz.func84 (by kernel_rfl) rfl rfl rfl ?_; conv => cbv
 refine cfr (rgrey_lx R vs C G N W 1 sp cy P B V Q la m ov h) [(0,0),(1,1),(2,2),(3,3),(4,4),(5,5),(6,6),(7,7)] (fun r h' n' hrr => ?_)
 obtain ⟨v,b,G1,ov1,la1,m1,e1,e2,e3,h1,hg⟩ := hrr
 subst e1 e2 e3
 cases b with
 | true =>
  have hv : 0 ≤ v ∧ v < W := by
   cases hg with
   | pop A _ hG => exact h.g v (by rw [hG]; simp)
   | found i _ _ _ ha _ _ => have := obj_bd h.a (List.mem_of_getElem? ha); omega
  conv => cbv
  refine cfr (rwordsV_lx R vs C G1 N W 1 sp cy P B V Q la1 m1 ov1 h1 v) [(0,0),(1,1),(2,2),(3,3),(4,4),(5,5),(6,6),(7,7)] (fun r h' n' hrr => ?_)
  obtain ⟨X,k,O,e1,e2,e3,hO,hk,hX⟩ := hrr
  subst e1 e2 e3
  have hXb := hX.bd h.a
  have hX31 := hX.le h.a
  conv => cbv
  refine LoopF.mk (fun kk s => ∃ (i : Int) (C' G' : List Int) (ov' : Bool) (Q' la' : List PV) (m' : Int),s = ⟨.ptr 0 (.lit 0) :: (undefs 2 ++ .p (.int .i64 (.sym v)) :: .undef :: .p (.vsl (.sym k) true O) :: .p (.int .i64 (.sym i)) :: undefs 115),[hpR 0 1 6 3 W 7 1 sp cy,hpB 1 2 5 3 W,hpD 2 3 3 1 N 4 254 8 N,hpP 3 P,hpP 4 B,hpP 5 V,hpP 6 Q',(7,.mix [.p (.vsl (.sym m') true la'),.p (.bool ov')])],8⟩ ∧ 0 ≤ i ∧ i ≤ k ∧ RM R vs C' G' N W P B V Q' la' m' ∧ (C',G',ov') = (X.take i.toNat).foldl (fun s w => shadeW R 1 w s) (C,G1,ov1) ∧ kk = (k - i).toNat) k.toNat _
   (Re.at [(0,0),(1,1),(2,2),(3,3),(4,4),(5,5),(6,6),(7,7)] []) ⟨0,C,G1,ov1,Q,la1,m1,rfl,by omega,by omega,h1,rfl,by omega⟩ ?_
  rintro kk s ⟨i,C',G',ov',Q',la',m',rfl,hi0,hi1,h2,hS,hkk⟩
  conv => cbv
  refine Br.mk (fun gi => ?_) (fun gi => ?_)
  ·have gi : i < k := gi
   obtain ⟨k',rfl⟩ : ∃ k',kk = k' + 1 := ⟨kk - 1,by omega⟩
   obtain ⟨w,hw⟩ : ∃ w,X[i.toNat]? = some w := ⟨_,List.getElem?_eq_getElem (by omega)⟩
   have hc : O[i.toNat]? = some (.int .i64 (.sym w)) := by rw [hO]; exact ipv_get hw
   have hstep : ∀ (i2 : Int),i2 = i + 1 → ∀ s2,s2 = shadeW R 1 w (C',G',ov') → s2 = (X.take i2.toNat).foldl (fun s w => shadeW R 1 w s) (C,G1,ov1) := by
    intro i2 hi2 s2 hs2
    rw [show i2.toNat = i.toNat + 1 by omega,List.take_add_one,hw,Option.toList_some,List.foldl_append,← hS,hs2]; rfl
   conv => cbv
   refine Need.mk ⟨hi0,gi⟩ ?_
   conv => cbv
   refine Cell.at i _ hc (by simp [I.val]) rfl ?_
   conv => cbv
   refine callF_frame (rIsPtr_lx w) [] rfl trivial rfl rfl (fun r h' n' hrr => ?_)
   obtain ⟨b,e1,e2,e3,hb⟩ := hrr
   subst e1 e2 e3
   cases b with
   | false =>
    conv => cbv
    have hb : ¬ w % 2 = 1 := fun k => by have := hb.2 k; cases this
    refine Fit.mk (by show (-9223372036854775808 : Int) ≤ i + 1; omega) (by show i + 1 ≤ 9223372036854775807; omega) fun i2 hi2 => ?_
    have hi2 : i2 = i + 1 := hi2
    have hS2 := hstep i2 hi2 (C',G',ov') (by unfold shadeW; rw [if_neg hb])
    conv => cbv
    refine Again.mk k' _ (Nat.lt_succ_self _) (Re.at [(0,0),(1,1),(2,2),(3,3),(4,4),(5,5),(6,6),(7,7)] []) ⟨i2,C',G',ov',Q',la',m',rfl,by omega,by omega,h2,hS2,by omega⟩
   | true =>
    conv => cbv
    have hb : w % 2 = 1 := hb.1 rfl
    refine Need.mk ⟨hi0,gi⟩ ?_
    conv => cbv
    refine Cell.at i _ hc (by simp [I.val]) rfl ?_
    conv => cbv
    refine callF_frame (rAt_lx w (hXb w (List.mem_of_getElem? hw))) [] rfl trivial rfl rfl (fun r h' n' hrr => ?_)
    obtain ⟨y,e1,e2,e3,hy,_⟩ := hrr
    subst e1 e2 e3
    have hy := hy hb
    conv => cbv
    refine cfr (rshade_lx R vs C' G' N W 1 sp cy P B V Q' la' m' ov' h2 y) [(0,0),(1,1),(2,2),(3,3),(4,4),(5,5),(6,6),(7,7)] (fun r h' n' hrr => ?_)
    obtain ⟨C2,G2,ov2,Q2,la2,m2,e1,e2,e3,h3,hs⟩ := hrr
    subst e1 e2 e3
    conv => cbv
    refine Fit.mk (by show (-9223372036854775808 : Int) ≤ i + 1; omega) (by show i + 1 ≤ 9223372036854775807; omega) fun i2 hi2 => ?_
    have hi2 : i2 = i + 1 := hi2
    have hS2 := hstep i2 hi2 (C2,G2,ov2) (by unfold shadeW; rw [if_pos hb,← hy]; exact hs)
    conv => cbv
    refine Again.mk k' _ (Nat.lt_succ_self _) (Re.at [(0,0),(1,1),(2,2),(3,3),(4,4),(5,5),(6,6),(7,7)] []) ⟨i2,C2,G2,ov2,Q2,la2,m2,rfl,by omega,by omega,h3,hS2,by omega⟩
  ·have gi : ¬ i < k := gi
   rw [List.take_of_length_le (by omega)] at hS
   have hCl2 := h2.c
   have hQl2 : Q'.length = C'.length := by rw [h2.q,ipv_length]
   obtain ⟨Q3,hQ3⟩ : ∃ Q3,Q3 = ipv (C'.set v.toNat 2) := ⟨_,rfl⟩
   have hfin : RM R vs (C'.set v.toNat 2) G' N W P B V Q3 la' m' := ⟨h2.a,h2.n,h2.r,h2.w,h2.p,h2.b,h2.v,hQ3,by rw [List.length_set]; exact h2.c,h2.l,h2.m,h2.g,h2.g8⟩
   conv => cbv
   refine Need.mk ⟨by show 0 ≤ v; omega,by show v < W; omega⟩ ?_
   conv => cbv
   refine Need.mk (by show v + 1 ≤ (Q'.length : Int); omega) ?_
   conv => cbv
   refine Upd.mk fun Q2 hQ2 => ?_
   have hle : pvles Q2 Q3 := by
    have hQ2 : Q2 = Q'.set v.toNat (.int .i64 (.lit 2)) := hQ2
    rw [hQ2,hQ3,h2.q,← ipv_set]
    exact pvles_set _ _ _ _ _ (pvles_refl _) (by simp [pvle,I.val])
   unfold pvles at hle
   clear hQ2
   conv => cbv
   refine RetF.mk [.p (.vsl (.sym 0) true [])] [hpR 0 1 6 3 W 7 1 sp cy,hpB 1 2 5 3 W,hpD 2 3 3 1 N 4 254 8 N,hpP 3 P,hpP 4 B,hpP 5 V,hpP 6 Q3,(7,.mix [.p (.vsl (.sym m') true la'),.p (.bool ov')])] 8 (Re.at [(0,0),(1,1),(2,2),(3,3),(4,4),(5,5),(6,6),(7,7)] []) rfl ⟨[],0,1,sp,[],vs,C'.set v.toNat 2,G',ov',V,Q3,la',m',rfl,rfl,rfl,hfin,rfl,rfl,.scan v G1 X _ G' ov1 ov' hg hX (by unfold scanS; rw [← hS])⟩
 | false =>
  have hv0 : v = 0 := by cases hg <;> rfl
  conv => cbv
  obtain ⟨mo,hmo⟩ : ∃ m : Int,m = objCount R := ⟨_,rfl⟩
  refine cfr (robjects_lx mo R vs N W P B V h.p h.b h.v h.n h.r h.a h.w hmo) [(0,1),(1,2),(2,3),(3,4),(4,5)] (fun r h' n' hrr => ?_)
  obtain ⟨O,e1,e2,e3,hO⟩ := hrr
  subst e1 e2 e3
  have hOl : (O.length : Int) = mo := by rw [hO,ipv_length,objs_length h.a.rows,hmo]
  have hO : O = ipv (objs R) := hO
  have hol : ((objs R).length : Int) = mo := by rw [← hOl,hO,ipv_length]
  have hob : mo ≤ 8000 := by have := objsTo_le R R.length; rw [objs_length h.a.rows] at this; omega
  conv => cbv
  refine LoopF.mk (fun kk s => ∃ i : Int,s = ⟨.ptr 0 (.lit 0) :: (undefs 6 ++ .sl 8 3 1 (.lit 0) (.sym mo) :: .p (.int .i64 (.sym i)) :: undefs 113),[hpR 0 1 6 3 W 7 1 sp cy,hpB 1 2 5 3 W,hpD 2 3 3 1 N 4 254 8 N,hpP 3 P,hpP 4 B,hpP 5 V,hpP 6 Q,(7,.mix [.p (.vsl (.sym m1) true la1),.p (.bool ov1)]),hpP 8 O],9⟩ ∧ 0 ≤ i ∧ i ≤ mo ∧ (∀ (j : Nat) b,(j : Int) < i → (objs R)[j]? = some b → ¬ Due R vs C b) ∧ kk = (mo - i).toNat) mo.toNat _
   (Re.at [(0,0),(1,1),(2,2),(3,3),(4,4),(5,5),(6,6),(7,7),(8,8)] []) ⟨0,rfl,by omega,by omega,fun j b hj => by omega,by omega⟩ ?_
  rintro kk s ⟨i,rfl,hi0,hi1,hn,hkk⟩
  conv => cbv
  refine Br.mk (fun gi => ?_) (fun gi => ?_)
  ·have gi : i < mo := gi
   obtain ⟨k',rfl⟩ : ∃ k',kk = k' + 1 := ⟨kk - 1,by omega⟩
   obtain ⟨a,ha⟩ : ∃ a,(objs R)[i.toNat]? = some a := ⟨_,List.getElem?_eq_getElem (by omega)⟩
   have hc : O[i.toNat]? = some (.int .i64 (.sym a)) := by rw [hO]; exact ipv_get ha
   have hab := obj_bd h.a (List.mem_of_getElem? ha)
   have hob2 := (obj_iff h.a a).1 (List.mem_of_getElem? ha)
   obtain ⟨x,hx⟩ : ∃ x,C[a.toNat]? = some x := ⟨_,List.getElem?_eq_getElem (by omega)⟩
   have hq : Q[a.toNat]? = some (.int .i64 (.sym x)) := by rw [h.q]; exact ipv_get hx
   have hstep : ∀ i2 : Int,i2 = i + 1 → ¬ Due R vs C a → ∀ (j : Nat) b,(j : Int) < i2 → (objs R)[j]? = some b → ¬ Due R vs C b := by
    intro i2 hi2 hd j b hj hjb
    by_cases q : j = i.toNat
    ·rw [q,ha] at hjb; obtain rfl := Option.some.inj hjb; exact hd
    ·exact hn j b (by omega) hjb
   conv => cbv
   refine Need.mk ⟨hi0,gi⟩ ?_
   conv => cbv
   refine Cell.at i _ hc (by simp [I.val]) rfl ?_
   conv => cbv
   refine cfr (rwordsV_lx R vs C G1 N W 1 sp cy P B V Q la1 m1 ov1 h1 a) [(0,0),(1,1),(2,2),(3,3),(4,4),(5,5),(6,6),(7,7)] (fun r h' n' hrr => ?_)
   obtain ⟨X,k,O2,e1,e2,e3,hO2,hk,hX⟩ := hrr
   subst e1 e2 e3
   have hX31 := hX.le h.a
   conv => cbv
   refine drawn_sound tok (by kernel_rfl) [(8,[])] [0,1,2,3,4,5,6,7,8,9,10,11,12,13,14,15,16,17,18,19,20,21,22,23,24,25,26,27,28,29,30,31,32,33] (by kernel_rfl) ?_; conv => cbv
   refine Need.mk ⟨hi0,gi⟩ ?_
   conv => cbv
   refine Cell.at i _ hc (by simp [I.val]) rfl ?_
   conv => cbv
   refine cfr (rkind_lx R vs N a W P B V h.p h.b h.v h.n h.r h.a h.w) [(0,1),(1,2),(2,3),(3,4),(4,5)] (fun r h' n' hrr => ?_)
   obtain ⟨kd,e1,e2,e3,hkd⟩ := hrr
   subst e1 e2 e3
   conv => cbv
   refine Br.mk (fun g5 => ?_) (fun g5 => ?_)
   ·have g5 : kd = 5 := g5
    obtain ⟨l,hK⟩ : ∃ l,Kept R vs a 5 l := by
     cases hkd with
     | no _ => cases g5
     | is _ l hK => exact ⟨l,g5 ▸ hK⟩
    conv => cbv
    refine Need.mk ⟨hi0,gi⟩ ?_
    conv => cbv
    refine Cell.at i _ hc (by simp [I.val]) rfl ?_
    conv => cbv
    refine Need.mk ⟨by show 0 ≤ a; omega,by show a < W; omega⟩ ?_
    conv => cbv
    refine Cell.at a _ hq (by simp [I.val]) rfl ?_
    conv => cbv
    refine Br.mk (fun g0 => ?_) (fun g0 => ?_)
    ·have g0 : x = 0 := g0
     conv => cbv
     refine Br.mk (fun g1 => ?_) (fun g1 => ?_)
     ·have g1 : 1 < k := g1
      obtain ⟨y,hy⟩ : ∃ y,X[(1 : Nat)]? = some y := ⟨_,List.getElem?_eq_getElem (by omega)⟩
      have hcy : O2[(1 : Nat)]? = some (.int .i64 (.sym y)) := by rw [hO2]; exact ipv_get hy
      have hld : Loaded R vs a 1 y 0 := hX.2 1 y hy
      conv => cbv
      refine Need.mk ⟨by show (0 : Int) ≤ 1; omega,by show 1 < k; omega⟩ ?_
      conv => cbv
      refine Cell.at 1 _ hcy (by simp [I.val]) rfl ?_
      conv => cbv
      refine Br.mk (fun gy => ?_) (fun gy => ?_)
      ·have gy : y ≠ 0 := gy
       have hdue : Due R vs C a := ⟨⟨l,hK⟩,by rw [hx,g0],y,hld,gy⟩
       conv => cbv
       refine drawn_sound tok (by kernel_rfl) [(8,[])] [0,1,2,3,4,5,6,7,8] (by kernel_rfl) ?_; conv => cbv
       refine Need.mk ⟨hi0,gi⟩ ?_
       conv => cbv
       refine Cell.at i _ hc (by simp [I.val]) rfl ?_
       conv => cbv
       refine CallF.le (args0 := [.ptr 1 (.lit 0),i6 a,i6 1,i6 0]) (cfr (rstore_lx 1 0 R vs N a W P B V h.p h.b h.v h.n h.r h.a h.w) [(0,1),(1,2),(2,3),(3,4),(4,5)] (fun r h' n' hrr => ?_)) (by simp [ales,ale,pvle,I.val])
       obtain ⟨e,vs',V',e1,e2,e3,hV',hT⟩ := hrr
       subst e1 e2 e3
       have he : e = 0 := by
        cases hld with
        | ok _ l2 _ hK2 hi2 _ =>
         cases hT with
         | none hno => exact absurd hob2 hno
         | arg k3 l3 hK3 hi3 => obtain ⟨_,rfl⟩ := hK2.det9 hK3; exact absurd hi2 hi3
         | ok _ _ _ _ => rfl
       have h2 := h1.stored (by decide) hT hV'
       conv => cbv
       refine Need.mk ⟨hi0,gi⟩ ?_
       conv => cbv
       refine Cell.at i _ hc (by simp [I.val]) rfl ?_
       conv => cbv
       refine cfr (rshade_lx R vs' C G1 N W 1 sp cy P B V' Q la1 m1 ov1 h2 a) [(0,0),(1,1),(2,2),(3,3),(4,4),(5,5),(6,6),(7,7)] (fun r h' n' hrr => ?_)
       obtain ⟨C',G',ov',Q',la',m',e1,e2,e3,h3,hS⟩ := hrr
       subst e1 e2 e3
       conv => cbv
       refine Need.mk ⟨hi0,gi⟩ ?_
       conv => cbv
       refine Cell.at i _ hc (by simp [I.val]) rfl ?_
       conv => cbv
       refine RetF.mk [.p (.vsl (.sym 1) true [.int .i64 (.sym 5),.int .i64 (.sym a),.vsl (.sym k) true O2,.bool true])] [hpR 0 1 6 3 W 7 1 sp cy,hpB 1 2 5 3 W,hpD 2 3 3 1 N 4 254 8 N,hpP 3 P,hpP 4 B,hpP 5 V',hpP 6 Q',(7,.mix [.p (.vsl (.sym m') true la'),.p (.bool ov')])] 8 (Re.at [(0,0),(1,1),(2,2),(3,3),(4,4),(5,5),(6,6),(7,7)] []) rfl ⟨[(5,a,X,true)],1,1,sp,_,vs',C',G',ov',V',Q',la',m',rfl,rfl,rfl,h3,by rw [hO2,hk]; rfl,rfl,.keep a G1 X vs' C' G' ov1 ov' (hv0 ▸ hg) (.found i.toNat a ha hdue (fun j b hj => hn j b (by omega))) hX (he ▸ hT) hS⟩
      ·have gy : ¬ y ≠ 0 := gy
       have hnd : ¬ Due R vs C a := by
        rintro ⟨_,_,y2,hy2,hy0⟩
        obtain ⟨rfl,_⟩ := loaded_det hld hy2
        exact gy hy0
       conv => cbv
       refine Fit.mk (by show (-9223372036854775808 : Int) ≤ i + 1; omega) (by show i + 1 ≤ 9223372036854775807; omega) fun i2 hi2 => ?_
       have hi2 : i2 = i + 1 := hi2
       conv => cbv
       refine Again.mk k' _ (Nat.lt_succ_self _) (Re.at [(0,0),(1,1),(2,2),(3,3),(4,4),(5,5),(6,6),(7,7),(8,8)] []) ⟨i2,rfl,by omega,by omega,hstep i2 hi2 hnd,by omega⟩
     ·have g1 : ¬ 1 < k := g1
      have hnd : ¬ Due R vs C a := by
       rintro ⟨_,_,y2,hy2,hy0⟩
       cases hy2 with
       | ok k2 l2 _ hK2 hi2 _ =>
        have hlen := hX.1
        generalize hxl : (X.length : Int) = xl at hlen
        cases hlen with
        | no hno => exact hno hob2
        | is k3 l3 hK3 => have := (hK3.det9 hK2).2; omega
      conv => cbv
      refine Fit.mk (by show (-9223372036854775808 : Int) ≤ i + 1; omega) (by show i + 1 ≤ 9223372036854775807; omega) fun i2 hi2 => ?_
      have hi2 : i2 = i + 1 := hi2
      conv => cbv
      refine Again.mk k' _ (Nat.lt_succ_self _) (Re.at [(0,0),(1,1),(2,2),(3,3),(4,4),(5,5),(6,6),(7,7),(8,8)] []) ⟨i2,rfl,by omega,by omega,hstep i2 hi2 hnd,by omega⟩
    ·have g0 : ¬ x = 0 := g0
     have hnd : ¬ Due R vs C a := fun hd => g0 (Option.some.inj (hx.symm.trans hd.2.1))
     conv => cbv
     refine Fit.mk (by show (-9223372036854775808 : Int) ≤ i + 1; omega) (by show i + 1 ≤ 9223372036854775807; omega) fun i2 hi2 => ?_
     have hi2 : i2 = i + 1 := hi2
     conv => cbv
     refine Again.mk k' _ (Nat.lt_succ_self _) (Re.at [(0,0),(1,1),(2,2),(3,3),(4,4),(5,5),(6,6),(7,7),(8,8)] []) ⟨i2,rfl,by omega,by omega,hstep i2 hi2 hnd,by omega⟩
   ·have g5 : ¬ kd = 5 := g5
    have hnd : ¬ Due R vs C a := by
     rintro ⟨⟨l,hK⟩,_⟩
     cases hkd with
     | no hno => exact hno hob2
     | is _ l2 hK2 => exact g5 (hK2.det9 hK).1
    conv => cbv
    refine Fit.mk (by show (-9223372036854775808 : Int) ≤ i + 1; omega) (by show i + 1 ≤ 9223372036854775807; omega) fun i2 hi2 => ?_
    have hi2 : i2 = i + 1 := hi2
    conv => cbv
    refine Again.mk k' _ (Nat.lt_succ_self _) (Re.at [(0,0),(1,1),(2,2),(3,3),(4,4),(5,5),(6,6),(7,7),(8,8)] []) ⟨i2,rfl,by omega,by omega,hstep i2 hi2 hnd,by omega⟩
  ·have gi : ¬ i < mo := gi
   conv => cbv
   refine RetF.mk [.p (.vsl (.sym 0) true [])] [hpR 0 1 6 3 W 7 2 0 cy,hpB 1 2 5 3 W,hpD 2 3 3 1 N 4 254 8 N,hpP 3 P,hpP 4 B,hpP 5 V,hpP 6 Q,(7,.mix [.p (.vsl (.sym m1) true la1),.p (.bool ov1)])] 8 (Re.at [(0,0),(1,1),(2,2),(3,3),(4,4),(5,5),(6,6),(7,7)] []) rfl ⟨[],0,2,0,[],vs,C,G1,ov1,V,Q,la1,m1,rfl,rfl,rfl,h1,rfl,rfl,.sweep G1 ov1 (hv0 ▸ hg) (.none (fun j b hj => hn j b (by have := (List.getElem?_eq_some_iff.1 hj).1; omega) hj))⟩
inductive RG (R : List Rw) (vs C : List Int) (sp : Int) : Nat → List Gn → Prop
 | zero : RG R vs C sp 0 []
 | skip (i : Nat) (a : Int) (out : List Gn) (h : RG R vs C sp i out) (ha : (objs R)[i]? = some a) (hn : ¬ (a / 32 = sp ∧ C[a.toNat]? = some 0)) : RG R vs C sp (i + 1) out
 | add (i : Nat) (a k : Int) (X : List Int) (out : List Gn) (h : RG R vs C sp i out) (ha : (objs R)[i]? = some a) (hw : a / 32 = sp ∧ C[a.toNat]? = some 0) (hk : KindR R vs a k) (hX : Wrds R vs a X) : RG R vs C sp (i + 1) (out ++ [(k,a,X,false)])
theorem RG.le {R : List Rw} {vs C : List Int} {sp : Int} {i : Nat} {out : List Gn} (h : RG R vs C sp i out) : out.length ≤ i := by
 induction h with
 | zero => exact Nat.le_refl _
 | skip i a out h ha hn ih => omega
 | add i a k X out h ha hw hk hX ih => rw [List.length_append]; simp; omega
inductive Frees : List Rw → List Int → List Rw → Prop
 | nil (R : List Rw) : Frees R [] R
 | snoc (R R1 R2 : List Rw) (l : List Int) (a e : Int) (h : Frees R l R1) (hf : Freet R1 a e R2) : Frees R (l ++ [a]) R2
theorem RM.freet {R R' : List Rw} {vs C G : List Int} {N W m : Int} {P P' B B' V Q la : List PV} {a e : Int} (h : RM R vs C G N W P B V Q la m) (hf : Freet R a e R') (hP : P' = cpv R') (hB : B' = bpv R') : RM R' vs C G N W P' B' V Q la m := by
 obtain ⟨h1,h2⟩ := h.a.freet hf
 exact ⟨h1,by rw [h2]; exact h.n,by rw [h2]; exact h.r,h.w,hP,hB,h.v,h.q,h.c,h.l,h.m,h.g,h.g8⟩
theorem gpv_get (l : List Gn) : ∀ (i : Nat) (g : Gn),l[i]? = some g → (gpv l)[4 * i + 1]? = some (.int .i64 (.sym g.2.1)) := by
 induction l with
 | nil => intro i g h; simp at h
 | cons x l ih =>
  intro i g h
  cases i with
  | zero => simp at h; subst h; rfl
  | succ i =>
   have := ih i g (by simpa using h)
   show (gpv (x :: l))[4 * (i + 1) + 1]? = _
   rw [show 4 * (i + 1) + 1 = (4 * i + 1) + 4 by omega]
   exact this
theorem rsweep_lx (R : List Rw) (vs C G : List Int) (N W ph sp cy : Int) (P B V Q la : List PV) (m : Int) (ov : Bool) (h : RM R vs C G N W P B V Q la m) (hph : ph = 2) (hsp : 0 ≤ sp ∧ sp ≤ 1000) (hcy : 0 ≤ cy ∧ cy ≤ 1000000000) : CallF (fun _ => Tryz.prog) 85 [.ptr 0 (.lit 0)] [hpR 0 1 6 3 W 7 ph sp cy,hpB 1 2 5 3 W,hpD 2 3 3 1 N 4 254 8 N,hpP 3 P,hpP 4 B,hpP 5 V,hpP 6 Q,(7,.mix [.p (.vsl (.sym m) true la),.p (.bool ov)])] 8 (fun r h n => ∃ (out : List Gn) (k ph' sp' cy' : Int) (cells P' B' : List PV) (R' : List Rw),r = .p (.vsl (.sym k) true cells) ∧ h = [hpR 0 1 6 3 W 7 ph' sp' cy',hpB 1 2 5 3 W,hpD 2 3 3 1 N 4 254 8 N,hpP 3 P',hpP 4 B',hpP 5 V,hpP 6 Q,(7,.mix [.p (.vsl (.sym m) true la),.p (.bool ov)])] ∧ n = 8 ∧ RM R' vs C G N W P' B' V Q la m ∧ cells = gpv out ∧ k = out.length ∧ RG R vs C sp (objs R).length out ∧ Frees R (out.map fun g => g.2.1) R' ∧ sp' = sp + 1 ∧ ph' = swPh sp W ∧ cy' = swCy sp W cy) := by
 have hCl := h.c; have hWn := h.w; have hNr := h.n; have hRr := h.r
 have hQl : Q.length = C.length := by rw [h.q,ipv_length]
 obtain ⟨mo,hmo⟩ : ∃ m : Int,m = objCount R := ⟨_,rfl⟩
 refine callF_of_body tok Tryz.func85 (by kernel_rfl) rfl rfl rfl ?_; conv => cbv
 refine cfr (robjects_lx mo R vs N W P B V h.p h.b h.v h.n h.r h.a h.w hmo) [(0,1),(1,2),(2,3),(3,4),(4,5)] (fun r h' n' hrr => ?_)
 obtain ⟨O,e1,e2,e3,hO⟩ := hrr
 subst e1 e2 e3
 have hOl : (O.length : Int) = mo := by rw [hO,ipv_length,objs_length h.a.rows,hmo]
 have hO : O = ipv (objs R) := hO
 have hol : ((objs R).length : Int) = mo := by rw [← hOl,hO,ipv_length]
 have hob : mo ≤ 8000 := by have := objsTo_le R R.length; rw [objs_length h.a.rows] at this; omega
 conv => cbv
 refine LoopF.mk (fun kk s => ∃ (i k : Int) (out : List Gn) (cells : List PV),s = ⟨.ptr 0 (.lit 0) :: (undefs 2 ++ .sl 9 42 4 (.lit 0) (.sym k) :: .sl 8 3 1 (.lit 0) (.sym mo) :: .p (.int .i64 (.sym i)) :: undefs 109),[hpR 0 1 6 3 W 7 ph sp cy,hpB 1 2 5 3 W,hpD 2 3 3 1 N 4 254 8 N,hpP 3 P,hpP 4 B,hpP 5 V,hpP 6 Q,(7,.mix [.p (.vsl (.sym m) true la),.p (.bool ov)]),hpP 8 O,hpP 9 cells],10⟩ ∧ 0 ≤ i ∧ i ≤ mo ∧ RG R vs C sp i.toNat out ∧ cells = gpv out ∧ k = out.length ∧ kk = (mo - i).toNat) mo.toNat _
  (Re.at [(0,0),(1,1),(2,2),(3,3),(4,4),(5,5),(6,6),(7,7),(8,8)] [9]) ⟨0,0,[],[],rfl,by omega,by omega,.zero,rfl,rfl,by omega⟩ ?_
 rintro kk s ⟨i,k,out,cells,rfl,hi0,hi1,hG,hcs,hk,hkk⟩
 have hle := hG.le
 have hcl : (cells.length : Int) = 4 * k := by rw [hcs,gpv_length]; omega
 conv => cbv
 refine Br.mk (fun gi => ?_) (fun gi => ?_)
 ·have gi : i < mo := gi
  obtain ⟨k',rfl⟩ : ∃ k',kk = k' + 1 := ⟨kk - 1,by omega⟩
  obtain ⟨a,ha⟩ : ∃ a,(objs R)[i.toNat]? = some a := ⟨_,List.getElem?_eq_getElem (by omega)⟩
  have hc : O[i.toNat]? = some (.int .i64 (.sym a)) := by rw [hO]; exact ipv_get ha
  have hab := obj_bd h.a (List.mem_of_getElem? ha)
  obtain ⟨x,hx⟩ : ∃ x,C[a.toNat]? = some x := ⟨_,List.getElem?_eq_getElem (by omega)⟩
  have hq : Q[a.toNat]? = some (.int .i64 (.sym x)) := by rw [h.q]; exact ipv_get hx
  have hdv : a.tdiv 32 = a / 32 := Int.tdiv_eq_ediv_of_nonneg hab.1
  have hskip : ∀ i2 : Int,i2 = i + 1 → ¬ (a / 32 = sp ∧ C[a.toNat]? = some 0) → RG R vs C sp i2.toNat out := by
   intro i2 hi2 hn
   rw [show i2.toNat = i.toNat + 1 by omega]
   exact .skip _ a out hG ha hn
  conv => cbv
  refine drawn_sound tok (by kernel_rfl) [] [0,1,2,3,4,5,6,7,8,9,10,11,12,13,14,15,16,17,18,19,20,21,22] (by kernel_rfl) ?_; conv => cbv
  refine Need.mk ⟨hi0,gi⟩ ?_
  conv => cbv
  refine Cell.at i _ hc (by simp [I.val]) rfl ?_
  conv => cbv
  refine Fit.mk (by show (-9223372036854775808 : Int) ≤ a.tdiv 32; omega) (by show a.tdiv 32 ≤ 9223372036854775807; omega) fun d hd => ?_
  have hd : d = a / 32 := hd.trans hdv
  conv => cbv
  refine Br.mk (fun gd => ?_) (fun gd => ?_)
  ·have gd : d = sp := gd
   conv => cbv
   refine Need.mk ⟨hi0,gi⟩ ?_
   conv => cbv
   refine Cell.at i _ hc (by simp [I.val]) rfl ?_
   conv => cbv
   refine Need.mk ⟨by show 0 ≤ a; omega,by show a < W; omega⟩ ?_
   conv => cbv
   refine Cell.at a _ hq (by simp [I.val]) rfl ?_
   conv => cbv
   refine Br.mk (fun g0 => ?_) (fun g0 => ?_)
   ·have g0 : x = 0 := g0
    conv => cbv
    refine drawn_sound tok (by kernel_rfl) [(9,[18,17,16,15,14,13,12,11,10,0]),(19,[13,12,11,10,0]),(21,[0]),(22,[])] [0,1,2,3,4,5,6,7,8,10,11,12,13,14,15,16,17,18,9,19,20,21,22,23] (by kernel_rfl) ?_; conv => cbv
    refine Need.mk ⟨hi0,gi⟩ ?_
    conv => cbv
    refine Cell.at i _ hc (by simp [I.val]) rfl ?_
    conv => cbv
    refine Need.mk ⟨hi0,gi⟩ ?_
    conv => cbv
    refine Cell.at i _ hc (by simp [I.val]) rfl ?_
    conv => cbv
    refine Need.mk ⟨hi0,gi⟩ ?_
    conv => cbv
    refine Cell.at i _ hc (by simp [I.val]) rfl ?_
    conv => cbv
    refine cfr (rkind_lx R vs N a W P B V h.p h.b h.v h.n h.r h.a h.w) [(0,1),(1,2),(2,3),(3,4),(4,5)] (fun r h' n' hrr => ?_)
    obtain ⟨kd,e1,e2,e3,hkd⟩ := hrr
    subst e1 e2 e3
    conv => cbv
    refine cfr (rwordsV_lx R vs C G N W ph sp cy P B V Q la m ov h a) [(0,0),(1,1),(2,2),(3,3),(4,4),(5,5),(6,6),(7,7)] (fun r h' n' hrr => ?_)
    obtain ⟨X,kx,O2,e1,e2,e3,hO2,hkx,hX⟩ := hrr
    subst e1 e2 e3
    conv => cbv
    refine Room.new rfl ?_
    conv => cbv
    refine Room.new ⟨?_,?_,?_⟩ ?_
    ·show (cells.length : Int) = k * 4; omega
    ·show (k + 1) * 48 ≤ 140737488355328; omega
    ·show k + 1 ≤ 9223372036854775807; omega
    conv => cbv
    refine Upd.mk fun c2 hc2 => ?_
    have hc2 : c2 = cells ++ [.int .i64 (.sym kd),.int .i64 (.sym a),.vsl (.sym kx) true O2,.bool false] := hc2
    have hc2 : c2 = gpv (out ++ [(kd,a,X,false)]) := by rw [hc2,hcs,gpv_app,hO2,hkx]; rfl
    conv => cbv
    refine Sum.mk fun k2 hk2 => ?_
    have hk2 : k2 = k + 1 := hk2
    conv => cbv
    refine Fit.mk (by show (-9223372036854775808 : Int) ≤ i + 1; omega) (by show i + 1 ≤ 9223372036854775807; omega) fun i2 hi2 => ?_
    have hi2 : i2 = i + 1 := hi2
    have hG2 : RG R vs C sp i2.toNat (out ++ [(kd,a,X,false)]) := by
     rw [show i2.toNat = i.toNat + 1 by omega]
     exact .add _ a kd X out hG ha ⟨by omega,by rw [hx,g0]⟩ hkd hX
    have hk3 : k2 = ((out ++ [(kd,a,X,false)]).length : Int) := by rw [List.length_append]; show k2 = ((out.length + 1 : Nat) : Int); omega
    conv => cbv
    refine Again.mk k' _ (Nat.lt_succ_self _) (Re.at [(0,0),(1,1),(2,2),(3,3),(4,4),(5,5),(6,6),(7,7),(8,8),(11,9)] []) ⟨i2,k2,_,c2,rfl,by omega,by omega,hG2,hc2,hk3,by omega⟩
   ·have g0 : ¬ x = 0 := g0
    have hnw : ¬ (a / 32 = sp ∧ C[a.toNat]? = some 0) := fun hk => g0 (Option.some.inj (hx.symm.trans hk.2))
    conv => cbv
    refine Fit.mk (by show (-9223372036854775808 : Int) ≤ i + 1; omega) (by show i + 1 ≤ 9223372036854775807; omega) fun i2 hi2 => ?_
    have hi2 : i2 = i + 1 := hi2
    have hG2 := hskip i2 hi2 hnw
    conv => cbv
    refine Again.mk k' _ (Nat.lt_succ_self _) (Re.at [(0,0),(1,1),(2,2),(3,3),(4,4),(5,5),(6,6),(7,7),(8,8),(9,9)] []) ⟨i2,k,out,cells,rfl,by omega,by omega,hG2,hcs,hk,by omega⟩
  ·have gd : ¬ d = sp := gd
   have hnw : ¬ (a / 32 = sp ∧ C[a.toNat]? = some 0) := fun hk => gd (hd.trans hk.1)
   conv => cbv
   refine Fit.mk (by show (-9223372036854775808 : Int) ≤ i + 1; omega) (by show i + 1 ≤ 9223372036854775807; omega) fun i2 hi2 => ?_
   have hi2 : i2 = i + 1 := hi2
   have hG2 := hskip i2 hi2 hnw
   conv => cbv
   refine Again.mk k' _ (Nat.lt_succ_self _) (Re.at [(0,0),(1,1),(2,2),(3,3),(4,4),(5,5),(6,6),(7,7),(8,8),(9,9)] []) ⟨i2,k,out,cells,rfl,by omega,by omega,hG2,hcs,hk,by omega⟩
 ·have gi : ¬ i < mo := gi
  have hG : RG R vs C sp (objs R).length out := by rw [show (objs R).length = i.toNat by omega]; exact hG
  conv => cbv
  refine LoopF.mk (fun kk s => ∃ (i : Int) (P1 B1 : List PV) (R1 : List Rw),s = ⟨.ptr 0 (.lit 0) :: (undefs 2 ++ .sl 8 42 4 (.lit 0) (.sym k) :: (undefs 2 ++ .p (.int .i64 (.sym i)) :: undefs 108)),[hpR 0 1 6 3 W 7 ph sp cy,hpB 1 2 5 3 W,hpD 2 3 3 1 N 4 254 8 N,hpP 3 P1,hpP 4 B1,hpP 5 V,hpP 6 Q,(7,.mix [.p (.vsl (.sym m) true la),.p (.bool ov)]),hpP 8 cells],9⟩ ∧ 0 ≤ i ∧ i ≤ k ∧ RM R1 vs C G N W P1 B1 V Q la m ∧ Frees R ((out.map fun g => g.2.1).take i.toNat) R1 ∧ kk = (k - i).toNat) k.toNat _
   (Re.at [(0,0),(1,1),(2,2),(3,3),(4,4),(5,5),(6,6),(7,7),(9,8)] []) ⟨0,P,B,R,rfl,by omega,by omega,h,.nil R,by omega⟩ ?_
  rintro kk s ⟨i,P1,B1,R1,rfl,hi0,hi1,h1,hF,hkk⟩
  conv => cbv
  refine Br.mk (fun gi => ?_) (fun gi => ?_)
  ·have gi : i < k := gi
   obtain ⟨k',rfl⟩ : ∃ k',kk = k' + 1 := ⟨kk - 1,by omega⟩
   obtain ⟨g,hg⟩ : ∃ g,out[i.toNat]? = some g := ⟨_,List.getElem?_eq_getElem (by omega)⟩
   obtain ⟨a,ha⟩ : ∃ a,a = g.2.1 := ⟨_,rfl⟩
   have hcg := gpv_get out i.toNat g hg
   rw [← hcs,← ha] at hcg
   conv => cbv
   refine drawn_sound tok (by kernel_rfl) [(9,[])] [0,1,2,3,4,5,6,7,8,9] (by kernel_rfl) ?_; conv => cbv
   refine Need.mk ⟨hi0,gi⟩ ?_
   conv => cbv
   refine Sum.mk fun w hw => ?_
   have hw : w = i * 4 := hw
   conv => cbv
   refine Sum.mk fun w2 hw2 => ?_
   have hw2 : w2 = w + 1 := hw2
   conv => cbv
   refine Cell.at (w2 + 0) (4 * i.toNat + 1) hcg rfl (by omega) ?_
   conv => cbv
   refine cfr (rfreeA_lx R1 vs N a W P1 B1 V h1.p h1.b h1.v h1.n h1.r h1.a h1.w) [(0,1),(1,2),(2,3),(3,4),(4,5)] (fun r h' n' hrr => ?_)
   obtain ⟨e,R2,P2,B2,e1,e2,e3,hP2,hB2,hf⟩ := hrr
   subst e1 e2 e3
   have h2 := h1.freet hf hP2 hB2
   conv => cbv
   refine Fit.mk (by show (-9223372036854775808 : Int) ≤ i + 1; omega) (by show i + 1 ≤ 9223372036854775807; omega) fun i2 hi2 => ?_
   have hi2 : i2 = i + 1 := hi2
   have hF2 : Frees R ((out.map fun g => g.2.1).take i2.toNat) R2 := by
    rw [show i2.toNat = i.toNat + 1 by omega,List.take_add_one,List.getElem?_map,hg]
    exact .snoc R R1 R2 _ g.2.1 e hF (ha ▸ hf)
   conv => cbv
   refine Again.mk k' _ (Nat.lt_succ_self _) (Re.at [(0,0),(1,1),(2,2),(3,3),(4,4),(5,5),(6,6),(7,7),(8,8)] []) ⟨i2,P2,B2,R2,rfl,by omega,by omega,h2,hF2,by omega⟩
  ·have gi : ¬ i < k := gi
   rw [List.take_of_length_le (by rw [List.length_map]; omega)] at hF
   conv => cbv
   refine Fit.mk (by show (-9223372036854775808 : Int) ≤ sp + 1; omega) (by show sp + 1 ≤ 9223372036854775807; omega) fun s2 hs2 => ?_
   have hs2 : s2 = sp + 1 := hs2
   conv => cbv
   refine drawn_sound tok (by kernel_rfl) [] [0,1,2,3,4,5,6,7,8,9,10,11,12,13,14,15] (by kernel_rfl) ?_; conv => cbv
   refine Br.mk (fun gw => ?_) (fun gw => ?_)
   ·have gw : N ≤ s2 := gw
    conv => cbv
    refine Fit.mk (by show (-9223372036854775808 : Int) ≤ cy + 1; omega) (by show cy + 1 ≤ 9223372036854775807; omega) fun c2 hc2 => ?_
    have hc2 : c2 = cy + 1 := hc2
    conv => cbv
    refine RetF.mk [.p (.vsl (.sym k) true cells)] [hpR 0 1 6 3 W 7 0 s2 c2,hpB 1 2 5 3 W,hpD 2 3 3 1 N 4 254 8 N,hpP 3 P1,hpP 4 B1,hpP 5 V,hpP 6 Q,(7,.mix [.p (.vsl (.sym m) true la),.p (.bool ov)])] 8 (Re.at [(0,0),(1,1),(2,2),(3,3),(4,4),(5,5),(6,6),(7,7)] []) rfl ⟨out,k,0,s2,c2,cells,P1,B1,R1,rfl,rfl,rfl,h1,hcs,hk,hG,hF,hs2,by unfold swPh; rw [if_pos (by omega)],by unfold swCy; rw [if_pos (by omega)]; exact hc2⟩
   ·have gw : ¬ N ≤ s2 := gw
    conv => cbv
    refine RetF.mk [.p (.vsl (.sym k) true cells)] [hpR 0 1 6 3 W 7 ph s2 cy,hpB 1 2 5 3 W,hpD 2 3 3 1 N 4 254 8 N,hpP 3 P1,hpP 4 B1,hpP 5 V,hpP 6 Q,(7,.mix [.p (.vsl (.sym m) true la),.p (.bool ov)])] 8 (Re.at [(0,0),(1,1),(2,2),(3,3),(4,4),(5,5),(6,6),(7,7)] []) rfl ⟨out,k,ph,s2,cy,cells,P1,B1,R1,rfl,rfl,rfl,h1,hcs,hk,hG,hF,hs2,by unfold swPh; rw [if_neg (by omega)]; exact hph,by unfold swCy; rw [if_neg (by omega)]⟩
inductive RStepd (R : List Rw) (vs C G : List Int) (ov : Bool) (ph sp cy W : Int) : List Gn → List Rw → List Int → List Int → List Int → Bool → Int → Int → Int → Prop
 | mark (out : List Gn) (vs' C' G' : List Int) (ov' : Bool) (ph' sp' : Int) (h : ph = 1) (hm : Marked R vs C G ov sp out ph' sp' vs' C' G' ov') : RStepd R vs C G ov ph sp cy W out R vs' C' G' ov' ph' sp' cy
 | sweep (out : List Gn) (R' : List Rw) (h : ph = 2) (hg : RG R vs C sp (objs R).length out) (hf : Frees R (out.map fun g => g.2.1) R') : RStepd R vs C G ov ph sp cy W out R' vs C G ov (swPh sp W) (sp + 1) (swCy sp W cy)
 | idle (h : ph ≠ 1) (h2 : ph ≠ 2) : RStepd R vs C G ov ph sp cy W [] R vs C G ov ph sp cy
theorem rstep_lx (R : List Rw) (vs C G : List Int) (N W ph sp cy : Int) (P B V Q la : List PV) (m : Int) (ov : Bool) (h : RM R vs C G N W P B V Q la m) (hsp : 0 ≤ sp ∧ sp ≤ 1000) (hcy : 0 ≤ cy ∧ cy ≤ 1000000000) : CallF (fun _ => Tryz.prog) 30 [.ptr 0 (.lit 0)] [hpR 0 1 6 3 W 7 ph sp cy,hpB 1 2 5 3 W,hpD 2 3 3 1 N 4 254 8 N,hpP 3 P,hpP 4 B,hpP 5 V,hpP 6 Q,(7,.mix [.p (.vsl (.sym m) true la),.p (.bool ov)])] 8 (fun r h n => ∃ (out : List Gn) (k ph' sp' cy' : Int) (R' : List Rw) (vs' C' G' : List Int) (ov' : Bool) (cells P' B' V' Q' la' : List PV) (m' : Int),r = .p (.vsl (.sym k) true cells) ∧ h = [hpR 0 1 6 3 W 7 ph' sp' cy',hpB 1 2 5 3 W,hpD 2 3 3 1 N 4 254 8 N,hpP 3 P',hpP 4 B',hpP 5 V',hpP 6 Q',(7,.mix [.p (.vsl (.sym m') true la'),.p (.bool ov')])] ∧ n = 8 ∧ RM R' vs' C' G' N W P' B' V' Q' la' m' ∧ cells = gpv out ∧ k = out.length ∧ RStepd R vs C G ov ph sp cy W out R' vs' C' G' ov' ph' sp' cy') := by
 refine callF_of_body tok Tryz.func30 (by kernel_rfl) rfl rfl rfl ?_; conv => cbv
 refine Br.mk (fun g => ?_) (fun g => ?_)
 ·have g : ph = 1 := g
  conv => cbv
  refine cfr (rmark_lx R vs C G N W ph sp cy P B V Q la m ov h g) [(0,0),(1,1),(2,2),(3,3),(4,4),(5,5),(6,6),(7,7)] (fun r h' n' hrr => ?_)
  obtain ⟨out,k,ph',sp',cells,vs',C',G',ov',V',Q',la',m',e1,e2,e3,h2,hcs,hk,hM⟩ := hrr
  subst e1 e2 e3
  conv => cbv
  refine RetF.mk [.p (.vsl (.sym k) true cells)] [hpR 0 1 6 3 W 7 ph' sp' cy,hpB 1 2 5 3 W,hpD 2 3 3 1 N 4 254 8 N,hpP 3 P,hpP 4 B,hpP 5 V',hpP 6 Q',(7,.mix [.p (.vsl (.sym m') true la'),.p (.bool ov')])] 8 (Re.at [(0,0),(1,1),(2,2),(3,3),(4,4),(5,5),(6,6),(7,7)] []) rfl ⟨out,k,ph',sp',cy,R,vs',C',G',ov',cells,P,B,V',Q',la',m',rfl,rfl,rfl,h2,hcs,hk,.mark out vs' C' G' ov' ph' sp' g hM⟩
 ·have g : ¬ ph = 1 := g
  conv => cbv
  refine Br.mk (fun g2 => ?_) (fun g2 => ?_)
  ·have g2 : ph = 2 := g2
   conv => cbv
   refine cfr (rsweep_lx R vs C G N W ph sp cy P B V Q la m ov h g2 hsp hcy) [(0,0),(1,1),(2,2),(3,3),(4,4),(5,5),(6,6),(7,7)] (fun r h' n' hrr => ?_)
   obtain ⟨out,k,ph',sp',cy',cells,P',B',R',e1,e2,e3,h2,hcs,hk,hG,hF,q1,q2,q3⟩ := hrr
   subst e1 e2 e3
   conv => cbv
   refine RetF.mk [.p (.vsl (.sym k) true cells)] [hpR 0 1 6 3 W 7 ph' sp' cy',hpB 1 2 5 3 W,hpD 2 3 3 1 N 4 254 8 N,hpP 3 P',hpP 4 B',hpP 5 V,hpP 6 Q,(7,.mix [.p (.vsl (.sym m) true la),.p (.bool ov)])] 8 (Re.at [(0,0),(1,1),(2,2),(3,3),(4,4),(5,5),(6,6),(7,7)] []) rfl ⟨out,k,ph',sp',cy',R',vs,C,G,ov,cells,P',B',V,Q,la,m,rfl,rfl,rfl,h2,hcs,hk,by rw [q1,q2,q3]; exact .sweep out R' g2 hG hF⟩
  ·have g2 : ¬ ph = 2 := g2
   conv => cbv
   refine RetF.mk [.p (.vsl (.sym 0) true [])] [hpR 0 1 6 3 W 7 ph sp cy,hpB 1 2 5 3 W,hpD 2 3 3 1 N 4 254 8 N,hpP 3 P,hpP 4 B,hpP 5 V,hpP 6 Q,(7,.mix [.p (.vsl (.sym m) true la),.p (.bool ov)])] 8 (Re.at [(0,0),(1,1),(2,2),(3,3),(4,4),(5,5),(6,6),(7,7)] []) rfl ⟨[],0,ph,sp,cy,R,vs,C,G,ov,[],P,B,V,Q,la,m,rfl,rfl,rfl,h,rfl,rfl,.idle g g2⟩
theorem Sim.wrds {R : List Rw} {ws vs X Y : List Int} {a : Int} (h : Sim R ws vs) (h1 : Wrds R ws a X) (h2 : Wrds R vs a Y) : X = Y := by
 have hl := h.len h1.1 h2.1
 apply List.ext_getElem?
 intro i
 by_cases hi : i < X.length
 ·obtain ⟨x,hx⟩ : ∃ x,X[i]? = some x := ⟨_,List.getElem?_eq_getElem hi⟩
  obtain ⟨y,hy⟩ : ∃ y,Y[i]? = some y := ⟨_,List.getElem?_eq_getElem (by omega)⟩
  obtain ⟨rfl,_⟩ := h.load (h1.2 i x hx) (h2.2 i y hy)
  rw [hx,hy]
 ·rw [List.getElem?_eq_none (by omega),List.getElem?_eq_none (by omega)]
theorem Sim.due {R : List Rw} {ws vs C : List Int} {a : Int} (h : Sim R ws vs) (hd : Due R ws C a) : Due R vs C a := by
 obtain ⟨⟨l,hK⟩,hc,x,hx,hx0⟩ := hd
 obtain ⟨k',l',hK'⟩ := Kept.of h.b hK.obj6
 obtain rfl := h.kind (.is 5 l hK) (.is k' l' hK')
 obtain ⟨y,f,hy⟩ : ∃ y f,Loaded R vs a 1 y f := by
  by_cases hi : (0 : Int) ≤ 1 ∧ 1 < l'
  ·have hb := hK'.bounds h.b
   have hlen := h.b.len
   obtain ⟨y,hy⟩ : ∃ y,vs[(a + 1 + 1).toNat]? = some y := ⟨_,List.getElem?_eq_getElem (by omega)⟩
   exact ⟨y,0,.ok 5 l' y hK' hi hy⟩
  ·exact ⟨0,1,.arg 5 l' hK' hi⟩
 obtain ⟨rfl,rfl⟩ := h.load hx hy
 exact ⟨⟨l',hK'⟩,hc,x,hy,hx0⟩
theorem Sim.symm_due {R : List Rw} {ws vs C : List Int} {a : Int} (h : Sim R ws vs) (hd : Due R vs C a) : Due R ws C a := by
 obtain ⟨⟨l,hK⟩,hc,x,hx,hx0⟩ := hd
 obtain ⟨k',l',hK'⟩ := Kept.of h.a hK.obj6
 obtain rfl := h.kind (.is k' l' hK') (.is 5 l hK)
 obtain ⟨y,f,hy⟩ : ∃ y f,Loaded R ws a 1 y f := by
  by_cases hi : (0 : Int) ≤ 1 ∧ 1 < l'
  ·have hb := hK'.bounds h.a
   have hlen := h.a.len
   obtain ⟨y,hy⟩ : ∃ y,ws[(a + 1 + 1).toNat]? = some y := ⟨_,List.getElem?_eq_getElem (by omega)⟩
   exact ⟨y,0,.ok _ l' y hK' hi hy⟩
  ·exact ⟨0,1,.arg _ l' hK' hi⟩
 obtain ⟨rfl,rfl⟩ := h.load hy hx
 exact ⟨⟨l',hK'⟩,hc,y,hy,hx0⟩
theorem Sim.nextF {R : List Rw} {ws vs C : List Int} {a : Int} {b : Bool} (h : Sim R ws vs) (hd : NextF R ws C a b) : NextF R vs C a b := by
 cases hd with
 | found i _ ha hd hn => exact .found i a ha (h.due hd) (fun j c hj hc hk => hn j c hj hc (h.symm_due hk))
 | none hn => exact .none (fun j c hc hk => hn j c hc (h.symm_due hk))
theorem marked_sim {R : List Rw} {ws vs C G ws' C1 G1 vs' C2 G2 : List Int} {ov o1 o2 : Bool} {sp p1 s1 p2 s2 : Int} {out1 out2 : List Gn} (h : Sim R ws vs) (h1 : Marked R ws C G ov sp out1 p1 s1 ws' C1 G1 o1) (h2 : Marked R vs C G ov sp out2 p2 s2 vs' C2 G2 o2) :
  out1 = out2 ∧ p1 = p2 ∧ s1 = s2 ∧ C1 = C2 ∧ G1 = G2 ∧ o1 = o2 ∧ Sim R ws' vs' := by
 cases h1 with
 | scan v A X _ _ q _ hg hX hs => cases h2 with
  | scan v' A' X' _ _ q' _ hg' hX' hs' =>
   obtain ⟨rfl,_,rfl,rfl⟩ := hg.det hg'
   obtain rfl := h.wrds hX hX'
   rw [← hs] at hs'
   cases hs'
   exact ⟨rfl,rfl,rfl,rfl,rfl,rfl,h⟩
  | keep _ _ _ _ _ _ _ _ hg' _ _ _ _ => obtain ⟨_,e,_⟩ := hg.det hg'; cases e
  | sweep _ _ hg' _ => obtain ⟨_,e,_⟩ := hg.det hg'; cases e
 | keep a A X _ _ _ q _ hg hf hX hst hs => cases h2 with
  | scan _ _ _ _ _ _ _ hg' _ _ => obtain ⟨_,e,_⟩ := hg.det hg'; cases e
  | keep a' A' X' _ _ _ q' _ hg' hf' hX' hst' hs' =>
   obtain ⟨_,_,rfl,rfl⟩ := hg.det hg'
   obtain ⟨rfl,_⟩ := (h.nextF hf).det hf'
   obtain rfl := h.wrds hX hX'
   rw [← hs] at hs'
   cases hs'
   obtain ⟨_,h3⟩ := h.store (by decide) hst hst'
   exact ⟨rfl,rfl,rfl,rfl,rfl,rfl,h3⟩
  | sweep _ _ hg' hf' => obtain ⟨_,e⟩ := (h.nextF hf).det hf'; cases e
 | sweep A q hg hf => cases h2 with
  | scan _ _ _ _ _ _ _ hg' _ _ => obtain ⟨_,e,_⟩ := hg.det hg'; cases e
  | keep _ _ _ _ _ _ _ _ hg' hf' _ _ _ => obtain ⟨_,e⟩ := (h.nextF hf).det hf'; cases e
  | sweep A' q' hg' hf' =>
   obtain ⟨_,_,rfl,rfl⟩ := hg.det hg'
   exact ⟨rfl,rfl,rfl,rfl,rfl,rfl,h⟩
theorem freet_objs {R R' : List Rw} {ws : List Int} {a e : Int} (hA : AOk R ws) (ha : a ∈ objs R) (h : Freet R a e R') : AOk R' ws ∧ ∀ b,b ∈ objs R' ↔ b ∈ objs R ∧ b ≠ a := by
 have hA' := (hA.freet h).1
 refine ⟨hA',fun b => ?_⟩
 rw [obj_iff hA',obj_iff hA]
 cases h with
 | none hn => exact absurd ((obj_iff hA a).1 ha) hn
 | ok q s e he hs hat =>
  obtain ⟨_,_,_,g4⟩ := free_objs hA.rows he hs a hat
  rw [isObj_iff,isObj_iff]
  constructor
  ·rintro ⟨w,hw⟩; exact ⟨⟨w,((g4 b w).1 hw).1⟩,((g4 b w).1 hw).2⟩
  ·rintro ⟨⟨w,hw⟩,hne⟩; exact ⟨w,(g4 b w).2 ⟨hw,hne⟩⟩
theorem kept_back {R R' : List Rw} {ws : List Int} {a e b k l : Int} (hA : AOk R ws) (h : Freet R a e R') (hk : Kept R ws b k l) (ho : b ∈ objs R') : Kept R' ws b k l := by
 obtain ⟨k',l',hK⟩ := Kept.of (hA.freet h).1 ((obj_iff (hA.freet h).1 b).1 ho)
 obtain ⟨rfl,rfl⟩ := (kept_freet hA h b k' l' hK).det9 hk
 exact hK
structure SwF (R R1 : List Rw) (ws C : List Int) (p : Int) (i : Nat) (out : List Gn) : Prop where
 each : ∀ g ∈ out,KindR R ws g.2.1 g.1 ∧ Wrds R ws g.2.1 g.2.2.1 ∧ g.2.2.2 = false
 asc : (out.map fun g => g.2.1).Pairwise (· < ·)
 mem : ∀ x,x ∈ (out.map fun g => g.2.1) ↔ p ≤ x ∧ x < p + i ∧ Wh R C x
 frees : Frees R (out.map fun g => g.2.1) R1
 ok : AOk R1 ws
 left : ∀ b,b ∈ objs R1 ↔ b ∈ objs R ∧ b ∉ (out.map fun g => g.2.1)
 kept : ∀ b k l,Kept R1 ws b k l → Kept R ws b k l
theorem gmap_app (out : List Gn) (g : Gn) : (out ++ [g]).map (fun g => g.2.1) = out.map (fun g => g.2.1) ++ [g.2.1] := by
 rw [List.map_append]; rfl
theorem SweptTo.facts {ws C : List Int} {R R1 : List Rw} {p : Int} {i : Nat} {out : List Gn} (hA : AOk R ws) (h : SweptTo ws C R p i out R1) : SwF R R1 ws C p i out := by
 induction h with
 | zero =>
  refine ⟨fun g hg => (by cases hg),List.Pairwise.nil,fun x => ⟨fun hx => (by cases hx),fun hx => (by have := hx.1; have := hx.2.1; omega)⟩,.nil R,hA,fun b => ⟨fun hb => ⟨hb,fun hk => (by cases hk)⟩,fun hb => hb.1⟩,fun _ _ _ hk => hk⟩
 | skip i out R1 h hn ih =>
  refine ⟨ih.each,ih.asc,fun x => ?_,ih.frees,ih.ok,ih.left,ih.kept⟩
  rw [ih.mem x]
  constructor
  ·rintro ⟨h1,h2,h3⟩; exact ⟨h1,by omega,h3⟩
  ·rintro ⟨h1,h2,h3⟩
   refine ⟨h1,?_,h3⟩
   by_cases e : x = p + i
   ·subst e
    exfalso
    refine hn ⟨(ih.left _).2 ⟨h3.1,fun hk => ?_⟩,h3.2⟩
    have := ((ih.mem _).1 hk).2.1
    omega
   ·omega
 | free i out R1 R2 k X h hw hk hX hf ih =>
  obtain ⟨hA2,hob⟩ := freet_objs ih.ok hw.1 hf
  have hnew := (ih.left (p + i)).1 hw.1
  have hK1 : ∃ l,Kept R1 ws (p + i) k l := by
   cases hk with
   | no hn => exact absurd ((obj_iff ih.ok _).1 hw.1) hn
   | is _ l hK => exact ⟨l,hK⟩
  obtain ⟨l,hK⟩ := hK1
  have hKR := ih.kept _ _ _ hK
  refine ⟨fun g hg => ?_,?_,fun x => ?_,?_,hA2,fun b => ?_,fun b k l hb => ih.kept b k l (kept_freet ih.ok hf b k l hb)⟩
  ·rcases List.mem_append.1 hg with hg | hg
   ·exact ih.each g hg
   ·rw [List.mem_singleton.1 hg]
    refine ⟨.is k l hKR,⟨?_,fun j x hx => ?_⟩,rfl⟩
    ·have hl := hX.1
     generalize hxl : (X.length : Int) = xl at hl
     cases hl with
     | no hn => exact absurd hK.obj6 hn
     | is k2 l2 hK2 => exact .is k2 _ (ih.kept _ _ _ hK2)
    ·cases hX.2 j x hx with
     | ok k2 l2 _ hK2 hi hx => exact .ok k2 l2 x (ih.kept _ _ _ hK2) hi hx
  ·rw [gmap_app,List.pairwise_append]
   refine ⟨ih.asc,List.pairwise_singleton _ _,fun x hx y hy => ?_⟩
   rw [List.mem_singleton.1 hy]
   exact ((ih.mem x).1 hx).2.1
  ·rw [gmap_app,List.mem_append,List.mem_singleton,ih.mem x]
   constructor
   ·rintro (⟨h1,h2,h3⟩ | h1)
    ·exact ⟨h1,by omega,h3⟩
    ·have h1 : x = p + i := h1
     subst h1
     exact ⟨by omega,by omega,hnew.1,hw.2⟩
   ·rintro ⟨h1,h2,h3⟩
    by_cases e : x = p + i
    ·exact .inr e
    ·exact .inl ⟨h1,by omega,h3⟩
  ·rw [gmap_app]; exact .snoc R R1 R2 _ _ 0 ih.frees hf
  ·rw [hob b,ih.left b,gmap_app,List.mem_append,List.mem_singleton]
   constructor
   ·rintro ⟨⟨h1,h2⟩,h3⟩; exact ⟨h1,fun hk => hk.elim h2 h3⟩
   ·rintro ⟨h1,h2⟩; exact ⟨⟨h1,fun hk => h2 (.inl hk)⟩,fun hk => h2 (.inr hk)⟩
structure RgF (R : List Rw) (vs C : List Int) (sp : Int) (i : Nat) (out : List Gn) : Prop where
 each : ∀ g ∈ out,KindR R vs g.2.1 g.1 ∧ Wrds R vs g.2.1 g.2.2.1 ∧ g.2.2.2 = false
 asc : (out.map fun g => g.2.1).Pairwise (· < ·)
 mem : ∀ x,x ∈ (out.map fun g => g.2.1) ↔ (∃ j : Nat,j < i ∧ (objs R)[j]? = some x) ∧ x / 32 = sp ∧ C[x.toNat]? = some 0
theorem objs_lt {R : List Rw} (hR : RowsOk R) {i j : Nat} {a b : Int} (hij : i < j) (ha : (objs R)[i]? = some a) (hb : (objs R)[j]? = some b) : a < b := by
 obtain ⟨h1,h2⟩ := List.getElem?_eq_some_iff.1 ha
 obtain ⟨h3,h4⟩ := List.getElem?_eq_some_iff.1 hb
 have := (List.pairwise_iff_getElem.1 (objsTo_asc hR R.length)) i j h1 h3 hij
 rw [← h2,← h4]; exact this
theorem RG.facts {R : List Rw} {vs C : List Int} {sp : Int} {i : Nat} {out : List Gn} (hR : RowsOk R) (h : RG R vs C sp i out) : RgF R vs C sp i out := by
 induction h with
 | zero => exact ⟨fun g hg => (by cases hg),List.Pairwise.nil,fun x => ⟨fun hx => (by cases hx),fun ⟨⟨j,hj,_⟩,_⟩ => (by omega)⟩⟩
 | skip i a out h ha hn ih =>
  refine ⟨ih.each,ih.asc,fun x => ?_⟩
  rw [ih.mem x]
  constructor
  ·rintro ⟨⟨j,h1,h2⟩,h3⟩; exact ⟨⟨j,by omega,h2⟩,h3⟩
  ·rintro ⟨⟨j,h1,h2⟩,h3⟩
   refine ⟨⟨j,?_,h2⟩,h3⟩
   by_cases e : j = i
   ·subst e
    rw [ha] at h2
    obtain rfl := Option.some.inj h2
    exact absurd h3 hn
   ·omega
 | add i a k X out h ha hw hk hX ih =>
  refine ⟨fun g hg => ?_,?_,fun x => ?_⟩
  ·rcases List.mem_append.1 hg with hg | hg
   ·exact ih.each g hg
   ·rw [List.mem_singleton.1 hg]; exact ⟨hk,hX,rfl⟩
  ·rw [gmap_app,List.pairwise_append]
   refine ⟨ih.asc,List.pairwise_singleton _ _,fun x hx y hy => ?_⟩
   rw [List.mem_singleton.1 hy]
   obtain ⟨⟨j,h1,h2⟩,_⟩ := (ih.mem x).1 hx
   exact objs_lt hR h1 h2 ha
  ·rw [gmap_app,List.mem_append,List.mem_singleton,ih.mem x]
   constructor
   ·rintro (⟨⟨j,h1,h2⟩,h3⟩ | h1)
    ·exact ⟨⟨j,by omega,h2⟩,h3⟩
    ·have h1 : x = a := h1
     subst h1
     exact ⟨⟨i,by omega,ha⟩,hw⟩
   ·rintro ⟨⟨j,h1,h2⟩,h3⟩
    by_cases e : j = i
    ·subst e
     rw [ha] at h2
     obtain rfl := Option.some.inj h2
     exact .inr rfl
    ·exact .inl ⟨⟨j,by omega,h2⟩,h3⟩
theorem Frees.det {R R1 : List Rw} {l : List Int} {ws : List Int} (hA : AOk R ws) (h1 : Frees R l R1) : ∀ {R2},Frees R l R2 → R1 = R2 ∧ AOk R1 ws := by
 induction h1 with
 | nil =>
  intro R2 h2
  generalize hl : ([] : List Int) = l at h2
  cases h2 with
  | nil => exact ⟨rfl,hA⟩
  | snoc _ _ l a _ _ _ => exact absurd hl (by simp)
 | snoc Ra Rb l a e h hf ih =>
  intro R2 h2
  generalize hl : l ++ [a] = l' at h2
  cases h2 with
  | nil => exact absurd hl (by simp)
  | snoc Rc _ l2 a2 e2 h' hf' =>
   obtain ⟨rfl,e3⟩ := List.append_inj' hl rfl
   obtain rfl : a = a2 := by simpa using e3
   obtain ⟨rfl,hB⟩ := ih h'
   exact ⟨(hf.det hB.rows hf').2,(hB.freet hf).1⟩
theorem frees_sim {R R1 : List Rw} {ws vs : List Int} {l : List Int} (h : Sim R ws vs) (h1 : Frees R l R1) : Sim R1 ws vs := by
 induction h1 with
 | nil => exact h
 | snoc Ra Rb l a e h hf ih => exact (ih.free hf).1
theorem gns_eq {out1 out2 : List Gn} (hp : (out1.map fun g => g.2.1) = out2.map fun g => g.2.1) (he : ∀ g1 ∈ out1,∀ g2 ∈ out2,g1.2.1 = g2.2.1 → g1 = g2) : out1 = out2 := by
 have hl : out1.length = out2.length := by simpa using congrArg List.length hp
 apply List.ext_getElem?
 intro i
 by_cases hi : i < out1.length
 ·have h1 := List.getElem?_eq_getElem hi
  have h2 := List.getElem?_eq_getElem (l := out2) (i := i) (by omega)
  rw [h1,h2]
  refine congrArg some (he _ (List.getElem_mem hi) _ (List.getElem_mem (by omega)) ?_)
  have := congrArg (fun l => l[i]?) hp
  simp only [List.getElem?_map,h1,h2,Option.map_some] at this
  exact Option.some.inj this
 ·rw [List.getElem?_eq_none (by omega),List.getElem?_eq_none (by omega)]
theorem swept_sim {R R1 R2 : List Rw} {ws vs C : List Int} {sp : Int} {out1 out2 : List Gn} (h : Sim R ws vs) (hsp : 0 ≤ sp) (h1 : SweptTo ws C R (32 * sp) 32 out1 R1) (h2 : RG R vs C sp (objs R).length out2) (h3 : Frees R (out2.map fun g => g.2.1) R2) : out1 = out2 ∧ R1 = R2 ∧ Sim R1 ws vs := by
 have f1 := h1.facts h.a
 have f2 := h2.facts h.a.rows
 have hp : (out1.map fun g => g.2.1) = out2.map fun g => g.2.1 := by
  refine asc_eq f1.asc f2.asc fun x => ?_
  rw [f1.mem x,f2.mem x]
  constructor
  ·rintro ⟨q1,q2,q3,q4⟩
   obtain ⟨j,hj⟩ := List.getElem?_of_mem q3
   exact ⟨⟨j,(List.getElem?_eq_some_iff.1 hj).1,hj⟩,by omega,q4⟩
  ·rintro ⟨⟨j,_,hj⟩,q2,q3⟩
   exact ⟨by omega,by omega,List.mem_of_getElem? hj,q3⟩
 have ho : out1 = out2 := by
  refine gns_eq hp fun g1 m1 g2 m2 e => ?_
  obtain ⟨a1,b1,c1⟩ := f1.each g1 m1
  obtain ⟨a2,b2,c2⟩ := f2.each g2 m2
  obtain ⟨k1,p1,X1,y1⟩ := g1
  obtain ⟨k2,p2,X2,y2⟩ := g2
  dsimp only at *
  subst e
  rw [h.kind a1 a2,h.wrds b1 b2,c1,c2]
 rw [← hp] at h3
 obtain ⟨rfl,_⟩ := f1.frees.det h.a h3
 exact ⟨ho,rfl,frees_sim h f1.frees⟩
theorem step_sim {R R1 R2 : List Rw} {ws vs C G ws' C1 G1 vs' C2 G2 : List Int} {ov o1 o2 : Bool} {ph sp cy W p1 s1 y1 p2 s2 y2 : Int} {out1 out2 : List Gn} (h : Sim R ws vs) (hsp : 0 ≤ sp) (h1 : Stepd R ws C G ov ph sp cy W out1 R1 ws' C1 G1 o1 p1 s1 y1) (h2 : RStepd R vs C G ov ph sp cy W out2 R2 vs' C2 G2 o2 p2 s2 y2) :
  out1 = out2 ∧ R1 = R2 ∧ C1 = C2 ∧ G1 = G2 ∧ o1 = o2 ∧ p1 = p2 ∧ s1 = s2 ∧ y1 = y2 ∧ Sim R1 ws' vs' := by
 cases h1 with
 | mark _ _ _ _ _ _ _ hp hm => cases h2 with
  | mark _ _ _ _ _ _ _ _ hm' =>
   obtain ⟨rfl,rfl,rfl,rfl,rfl,rfl,h3⟩ := marked_sim h hm hm'
   exact ⟨rfl,rfl,rfl,rfl,rfl,rfl,rfl,rfl,h3⟩
  | sweep _ _ hp' _ _ => rw [hp] at hp'; exact absurd hp' (by decide)
  | idle hp' _ => exact absurd hp hp'
 | sweep _ _ hp hs => cases h2 with
  | mark _ _ _ _ _ _ _ hp' _ => rw [hp] at hp'; exact absurd hp' (by decide)
  | sweep _ _ _ hg hf =>
   obtain ⟨rfl,rfl,h3⟩ := swept_sim h hsp hs hg hf
   exact ⟨rfl,rfl,rfl,rfl,rfl,rfl,rfl,rfl,h3⟩
  | idle _ hp' => exact absurd hp hp'
 | idle hp hp2 => cases h2 with
  | mark _ _ _ _ _ _ _ hp' _ => exact absurd hp' hp
  | sweep _ _ hp' _ _ => exact absurd hp' hp2
  | idle _ _ => exact ⟨rfl,rfl,rfl,rfl,rfl,rfl,rfl,rfl,h⟩
def wt (c : Option Int) : Nat := if c = some 0 then 2 else if c = some 1 then 1 else 0
def mu (R : List Rw) (C : List Int) : Nat := ((objs R).map fun a => wt C[a.toNat]?).sum
theorem sum_le {l : List Int} {f g : Int → Nat} (h : ∀ a ∈ l,f a ≤ g a) : (l.map f).sum ≤ (l.map g).sum := by
 induction l with
 | nil => exact Nat.le_refl _
 | cons x l ih =>
  have h1 := h x (List.mem_cons_self ..)
  have h2 := ih fun a ha => h a (List.mem_cons_of_mem _ ha)
  simp only [List.map_cons,List.sum_cons]
  omega
theorem sum_lt {l : List Int} {f g : Int → Nat} (h : ∀ a ∈ l,f a ≤ g a) {b : Int} (hb : b ∈ l) (hlt : f b < g b) : (l.map f).sum < (l.map g).sum := by
 induction l with
 | nil => cases hb
 | cons x l ih =>
  have h1 := h x (List.mem_cons_self ..)
  have h2 := sum_le (l := l) (f := f) (g := g) fun a ha => h a (List.mem_cons_of_mem _ ha)
  simp only [List.map_cons,List.sum_cons]
  rcases List.mem_cons.1 hb with rfl | hb
  ·omega
  ·have := ih (fun a ha => h a (List.mem_cons_of_mem _ ha)) hb
   omega
theorem mu_le_len (R : List Rw) (C : List Int) : mu R C ≤ 2 * (objs R).length := by
 unfold mu
 generalize objs R = l
 induction l with
 | nil => exact Nat.le_refl _
 | cons x l ih =>
  simp only [List.map_cons,List.sum_cons,List.length_cons]
  have : wt C[x.toNat]? ≤ 2 := by
                  unfold wt; split; · omega
                  ·split <;> omega
  omega
def COn (C C' : List Int) : Prop := ∀ p : Nat,wt C'[p]? ≤ wt C[p]?
theorem COn.refl (C : List Int) : COn C C := fun _ => Nat.le_refl _
theorem COn.trans {A B C : List Int} (h : COn A B) (k : COn B C) : COn A C := fun p => Nat.le_trans (k p) (h p)
theorem COn.mu {C C' : List Int} (h : COn C C') (R : List Rw) : mu R C' ≤ mu R C := sum_le fun a _ => h a.toNat
theorem set_on {C : List Int} {q : Nat} {c : Int} (h : wt (some c) ≤ wt C[q]?) : COn C (C.set q c) := by
 intro p
 by_cases e : q = p
 ·subst e
  by_cases hl : q < C.length
  ·rw [List.getElem?_set_self hl]; exact h
  ·rw [List.getElem?_eq_none (by rw [List.length_set]; omega)]; unfold wt; simp
 ·rw [List.getElem?_set_ne e]; exact Nat.le_refl _
theorem shade_on (R : List Rw) (ph a : Int) (s : List Int × List Int × Bool) : COn s.1 (shade R ph a s).1 := by
 unfold shade
 split
 ·rename_i hc
  refine set_on (C := s.1) (q := a.toNat) (c := 1) ?_
  rw [hc.2.2]; decide
 ·exact COn.refl _
theorem shadeW_on (R : List Rw) (ph w : Int) (s : List Int × List Int × Bool) : COn s.1 (shadeW R ph w s).1 := by
 unfold shadeW
 split
 ·exact shade_on _ _ _ _
 ·exact COn.refl _
theorem shade_grey (R : List Rw) (ph a : Int) (s : List Int × List Int × Bool) (p : Nat) (h : s.1[p]? = some 1) : (shade R ph a s).1[p]? = some 1 := by
 unfold shade
 split
 ·rename_i hc
  show (s.1.set a.toNat 1)[p]? = some 1
  rw [List.getElem?_set_ne ?_]
  ·exact h
  ·intro e; rw [← e,hc.2.2] at h; exact absurd (Option.some.inj h) (by decide)
 ·exact h
theorem shadeW_grey (R : List Rw) (ph w : Int) (s : List Int × List Int × Bool) (p : Nat) (h : s.1[p]? = some 1) : (shadeW R ph w s).1[p]? = some 1 := by
 unfold shadeW
 split
 ·exact shade_grey _ _ _ _ _ h
 ·exact h
theorem fold_on (R : List Rw) (ph : Int) : ∀ (X : List Int) (s : List Int × List Int × Bool),COn s.1 (X.foldl (fun s w => shadeW R ph w s) s).1
 | [],s => COn.refl _
 | w :: X,s => (shadeW_on R ph w s).trans (fold_on R ph X _)
theorem fold_grey (R : List Rw) (ph : Int) : ∀ (X : List Int) (s : List Int × List Int × Bool) (p : Nat),s.1[p]? = some 1 → (X.foldl (fun s w => shadeW R ph w s) s).1[p]? = some 1
 | [],s,p,h => h
 | w :: X,s,p,h => fold_grey R ph X _ p (shadeW_grey R ph w s p h)
structure GOk (R : List Rw) (C G : List Int) : Prop where
 obj : ∀ x ∈ G,x ∈ objs R
 grey : ∀ x ∈ G,C[x.toNat]? = some 1
 once : G.Nodup
theorem shade_gok {R : List Rw} {ph a : Int} {s : List Int × List Int × Bool} (h : GOk R s.1 s.2.1) : GOk R (shade R ph a s).1 (shade R ph a s).2.1 := by
 have hg := fun x hx => shade_grey R ph a s _ (h.grey x hx)
 unfold shade at hg ⊢
 split
 ·rename_i hc
  rw [if_pos hc] at hg
  have hl := (List.getElem?_eq_some_iff.1 hc.2.2).1
  dsimp only at hg ⊢
  split
  ·dsimp only
   refine ⟨fun x hx => ?_,fun x hx => ?_,?_⟩
   ·rcases List.mem_append.1 hx with hx | hx
    ·exact h.obj x hx
    ·rw [List.mem_singleton.1 hx]; exact hc.2.1
   ·rcases List.mem_append.1 hx with hx | hx
    ·exact hg x hx
    ·rw [List.mem_singleton.1 hx]; exact List.getElem?_set_self hl
   ·rw [List.nodup_append]
    refine ⟨h.once,by simp,fun x hx y hy e => ?_⟩
    rw [List.mem_singleton.1 hy] at e
    subst e
    have := h.grey x hx
    rw [hc.2.2] at this
    exact absurd (Option.some.inj this) (by decide)
  ·exact ⟨h.obj,hg,h.once⟩
 ·rename_i hc
  rw [if_neg hc] at hg
  exact h
theorem shadeW_gok {R : List Rw} {ph w : Int} {s : List Int × List Int × Bool} (h : GOk R s.1 s.2.1) : GOk R (shadeW R ph w s).1 (shadeW R ph w s).2.1 := by
 unfold shadeW
 split
 ·exact shade_gok h
 ·exact h
theorem fold_gok {R : List Rw} {ph : Int} : ∀ (X : List Int) (s : List Int × List Int × Bool),GOk R s.1 s.2.1 → GOk R (X.foldl (fun s w => shadeW R ph w s) s).1 (X.foldl (fun s w => shadeW R ph w s) s).2.1
 | [],s,h => h
 | w :: X,s,h => fold_gok X _ (shadeW_gok h)
theorem shade_black (R : List Rw) (ph a : Int) (s : List Int × List Int × Bool) (p : Nat) (h : s.1[p]? = some 2) : (shade R ph a s).1[p]? = some 2 := by
 unfold shade
 split
 ·rename_i hc
  show (s.1.set a.toNat 1)[p]? = some 2
  rw [List.getElem?_set_ne ?_]
  ·exact h
  ·intro e; rw [← e,hc.2.2] at h; exact absurd (Option.some.inj h) (by decide)
 ·exact h
theorem shadeW_black (R : List Rw) (ph w : Int) (s : List Int × List Int × Bool) (p : Nat) (h : s.1[p]? = some 2) : (shadeW R ph w s).1[p]? = some 2 := by
 unfold shadeW
 split
 ·exact shade_black _ _ _ _ _ h
 ·exact h
theorem fold_black (R : List Rw) (ph : Int) : ∀ (X : List Int) (s : List Int × List Int × Bool) (p : Nat),s.1[p]? = some 2 → (X.foldl (fun s w => shadeW R ph w s) s).1[p]? = some 2
 | [],s,p,h => h
 | w :: X,s,p,h => fold_black R ph X _ p (shadeW_black R ph w s p h)
theorem shade_new {R : List Rw} {ph a : Int} {s : List Int × List Int × Bool} {x : Int} (h : x ∈ (shade R ph a s).2.1) : x ∈ s.2.1 ∨ s.1[x.toNat]? = some 0 := by
 unfold shade at h
 split at h
 ·rename_i hc
  dsimp only at h
  split at h
  ·rcases List.mem_append.1 h with h | h
   ·exact .inl h
   ·rw [List.mem_singleton.1 h]; exact .inr hc.2.2
  ·exact .inl h
 ·exact .inl h
theorem shadeW_new {R : List Rw} {ph w : Int} {s : List Int × List Int × Bool} {x : Int} (h : x ∈ (shadeW R ph w s).2.1) : x ∈ s.2.1 ∨ s.1[x.toNat]? = some 0 := by
 unfold shadeW at h
 split at h
 ·exact shade_new h
 ·exact .inl h
theorem fold_new {R : List Rw} {ph : Int} : ∀ (X : List Int) (s : List Int × List Int × Bool) (x : Int),x ∈ (X.foldl (fun s w => shadeW R ph w s) s).2.1 → x ∈ s.2.1 ∨ s.1[x.toNat]? = some 0
 | [],s,x,h => .inl h
 | w :: X,s,x,h => by
  rcases fold_new X _ x h with h | h
  ·exact shadeW_new h
  ·exact .inr ((shadeW_le R ph w s).1 _ h)
def CyI (R : List Rw) (C G : List Int) (ph sp cy N : Int) : Prop := (ph = 1 ∧ GOk R C G ∧ cy = 0) ∨ (ph = 2 ∧ cy = 0 ∧ 0 ≤ sp ∧ sp < N) ∨ (ph = 0 ∧ cy = 1)
def left_ (R : List Rw) (C : List Int) (ph sp N : Int) : Int := if ph = 1 then (mu R C : Int) + 1 + N else if ph = 2 then N - sp else 0
theorem marked_cy {R : List Rw} {ws ws' C C' G G' : List Int} {ov ov' : Bool} {sp p s N : Int} {out : List Gn} (hA : AOk R ws) (hCl : (C.length : Int) = 32 * R.length) (hN : 1 ≤ N) (h : GOk R C G) (hm : Marked R ws C G ov sp out p s ws' C' G' ov') :
  CyI R C' G' p s 0 N ∧ left_ R C' p s N < left_ R C 1 sp N ∧ ∀ q : Nat,C[q]? = some 2 → C'[q]? = some 2 := by
 cases hm with
 | scan v A X _ _ o1 _ hg hX hs =>
  have hC : C' = (X.foldl (fun s w => shadeW R 1 w s) (C,A,o1)).1.set v.toNat 2 := congrArg Prod.fst hs
  have hG : G' = (X.foldl (fun s w => shadeW R 1 w s) (C,A,o1)).2.1 := congrArg (fun x => x.2.1) hs
  obtain ⟨hv,hv1,hA',hvA⟩ : v ∈ objs R ∧ C[v.toNat]? = some 1 ∧ GOk R C A ∧ v ∉ A := by
   cases hg with
   | pop _ _ hGA =>
    have hn := h.once
    rw [hGA,List.nodup_append] at hn
    exact ⟨h.obj v (by rw [hGA]; simp),h.grey v (by rw [hGA]; simp),⟨fun x hx => h.obj x (by rw [hGA]; exact List.mem_append_left _ hx),fun x hx => h.grey x (by rw [hGA]; exact List.mem_append_left _ hx),hn.1⟩,fun hk => hn.2.2 v hk v (by simp) rfl⟩
   | found _ _ _ _ ha hc _ => exact ⟨List.mem_of_getElem? ha,hc,⟨fun x hx => (by cases hx),fun x hx => (by cases hx),List.nodup_nil⟩,fun hk => by cases hk⟩
  have hon := fold_on R 1 X (C,A,o1)
  have hgr := fold_grey R 1 X (C,A,o1)
  have hbl := fold_black R 1 X (C,A,o1)
  have hok := fold_gok (R := R) (ph := 1) X (C,A,o1) hA'
  have hnew := fold_new (R := R) (ph := 1) X (C,A,o1)
  generalize (X.foldl (fun s w => shadeW R 1 w s) (C,A,o1)) = F at hC hG hon hgr hbl hok hnew
  have hFv := hgr _ hv1
  have hFl := (List.getElem?_eq_some_iff.1 hFv).1
  have hself : C'[v.toNat]? = some 2 := by rw [hC]; exact List.getElem?_set_self hFl
  have hset : COn F.1 C' := by rw [hC]; exact set_on (by rw [show wt (some (2 : Int)) = 0 by decide]; exact Nat.zero_le _)
  have hlt : mu R C' < mu R C := by
   refine sum_lt (fun a _ => (hon.trans hset) a.toNat) hv ?_
   rw [hself,hv1]; decide
  refine ⟨.inl ⟨rfl,⟨fun x hx => hok.obj x (hG ▸ hx),fun x hx => ?_,by rw [hG]; exact hok.once⟩,rfl⟩,?_,fun q hq => ?_⟩
  ·have hx : x ∈ F.2.1 := hG ▸ hx
   have hxv : x ≠ v := by
    rintro rfl
    rcases hnew x hx with q | q
    ·exact hvA q
    ·have q : C[x.toNat]? = some 0 := q
     rw [hv1] at q; exact absurd (Option.some.inj q) (by decide)
   have b1 := obj_bd hA (hok.obj x hx)
   have b2 := obj_bd hA hv
   rw [hC,List.getElem?_set_ne (by omega)]
   exact hok.grey x hx
  ·unfold left_
   rw [if_pos rfl,if_pos rfl]
   omega
  ·by_cases e : v.toNat = q
   ·rw [← e]; exact hself
   ·rw [hC,List.getElem?_set_ne e]; exact hbl q hq
 | keep a A X _ _ _ o1 _ hg hf hX hst hs =>
  have hC : C' = (shade R 1 a (C,A,o1)).1 := congrArg Prod.fst hs
  have hG : G' = (shade R 1 a (C,A,o1)).2.1 := congrArg (fun x => x.2.1) hs
  have hA0 : A = [] := by cases hg <;> rfl
  obtain ⟨hao,ha0⟩ : a ∈ objs R ∧ C[a.toNat]? = some 0 := by
   cases hf with
   | found _ _ ha hd _ => exact ⟨List.mem_of_getElem? ha,hd.2.1⟩
  have hA' : GOk R C A := by rw [hA0]; exact ⟨fun x hx => (by cases hx),fun x hx => (by cases hx),List.nodup_nil⟩
  have hok := shade_gok (R := R) (ph := 1) (a := a) (s := (C,A,o1)) hA'
  have hl := (List.getElem?_eq_some_iff.1 ha0).1
  have hself : C'[a.toNat]? = some 1 := by
   rw [hC]; unfold shade
   rw [if_pos ⟨rfl,hao,ha0⟩]
   exact List.getElem?_set_self hl
  have hlt : mu R C' < mu R C := by
   refine sum_lt (fun b _ => by rw [hC]; exact shade_on R 1 a (C,A,o1) b.toNat) hao ?_
   rw [hself,ha0]; decide
  refine ⟨.inl ⟨rfl,by rw [hC,hG]; exact hok,rfl⟩,?_,fun q hq => by rw [hC]; exact shade_black R 1 a (C,A,o1) q hq⟩
  unfold left_
  rw [if_pos rfl,if_pos rfl]
  omega
 | sweep A o1 hg hf =>
  refine ⟨.inr (.inl ⟨rfl,rfl,Int.le_refl _,by omega⟩),?_,fun q hq => hq⟩
  unfold left_
  rw [if_neg (by decide),if_pos rfl,if_pos rfl]
  omega
theorem stepd_cy {R R' : List Rw} {ws ws' C C' G G' at_ : List Int} {ov ov' : Bool} {ph sp cy W N p s y : Int} {out : List Gn} (hA : AOk R ws) (hCl : (C.length : Int) = 32 * R.length) (hN : 1 ≤ N) (hW : W = 32 * N) (h : CyI R C G ph sp cy N) (hat : ∀ x ∈ at_,x ∈ objs R ∧ (ph ≠ 0 → C[x.toNat]? = some 2)) (hs : Stepd R ws C G ov ph sp cy W out R' ws' C' G' ov' p s y) :
  CyI R' C' G' p s y N ∧ (ph ≠ 0 → left_ R' C' p s N < left_ R C ph sp N) ∧ (∀ x ∈ at_,x ∈ objs R' ∧ (p ≠ 0 → C'[x.toNat]? = some 2)) := by
 cases hs with
 | mark _ _ _ _ _ _ _ hp hm =>
  subst hp
  rcases h with ⟨_,hg,rfl⟩ | ⟨q,_⟩ | ⟨q,_⟩
  ·obtain ⟨h1,h2,h3⟩ := marked_cy hA hCl hN hg hm
   exact ⟨h1,fun _ => h2,fun x hx => ⟨(hat x hx).1,fun _ => h3 _ ((hat x hx).2 (by decide))⟩⟩
  ·exact absurd q (by decide)
  ·exact absurd q (by decide)
 | sweep _ _ hp hs =>
  subst hp
  rcases h with ⟨q,_⟩ | ⟨_,rfl,h0,h1⟩ | ⟨q,_⟩
  ·exact absurd q (by decide)
  ·have f := hs.facts hA
   refine ⟨?_,fun _ => ?_,fun x hx => ⟨(f.left x).2 ⟨(hat x hx).1,fun hk => ?_⟩,fun _ => (hat x hx).2 (by decide)⟩⟩
   ·unfold swPh swCy
    split
    ·exact .inr (.inr ⟨rfl,by omega⟩)
    ·exact .inr (.inl ⟨rfl,rfl,by omega,by omega⟩)
   ·unfold left_ swPh
    split
    ·(repeat (first | rw [if_neg (by decide)] | rw [if_pos rfl])); omega
    ·(repeat (first | rw [if_neg (by decide)] | rw [if_pos rfl])); omega
   ·have := ((f.mem x).1 hk).2.2.2
    rw [(hat x hx).2 (by decide)] at this
    exact absurd (Option.some.inj this) (by decide)
  ·exact absurd q (by decide)
 | idle h1 h2 =>
  rcases h with ⟨q,_⟩ | ⟨q,_⟩ | ⟨q,hc⟩
  ·exact absurd q h1
  ·exact absurd q h2
  ·exact ⟨.inr (.inr ⟨q,hc⟩),fun k => absurd q k,fun x hx => ⟨(hat x hx).1,fun k => absurd q k⟩⟩
theorem left_le {R : List Rw} {C : List Int} {ph sp N : Int} (hsp : 0 ≤ sp) (hN : 0 ≤ N) : left_ R C ph sp N ≤ 2 * (objs R).length + 1 + N := by
 have := mu_le_len R C
 unfold left_
 split
 ·omega
 ·split <;> omega
def Bare (R : List Rw) (ws C G : List Int) (ov : Bool) (ph sp : Int) : Prop := (ph = 1 ∧ G = [] ∧ ov = false ∧ (∀ a ∈ objs R,C[a.toNat]? = some 0) ∧ ∀ a,¬ Due R ws C a) ∨ (ph = 2 ∧ 0 ≤ sp ∧ ∀ a ∈ objs R,C[a.toNat]? = some 0 ∧ 32 * sp ≤ a) ∨ (ph = 0 ∧ objs R = [])
theorem stepd_bare {R R' : List Rw} {ws ws' C C' G G' : List Int} {ov ov' : Bool} {ph sp cy W p s y : Int} {out : List Gn} (hA : AOk R ws) (hW : W = 32 * R.length) (h : Bare R ws C G ov ph sp) (hs : Stepd R ws C G ov ph sp cy W out R' ws' C' G' ov' p s y) : Bare R' ws' C' G' ov' p s := by
 cases hs with
 | mark _ _ _ _ _ _ _ hp hm =>
  subst hp
  rcases h with ⟨_,rfl,rfl,h1,h2⟩ | ⟨q,_⟩ | ⟨q,_⟩
  ·cases hm with
   | scan _ _ _ _ _ _ _ hg _ _ =>
    generalize hG0 : ([] : List Int) = G0 at hg
    generalize ho0 : false = o0 at hg
    cases hg with
    | pop _ _ hG => rw [← hG0] at hG; exact absurd hG.symm (by simp)
    | found _ _ _ ho _ _ _ => rw [← ho0] at ho; cases ho
   | keep _ _ _ _ _ _ _ _ _ hf _ _ _ =>
    cases hf with
    | found _ _ ha hd _ => exact absurd hd (h2 _)
   | sweep _ _ _ _ => exact .inr (.inl ⟨rfl,Int.le_refl _,fun a ha => ⟨h1 a ha,by have := (obj_bd hA ha).1; omega⟩⟩)
  ·exact absurd q (by decide)
  ·exact absurd q (by decide)
 | sweep _ _ hp hs =>
  subst hp
  rcases h with ⟨q,_⟩ | ⟨_,h0,h1⟩ | ⟨q,_⟩
  ·exact absurd q (by decide)
  ·have f := hs.facts hA
   have hrest : ∀ a ∈ objs R',C[a.toNat]? = some 0 ∧ 32 * (sp + 1) ≤ a := by
    intro a ha
    obtain ⟨q1,q2⟩ := (f.left a).1 ha
    obtain ⟨q3,q4⟩ := h1 a q1
    refine ⟨q3,?_⟩
    by_cases e : a < 32 * sp + 32
    ·exact absurd ((f.mem a).2 ⟨q4,e,q1,q3⟩) q2
    ·omega
   unfold swPh
   split
   ·refine .inr (.inr ⟨rfl,List.eq_nil_iff_forall_not_mem.2 fun a ha => ?_⟩)
    have q1 := ((f.left a).1 ha).1
    have q2 := obj_bd hA q1
    have q3 := (hrest a ha).2
    omega
   ·exact .inr (.inl ⟨rfl,by omega,hrest⟩)
  ·exact absurd q (by decide)
 | idle h1 h2 =>
  rcases h with ⟨q,_⟩ | ⟨q,_⟩ | ⟨q,h3⟩
  ·exact absurd q h1
  ·exact absurd q h2
  ·exact .inr (.inr ⟨q,h3⟩)
end Go.Proofs.YtjfdfbpgckilpaaGreatDoor
