/-
  The ground of the proof, part 7: the calculus and what is proved with it.
-/
import Derived.Test.YtcbombkaacjngaaGreatDoorBf
import Derived.Test.YtcbombkaacjngaaGreatDoorBe
import Derived.Shelf.Strings.Builder1
import Derived.Shelf.Strings.Builder2
import Derived.Shelf.Strings.BuilderF
import Derived.Shelf.Strings.BuilderK
import Derived.Shelf.LaysM
import Derived.Shelf.Strconv.Itoa3
import Derived.Shelf.LaysC
import Derived.Shelf.Strconv.AtoiAll
import Derived.Shelf.Strings.Prefix
import Derived.Shelf.Strings.Repeat
import Derived.Ground.Names2Prog
import Derived.Shelf.Slices.Clone
import Derived.Test.YtcbombkaacjngaaGreatDoorProg
import Derived.Test.YtcbombkaacjngaaGreatDoorBd
import Derived.Test.YtcbombkaacjngaaGreatDoorBc
import Derived.Test.YtcbombkaacjngaaGreatDoorRows
import Derived.Test.YtcbombkaacjngaaGreatDoorBa
namespace Go.Proofs.YtcbombkaacjngaaGreatDoor
open Go Go.LX
set_option maxRecDepth 100000
set_option linter.unusedVariables false
set_option linter.unusedSimpArgs false
set_option maxHeartbeats 32000000
theorem rwords9_lx (R : List Rw) (vs C G : List Int) (N W ph sp cy : Int) (P B V Q la : List PV) (m : Int) (ov : Bool) (h : RM R vs C G N W P B V Q la m) (a : Int) : CallF (fun _ => Tryz.prog) 186 [.ptr 0 (.lit 0),i6 a] [hpR 0 1 6 3 W 7 ph sp cy,hpB 1 2 5 3 W,hpD 2 3 3 1 N 4 203 8 N,hpP 3 P,hpP 4 B,hpP 5 V,hpP 6 Q,(7,.mix [.p (.vsl (.sym m) true la),.p (.bool ov)])] 8 (fun r h n => ∃ (X : List Int) (k : Int) (O : List PV),r = .sl 8 3 1 (.lit 0) (.sym k) ∧ h = [hpR 0 1 6 3 W 7 ph sp cy,hpB 1 2 5 3 W,hpD 2 3 3 1 N 4 203 8 N,hpP 3 P,hpP 4 B,hpP 5 V,hpP 6 Q,(7,.mix [.p (.vsl (.sym m) true la),.p (.bool ov)]),hpP 8 O] ∧ n = 9 ∧ O = ipv X ∧ k = X.length ∧ Wrds R vs a X) := by
 have hVl : V.length = vs.length := by rw [h.v,ipv_length]
 have hWn := h.w; have hNr := h.n; have hRr := h.r
 have hlen := h.a.len
 obtain ⟨v,hv⟩ : ∃ v,LenR R vs a v := by
  by_cases ho : IsObj R a
  ·obtain ⟨k,l,hk⟩ := Kept.of h.a ho; exact ⟨l,.is k l hk⟩
  ·exact ⟨0,.no ho⟩
 obtain ⟨X,hX,hvX,hX31⟩ := wrds_ex h.a hv
 refine callF_of_body tok Tryz.func186 (by kernel_rfl) rfl rfl rfl ?_; conv => cbv
 refine LoopF.mk (fun k s => ∃ (i : Int) (O : List PV),s = ⟨.ptr 0 (.lit 0) :: .p (.int .i64 (.sym a)) :: (undefs 3 ++ .sl 8 3 1 (.lit 0) (.sym i) :: .p (.int .i64 (.sym i)) :: undefs 27),[hpR 0 1 6 3 W 7 ph sp cy,hpB 1 2 5 3 W,hpD 2 3 3 1 N 4 203 8 N,hpP 3 P,hpP 4 B,hpP 5 V,hpP 6 Q,(7,.mix [.p (.vsl (.sym m) true la),.p (.bool ov)]),hpP 8 O],9⟩ ∧ 0 ≤ i ∧ i ≤ v ∧ O = ipv (X.take i.toNat) ∧ k = (v - i).toNat) v.toNat _
  (Re.at [(0,0),(1,1),(2,2),(3,3),(4,4),(5,5),(6,6),(7,7)] [8]) ⟨0,[],rfl,by omega,by omega,by simp [ipv],by omega⟩ ?_
 rintro k s ⟨i,O,rfl,hi0,hi1,hO,hk⟩
 have hOl : (O.length : Int) = i := by rw [hO,ipv_length,List.length_take]; omega
 conv => cbv
 refine cfr (rlen_lx R vs N a W P B V h.p h.b h.v h.n h.r h.a h.w) [(0,1),(1,2),(2,3),(3,4),(4,5)] (fun r h' n' hrr => ?_)
 obtain ⟨v2,e1,e2,e3,hv2⟩ := hrr
 subst e1 e2 e3
 obtain rfl : v2 = v := by
  cases hv with
  | no hn => cases hv2 with
   | no _ => rfl
   | is k l hk => exact absurd hk.obj6 hn
  | is k l hk => cases hv2 with
   | no hn => exact absurd hk.obj6 hn
   | is k' l' hk' => exact (hk'.det9 hk).2
 conv => cbv
 refine Br.mk (fun gi => ?_) (fun gi => ?_)
 ·have gi : i < v2 := gi
  obtain ⟨k',rfl⟩ : ∃ k',k = k' + 1 := ⟨k - 1,by omega⟩
  obtain ⟨x0,hx0⟩ : ∃ x0,X[i.toNat]? = some x0 := ⟨_,List.getElem?_eq_getElem (by omega)⟩
  have hld := hX.2 _ _ hx0
  rw [show ((i.toNat : Nat) : Int) = i by omega] at hld
  obtain ⟨hab,hxv⟩ : (0 ≤ a ∧ a + 1 + v2 ≤ W) ∧ vs[(a + 1 + i).toNat]? = some x0 := by
   cases hld with
   | ok k0 l0 _ hK hi hx =>
    have hb := hK.bounds h.a
    have : l0 = v2 := by
     clear hX hvX hO hOl
     cases hv with
     | no hn => exact absurd hK.obj6 hn
     | is k' l' hK' => exact (hK.det9 hK').2
    exact ⟨⟨by omega,by omega⟩,hx⟩
  have hq : V[(a + 1 + i).toNat]? = some (.int .i64 (.sym x0)) := by rw [h.v]; exact ipv_get hxv
  conv => cbv
  refine Fit.mk (by show (-9223372036854775808 : Int) ≤ a + 1; omega) (by show a + 1 ≤ 9223372036854775807; omega) fun a1 ha1 => ?_
  have ha1 : a1 = a + 1 := ha1
  conv => cbv
  refine Fit.mk (by show (-9223372036854775808 : Int) ≤ a1 + i; omega) (by show a1 + i ≤ 9223372036854775807; omega) fun a2 ha2 => ?_
  have ha2 : a2 = a1 + i := ha2
  rw [show (a + 1 + i).toNat = a2.toNat by omega] at hq
  conv => cbv
  refine Need.mk ⟨by show 0 ≤ a2; omega,by show a2 < W; omega⟩ ?_
  conv => cbv
  refine Cell.at a2 _ hq (by simp [I.val]) rfl ?_
  conv => cbv
  refine Room.new rfl ?_
  conv => cbv
  refine Room.new ⟨?_,?_,?_⟩ ?_
  ·show (O.length : Int) = i * 1; omega
  ·show (i + 1) * 8 ≤ 140737488355328; omega
  ·show i + 1 ≤ 9223372036854775807; omega
  conv => cbv
  refine Upd.mk fun O3 hO3 => ?_
  have hO3 : O3 = O ++ [.int .i64 (.sym x0)] := hO3
  have hO3 : O3 = ipv (X.take (i.toNat + 1)) := by
   rw [hO3,hO,List.take_add_one,hx0]
   simp [ipv]
  conv => cbv
  refine Sum.mk fun j2 hj2 => ?_
  have hj2 : j2 = i + 1 := hj2
  conv => cbv
  refine Fit.mk (by show (-9223372036854775808 : Int) ≤ i + 1; omega) (by show i + 1 ≤ 9223372036854775807; omega) fun i2 hi2 => ?_
  have hi2 : i2 = i + 1 := hi2
  obtain rfl : j2 = i2 := by omega
  have htt : j2.toNat = i.toNat + 1 := by omega
  rw [← htt] at hO3
  conv => cbv
  refine Again.mk k' _ (Nat.lt_succ_self _) (Re.at [(0,0),(1,1),(2,2),(3,3),(4,4),(5,5),(6,6),(7,7),(10,8)] []) ⟨j2,O3,rfl,by omega,by omega,hO3,by omega⟩
 ·have gi : ¬ i < v2 := gi
  obtain rfl : i = v2 := by omega
  have hOX : O = ipv X := by rw [hO,List.take_of_length_le (by omega)]
  conv => cbv
  refine RetF.mk [.sl 8 3 1 (.lit 0) (.sym i)] [hpR 0 1 6 3 W 7 ph sp cy,hpB 1 2 5 3 W,hpD 2 3 3 1 N 4 203 8 N,hpP 3 P,hpP 4 B,hpP 5 V,hpP 6 Q,(7,.mix [.p (.vsl (.sym m) true la),.p (.bool ov)]),hpP 8 O] 9 (Re.at [(0,0),(1,1),(2,2),(3,3),(4,4),(5,5),(6,6),(7,7),(8,8)] []) rfl ⟨X,i,O,rfl,rfl,rfl,hOX,hvX,hX⟩
theorem alloctV_gen9 {R R' : List Rw} {vs vs' : List Int} {kind n a e : Int} (hA : AOk R vs) (h : AlloctV R vs kind n a e R' vs') :
  AOk R' vs' ∧ R'.length = R.length ∧ ((e ≠ 0 ∧ a = 0 ∧ R' = R ∧ vs' = vs) ∨ (e = 0 ∧ (0 ≤ n ∧ n ≤ 31 ∧ 1 ≤ kind ∧ kind ≤ 6) ∧ Kept R' vs' a kind n ∧ (∀ b k l,Kept R vs b k l → Kept R' vs' b k l ∧ b ≠ a ∧ ∀ i,0 ≤ i → i < l → vs'[(b + 1 + i).toNat]? = vs[(b + 1 + i).toNat]?) ∧ (∀ b,IsObj R' b → b = a ∨ IsObj R b))) := by
 cases h with
 | arg h => exact ⟨hA,rfl,.inl ⟨by decide,rfl,rfl,rfl⟩⟩
 | room i s R' hc ha =>
  obtain ⟨rfl,_⟩ := full_count hA.rows (ofN_slots n) ha
  exact ⟨hA,rfl,.inl ⟨by decide,rfl,rfl,rfl⟩⟩
 | ok i s _ R' hc ha hat =>
  obtain ⟨w,hw⟩ : ∃ w,w = wordsOf (ofN n) := ⟨_,rfl⟩
  obtain ⟨q1,q2,q3,q4,q5⟩ := alloc_objs hA.rows ha a w hat hw
  have hobj : ObjAt R' a w := (q5 _ _).2 (.inr ⟨rfl,rfl⟩)
  obtain ⟨f1,f2,f3,_⟩ := hobj.facts q1
  have hnw : n < w := by rw [hw]; exact (ofN_words ⟨hc.1,hc.2.1⟩).1
  have hlv := hA.len
  have gv : ∀ j : Nat,j < vs.length → j ≠ a.toNat → ((zer vs a.toNat (wordsOf (ofN n)).toNat).set a.toNat (kind + 16 * n))[j]? = if a.toNat ≤ j ∧ j < a.toNat + (wordsOf (ofN n)).toNat then some 0 else vs[j]? := fun j hj hne => by
   rw [List.getElem?_set_ne (fun e => hne e.symm),zer_get _ _ _ _ hj]
  rw [← hw] at gv ⊢
  have farv : ∀ j : Nat,(j : Int) < a ∨ a + w ≤ j → ((zer vs a.toNat w.toNat).set a.toNat (kind + 16 * n))[j]? = vs[j]? := fun j hj => by
   by_cases hjl : j < vs.length
   ·rw [gv j hjl (by omega),if_neg (by omega)]
   ·rw [List.getElem?_eq_none (by rw [List.length_set,zer_length]; omega),List.getElem?_eq_none (by omega)]
  have hbdv : ∀ x ∈ (zer vs a.toNat w.toNat).set a.toNat (kind + 16 * n),-9223372036854775808 ≤ x ∧ x ≤ 9223372036854775807 := by
   intro x hx
   rcases List.mem_or_eq_of_mem_set hx with hx | rfl
   ·obtain ⟨j,hj⟩ := List.getElem?_of_mem hx
    have hjl : j < vs.length := by have := (List.getElem?_eq_some_iff.1 hj).1; rw [zer_length] at this; exact this
    rw [zer_get _ _ _ _ hjl] at hj
    split at hj
    ·cases hj; omega
    ·exact hA.bd x (List.mem_of_getElem? hj)
   ·omega
  obtain ⟨r1,r2,r3,r4⟩ := alloc_gen hA hc ha hat hw (by rw [List.length_set,zer_length]) (by rw [List.getElem?_set_self (by rw [zer_length]; omega)]) farv hbdv
  exact ⟨r1,q2,.inr ⟨rfl,hc,r2,r3,r4⟩⟩
theorem RM.alloct {R R' : List Rw} {vs vs' C C' G : List Int} {N W m : Int} {P P' B B' V V' Q Q' la : List PV} {kind n a e : Int} (h : RM R vs C G N W P B V Q la m) (hs : AlloctV R vs kind n a e R' vs') (hP : P' = cpv R') (hB : B' = bpv R') (hV : V' = ipv vs') (hC : C'.length = C.length) (hQ : Q' = ipv C') : RM R' vs' C' G N W P' B' V' Q' la m := by
 obtain ⟨h1,h2,_⟩ := alloctV_gen9 h.a hs
 exact ⟨h1,by rw [h2]; exact h.n,by rw [h2]; exact h.r,h.w,hP,hB,hV,hQ,by rw [hC]; exact h.c,h.l,h.m,h.g,h.g8⟩
theorem ralloc9_lx (R : List Rw) (vs C G : List Int) (N W ph sp cy : Int) (P B V Q la : List PV) (m : Int) (ov : Bool) (h : RM R vs C G N W P B V Q la m) (kind mm : Int) : CallF (fun _ => Tryz.prog) 148 [.ptr 0 (.lit 0),i6 kind,i6 mm] [hpR 0 1 6 3 W 7 ph sp cy,hpB 1 2 5 3 W,hpD 2 3 3 1 N 4 203 8 N,hpP 3 P,hpP 4 B,hpP 5 V,hpP 6 Q,(7,.mix [.p (.vsl (.sym m) true la),.p (.bool ov)])] 8 (fun r h n => ∃ (a e : Int) (R' : List Rw) (vs' C' : List Int) (P' B' V' Q' : List PV),r = .tup [i6 a,i6 e] ∧ h = [hpR 0 1 6 3 W 7 ph sp cy,hpB 1 2 5 3 W,hpD 2 3 3 1 N 4 203 8 N,hpP 3 P',hpP 4 B',hpP 5 V',hpP 6 Q',(7,.mix [.p (.vsl (.sym m) true la),.p (.bool ov)])] ∧ n = 8 ∧ RM R' vs' C' G N W P' B' V' Q' la m ∧ AlloctV R vs kind mm a e R' vs' ∧ C' = allocC ph a e C) := by
 have hCl := h.c; have hWn := h.w; have hNr := h.n; have hRr := h.r
 have hQl : Q.length = C.length := by rw [h.q,ipv_length]
 refine callF_of_body tok Tryz.func148 (by kernel_rfl) rfl rfl rfl ?_; conv => cbv
 refine cfr (rallocA_lx kind mm R vs N W P B V h.p h.b h.v h.n h.r h.a h.w) [(0,1),(1,2),(2,3),(3,4),(4,5)] (fun r h' n' hrr => ?_)
 obtain ⟨a,e,R',vs',P',B',V',e1,e2,e3,hP',hB',hV',hT⟩ := hrr
 subst e1 e2 e3
 conv => cbv
 have hgen := alloctV_gen9 h.a hT
 refine Br.mk (fun g => ?_) (fun g => ?_)
 ·have g : e ≠ 0 := g
  have ha0 : a = 0 := by
   rcases hgen.2.2 with h | h
   ·exact h.2.1
   ·exact absurd h.1 g
  conv => cbv
  refine RetF.mk [i6 a,i6 e] [hpR 0 1 6 3 W 7 ph sp cy,hpB 1 2 5 3 W,hpD 2 3 3 1 N 4 203 8 N,hpP 3 P',hpP 4 B',hpP 5 V',hpP 6 Q,(7,.mix [.p (.vsl (.sym m) true la),.p (.bool ov)])] 8 (Re.at [(0,0),(1,1),(2,2),(3,3),(4,4),(5,5),(6,6),(7,7)] []) rfl ⟨a,e,R',vs',C,P',B',V',Q,rfl,rfl,rfl,h.alloct hT hP' hB' hV' rfl h.q,hT,by unfold allocC; rw [if_neg g]⟩
 ·have g : ¬ e ≠ 0 := g
  have g : e = 0 := by omega
  have hA1 := hgen.1
  have hlR := hgen.2.1
  have hb : 0 ≤ a ∧ a < W := by
   rcases hgen.2.2 with h | h
   ·exact absurd g h.1
   ·have h1 := (h.2.2.1).bounds hA1
    omega
  obtain ⟨C',hC'⟩ : ∃ C',C' = allocC ph a e C := ⟨_,rfl⟩
  obtain ⟨Q',hQ'⟩ : ∃ Q',Q' = ipv C' := ⟨_,rfl⟩
  have hfin := h.alloct hT hP' hB' hV' (by rw [hC']; exact allocC_length _ _ _ _) hQ'
  conv => cbv
  refine Need.mk ⟨by show 0 ≤ a; omega,by show a < W; omega⟩ ?_
  conv => cbv
  refine Need.mk (by show a + 1 ≤ (Q.length : Int); omega) ?_
  conv => cbv
  refine Upd.mk fun Q2 hQ2 => ?_
  have hQ2 : Q2 = Q.set a.toNat (.int .i64 (.lit 0)) := hQ2
  conv => cbv
  refine Br.mk (fun gp => ?_) (fun gp => ?_)
  ·have gp : ph ≠ 0 := gp
   conv => cbv
   refine Need.mk ⟨by show 0 ≤ a; omega,by show a < W; omega⟩ ?_
   conv => cbv
   refine Need.mk (by show a + 1 ≤ (Q2.length : Int); rw [hQ2,List.length_set]; omega) ?_
   conv => cbv
   refine Upd.mk fun Q3 hQ3 => ?_
   have hle : pvles Q3 Q' := by
    have hQ3 : Q3 = Q2.set a.toNat (.int .i64 (.lit 2)) := hQ3
    rw [hQ3,hQ2,hQ',hC',allocC,if_pos g,if_neg gp,h.q,← ipv_set,List.set_set]
    exact pvles_set _ _ _ _ _ (pvles_refl _) (by simp [pvle,I.val])
   unfold pvles at hle
   clear hQ3 hQ2
   conv => cbv
   refine RetF.mk [i6 a,i6 e] [hpR 0 1 6 3 W 7 ph sp cy,hpB 1 2 5 3 W,hpD 2 3 3 1 N 4 203 8 N,hpP 3 P',hpP 4 B',hpP 5 V',hpP 6 Q',(7,.mix [.p (.vsl (.sym m) true la),.p (.bool ov)])] 8 (Re.at [(0,0),(1,1),(2,2),(3,3),(4,4),(5,5),(6,6),(7,7)] []) rfl ⟨a,e,R',vs',C',P',B',V',Q',rfl,rfl,rfl,hfin,hT,hC'⟩
  ·have gp : ¬ ph ≠ 0 := gp
   have gp : ph = 0 := by omega
   have hle : pvles Q2 Q' := by
    rw [hQ2,hQ',hC',allocC,if_pos g,if_pos gp,h.q,← ipv_set]
    exact pvles_set _ _ _ _ _ (pvles_refl _) (by simp [pvle,I.val])
   unfold pvles at hle
   clear hQ2
   conv => cbv
   refine RetF.mk [i6 a,i6 e] [hpR 0 1 6 3 W 7 ph sp cy,hpB 1 2 5 3 W,hpD 2 3 3 1 N 4 203 8 N,hpP 3 P',hpP 4 B',hpP 5 V',hpP 6 Q',(7,.mix [.p (.vsl (.sym m) true la),.p (.bool ov)])] 8 (Re.at [(0,0),(1,1),(2,2),(3,3),(4,4),(5,5),(6,6),(7,7)] []) rfl ⟨a,e,R',vs',C',P',B',V',Q',rfl,rfl,rfl,hfin,hT,hC'⟩
theorem rbegin_lx (R : List Rw) (vs C G : List Int) (N W ph sp cy : Int) (P B V Q la : List PV) (m : Int) (ov : Bool) (h : RM R vs C G N W P B V Q la m) (A : List Int) (k : Int) (rs : List PV) (hrs : rs = ipv A) (hk : k = A.length) (hA : (A.length : Int) < 1000000) (hph : ph = 0) : CallF (fun _ => Tryz.prog) 31 [.ptr 0 (.lit 0),.p (.vsl (.sym k) true rs)] [hpR 0 1 6 3 W 7 ph sp cy,hpB 1 2 5 3 W,hpD 2 3 3 1 N 4 203 8 N,hpP 3 P,hpP 4 B,hpP 5 V,hpP 6 Q,(7,.mix [.p (.vsl (.sym m) true la),.p (.bool ov)])] 8 (fun r h n => ∃ (C' G' : List Int) (ov' : Bool) (Q' la' : List PV) (m' : Int),r = .p (.int .i64 (.lit 0)) ∧ h = [hpR 0 1 6 3 W 8 1 sp cy,hpB 1 2 5 3 W,hpD 2 3 3 1 N 4 203 8 N,hpP 3 P,hpP 4 B,hpP 5 V,hpP 6 Q',(8,.mix [.p (.vsl (.sym m') true la'),.p (.bool ov')])] ∧ n = 9 ∧ RM R vs C' G' N W P B V Q' la' m' ∧ (C',G',ov') = begS R W A) := by
 have hCl := h.c; have hWn := h.w; have hNr := h.n; have hRr := h.r
 have hQl : Q.length = C.length := by rw [h.q,ipv_length]
 refine callF_of_body tok Tryz.func31 (by kernel_rfl) rfl rfl rfl ?_; conv => cbv
 refine Br.no (show ¬ (ph ≠ 0) by omega) ?_
 conv => cbv
 refine LoopF.mk (fun kk s => ∃ (i : Int) (C' : List Int) (Q' : List PV),s = ⟨.ptr 0 (.lit 0) :: .p (.vsl (.sym k) true rs) :: (undefs 3 ++ .p (.int .i64 (.sym i)) :: undefs 41),[hpR 0 1 6 3 W 7 ph sp cy,hpB 1 2 5 3 W,hpD 2 3 3 1 N 4 203 8 N,hpP 3 P,hpP 4 B,hpP 5 V,hpP 6 Q',(7,.mix [.p (.vsl (.sym m) true la),.p (.bool ov)])],8⟩ ∧ 0 ≤ i ∧ i ≤ W ∧ Q' = ipv C' ∧ C' = List.replicate i.toNat 0 ++ C.drop i.toNat ∧ kk = (W - i).toNat) W.toNat _
  (Re.at [(0,0),(1,1),(2,2),(3,3),(4,4),(5,5),(6,6),(7,7)] []) ⟨0,C,Q,rfl,by omega,by omega,h.q,by simp,by omega⟩ ?_
 rintro kk s ⟨i,C',Q',rfl,hi0,hi1,hQ',hC',hkk⟩
 have hC'l : C'.length = C.length := by rw [hC',List.length_append,List.length_replicate,List.length_drop]; omega
 have hQ'l : Q'.length = C.length := by rw [hQ',ipv_length]; exact hC'l
 conv => cbv
 refine Br.mk (fun gi => ?_) (fun gi => ?_)
 ·have gi : i < W := gi
  obtain ⟨k',rfl⟩ : ∃ k',kk = k' + 1 := ⟨kk - 1,by omega⟩
  conv => cbv
  refine Need.mk ⟨hi0,gi⟩ ?_
  conv => cbv
  refine Need.mk (by show i + 1 ≤ (Q'.length : Int); omega) ?_
  conv => cbv
  obtain ⟨C2,hC2⟩ : ∃ C2,C2 = C'.set i.toNat 0 := ⟨_,rfl⟩
  obtain ⟨Q3,hQ3⟩ : ∃ Q3,Q3 = ipv C2 := ⟨_,rfl⟩
  refine Upd.mk fun Q2 hQ2 => ?_
  have hle : pvles Q2 Q3 := by
   have hQ2 : Q2 = Q'.set i.toNat (.int .i64 (.lit 0)) := hQ2
   rw [hQ2,hQ3,hC2,hQ',← ipv_set]
   exact pvles_set _ _ _ _ _ (pvles_refl _) (by simp [pvle,I.val])
  unfold pvles at hle
  clear hQ2
  have hC3 : C2 = List.replicate (i.toNat + 1) 0 ++ C.drop (i.toNat + 1) := by
   rw [hC2,hC',List.set_append_right _ _ (by rw [List.length_replicate]; omega),List.length_replicate,Nat.sub_self,List.drop_eq_getElem_cons (by omega),List.set_cons_zero,List.replicate_succ',List.append_assoc]
   rfl
  conv => cbv
  refine Fit.mk (by show (-9223372036854775808 : Int) ≤ i + 1; omega) (by show i + 1 ≤ 9223372036854775807; omega) fun i2 hi2 => ?_
  have hi2 : i2 = i + 1 := hi2
  rw [show i.toNat + 1 = i2.toNat by omega] at hC3
  conv => cbv
  refine Again.mk k' _ (Nat.lt_succ_self _) (Re.at [(0,0),(1,1),(2,2),(3,3),(4,4),(5,5),(6,6),(7,7)] []) ⟨i2,C2,Q3,rfl,by omega,by omega,hQ3,hC3,by omega⟩
 ·have gi : ¬ i < W := gi
  have hC' : C' = List.replicate W.toNat 0 := by rw [hC',show i.toNat = W.toNat by omega,List.drop_of_length_le (by omega),List.append_nil]
  have hM0 : RM R vs (List.replicate W.toNat 0) [] N W P B V Q' [] 0 := ⟨h.a,h.n,h.r,h.w,h.p,h.b,h.v,by rw [hQ',hC'],by rw [List.length_replicate]; omega,rfl,rfl,fun x hx => (by cases hx),Nat.zero_le _⟩
  clear hQ' hC' hC'l hQ'l
  conv => cbv
  refine LoopF.mk (fun kk s => ∃ (i : Int) (C' G' : List Int) (ov' : Bool) (Q' la' : List PV) (m' : Int),s = ⟨.ptr 0 (.lit 0) :: .p (.vsl (.sym k) true rs) :: (undefs 4 ++ .p (.int .i64 (.sym i)) :: undefs 40),[hpR 0 1 6 3 W 8 1 sp cy,hpB 1 2 5 3 W,hpD 2 3 3 1 N 4 203 8 N,hpP 3 P,hpP 4 B,hpP 5 V,hpP 6 Q',(8,.mix [.p (.vsl (.sym m') true la'),.p (.bool ov')])],9⟩ ∧ 0 ≤ i ∧ i ≤ k ∧ RM R vs C' G' N W P B V Q' la' m' ∧ (C',G',ov') = begS R W (A.take i.toNat) ∧ kk = (k - i).toNat) k.toNat _
   (Re.at [(0,0),(1,1),(2,2),(3,3),(4,4),(5,5),(6,6),(8,8)] []) ⟨0,_,_,_,Q',[],0,rfl,by omega,by omega,hM0,rfl,by omega⟩ ?_
  clear hM0
  rintro kk s ⟨i,C',G',ov',Q',la',m',rfl,hi0,hi1,h2,hS,hk2⟩
  conv => cbv
  refine Br.mk (fun gi => ?_) (fun gi => ?_)
  ·have gi : i < k := gi
   obtain ⟨k',rfl⟩ : ∃ k',kk = k' + 1 := ⟨kk - 1,by omega⟩
   obtain ⟨a,ha⟩ : ∃ a,A[i.toNat]? = some a := ⟨_,List.getElem?_eq_getElem (by omega)⟩
   have hc : rs[i.toNat]? = some (.int .i64 (.sym a)) := by rw [hrs]; exact ipv_get ha
   conv => cbv
   refine Need.mk ⟨hi0,gi⟩ ?_
   conv => cbv
   refine Cell.at i _ hc (by simp [I.val]) rfl ?_
   conv => cbv
   refine cfr (rshade_lx R vs C' G' N W 1 sp cy P B V Q' la' m' ov' h2 a) [(0,0),(1,1),(2,2),(3,3),(4,4),(5,5),(6,6),(7,8)] (fun r h' n' hrr => ?_)
   obtain ⟨C2,G2,ov2,Q2,la2,m2,e1,e2,e3,h3,hS2⟩ := hrr
   subst e1 e2 e3
   have hS3 : (C2,G2,ov2) = begS R W (A.take (i.toNat + 1)) := by
    rw [hS2,hS]
    unfold begS
    rw [List.take_add_one,ha,Option.toList_some,List.foldl_append]; rfl
   conv => cbv
   refine Fit.mk (by show (-9223372036854775808 : Int) ≤ i + 1; omega) (by show i + 1 ≤ 9223372036854775807; omega) fun i2 hi2 => ?_
   have hi2 : i2 = i + 1 := hi2
   rw [show i.toNat + 1 = i2.toNat by omega] at hS3
   conv => cbv
   refine Again.mk k' _ (Nat.lt_succ_self _) (Re.at [(0,0),(1,1),(2,2),(3,3),(4,4),(5,5),(6,6),(8,8)] []) ⟨i2,C2,G2,ov2,Q2,la2,m2,rfl,by omega,by omega,h3,hS3,by omega⟩
  ·have gi : ¬ i < k := gi
   rw [List.take_of_length_le (by omega)] at hS
   conv => cbv
   refine RetF.mk [.p (.int .i64 (.lit 0))] [hpR 0 1 6 3 W 8 1 sp cy,hpB 1 2 5 3 W,hpD 2 3 3 1 N 4 203 8 N,hpP 3 P,hpP 4 B,hpP 5 V,hpP 6 Q',(8,.mix [.p (.vsl (.sym m') true la'),.p (.bool ov')])] 9 (Re.at [(0,0),(1,1),(2,2),(3,3),(4,4),(5,5),(6,6),(8,8)] []) rfl ⟨C',G',ov',Q',la',m',rfl,rfl,rfl,h2,hS⟩
theorem RM.over {R : List Rw} {vs C G G' : List Int} {N W m m' : Int} {P B V Q la la' : List PV} (h : RM R vs C G N W P B V Q la m) (hl : la' = i64s G') (hm : m' = G'.length) (hG : ∀ x ∈ G',x ∈ G) (h8 : G'.length ≤ G.length) : RM R vs C G' N W P B V Q la' m' :=
 ⟨h.a,h.n,h.r,h.w,h.p,h.b,h.v,h.q,h.c,hl,hm,fun x hx => h.g x (hG x hx),Nat.le_trans h8 h.g8⟩
theorem rgrey_lx (R : List Rw) (vs C G : List Int) (N W ph sp cy : Int) (P B V Q la : List PV) (m : Int) (ov : Bool) (h : RM R vs C G N W P B V Q la m) : CallF (fun _ => Tryz.prog) 185 [.ptr 0 (.lit 0)] [hpR 0 1 6 3 W 7 ph sp cy,hpB 1 2 5 3 W,hpD 2 3 3 1 N 4 203 8 N,hpP 3 P,hpP 4 B,hpP 5 V,hpP 6 Q,(7,.mix [.p (.vsl (.sym m) true la),.p (.bool ov)])] 8 (fun r h n => ∃ (v : Int) (b : Bool) (G' : List Int) (ov' : Bool) (la' : List PV) (m' : Int),r = .tup [i6 v,.p (.bool b)] ∧ h = [hpR 0 1 6 3 W 7 ph sp cy,hpB 1 2 5 3 W,hpD 2 3 3 1 N 4 203 8 N,hpP 3 P,hpP 4 B,hpP 5 V,hpP 6 Q,(7,.mix [.p (.vsl (.sym m') true la'),.p (.bool ov')])] ∧ n = 8 ∧ RM R vs C G' N W P B V Q la' m' ∧ NextG R C G ov v b G' ov') := by
 have hCl := h.c; have hWn := h.w; have hNr := h.n; have hRr := h.r
 have hQl : Q.length = C.length := by rw [h.q,ipv_length]
 cases ov with
 | false =>
  refine callF_of_body tok Tryz.func185 (by kernel_rfl) rfl rfl rfl ?_; conv => cbv
  refine cfr (refPop_lx G m la false h.m h.l h.g8) [(0,7)] (fun r h' n' hrr => ?_)
  obtain ⟨v,b,m',la',G',e1,e2,e3,hm',hl',h4⟩ := hrr
  subst e1 e2 e3
  have hGs : ∀ x ∈ G',x ∈ G := by
   intro x hx
   rcases h4 with ⟨_,_,_,e⟩ | ⟨e,_⟩
   ·rw [e] at hx; cases hx
   ·rw [e]; exact List.mem_append_left _ hx
  have hG8 : G'.length ≤ G.length := by
   rcases h4 with ⟨_,_,_,e⟩ | ⟨e,_⟩
   ·rw [e]; exact Nat.zero_le _
   ·rw [e,List.length_append]; omega
  have h1 : RM R vs C G' N W P B V Q la' m' := h.over hl' hm' hGs hG8
  cases b with
  | true =>
   conv => cbv
   have hG : G = G' ++ [v] := by
    rcases h4 with ⟨_,_,e,_⟩ | ⟨e,_⟩
    ·cases e
    ·exact e
   refine RetF.mk [i6 v,.p (.bool true)] [hpR 0 1 6 3 W 7 ph sp cy,hpB 1 2 5 3 W,hpD 2 3 3 1 N 4 203 8 N,hpP 3 P,hpP 4 B,hpP 5 V,hpP 6 Q,(7,.mix [.p (.vsl (.sym m') true la'),.p (.bool false)])] 8 (Re.at [(0,0),(1,1),(2,2),(3,3),(4,4),(5,5),(6,6),(7,7)] []) rfl ⟨v,true,G',false,la',m',rfl,rfl,rfl,h1,.pop G' v hG⟩
  | false =>
   conv => cbv
   have hgg : G = [] ∧ v = 0 ∧ G' = [] := by
    rcases h4 with ⟨e,e1,_,e2⟩ | ⟨_,e⟩
    ·exact ⟨e,e1,e2⟩
    ·cases e
   have hG0 := hgg.1
   have hv0 := hgg.2.1
   have hG' := hgg.2.2
   refine RetF.mk [i6 v,.p (.bool false)] [hpR 0 1 6 3 W 7 ph sp cy,hpB 1 2 5 3 W,hpD 2 3 3 1 N 4 203 8 N,hpP 3 P,hpP 4 B,hpP 5 V,hpP 6 Q,(7,.mix [.p (.vsl (.sym m') true la'),.p (.bool false)])] 8 (Re.at [(0,0),(1,1),(2,2),(3,3),(4,4),(5,5),(6,6),(7,7)] []) rfl ⟨v,false,G',false,la',m',rfl,rfl,rfl,h1,by rw [hG',hv0]; exact .none hG0 rfl⟩
 | true =>
  refine callF_of_body tok Tryz.func185 (by kernel_rfl) rfl rfl rfl ?_; conv => cbv
  refine cfr (refPop_lx G m la true h.m h.l h.g8) [(0,7)] (fun r h' n' hrr => ?_)
  obtain ⟨v,b,m',la',G',e1,e2,e3,hm',hl',h4⟩ := hrr
  subst e1 e2 e3
  have hGs : ∀ x ∈ G',x ∈ G := by
   intro x hx
   rcases h4 with ⟨_,_,_,e⟩ | ⟨e,_⟩
   ·rw [e] at hx; cases hx
   ·rw [e]; exact List.mem_append_left _ hx
  have hG8 : G'.length ≤ G.length := by
   rcases h4 with ⟨_,_,_,e⟩ | ⟨e,_⟩
   ·rw [e]; exact Nat.zero_le _
   ·rw [e,List.length_append]; omega
  have h1 : RM R vs C G' N W P B V Q la' m' := h.over hl' hm' hGs hG8
  cases b with
  | true =>
   conv => cbv
   have hG : G = G' ++ [v] := by
    rcases h4 with ⟨_,_,e,_⟩ | ⟨e,_⟩
    ·cases e
    ·exact e
   refine RetF.mk [i6 v,.p (.bool true)] [hpR 0 1 6 3 W 7 ph sp cy,hpB 1 2 5 3 W,hpD 2 3 3 1 N 4 203 8 N,hpP 3 P,hpP 4 B,hpP 5 V,hpP 6 Q,(7,.mix [.p (.vsl (.sym m') true la'),.p (.bool true)])] 8 (Re.at [(0,0),(1,1),(2,2),(3,3),(4,4),(5,5),(6,6),(7,7)] []) rfl ⟨v,true,G',true,la',m',rfl,rfl,rfl,h1,.pop G' v hG⟩
  | false =>
   conv => cbv
   have hgg : G = [] ∧ v = 0 ∧ G' = [] := by
    rcases h4 with ⟨e,e1,_,e2⟩ | ⟨_,e⟩
    ·exact ⟨e,e1,e2⟩
    ·cases e
   have hG0 := hgg.1
   have hv0 := hgg.2.1
   have hG' := hgg.2.2
   obtain ⟨mo,hmo⟩ : ∃ m : Int,m = objCount R := ⟨_,rfl⟩
   refine cfr (robjects_lx mo R vs N W P B V h.p h.b h.v h.n h.r h.a h.w hmo) [(0,1),(1,2),(2,3),(3,4),(4,5)] (fun r h' n' hrr => ?_)
   obtain ⟨O,e1,e2,e3,hO⟩ := hrr
   subst e1 e2 e3
   have hOl : (O.length : Int) = mo := by rw [hO,ipv_length,objs_length h.a.rows,hmo]
   have hO : O = ipv (objs R) := hO
   have hol : ((objs R).length : Int) = mo := by rw [← hOl,hO,ipv_length]
   have hob : mo ≤ 8000 := by have := objsTo_le R R.length; rw [objs_length h.a.rows] at this; omega
   conv => cbv
   refine LoopF.mk (fun k s => ∃ i : Int,s = ⟨.ptr 0 (.lit 0) :: (undefs 5 ++ .sl 8 3 1 (.lit 0) (.sym mo) :: .p (.int .i64 (.sym i)) :: undefs 53),[hpR 0 1 6 3 W 7 ph sp cy,hpB 1 2 5 3 W,hpD 2 3 3 1 N 4 203 8 N,hpP 3 P,hpP 4 B,hpP 5 V,hpP 6 Q,(7,.mix [.p (.vsl (.sym m') true la'),.p (.bool true)]),hpP 8 O],9⟩ ∧ 0 ≤ i ∧ i ≤ mo ∧ (∀ (j : Nat) b,(j : Int) < i → (objs R)[j]? = some b → C[b.toNat]? ≠ some 1) ∧ k = (mo - i).toNat) mo.toNat _
    (Re.at [(0,0),(1,1),(2,2),(3,3),(4,4),(5,5),(6,6),(7,7),(8,8)] []) ⟨0,rfl,by omega,by omega,fun j b hj => by omega,by omega⟩ ?_
   rintro k s ⟨i,rfl,hi0,hi1,hn,hk⟩
   conv => cbv
   refine Br.mk (fun gi => ?_) (fun gi => ?_)
   ·have gi : i < mo := gi
    obtain ⟨k',rfl⟩ : ∃ k',k = k' + 1 := ⟨k - 1,by omega⟩
    obtain ⟨a,ha⟩ : ∃ a,(objs R)[i.toNat]? = some a := ⟨_,List.getElem?_eq_getElem (by omega)⟩
    have hc : O[i.toNat]? = some (.int .i64 (.sym a)) := by rw [hO]; exact ipv_get ha
    have hab := obj_bd h.a (List.mem_of_getElem? ha)
    obtain ⟨x,hx⟩ : ∃ x,C[a.toNat]? = some x := ⟨_,List.getElem?_eq_getElem (by omega)⟩
    have hq : Q[a.toNat]? = some (.int .i64 (.sym x)) := by rw [h.q]; exact ipv_get hx
    conv => cbv
    refine drawn_sound tok (by kernel_rfl) [] [0,1,2,3,4,5,6,7,8,9,10] (by kernel_rfl) ?_; conv => cbv
    refine Need.mk ⟨hi0,gi⟩ ?_
    conv => cbv
    refine Cell.at i _ hc (by simp [I.val]) rfl ?_
    conv => cbv
    refine Need.mk ⟨by show 0 ≤ a; omega,by show a < W; omega⟩ ?_
    conv => cbv
    refine Cell.at a _ hq (by simp [I.val]) rfl ?_
    conv => cbv
    refine Br.mk (fun gx => ?_) (fun gx => ?_)
    ·have gx : x = 1 := gx
     conv => cbv
     refine Need.mk ⟨hi0,gi⟩ ?_
     conv => cbv
     refine Cell.at i _ hc (by simp [I.val]) rfl ?_
     conv => cbv
     refine RetF.mk [i6 a,.p (.bool true)] [hpR 0 1 6 3 W 7 ph sp cy,hpB 1 2 5 3 W,hpD 2 3 3 1 N 4 203 8 N,hpP 3 P,hpP 4 B,hpP 5 V,hpP 6 Q,(7,.mix [.p (.vsl (.sym m') true la'),.p (.bool true)])] 8 (Re.at [(0,0),(1,1),(2,2),(3,3),(4,4),(5,5),(6,6),(7,7)] []) rfl ⟨a,true,G',true,la',m',rfl,rfl,rfl,h1,by rw [hG']; exact .found i.toNat a hG0 rfl ha (by rw [hx,gx]) (fun j b hj => hn j b (by omega))⟩
    ·have gx : ¬ x = 1 := gx
     have hna : C[a.toNat]? ≠ some 1 := fun hk => gx (Option.some.inj (hx.symm.trans hk))
     conv => cbv
     refine Fit.mk (by show (-9223372036854775808 : Int) ≤ i + 1; omega) (by show i + 1 ≤ 9223372036854775807; omega) fun i2 hi2 => ?_
     have hi2 : i2 = i + 1 := hi2
     have hn2 : ∀ (j : Nat) b,(j : Int) < i2 → (objs R)[j]? = some b → C[b.toNat]? ≠ some 1 := by
      intro j b hj hjb
      by_cases q : j = i.toNat
      ·rw [q,ha] at hjb; obtain rfl := Option.some.inj hjb; exact hna
      ·exact hn j b (by omega) hjb
     conv => cbv
     refine Again.mk k' _ (Nat.lt_succ_self _) (Re.at [(0,0),(1,1),(2,2),(3,3),(4,4),(5,5),(6,6),(7,7),(8,8)] []) ⟨i2,rfl,by omega,by omega,hn2,by omega⟩
   ·have gi : ¬ i < mo := gi
    conv => cbv
    refine RetF.mk [i6 0,.p (.bool false)] [hpR 0 1 6 3 W 7 ph sp cy,hpB 1 2 5 3 W,hpD 2 3 3 1 N 4 203 8 N,hpP 3 P,hpP 4 B,hpP 5 V,hpP 6 Q,(7,.mix [.p (.vsl (.sym m') true la'),.p (.bool false)])] 8 (Re.at [(0,0),(1,1),(2,2),(3,3),(4,4),(5,5),(6,6),(7,7)] []) rfl ⟨0,false,G',false,la',m',rfl,rfl,rfl,h1,by rw [hG']; exact .settle hG0 rfl (fun j b hj => hn j b (by have := (List.getElem?_eq_some_iff.1 hj).1; omega) hj)⟩
theorem rwordsV_lx (R : List Rw) (vs C G : List Int) (N W ph sp cy : Int) (P B V Q la : List PV) (m : Int) (ov : Bool) (h : RM R vs C G N W P B V Q la m) (a : Int) : CallF (fun _ => Tryz.prog) 186 [.ptr 0 (.lit 0),i6 a] [hpR 0 1 6 3 W 7 ph sp cy,hpB 1 2 5 3 W,hpD 2 3 3 1 N 4 203 8 N,hpP 3 P,hpP 4 B,hpP 5 V,hpP 6 Q,(7,.mix [.p (.vsl (.sym m) true la),.p (.bool ov)])] 8 (fun r h n => ∃ (X : List Int) (k : Int) (O : List PV),r = .p (.vsl (.sym k) true O) ∧ h = [hpR 0 1 6 3 W 7 ph sp cy,hpB 1 2 5 3 W,hpD 2 3 3 1 N 4 203 8 N,hpP 3 P,hpP 4 B,hpP 5 V,hpP 6 Q,(7,.mix [.p (.vsl (.sym m) true la),.p (.bool ov)])] ∧ n = 8 ∧ O = ipv X ∧ k = X.length ∧ Wrds R vs a X) :=
 (rwords9_lx R vs C G N W ph sp cy P B V Q la m ov h a).ret fun r h' n' ⟨X,k,O,e1,e2,e3,hO,hm,hX⟩ => by
  subst e1 e2 e3
  exact RetF.mk [.p (.vsl (.sym k) true O)] [hpR 0 1 6 3 W 7 ph sp cy,hpB 1 2 5 3 W,hpD 2 3 3 1 N 4 203 8 N,hpP 3 P,hpP 4 B,hpP 5 V,hpP 6 Q,(7,.mix [.p (.vsl (.sym m) true la),.p (.bool ov)])] 8 (Re.at [(0,0),(1,1),(2,2),(3,3),(4,4),(5,5),(6,6),(7,7)] []) rfl ⟨X,k,O,rfl,rfl,rfl,hO,hm,hX⟩
theorem Wrds.le {R : List Rw} {ws X : List Int} {a : Int} (hA : AOk R ws) (h : Wrds R ws a X) : X.length ≤ 31 := by
 have hle := h.1
 generalize hxl : (X.length : Int) = xl at hle
 cases hle with
 | no _ => omega
 | is k l hk => have := hk.bounds hA; omega
theorem rmark_lx (R : List Rw) (vs C G : List Int) (N W ph sp cy : Int) (P B V Q la : List PV) (m : Int) (ov : Bool) (h : RM R vs C G N W P B V Q la m) (hph : ph = 1) : CallF (fun _ => Tryz.prog) 103 [.ptr 0 (.lit 0)] [hpR 0 1 6 3 W 7 ph sp cy,hpB 1 2 5 3 W,hpD 2 3 3 1 N 4 203 8 N,hpP 3 P,hpP 4 B,hpP 5 V,hpP 6 Q,(7,.mix [.p (.vsl (.sym m) true la),.p (.bool ov)])] 8 (fun r h n => ∃ (out : List Gn) (k ph' sp' : Int) (cells : List PV) (vs' C' G' : List Int) (ov' : Bool) (V' Q' la' : List PV) (m' : Int),r = .p (.vsl (.sym k) true cells) ∧ h = [hpR 0 1 6 3 W 7 ph' sp' cy,hpB 1 2 5 3 W,hpD 2 3 3 1 N 4 203 8 N,hpP 3 P,hpP 4 B,hpP 5 V',hpP 6 Q',(7,.mix [.p (.vsl (.sym m') true la'),.p (.bool ov')])] ∧ n = 8 ∧ RM R vs' C' G' N W P B V' Q' la' m' ∧ cells = gpv out ∧ k = out.length ∧ Marked R vs C G ov sp out ph' sp' vs' C' G' ov') := by
 subst hph
 have hCl := h.c; have hWn := h.w; have hNr := h.n; have hRr := h.r
 have hQl : Q.length = C.length := by rw [h.q,ipv_length]
 refine callF_of_body tok Tryz.func103 (by kernel_rfl) rfl rfl rfl ?_; conv => cbv
 refine cfr (rgrey_lx R vs C G N W 1 sp cy P B V Q la m ov h) [(0,0),(1,1),(2,2),(3,3),(4,4),(5,5),(6,6),(7,7)] (fun r h' n' hrr => ?_)
 obtain ⟨v,b,G1,ov1,la1,m1,e1,e2,e3,h1,hg⟩ := hrr
 subst e1 e2 e3
 cases b with
 | true =>
  have hv : 0 ≤ v ∧ v < W := by
   cases hg with
   | pop A _ hG => exact h.g v (by rw [hG]; simp)
   | found i _ _ _ ha _ _ => have := obj_bd h.a (List.mem_of_getElem? ha); omega
  conv => cbv
  refine cfr (rwordsV_lx R vs C G1 N W 1 sp cy P B V Q la1 m1 ov1 h1 v) [(0,0),(1,1),(2,2),(3,3),(4,4),(5,5),(6,6),(7,7)] (fun r h' n' hrr => ?_)
  obtain ⟨X,k,O,e1,e2,e3,hO,hk,hX⟩ := hrr
  subst e1 e2 e3
  have hXb := hX.bd h.a
  have hX31 := hX.le h.a
  conv => cbv
  refine LoopF.mk (fun kk s => ∃ (i : Int) (C' G' : List Int) (ov' : Bool) (Q' la' : List PV) (m' : Int),s = ⟨.ptr 0 (.lit 0) :: (undefs 2 ++ .p (.int .i64 (.sym v)) :: .undef :: .p (.vsl (.sym k) true O) :: .p (.int .i64 (.sym i)) :: undefs 115),[hpR 0 1 6 3 W 7 1 sp cy,hpB 1 2 5 3 W,hpD 2 3 3 1 N 4 203 8 N,hpP 3 P,hpP 4 B,hpP 5 V,hpP 6 Q',(7,.mix [.p (.vsl (.sym m') true la'),.p (.bool ov')])],8⟩ ∧ 0 ≤ i ∧ i ≤ k ∧ RM R vs C' G' N W P B V Q' la' m' ∧ (C',G',ov') = (X.take i.toNat).foldl (fun s w => shadeW R 1 w s) (C,G1,ov1) ∧ kk = (k - i).toNat) k.toNat _
   (Re.at [(0,0),(1,1),(2,2),(3,3),(4,4),(5,5),(6,6),(7,7)] []) ⟨0,C,G1,ov1,Q,la1,m1,rfl,by omega,by omega,h1,rfl,by omega⟩ ?_
  rintro kk s ⟨i,C',G',ov',Q',la',m',rfl,hi0,hi1,h2,hS,hkk⟩
  conv => cbv
  refine Br.mk (fun gi => ?_) (fun gi => ?_)
  ·have gi : i < k := gi
   obtain ⟨k',rfl⟩ : ∃ k',kk = k' + 1 := ⟨kk - 1,by omega⟩
   obtain ⟨w,hw⟩ : ∃ w,X[i.toNat]? = some w := ⟨_,List.getElem?_eq_getElem (by omega)⟩
   have hc : O[i.toNat]? = some (.int .i64 (.sym w)) := by rw [hO]; exact ipv_get hw
   have hstep : ∀ (i2 : Int),i2 = i + 1 → ∀ s2,s2 = shadeW R 1 w (C',G',ov') → s2 = (X.take i2.toNat).foldl (fun s w => shadeW R 1 w s) (C,G1,ov1) := by
    intro i2 hi2 s2 hs2
    rw [show i2.toNat = i.toNat + 1 by omega,List.take_add_one,hw,Option.toList_some,List.foldl_append,← hS,hs2]; rfl
   conv => cbv
   refine Need.mk ⟨hi0,gi⟩ ?_
   conv => cbv
   refine Cell.at i _ hc (by simp [I.val]) rfl ?_
   conv => cbv
   refine callF_frame (rIsPtr_lx w) [] rfl trivial rfl rfl (fun r h' n' hrr => ?_)
   obtain ⟨b,e1,e2,e3,hb⟩ := hrr
   subst e1 e2 e3
   cases b with
   | false =>
    conv => cbv
    have hb : ¬ w % 2 = 1 := fun k => by have := hb.2 k; cases this
    refine Fit.mk (by show (-9223372036854775808 : Int) ≤ i + 1; omega) (by show i + 1 ≤ 9223372036854775807; omega) fun i2 hi2 => ?_
    have hi2 : i2 = i + 1 := hi2
    have hS2 := hstep i2 hi2 (C',G',ov') (by unfold shadeW; rw [if_neg hb])
    conv => cbv
    refine Again.mk k' _ (Nat.lt_succ_self _) (Re.at [(0,0),(1,1),(2,2),(3,3),(4,4),(5,5),(6,6),(7,7)] []) ⟨i2,C',G',ov',Q',la',m',rfl,by omega,by omega,h2,hS2,by omega⟩
   | true =>
    conv => cbv
    have hb : w % 2 = 1 := hb.1 rfl
    refine Need.mk ⟨hi0,gi⟩ ?_
    conv => cbv
    refine Cell.at i _ hc (by simp [I.val]) rfl ?_
    conv => cbv
    refine callF_frame (rAt_lx w (hXb w (List.mem_of_getElem? hw))) [] rfl trivial rfl rfl (fun r h' n' hrr => ?_)
    obtain ⟨y,e1,e2,e3,hy,_⟩ := hrr
    subst e1 e2 e3
    have hy := hy hb
    conv => cbv
    refine cfr (rshade_lx R vs C' G' N W 1 sp cy P B V Q' la' m' ov' h2 y) [(0,0),(1,1),(2,2),(3,3),(4,4),(5,5),(6,6),(7,7)] (fun r h' n' hrr => ?_)
    obtain ⟨C2,G2,ov2,Q2,la2,m2,e1,e2,e3,h3,hs⟩ := hrr
    subst e1 e2 e3
    conv => cbv
    refine Fit.mk (by show (-9223372036854775808 : Int) ≤ i + 1; omega) (by show i + 1 ≤ 9223372036854775807; omega) fun i2 hi2 => ?_
    have hi2 : i2 = i + 1 := hi2
    have hS2 := hstep i2 hi2 (C2,G2,ov2) (by unfold shadeW; rw [if_pos hb,← hy]; exact hs)
    conv => cbv
    refine Again.mk k' _ (Nat.lt_succ_self _) (Re.at [(0,0),(1,1),(2,2),(3,3),(4,4),(5,5),(6,6),(7,7)] []) ⟨i2,C2,G2,ov2,Q2,la2,m2,rfl,by omega,by omega,h3,hS2,by omega⟩
  ·have gi : ¬ i < k := gi
   rw [List.take_of_length_le (by omega)] at hS
   have hCl2 := h2.c
   have hQl2 : Q'.length = C'.length := by rw [h2.q,ipv_length]
   obtain ⟨Q3,hQ3⟩ : ∃ Q3,Q3 = ipv (C'.set v.toNat 2) := ⟨_,rfl⟩
   have hfin : RM R vs (C'.set v.toNat 2) G' N W P B V Q3 la' m' := ⟨h2.a,h2.n,h2.r,h2.w,h2.p,h2.b,h2.v,hQ3,by rw [List.length_set]; exact h2.c,h2.l,h2.m,h2.g,h2.g8⟩
   conv => cbv
   refine Need.mk ⟨by show 0 ≤ v; omega,by show v < W; omega⟩ ?_
   conv => cbv
   refine Need.mk (by show v + 1 ≤ (Q'.length : Int); omega) ?_
   conv => cbv
   refine Upd.mk fun Q2 hQ2 => ?_
   have hle : pvles Q2 Q3 := by
    have hQ2 : Q2 = Q'.set v.toNat (.int .i64 (.lit 2)) := hQ2
    rw [hQ2,hQ3,h2.q,← ipv_set]
    exact pvles_set _ _ _ _ _ (pvles_refl _) (by simp [pvle,I.val])
   unfold pvles at hle
   clear hQ2
   conv => cbv
   refine RetF.mk [.p (.vsl (.sym 0) true [])] [hpR 0 1 6 3 W 7 1 sp cy,hpB 1 2 5 3 W,hpD 2 3 3 1 N 4 203 8 N,hpP 3 P,hpP 4 B,hpP 5 V,hpP 6 Q3,(7,.mix [.p (.vsl (.sym m') true la'),.p (.bool ov')])] 8 (Re.at [(0,0),(1,1),(2,2),(3,3),(4,4),(5,5),(6,6),(7,7)] []) rfl ⟨[],0,1,sp,[],vs,C'.set v.toNat 2,G',ov',V,Q3,la',m',rfl,rfl,rfl,hfin,rfl,rfl,.scan v G1 X _ G' ov1 ov' hg hX (by unfold scanS; rw [← hS])⟩
 | false =>
  have hv0 : v = 0 := by cases hg <;> rfl
  conv => cbv
  obtain ⟨mo,hmo⟩ : ∃ m : Int,m = objCount R := ⟨_,rfl⟩
  refine cfr (robjects_lx mo R vs N W P B V h.p h.b h.v h.n h.r h.a h.w hmo) [(0,1),(1,2),(2,3),(3,4),(4,5)] (fun r h' n' hrr => ?_)
  obtain ⟨O,e1,e2,e3,hO⟩ := hrr
  subst e1 e2 e3
  have hOl : (O.length : Int) = mo := by rw [hO,ipv_length,objs_length h.a.rows,hmo]
  have hO : O = ipv (objs R) := hO
  have hol : ((objs R).length : Int) = mo := by rw [← hOl,hO,ipv_length]
  have hob : mo ≤ 8000 := by have := objsTo_le R R.length; rw [objs_length h.a.rows] at this; omega
  conv => cbv
  refine LoopF.mk (fun kk s => ∃ i : Int,s = ⟨.ptr 0 (.lit 0) :: (undefs 6 ++ .sl 8 3 1 (.lit 0) (.sym mo) :: .p (.int .i64 (.sym i)) :: undefs 113),[hpR 0 1 6 3 W 7 1 sp cy,hpB 1 2 5 3 W,hpD 2 3 3 1 N 4 203 8 N,hpP 3 P,hpP 4 B,hpP 5 V,hpP 6 Q,(7,.mix [.p (.vsl (.sym m1) true la1),.p (.bool ov1)]),hpP 8 O],9⟩ ∧ 0 ≤ i ∧ i ≤ mo ∧ (∀ (j : Nat) b,(j : Int) < i → (objs R)[j]? = some b → ¬ Due R vs C b) ∧ kk = (mo - i).toNat) mo.toNat _
   (Re.at [(0,0),(1,1),(2,2),(3,3),(4,4),(5,5),(6,6),(7,7),(8,8)] []) ⟨0,rfl,by omega,by omega,fun j b hj => by omega,by omega⟩ ?_
  rintro kk s ⟨i,rfl,hi0,hi1,hn,hkk⟩
  conv => cbv
  refine Br.mk (fun gi => ?_) (fun gi => ?_)
  ·have gi : i < mo := gi
   obtain ⟨k',rfl⟩ : ∃ k',kk = k' + 1 := ⟨kk - 1,by omega⟩
   obtain ⟨a,ha⟩ : ∃ a,(objs R)[i.toNat]? = some a := ⟨_,List.getElem?_eq_getElem (by omega)⟩
   have hc : O[i.toNat]? = some (.int .i64 (.sym a)) := by rw [hO]; exact ipv_get ha
   have hab := obj_bd h.a (List.mem_of_getElem? ha)
   have hob2 := (obj_iff h.a a).1 (List.mem_of_getElem? ha)
   obtain ⟨x,hx⟩ : ∃ x,C[a.toNat]? = some x := ⟨_,List.getElem?_eq_getElem (by omega)⟩
   have hq : Q[a.toNat]? = some (.int .i64 (.sym x)) := by rw [h.q]; exact ipv_get hx
   have hstep : ∀ i2 : Int,i2 = i + 1 → ¬ Due R vs C a → ∀ (j : Nat) b,(j : Int) < i2 → (objs R)[j]? = some b → ¬ Due R vs C b := by
    intro i2 hi2 hd j b hj hjb
    by_cases q : j = i.toNat
    ·rw [q,ha] at hjb; obtain rfl := Option.some.inj hjb; exact hd
    ·exact hn j b (by omega) hjb
   conv => cbv
   refine Need.mk ⟨hi0,gi⟩ ?_
   conv => cbv
   refine Cell.at i _ hc (by simp [I.val]) rfl ?_
   conv => cbv
   refine cfr (rwordsV_lx R vs C G1 N W 1 sp cy P B V Q la1 m1 ov1 h1 a) [(0,0),(1,1),(2,2),(3,3),(4,4),(5,5),(6,6),(7,7)] (fun r h' n' hrr => ?_)
   obtain ⟨X,k,O2,e1,e2,e3,hO2,hk,hX⟩ := hrr
   subst e1 e2 e3
   have hX31 := hX.le h.a
   conv => cbv
   refine drawn_sound tok (by kernel_rfl) [(8,[])] [0,1,2,3,4,5,6,7,8,9,10,11,12,13,14,15,16,17,18,19,20,21,22,23,24,25,26,27,28,29,30,31,32,33] (by kernel_rfl) ?_; conv => cbv
   refine Need.mk ⟨hi0,gi⟩ ?_
   conv => cbv
   refine Cell.at i _ hc (by simp [I.val]) rfl ?_
   conv => cbv
   refine cfr (rkind_lx R vs N a W P B V h.p h.b h.v h.n h.r h.a h.w) [(0,1),(1,2),(2,3),(3,4),(4,5)] (fun r h' n' hrr => ?_)
   obtain ⟨kd,e1,e2,e3,hkd⟩ := hrr
   subst e1 e2 e3
   conv => cbv
   refine Br.mk (fun g5 => ?_) (fun g5 => ?_)
   ·have g5 : kd = 5 := g5
    obtain ⟨l,hK⟩ : ∃ l,Kept R vs a 5 l := by
     cases hkd with
     | no _ => cases g5
     | is _ l hK => exact ⟨l,g5 ▸ hK⟩
    conv => cbv
    refine Need.mk ⟨hi0,gi⟩ ?_
    conv => cbv
    refine Cell.at i _ hc (by simp [I.val]) rfl ?_
    conv => cbv
    refine Need.mk ⟨by show 0 ≤ a; omega,by show a < W; omega⟩ ?_
    conv => cbv
    refine Cell.at a _ hq (by simp [I.val]) rfl ?_
    conv => cbv
    refine Br.mk (fun g0 => ?_) (fun g0 => ?_)
    ·have g0 : x = 0 := g0
     conv => cbv
     refine Br.mk (fun g1 => ?_) (fun g1 => ?_)
     ·have g1 : 1 < k := g1
      obtain ⟨y,hy⟩ : ∃ y,X[(1 : Nat)]? = some y := ⟨_,List.getElem?_eq_getElem (by omega)⟩
      have hcy : O2[(1 : Nat)]? = some (.int .i64 (.sym y)) := by rw [hO2]; exact ipv_get hy
      have hld : Loaded R vs a 1 y 0 := hX.2 1 y hy
      conv => cbv
      refine Need.mk ⟨by show (0 : Int) ≤ 1; omega,by show 1 < k; omega⟩ ?_
      conv => cbv
      refine Cell.at 1 _ hcy (by simp [I.val]) rfl ?_
      conv => cbv
      refine Br.mk (fun gy => ?_) (fun gy => ?_)
      ·have gy : y ≠ 0 := gy
       have hdue : Due R vs C a := ⟨⟨l,hK⟩,by rw [hx,g0],y,hld,gy⟩
       conv => cbv
       refine drawn_sound tok (by kernel_rfl) [(8,[])] [0,1,2,3,4,5,6,7,8] (by kernel_rfl) ?_; conv => cbv
       refine Need.mk ⟨hi0,gi⟩ ?_
       conv => cbv
       refine Cell.at i _ hc (by simp [I.val]) rfl ?_
       conv => cbv
       refine CallF.le (args0 := [.ptr 1 (.lit 0),i6 a,i6 1,i6 0]) (cfr (rstore_lx 1 0 R vs N a W P B V h.p h.b h.v h.n h.r h.a h.w) [(0,1),(1,2),(2,3),(3,4),(4,5)] (fun r h' n' hrr => ?_)) (by simp [ales,ale,pvle,I.val])
       obtain ⟨e,vs',V',e1,e2,e3,hV',hT⟩ := hrr
       subst e1 e2 e3
       have he : e = 0 := by
        cases hld with
        | ok _ l2 _ hK2 hi2 _ =>
         cases hT with
         | none hno => exact absurd hob2 hno
         | arg k3 l3 hK3 hi3 => obtain ⟨_,rfl⟩ := hK2.det9 hK3; exact absurd hi2 hi3
         | ok _ _ _ _ => rfl
       have h2 := h1.stored (by decide) hT hV'
       conv => cbv
       refine Need.mk ⟨hi0,gi⟩ ?_
       conv => cbv
       refine Cell.at i _ hc (by simp [I.val]) rfl ?_
       conv => cbv
       refine cfr (rshade_lx R vs' C G1 N W 1 sp cy P B V' Q la1 m1 ov1 h2 a) [(0,0),(1,1),(2,2),(3,3),(4,4),(5,5),(6,6),(7,7)] (fun r h' n' hrr => ?_)
       obtain ⟨C',G',ov',Q',la',m',e1,e2,e3,h3,hS⟩ := hrr
       subst e1 e2 e3
       conv => cbv
       refine Need.mk ⟨hi0,gi⟩ ?_
       conv => cbv
       refine Cell.at i _ hc (by simp [I.val]) rfl ?_
       conv => cbv
       refine RetF.mk [.p (.vsl (.sym 1) true [.int .i64 (.sym 5),.int .i64 (.sym a),.vsl (.sym k) true O2,.bool true])] [hpR 0 1 6 3 W 7 1 sp cy,hpB 1 2 5 3 W,hpD 2 3 3 1 N 4 203 8 N,hpP 3 P,hpP 4 B,hpP 5 V',hpP 6 Q',(7,.mix [.p (.vsl (.sym m') true la'),.p (.bool ov')])] 8 (Re.at [(0,0),(1,1),(2,2),(3,3),(4,4),(5,5),(6,6),(7,7)] []) rfl ⟨[(5,a,X,true)],1,1,sp,_,vs',C',G',ov',V',Q',la',m',rfl,rfl,rfl,h3,by rw [hO2,hk]; rfl,rfl,.keep a G1 X vs' C' G' ov1 ov' (hv0 ▸ hg) (.found i.toNat a ha hdue (fun j b hj => hn j b (by omega))) hX (he ▸ hT) hS⟩
      ·have gy : ¬ y ≠ 0 := gy
       have hnd : ¬ Due R vs C a := by
        rintro ⟨_,_,y2,hy2,hy0⟩
        obtain ⟨rfl,_⟩ := loaded_det hld hy2
        exact gy hy0
       conv => cbv
       refine Fit.mk (by show (-9223372036854775808 : Int) ≤ i + 1; omega) (by show i + 1 ≤ 9223372036854775807; omega) fun i2 hi2 => ?_
       have hi2 : i2 = i + 1 := hi2
       conv => cbv
       refine Again.mk k' _ (Nat.lt_succ_self _) (Re.at [(0,0),(1,1),(2,2),(3,3),(4,4),(5,5),(6,6),(7,7),(8,8)] []) ⟨i2,rfl,by omega,by omega,hstep i2 hi2 hnd,by omega⟩
     ·have g1 : ¬ 1 < k := g1
      have hnd : ¬ Due R vs C a := by
       rintro ⟨_,_,y2,hy2,hy0⟩
       cases hy2 with
       | ok k2 l2 _ hK2 hi2 _ =>
        have hlen := hX.1
        generalize hxl : (X.length : Int) = xl at hlen
        cases hlen with
        | no hno => exact hno hob2
        | is k3 l3 hK3 => have := (hK3.det9 hK2).2; omega
      conv => cbv
      refine Fit.mk (by show (-9223372036854775808 : Int) ≤ i + 1; omega) (by show i + 1 ≤ 9223372036854775807; omega) fun i2 hi2 => ?_
      have hi2 : i2 = i + 1 := hi2
      conv => cbv
      refine Again.mk k' _ (Nat.lt_succ_self _) (Re.at [(0,0),(1,1),(2,2),(3,3),(4,4),(5,5),(6,6),(7,7),(8,8)] []) ⟨i2,rfl,by omega,by omega,hstep i2 hi2 hnd,by omega⟩
    ·have g0 : ¬ x = 0 := g0
     have hnd : ¬ Due R vs C a := fun hd => g0 (Option.some.inj (hx.symm.trans hd.2.1))
     conv => cbv
     refine Fit.mk (by show (-9223372036854775808 : Int) ≤ i + 1; omega) (by show i + 1 ≤ 9223372036854775807; omega) fun i2 hi2 => ?_
     have hi2 : i2 = i + 1 := hi2
     conv => cbv
     refine Again.mk k' _ (Nat.lt_succ_self _) (Re.at [(0,0),(1,1),(2,2),(3,3),(4,4),(5,5),(6,6),(7,7),(8,8)] []) ⟨i2,rfl,by omega,by omega,hstep i2 hi2 hnd,by omega⟩
   ·have g5 : ¬ kd = 5 := g5
    have hnd : ¬ Due R vs C a := by
     rintro ⟨⟨l,hK⟩,_⟩
     cases hkd with
     | no hno => exact hno hob2
     | is _ l2 hK2 => exact g5 (hK2.det9 hK).1
    conv => cbv
    refine Fit.mk (by show (-9223372036854775808 : Int) ≤ i + 1; omega) (by show i + 1 ≤ 9223372036854775807; omega) fun i2 hi2 => ?_
    have hi2 : i2 = i + 1 := hi2
    conv => cbv
    refine Again.mk k' _ (Nat.lt_succ_self _) (Re.at [(0,0),(1,1),(2,2),(3,3),(4,4),(5,5),(6,6),(7,7),(8,8)] []) ⟨i2,rfl,by omega,by omega,hstep i2 hi2 hnd,by omega⟩
  ·have gi : ¬ i < mo := gi
   conv => cbv
   refine RetF.mk [.p (.vsl (.sym 0) true [])] [hpR 0 1 6 3 W 7 2 0 cy,hpB 1 2 5 3 W,hpD 2 3 3 1 N 4 203 8 N,hpP 3 P,hpP 4 B,hpP 5 V,hpP 6 Q,(7,.mix [.p (.vsl (.sym m1) true la1),.p (.bool ov1)])] 8 (Re.at [(0,0),(1,1),(2,2),(3,3),(4,4),(5,5),(6,6),(7,7)] []) rfl ⟨[],0,2,0,[],vs,C,G1,ov1,V,Q,la1,m1,rfl,rfl,rfl,h1,rfl,rfl,.sweep G1 ov1 (hv0 ▸ hg) (.none (fun j b hj => hn j b (by have := (List.getElem?_eq_some_iff.1 hj).1; omega) hj))⟩
inductive RG (R : List Rw) (vs C : List Int) (sp : Int) : Nat → List Gn → Prop
 | zero : RG R vs C sp 0 []
 | skip (i : Nat) (a : Int) (out : List Gn) (h : RG R vs C sp i out) (ha : (objs R)[i]? = some a) (hn : ¬ (a / 32 = sp ∧ C[a.toNat]? = some 0)) : RG R vs C sp (i + 1) out
 | add (i : Nat) (a k : Int) (X : List Int) (out : List Gn) (h : RG R vs C sp i out) (ha : (objs R)[i]? = some a) (hw : a / 32 = sp ∧ C[a.toNat]? = some 0) (hk : KindR R vs a k) (hX : Wrds R vs a X) : RG R vs C sp (i + 1) (out ++ [(k,a,X,false)])
theorem RG.le {R : List Rw} {vs C : List Int} {sp : Int} {i : Nat} {out : List Gn} (h : RG R vs C sp i out) : out.length ≤ i := by
 induction h with
 | zero => exact Nat.le_refl _
 | skip i a out h ha hn ih => omega
 | add i a k X out h ha hw hk hX ih => rw [List.length_append]; simp; omega
inductive Frees : List Rw → List Int → List Rw → Prop
 | nil (R : List Rw) : Frees R [] R
 | snoc (R R1 R2 : List Rw) (l : List Int) (a e : Int) (h : Frees R l R1) (hf : Freet R1 a e R2) : Frees R (l ++ [a]) R2
theorem RM.freet {R R' : List Rw} {vs C G : List Int} {N W m : Int} {P P' B B' V Q la : List PV} {a e : Int} (h : RM R vs C G N W P B V Q la m) (hf : Freet R a e R') (hP : P' = cpv R') (hB : B' = bpv R') : RM R' vs C G N W P' B' V Q la m := by
 obtain ⟨h1,h2⟩ := h.a.freet hf
 exact ⟨h1,by rw [h2]; exact h.n,by rw [h2]; exact h.r,h.w,hP,hB,h.v,h.q,h.c,h.l,h.m,h.g,h.g8⟩
theorem gpv_get (l : List Gn) : ∀ (i : Nat) (g : Gn),l[i]? = some g → (gpv l)[4 * i + 1]? = some (.int .i64 (.sym g.2.1)) := by
 induction l with
 | nil => intro i g h; simp at h
 | cons x l ih =>
  intro i g h
  cases i with
  | zero => simp at h; subst h; rfl
  | succ i =>
   have := ih i g (by simpa using h)
   show (gpv (x :: l))[4 * (i + 1) + 1]? = _
   rw [show 4 * (i + 1) + 1 = (4 * i + 1) + 4 by omega]
   exact this
theorem rsweep_lx (R : List Rw) (vs C G : List Int) (N W ph sp cy : Int) (P B V Q la : List PV) (m : Int) (ov : Bool) (h : RM R vs C G N W P B V Q la m) (hph : ph = 2) (hsp : 0 ≤ sp ∧ sp ≤ 1000) (hcy : 0 ≤ cy ∧ cy ≤ 1000000000) : CallF (fun _ => Tryz.prog) 104 [.ptr 0 (.lit 0)] [hpR 0 1 6 3 W 7 ph sp cy,hpB 1 2 5 3 W,hpD 2 3 3 1 N 4 203 8 N,hpP 3 P,hpP 4 B,hpP 5 V,hpP 6 Q,(7,.mix [.p (.vsl (.sym m) true la),.p (.bool ov)])] 8 (fun r h n => ∃ (out : List Gn) (k ph' sp' cy' : Int) (cells P' B' : List PV) (R' : List Rw),r = .p (.vsl (.sym k) true cells) ∧ h = [hpR 0 1 6 3 W 7 ph' sp' cy',hpB 1 2 5 3 W,hpD 2 3 3 1 N 4 203 8 N,hpP 3 P',hpP 4 B',hpP 5 V,hpP 6 Q,(7,.mix [.p (.vsl (.sym m) true la),.p (.bool ov)])] ∧ n = 8 ∧ RM R' vs C G N W P' B' V Q la m ∧ cells = gpv out ∧ k = out.length ∧ RG R vs C sp (objs R).length out ∧ Frees R (out.map fun g => g.2.1) R' ∧ sp' = sp + 1 ∧ ph' = swPh sp W ∧ cy' = swCy sp W cy) := by
 have hCl := h.c; have hWn := h.w; have hNr := h.n; have hRr := h.r
 have hQl : Q.length = C.length := by rw [h.q,ipv_length]
 obtain ⟨mo,hmo⟩ : ∃ m : Int,m = objCount R := ⟨_,rfl⟩
 refine callF_of_body tok Tryz.func104 (by kernel_rfl) rfl rfl rfl ?_; conv => cbv
 refine cfr (robjects_lx mo R vs N W P B V h.p h.b h.v h.n h.r h.a h.w hmo) [(0,1),(1,2),(2,3),(3,4),(4,5)] (fun r h' n' hrr => ?_)
 obtain ⟨O,e1,e2,e3,hO⟩ := hrr
 subst e1 e2 e3
 have hOl : (O.length : Int) = mo := by rw [hO,ipv_length,objs_length h.a.rows,hmo]
 have hO : O = ipv (objs R) := hO
 have hol : ((objs R).length : Int) = mo := by rw [← hOl,hO,ipv_length]
 have hob : mo ≤ 8000 := by have := objsTo_le R R.length; rw [objs_length h.a.rows] at this; omega
 conv => cbv
 refine LoopF.mk (fun kk s => ∃ (i k : Int) (out : List Gn) (cells : List PV),s = ⟨.ptr 0 (.lit 0) :: (undefs 2 ++ .sl 9 40 4 (.lit 0) (.sym k) :: .sl 8 3 1 (.lit 0) (.sym mo) :: .p (.int .i64 (.sym i)) :: undefs 109),[hpR 0 1 6 3 W 7 ph sp cy,hpB 1 2 5 3 W,hpD 2 3 3 1 N 4 203 8 N,hpP 3 P,hpP 4 B,hpP 5 V,hpP 6 Q,(7,.mix [.p (.vsl (.sym m) true la),.p (.bool ov)]),hpP 8 O,hpP 9 cells],10⟩ ∧ 0 ≤ i ∧ i ≤ mo ∧ RG R vs C sp i.toNat out ∧ cells = gpv out ∧ k = out.length ∧ kk = (mo - i).toNat) mo.toNat _
  (Re.at [(0,0),(1,1),(2,2),(3,3),(4,4),(5,5),(6,6),(7,7),(8,8)] [9]) ⟨0,0,[],[],rfl,by omega,by omega,.zero,rfl,rfl,by omega⟩ ?_
 rintro kk s ⟨i,k,out,cells,rfl,hi0,hi1,hG,hcs,hk,hkk⟩
 have hle := hG.le
 have hcl : (cells.length : Int) = 4 * k := by rw [hcs,gpv_length]; omega
 conv => cbv
 refine Br.mk (fun gi => ?_) (fun gi => ?_)
 ·have gi : i < mo := gi
  obtain ⟨k',rfl⟩ : ∃ k',kk = k' + 1 := ⟨kk - 1,by omega⟩
  obtain ⟨a,ha⟩ : ∃ a,(objs R)[i.toNat]? = some a := ⟨_,List.getElem?_eq_getElem (by omega)⟩
  have hc : O[i.toNat]? = some (.int .i64 (.sym a)) := by rw [hO]; exact ipv_get ha
  have hab := obj_bd h.a (List.mem_of_getElem? ha)
  obtain ⟨x,hx⟩ : ∃ x,C[a.toNat]? = some x := ⟨_,List.getElem?_eq_getElem (by omega)⟩
  have hq : Q[a.toNat]? = some (.int .i64 (.sym x)) := by rw [h.q]; exact ipv_get hx
  have hdv : a.tdiv 32 = a / 32 := Int.tdiv_eq_ediv_of_nonneg hab.1
  have hskip : ∀ i2 : Int,i2 = i + 1 → ¬ (a / 32 = sp ∧ C[a.toNat]? = some 0) → RG R vs C sp i2.toNat out := by
   intro i2 hi2 hn
   rw [show i2.toNat = i.toNat + 1 by omega]
   exact .skip _ a out hG ha hn
  conv => cbv
  refine drawn_sound tok (by kernel_rfl) [] [0,1,2,3,4,5,6,7,8,9,10,11,12,13,14,15,16,17,18,19,20,21,22] (by kernel_rfl) ?_; conv => cbv
  refine Need.mk ⟨hi0,gi⟩ ?_
  conv => cbv
  refine Cell.at i _ hc (by simp [I.val]) rfl ?_
  conv => cbv
  refine Fit.mk (by show (-9223372036854775808 : Int) ≤ a.tdiv 32; omega) (by show a.tdiv 32 ≤ 9223372036854775807; omega) fun d hd => ?_
  have hd : d = a / 32 := hd.trans hdv
  conv => cbv
  refine Br.mk (fun gd => ?_) (fun gd => ?_)
  ·have gd : d = sp := gd
   conv => cbv
   refine Need.mk ⟨hi0,gi⟩ ?_
   conv => cbv
   refine Cell.at i _ hc (by simp [I.val]) rfl ?_
   conv => cbv
   refine Need.mk ⟨by show 0 ≤ a; omega,by show a < W; omega⟩ ?_
   conv => cbv
   refine Cell.at a _ hq (by simp [I.val]) rfl ?_
   conv => cbv
   refine Br.mk (fun g0 => ?_) (fun g0 => ?_)
   ·have g0 : x = 0 := g0
    conv => cbv
    refine drawn_sound tok (by kernel_rfl) [(9,[18,17,16,15,14,13,12,11,10,0]),(19,[13,12,11,10,0]),(21,[0]),(22,[])] [0,1,2,3,4,5,6,7,8,10,11,12,13,14,15,16,17,18,9,19,20,21,22,23] (by kernel_rfl) ?_; conv => cbv
    refine Need.mk ⟨hi0,gi⟩ ?_
    conv => cbv
    refine Cell.at i _ hc (by simp [I.val]) rfl ?_
    conv => cbv
    refine Need.mk ⟨hi0,gi⟩ ?_
    conv => cbv
    refine Cell.at i _ hc (by simp [I.val]) rfl ?_
    conv => cbv
    refine Need.mk ⟨hi0,gi⟩ ?_
    conv => cbv
    refine Cell.at i _ hc (by simp [I.val]) rfl ?_
    conv => cbv
    refine cfr (rkind_lx R vs N a W P B V h.p h.b h.v h.n h.r h.a h.w) [(0,1),(1,2),(2,3),(3,4),(4,5)] (fun r h' n' hrr => ?_)
    obtain ⟨kd,e1,e2,e3,hkd⟩ := hrr
    subst e1 e2 e3
    conv => cbv
    refine cfr (rwordsV_lx R vs C G N W ph sp cy P B V Q la m ov h a) [(0,0),(1,1),(2,2),(3,3),(4,4),(5,5),(6,6),(7,7)] (fun r h' n' hrr => ?_)
    obtain ⟨X,kx,O2,e1,e2,e3,hO2,hkx,hX⟩ := hrr
    subst e1 e2 e3
    conv => cbv
    refine Room.new rfl ?_
    conv => cbv
    refine Room.new ⟨?_,?_,?_⟩ ?_
    ·show (cells.length : Int) = k * 4; omega
    ·show (k + 1) * 48 ≤ 140737488355328; omega
    ·show k + 1 ≤ 9223372036854775807; omega
    conv => cbv
    refine Upd.mk fun c2 hc2 => ?_
    have hc2 : c2 = cells ++ [.int .i64 (.sym kd),.int .i64 (.sym a),.vsl (.sym kx) true O2,.bool false] := hc2
    have hc2 : c2 = gpv (out ++ [(kd,a,X,false)]) := by rw [hc2,hcs,gpv_app,hO2,hkx]; rfl
    conv => cbv
    refine Sum.mk fun k2 hk2 => ?_
    have hk2 : k2 = k + 1 := hk2
    conv => cbv
    refine Fit.mk (by show (-9223372036854775808 : Int) ≤ i + 1; omega) (by show i + 1 ≤ 9223372036854775807; omega) fun i2 hi2 => ?_
    have hi2 : i2 = i + 1 := hi2
    have hG2 : RG R vs C sp i2.toNat (out ++ [(kd,a,X,false)]) := by
     rw [show i2.toNat = i.toNat + 1 by omega]
     exact .add _ a kd X out hG ha ⟨by omega,by rw [hx,g0]⟩ hkd hX
    have hk3 : k2 = ((out ++ [(kd,a,X,false)]).length : Int) := by rw [List.length_append]; show k2 = ((out.length + 1 : Nat) : Int); omega
    conv => cbv
    refine Again.mk k' _ (Nat.lt_succ_self _) (Re.at [(0,0),(1,1),(2,2),(3,3),(4,4),(5,5),(6,6),(7,7),(8,8),(11,9)] []) ⟨i2,k2,_,c2,rfl,by omega,by omega,hG2,hc2,hk3,by omega⟩
   ·have g0 : ¬ x = 0 := g0
    have hnw : ¬ (a / 32 = sp ∧ C[a.toNat]? = some 0) := fun hk => g0 (Option.some.inj (hx.symm.trans hk.2))
    conv => cbv
    refine Fit.mk (by show (-9223372036854775808 : Int) ≤ i + 1; omega) (by show i + 1 ≤ 9223372036854775807; omega) fun i2 hi2 => ?_
    have hi2 : i2 = i + 1 := hi2
    have hG2 := hskip i2 hi2 hnw
    conv => cbv
    refine Again.mk k' _ (Nat.lt_succ_self _) (Re.at [(0,0),(1,1),(2,2),(3,3),(4,4),(5,5),(6,6),(7,7),(8,8),(9,9)] []) ⟨i2,k,out,cells,rfl,by omega,by omega,hG2,hcs,hk,by omega⟩
  ·have gd : ¬ d = sp := gd
   have hnw : ¬ (a / 32 = sp ∧ C[a.toNat]? = some 0) := fun hk => gd (hd.trans hk.1)
   conv => cbv
   refine Fit.mk (by show (-9223372036854775808 : Int) ≤ i + 1; omega) (by show i + 1 ≤ 9223372036854775807; omega) fun i2 hi2 => ?_
   have hi2 : i2 = i + 1 := hi2
   have hG2 := hskip i2 hi2 hnw
   conv => cbv
   refine Again.mk k' _ (Nat.lt_succ_self _) (Re.at [(0,0),(1,1),(2,2),(3,3),(4,4),(5,5),(6,6),(7,7),(8,8),(9,9)] []) ⟨i2,k,out,cells,rfl,by omega,by omega,hG2,hcs,hk,by omega⟩
 ·have gi : ¬ i < mo := gi
  have hG : RG R vs C sp (objs R).length out := by rw [show (objs R).length = i.toNat by omega]; exact hG
  conv => cbv
  refine LoopF.mk (fun kk s => ∃ (i : Int) (P1 B1 : List PV) (R1 : List Rw),s = ⟨.ptr 0 (.lit 0) :: (undefs 2 ++ .sl 8 40 4 (.lit 0) (.sym k) :: (undefs 2 ++ .p (.int .i64 (.sym i)) :: undefs 108)),[hpR 0 1 6 3 W 7 ph sp cy,hpB 1 2 5 3 W,hpD 2 3 3 1 N 4 203 8 N,hpP 3 P1,hpP 4 B1,hpP 5 V,hpP 6 Q,(7,.mix [.p (.vsl (.sym m) true la),.p (.bool ov)]),hpP 8 cells],9⟩ ∧ 0 ≤ i ∧ i ≤ k ∧ RM R1 vs C G N W P1 B1 V Q la m ∧ Frees R ((out.map fun g => g.2.1).take i.toNat) R1 ∧ kk = (k - i).toNat) k.toNat _
   (Re.at [(0,0),(1,1),(2,2),(3,3),(4,4),(5,5),(6,6),(7,7),(9,8)] []) ⟨0,P,B,R,rfl,by omega,by omega,h,.nil R,by omega⟩ ?_
  rintro kk s ⟨i,P1,B1,R1,rfl,hi0,hi1,h1,hF,hkk⟩
  conv => cbv
  refine Br.mk (fun gi => ?_) (fun gi => ?_)
  ·have gi : i < k := gi
   obtain ⟨k',rfl⟩ : ∃ k',kk = k' + 1 := ⟨kk - 1,by omega⟩
   obtain ⟨g,hg⟩ : ∃ g,out[i.toNat]? = some g := ⟨_,List.getElem?_eq_getElem (by omega)⟩
   obtain ⟨a,ha⟩ : ∃ a,a = g.2.1 := ⟨_,rfl⟩
   have hcg := gpv_get out i.toNat g hg
   rw [← hcs,← ha] at hcg
   conv => cbv
   refine drawn_sound tok (by kernel_rfl) [(9,[])] [0,1,2,3,4,5,6,7,8,9] (by kernel_rfl) ?_; conv => cbv
   refine Need.mk ⟨hi0,gi⟩ ?_
   conv => cbv
   refine Sum.mk fun w hw => ?_
   have hw : w = i * 4 := hw
   conv => cbv
   refine Sum.mk fun w2 hw2 => ?_
   have hw2 : w2 = w + 1 := hw2
   conv => cbv
   refine Cell.at (w2 + 0) (4 * i.toNat + 1) hcg rfl (by omega) ?_
   conv => cbv
   refine cfr (rfreeA_lx R1 vs N a W P1 B1 V h1.p h1.b h1.v h1.n h1.r h1.a h1.w) [(0,1),(1,2),(2,3),(3,4),(4,5)] (fun r h' n' hrr => ?_)
   obtain ⟨e,R2,P2,B2,e1,e2,e3,hP2,hB2,hf⟩ := hrr
   subst e1 e2 e3
   have h2 := h1.freet hf hP2 hB2
   conv => cbv
   refine Fit.mk (by show (-9223372036854775808 : Int) ≤ i + 1; omega) (by show i + 1 ≤ 9223372036854775807; omega) fun i2 hi2 => ?_
   have hi2 : i2 = i + 1 := hi2
   have hF2 : Frees R ((out.map fun g => g.2.1).take i2.toNat) R2 := by
    rw [show i2.toNat = i.toNat + 1 by omega,List.take_add_one,List.getElem?_map,hg]
    exact .snoc R R1 R2 _ g.2.1 e hF (ha ▸ hf)
   conv => cbv
   refine Again.mk k' _ (Nat.lt_succ_self _) (Re.at [(0,0),(1,1),(2,2),(3,3),(4,4),(5,5),(6,6),(7,7),(8,8)] []) ⟨i2,P2,B2,R2,rfl,by omega,by omega,h2,hF2,by omega⟩
  ·have gi : ¬ i < k := gi
   rw [List.take_of_length_le (by rw [List.length_map]; omega)] at hF
   conv => cbv
   refine Fit.mk (by show (-9223372036854775808 : Int) ≤ sp + 1; omega) (by show sp + 1 ≤ 9223372036854775807; omega) fun s2 hs2 => ?_
   have hs2 : s2 = sp + 1 := hs2
   conv => cbv
   refine drawn_sound tok (by kernel_rfl) [] [0,1,2,3,4,5,6,7,8,9,10,11,12,13,14,15] (by kernel_rfl) ?_; conv => cbv
   refine Br.mk (fun gw => ?_) (fun gw => ?_)
   ·have gw : N ≤ s2 := gw
    conv => cbv
    refine Fit.mk (by show (-9223372036854775808 : Int) ≤ cy + 1; omega) (by show cy + 1 ≤ 9223372036854775807; omega) fun c2 hc2 => ?_
    have hc2 : c2 = cy + 1 := hc2
    conv => cbv
    refine RetF.mk [.p (.vsl (.sym k) true cells)] [hpR 0 1 6 3 W 7 0 s2 c2,hpB 1 2 5 3 W,hpD 2 3 3 1 N 4 203 8 N,hpP 3 P1,hpP 4 B1,hpP 5 V,hpP 6 Q,(7,.mix [.p (.vsl (.sym m) true la),.p (.bool ov)])] 8 (Re.at [(0,0),(1,1),(2,2),(3,3),(4,4),(5,5),(6,6),(7,7)] []) rfl ⟨out,k,0,s2,c2,cells,P1,B1,R1,rfl,rfl,rfl,h1,hcs,hk,hG,hF,hs2,by unfold swPh; rw [if_pos (by omega)],by unfold swCy; rw [if_pos (by omega)]; exact hc2⟩
   ·have gw : ¬ N ≤ s2 := gw
    conv => cbv
    refine RetF.mk [.p (.vsl (.sym k) true cells)] [hpR 0 1 6 3 W 7 ph s2 cy,hpB 1 2 5 3 W,hpD 2 3 3 1 N 4 203 8 N,hpP 3 P1,hpP 4 B1,hpP 5 V,hpP 6 Q,(7,.mix [.p (.vsl (.sym m) true la),.p (.bool ov)])] 8 (Re.at [(0,0),(1,1),(2,2),(3,3),(4,4),(5,5),(6,6),(7,7)] []) rfl ⟨out,k,ph,s2,cy,cells,P1,B1,R1,rfl,rfl,rfl,h1,hcs,hk,hG,hF,hs2,by unfold swPh; rw [if_neg (by omega)]; exact hph,by unfold swCy; rw [if_neg (by omega)]⟩
inductive RStepd (R : List Rw) (vs C G : List Int) (ov : Bool) (ph sp cy W : Int) : List Gn → List Rw → List Int → List Int → List Int → Bool → Int → Int → Int → Prop
 | mark (out : List Gn) (vs' C' G' : List Int) (ov' : Bool) (ph' sp' : Int) (h : ph = 1) (hm : Marked R vs C G ov sp out ph' sp' vs' C' G' ov') : RStepd R vs C G ov ph sp cy W out R vs' C' G' ov' ph' sp' cy
 | sweep (out : List Gn) (R' : List Rw) (h : ph = 2) (hg : RG R vs C sp (objs R).length out) (hf : Frees R (out.map fun g => g.2.1) R') : RStepd R vs C G ov ph sp cy W out R' vs C G ov (swPh sp W) (sp + 1) (swCy sp W cy)
 | idle (h : ph ≠ 1) (h2 : ph ≠ 2) : RStepd R vs C G ov ph sp cy W [] R vs C G ov ph sp cy
theorem rstep_lx (R : List Rw) (vs C G : List Int) (N W ph sp cy : Int) (P B V Q la : List PV) (m : Int) (ov : Bool) (h : RM R vs C G N W P B V Q la m) (hsp : 0 ≤ sp ∧ sp ≤ 1000) (hcy : 0 ≤ cy ∧ cy ≤ 1000000000) : CallF (fun _ => Tryz.prog) 33 [.ptr 0 (.lit 0)] [hpR 0 1 6 3 W 7 ph sp cy,hpB 1 2 5 3 W,hpD 2 3 3 1 N 4 203 8 N,hpP 3 P,hpP 4 B,hpP 5 V,hpP 6 Q,(7,.mix [.p (.vsl (.sym m) true la),.p (.bool ov)])] 8 (fun r h n => ∃ (out : List Gn) (k ph' sp' cy' : Int) (R' : List Rw) (vs' C' G' : List Int) (ov' : Bool) (cells P' B' V' Q' la' : List PV) (m' : Int),r = .p (.vsl (.sym k) true cells) ∧ h = [hpR 0 1 6 3 W 7 ph' sp' cy',hpB 1 2 5 3 W,hpD 2 3 3 1 N 4 203 8 N,hpP 3 P',hpP 4 B',hpP 5 V',hpP 6 Q',(7,.mix [.p (.vsl (.sym m') true la'),.p (.bool ov')])] ∧ n = 8 ∧ RM R' vs' C' G' N W P' B' V' Q' la' m' ∧ cells = gpv out ∧ k = out.length ∧ RStepd R vs C G ov ph sp cy W out R' vs' C' G' ov' ph' sp' cy') := by
 refine callF_of_body tok Tryz.func33 (by kernel_rfl) rfl rfl rfl ?_; conv => cbv
 refine Br.mk (fun g => ?_) (fun g => ?_)
 ·have g : ph = 1 := g
  conv => cbv
  refine cfr (rmark_lx R vs C G N W ph sp cy P B V Q la m ov h g) [(0,0),(1,1),(2,2),(3,3),(4,4),(5,5),(6,6),(7,7)] (fun r h' n' hrr => ?_)
  obtain ⟨out,k,ph',sp',cells,vs',C',G',ov',V',Q',la',m',e1,e2,e3,h2,hcs,hk,hM⟩ := hrr
  subst e1 e2 e3
  conv => cbv
  refine RetF.mk [.p (.vsl (.sym k) true cells)] [hpR 0 1 6 3 W 7 ph' sp' cy,hpB 1 2 5 3 W,hpD 2 3 3 1 N 4 203 8 N,hpP 3 P,hpP 4 B,hpP 5 V',hpP 6 Q',(7,.mix [.p (.vsl (.sym m') true la'),.p (.bool ov')])] 8 (Re.at [(0,0),(1,1),(2,2),(3,3),(4,4),(5,5),(6,6),(7,7)] []) rfl ⟨out,k,ph',sp',cy,R,vs',C',G',ov',cells,P,B,V',Q',la',m',rfl,rfl,rfl,h2,hcs,hk,.mark out vs' C' G' ov' ph' sp' g hM⟩
 ·have g : ¬ ph = 1 := g
  conv => cbv
  refine Br.mk (fun g2 => ?_) (fun g2 => ?_)
  ·have g2 : ph = 2 := g2
   conv => cbv
   refine cfr (rsweep_lx R vs C G N W ph sp cy P B V Q la m ov h g2 hsp hcy) [(0,0),(1,1),(2,2),(3,3),(4,4),(5,5),(6,6),(7,7)] (fun r h' n' hrr => ?_)
   obtain ⟨out,k,ph',sp',cy',cells,P',B',R',e1,e2,e3,h2,hcs,hk,hG,hF,q1,q2,q3⟩ := hrr
   subst e1 e2 e3
   conv => cbv
   refine RetF.mk [.p (.vsl (.sym k) true cells)] [hpR 0 1 6 3 W 7 ph' sp' cy',hpB 1 2 5 3 W,hpD 2 3 3 1 N 4 203 8 N,hpP 3 P',hpP 4 B',hpP 5 V,hpP 6 Q,(7,.mix [.p (.vsl (.sym m) true la),.p (.bool ov)])] 8 (Re.at [(0,0),(1,1),(2,2),(3,3),(4,4),(5,5),(6,6),(7,7)] []) rfl ⟨out,k,ph',sp',cy',R',vs,C,G,ov,cells,P',B',V,Q,la,m,rfl,rfl,rfl,h2,hcs,hk,by rw [q1,q2,q3]; exact .sweep out R' g2 hG hF⟩
  ·have g2 : ¬ ph = 2 := g2
   conv => cbv
   refine RetF.mk [.p (.vsl (.sym 0) true [])] [hpR 0 1 6 3 W 7 ph sp cy,hpB 1 2 5 3 W,hpD 2 3 3 1 N 4 203 8 N,hpP 3 P,hpP 4 B,hpP 5 V,hpP 6 Q,(7,.mix [.p (.vsl (.sym m) true la),.p (.bool ov)])] 8 (Re.at [(0,0),(1,1),(2,2),(3,3),(4,4),(5,5),(6,6),(7,7)] []) rfl ⟨[],0,ph,sp,cy,R,vs,C,G,ov,[],P,B,V,Q,la,m,rfl,rfl,rfl,h,rfl,rfl,.idle g g2⟩
theorem Sim.wrds {R : List Rw} {ws vs X Y : List Int} {a : Int} (h : Sim R ws vs) (h1 : Wrds R ws a X) (h2 : Wrds R vs a Y) : X = Y := by
 have hl := h.len h1.1 h2.1
 apply List.ext_getElem?
 intro i
 by_cases hi : i < X.length
 ·obtain ⟨x,hx⟩ : ∃ x,X[i]? = some x := ⟨_,List.getElem?_eq_getElem hi⟩
  obtain ⟨y,hy⟩ : ∃ y,Y[i]? = some y := ⟨_,List.getElem?_eq_getElem (by omega)⟩
  obtain ⟨rfl,_⟩ := h.load (h1.2 i x hx) (h2.2 i y hy)
  rw [hx,hy]
 ·rw [List.getElem?_eq_none (by omega),List.getElem?_eq_none (by omega)]
theorem Sim.due {R : List Rw} {ws vs C : List Int} {a : Int} (h : Sim R ws vs) (hd : Due R ws C a) : Due R vs C a := by
 obtain ⟨⟨l,hK⟩,hc,x,hx,hx0⟩ := hd
 obtain ⟨k',l',hK'⟩ := Kept.of h.b hK.obj6
 obtain rfl := h.kind (.is 5 l hK) (.is k' l' hK')
 obtain ⟨y,f,hy⟩ : ∃ y f,Loaded R vs a 1 y f := by
  by_cases hi : (0 : Int) ≤ 1 ∧ 1 < l'
  ·have hb := hK'.bounds h.b
   have hlen := h.b.len
   obtain ⟨y,hy⟩ : ∃ y,vs[(a + 1 + 1).toNat]? = some y := ⟨_,List.getElem?_eq_getElem (by omega)⟩
   exact ⟨y,0,.ok 5 l' y hK' hi hy⟩
  ·exact ⟨0,1,.arg 5 l' hK' hi⟩
 obtain ⟨rfl,rfl⟩ := h.load hx hy
 exact ⟨⟨l',hK'⟩,hc,x,hy,hx0⟩
theorem Sim.symm_due {R : List Rw} {ws vs C : List Int} {a : Int} (h : Sim R ws vs) (hd : Due R vs C a) : Due R ws C a := by
 obtain ⟨⟨l,hK⟩,hc,x,hx,hx0⟩ := hd
 obtain ⟨k',l',hK'⟩ := Kept.of h.a hK.obj6
 obtain rfl := h.kind (.is k' l' hK') (.is 5 l hK)
 obtain ⟨y,f,hy⟩ : ∃ y f,Loaded R ws a 1 y f := by
  by_cases hi : (0 : Int) ≤ 1 ∧ 1 < l'
  ·have hb := hK'.bounds h.a
   have hlen := h.a.len
   obtain ⟨y,hy⟩ : ∃ y,ws[(a + 1 + 1).toNat]? = some y := ⟨_,List.getElem?_eq_getElem (by omega)⟩
   exact ⟨y,0,.ok _ l' y hK' hi hy⟩
  ·exact ⟨0,1,.arg _ l' hK' hi⟩
 obtain ⟨rfl,rfl⟩ := h.load hy hx
 exact ⟨⟨l',hK'⟩,hc,y,hy,hx0⟩
theorem Sim.nextF {R : List Rw} {ws vs C : List Int} {a : Int} {b : Bool} (h : Sim R ws vs) (hd : NextF R ws C a b) : NextF R vs C a b := by
 cases hd with
 | found i _ ha hd hn => exact .found i a ha (h.due hd) (fun j c hj hc hk => hn j c hj hc (h.symm_due hk))
 | none hn => exact .none (fun j c hc hk => hn j c hc (h.symm_due hk))
theorem marked_sim {R : List Rw} {ws vs C G ws' C1 G1 vs' C2 G2 : List Int} {ov o1 o2 : Bool} {sp p1 s1 p2 s2 : Int} {out1 out2 : List Gn} (h : Sim R ws vs) (h1 : Marked R ws C G ov sp out1 p1 s1 ws' C1 G1 o1) (h2 : Marked R vs C G ov sp out2 p2 s2 vs' C2 G2 o2) :
  out1 = out2 ∧ p1 = p2 ∧ s1 = s2 ∧ C1 = C2 ∧ G1 = G2 ∧ o1 = o2 ∧ Sim R ws' vs' := by
 cases h1 with
 | scan v A X _ _ q _ hg hX hs => cases h2 with
  | scan v' A' X' _ _ q' _ hg' hX' hs' =>
   obtain ⟨rfl,_,rfl,rfl⟩ := hg.det hg'
   obtain rfl := h.wrds hX hX'
   rw [← hs] at hs'
   cases hs'
   exact ⟨rfl,rfl,rfl,rfl,rfl,rfl,h⟩
  | keep _ _ _ _ _ _ _ _ hg' _ _ _ _ => obtain ⟨_,e,_⟩ := hg.det hg'; cases e
  | sweep _ _ hg' _ => obtain ⟨_,e,_⟩ := hg.det hg'; cases e
 | keep a A X _ _ _ q _ hg hf hX hst hs => cases h2 with
  | scan _ _ _ _ _ _ _ hg' _ _ => obtain ⟨_,e,_⟩ := hg.det hg'; cases e
  | keep a' A' X' _ _ _ q' _ hg' hf' hX' hst' hs' =>
   obtain ⟨_,_,rfl,rfl⟩ := hg.det hg'
   obtain ⟨rfl,_⟩ := (h.nextF hf).det hf'
   obtain rfl := h.wrds hX hX'
   rw [← hs] at hs'
   cases hs'
   obtain ⟨_,h3⟩ := h.store (by decide) hst hst'
   exact ⟨rfl,rfl,rfl,rfl,rfl,rfl,h3⟩
  | sweep _ _ hg' hf' => obtain ⟨_,e⟩ := (h.nextF hf).det hf'; cases e
 | sweep A q hg hf => cases h2 with
  | scan _ _ _ _ _ _ _ hg' _ _ => obtain ⟨_,e,_⟩ := hg.det hg'; cases e
  | keep _ _ _ _ _ _ _ _ hg' hf' _ _ _ => obtain ⟨_,e⟩ := (h.nextF hf).det hf'; cases e
  | sweep A' q' hg' hf' =>
   obtain ⟨_,_,rfl,rfl⟩ := hg.det hg'
   exact ⟨rfl,rfl,rfl,rfl,rfl,rfl,h⟩
theorem freet_objs {R R' : List Rw} {ws : List Int} {a e : Int} (hA : AOk R ws) (ha : a ∈ objs R) (h : Freet R a e R') : AOk R' ws ∧ ∀ b,b ∈ objs R' ↔ b ∈ objs R ∧ b ≠ a := by
 have hA' := (hA.freet h).1
 refine ⟨hA',fun b => ?_⟩
 rw [obj_iff hA',obj_iff hA]
 cases h with
 | none hn => exact absurd ((obj_iff hA a).1 ha) hn
 | ok q s e he hs hat =>
  obtain ⟨_,_,_,g4⟩ := free_objs hA.rows he hs a hat
  rw [isObj_iff,isObj_iff]
  constructor
  ·rintro ⟨w,hw⟩; exact ⟨⟨w,((g4 b w).1 hw).1⟩,((g4 b w).1 hw).2⟩
  ·rintro ⟨⟨w,hw⟩,hne⟩; exact ⟨w,(g4 b w).2 ⟨hw,hne⟩⟩
structure SwF (R R1 : List Rw) (ws C : List Int) (p : Int) (i : Nat) (out : List Gn) : Prop where
 each : ∀ g ∈ out,KindR R ws g.2.1 g.1 ∧ Wrds R ws g.2.1 g.2.2.1 ∧ g.2.2.2 = false
 asc : (out.map fun g => g.2.1).Pairwise (· < ·)
 mem : ∀ x,x ∈ (out.map fun g => g.2.1) ↔ p ≤ x ∧ x < p + i ∧ Wh R C x
 frees : Frees R (out.map fun g => g.2.1) R1
 ok : AOk R1 ws
 left : ∀ b,b ∈ objs R1 ↔ b ∈ objs R ∧ b ∉ (out.map fun g => g.2.1)
 kept : ∀ b k l,Kept R1 ws b k l → Kept R ws b k l
theorem gmap_app (out : List Gn) (g : Gn) : (out ++ [g]).map (fun g => g.2.1) = out.map (fun g => g.2.1) ++ [g.2.1] := by
 rw [List.map_append]; rfl
theorem SweptTo.facts {ws C : List Int} {R R1 : List Rw} {p : Int} {i : Nat} {out : List Gn} (hA : AOk R ws) (h : SweptTo ws C R p i out R1) : SwF R R1 ws C p i out := by
 induction h with
 | zero =>
  refine ⟨fun g hg => (by cases hg),List.Pairwise.nil,fun x => ⟨fun hx => (by cases hx),fun hx => (by have := hx.1; have := hx.2.1; omega)⟩,.nil R,hA,fun b => ⟨fun hb => ⟨hb,fun hk => (by cases hk)⟩,fun hb => hb.1⟩,fun _ _ _ hk => hk⟩
 | skip i out R1 h hn ih =>
  refine ⟨ih.each,ih.asc,fun x => ?_,ih.frees,ih.ok,ih.left,ih.kept⟩
  rw [ih.mem x]
  constructor
  ·rintro ⟨h1,h2,h3⟩; exact ⟨h1,by omega,h3⟩
  ·rintro ⟨h1,h2,h3⟩
   refine ⟨h1,?_,h3⟩
   by_cases e : x = p + i
   ·subst e
    exfalso
    refine hn ⟨(ih.left _).2 ⟨h3.1,fun hk => ?_⟩,h3.2⟩
    have := ((ih.mem _).1 hk).2.1
    omega
   ·omega
 | free i out R1 R2 k X h hw hk hX hf ih =>
  obtain ⟨hA2,hob⟩ := freet_objs ih.ok hw.1 hf
  have hnew := (ih.left (p + i)).1 hw.1
  have hK1 : ∃ l,Kept R1 ws (p + i) k l := by
   cases hk with
   | no hn => exact absurd ((obj_iff ih.ok _).1 hw.1) hn
   | is _ l hK => exact ⟨l,hK⟩
  obtain ⟨l,hK⟩ := hK1
  have hKR := ih.kept _ _ _ hK
  refine ⟨fun g hg => ?_,?_,fun x => ?_,?_,hA2,fun b => ?_,fun b k l hb => ih.kept b k l (kept_freet ih.ok hf b k l hb)⟩
  ·rcases List.mem_append.1 hg with hg | hg
   ·exact ih.each g hg
   ·rw [List.mem_singleton.1 hg]
    refine ⟨.is k l hKR,⟨?_,fun j x hx => ?_⟩,rfl⟩
    ·have hl := hX.1
     generalize hxl : (X.length : Int) = xl at hl
     cases hl with
     | no hn => exact absurd hK.obj6 hn
     | is k2 l2 hK2 => exact .is k2 _ (ih.kept _ _ _ hK2)
    ·cases hX.2 j x hx with
     | ok k2 l2 _ hK2 hi hx => exact .ok k2 l2 x (ih.kept _ _ _ hK2) hi hx
  ·rw [gmap_app,List.pairwise_append]
   refine ⟨ih.asc,List.pairwise_singleton _ _,fun x hx y hy => ?_⟩
   rw [List.mem_singleton.1 hy]
   exact ((ih.mem x).1 hx).2.1
  ·rw [gmap_app,List.mem_append,List.mem_singleton,ih.mem x]
   constructor
   ·rintro (⟨h1,h2,h3⟩ | h1)
    ·exact ⟨h1,by omega,h3⟩
    ·have h1 : x = p + i := h1
     subst h1
     exact ⟨by omega,by omega,hnew.1,hw.2⟩
   ·rintro ⟨h1,h2,h3⟩
    by_cases e : x = p + i
    ·exact .inr e
    ·exact .inl ⟨h1,by omega,h3⟩
  ·rw [gmap_app]; exact .snoc R R1 R2 _ _ 0 ih.frees hf
  ·rw [hob b,ih.left b,gmap_app,List.mem_append,List.mem_singleton]
   constructor
   ·rintro ⟨⟨h1,h2⟩,h3⟩; exact ⟨h1,fun hk => hk.elim h2 h3⟩
   ·rintro ⟨h1,h2⟩; exact ⟨⟨h1,fun hk => h2 (.inl hk)⟩,fun hk => h2 (.inr hk)⟩
structure RgF (R : List Rw) (vs C : List Int) (sp : Int) (i : Nat) (out : List Gn) : Prop where
 each : ∀ g ∈ out,KindR R vs g.2.1 g.1 ∧ Wrds R vs g.2.1 g.2.2.1 ∧ g.2.2.2 = false
 asc : (out.map fun g => g.2.1).Pairwise (· < ·)
 mem : ∀ x,x ∈ (out.map fun g => g.2.1) ↔ (∃ j : Nat,j < i ∧ (objs R)[j]? = some x) ∧ x / 32 = sp ∧ C[x.toNat]? = some 0
theorem objs_lt {R : List Rw} (hR : RowsOk R) {i j : Nat} {a b : Int} (hij : i < j) (ha : (objs R)[i]? = some a) (hb : (objs R)[j]? = some b) : a < b := by
 obtain ⟨h1,h2⟩ := List.getElem?_eq_some_iff.1 ha
 obtain ⟨h3,h4⟩ := List.getElem?_eq_some_iff.1 hb
 have := (List.pairwise_iff_getElem.1 (objsTo_asc hR R.length)) i j h1 h3 hij
 rw [← h2,← h4]; exact this
theorem RG.facts {R : List Rw} {vs C : List Int} {sp : Int} {i : Nat} {out : List Gn} (hR : RowsOk R) (h : RG R vs C sp i out) : RgF R vs C sp i out := by
 induction h with
 | zero => exact ⟨fun g hg => (by cases hg),List.Pairwise.nil,fun x => ⟨fun hx => (by cases hx),fun ⟨⟨j,hj,_⟩,_⟩ => (by omega)⟩⟩
 | skip i a out h ha hn ih =>
  refine ⟨ih.each,ih.asc,fun x => ?_⟩
  rw [ih.mem x]
  constructor
  ·rintro ⟨⟨j,h1,h2⟩,h3⟩; exact ⟨⟨j,by omega,h2⟩,h3⟩
  ·rintro ⟨⟨j,h1,h2⟩,h3⟩
   refine ⟨⟨j,?_,h2⟩,h3⟩
   by_cases e : j = i
   ·subst e
    rw [ha] at h2
    obtain rfl := Option.some.inj h2
    exact absurd h3 hn
   ·omega
 | add i a k X out h ha hw hk hX ih =>
  refine ⟨fun g hg => ?_,?_,fun x => ?_⟩
  ·rcases List.mem_append.1 hg with hg | hg
   ·exact ih.each g hg
   ·rw [List.mem_singleton.1 hg]; exact ⟨hk,hX,rfl⟩
  ·rw [gmap_app,List.pairwise_append]
   refine ⟨ih.asc,List.pairwise_singleton _ _,fun x hx y hy => ?_⟩
   rw [List.mem_singleton.1 hy]
   obtain ⟨⟨j,h1,h2⟩,_⟩ := (ih.mem x).1 hx
   exact objs_lt hR h1 h2 ha
  ·rw [gmap_app,List.mem_append,List.mem_singleton,ih.mem x]
   constructor
   ·rintro (⟨⟨j,h1,h2⟩,h3⟩ | h1)
    ·exact ⟨⟨j,by omega,h2⟩,h3⟩
    ·have h1 : x = a := h1
     subst h1
     exact ⟨⟨i,by omega,ha⟩,hw⟩
   ·rintro ⟨⟨j,h1,h2⟩,h3⟩
    by_cases e : j = i
    ·subst e
     rw [ha] at h2
     obtain rfl := Option.some.inj h2
     exact .inr rfl
    ·exact .inl ⟨⟨j,by omega,h2⟩,h3⟩
theorem Frees.det {R R1 : List Rw} {l : List Int} {ws : List Int} (hA : AOk R ws) (h1 : Frees R l R1) : ∀ {R2},Frees R l R2 → R1 = R2 ∧ AOk R1 ws := by
 induction h1 with
 | nil =>
  intro R2 h2
  generalize hl : ([] : List Int) = l at h2
  cases h2 with
  | nil => exact ⟨rfl,hA⟩
  | snoc _ _ l a _ _ _ => exact absurd hl (by simp)
 | snoc Ra Rb l a e h hf ih =>
  intro R2 h2
  generalize hl : l ++ [a] = l' at h2
  cases h2 with
  | nil => exact absurd hl (by simp)
  | snoc Rc _ l2 a2 e2 h' hf' =>
   obtain ⟨rfl,e3⟩ := List.append_inj' hl rfl
   obtain rfl : a = a2 := by simpa using e3
   obtain ⟨rfl,hB⟩ := ih h'
   exact ⟨(hf.det hB.rows hf').2,(hB.freet hf).1⟩
theorem frees_sim {R R1 : List Rw} {ws vs : List Int} {l : List Int} (h : Sim R ws vs) (h1 : Frees R l R1) : Sim R1 ws vs := by
 induction h1 with
 | nil => exact h
 | snoc Ra Rb l a e h hf ih => exact (ih.free hf).1
theorem gns_eq {out1 out2 : List Gn} (hp : (out1.map fun g => g.2.1) = out2.map fun g => g.2.1) (he : ∀ g1 ∈ out1,∀ g2 ∈ out2,g1.2.1 = g2.2.1 → g1 = g2) : out1 = out2 := by
 have hl : out1.length = out2.length := by simpa using congrArg List.length hp
 apply List.ext_getElem?
 intro i
 by_cases hi : i < out1.length
 ·have h1 := List.getElem?_eq_getElem hi
  have h2 := List.getElem?_eq_getElem (l := out2) (i := i) (by omega)
  rw [h1,h2]
  refine congrArg some (he _ (List.getElem_mem hi) _ (List.getElem_mem (by omega)) ?_)
  have := congrArg (fun l => l[i]?) hp
  simp only [List.getElem?_map,h1,h2,Option.map_some] at this
  exact Option.some.inj this
 ·rw [List.getElem?_eq_none (by omega),List.getElem?_eq_none (by omega)]
theorem swept_sim {R R1 R2 : List Rw} {ws vs C : List Int} {sp : Int} {out1 out2 : List Gn} (h : Sim R ws vs) (hsp : 0 ≤ sp) (h1 : SweptTo ws C R (32 * sp) 32 out1 R1) (h2 : RG R vs C sp (objs R).length out2) (h3 : Frees R (out2.map fun g => g.2.1) R2) : out1 = out2 ∧ R1 = R2 ∧ Sim R1 ws vs := by
 have f1 := h1.facts h.a
 have f2 := h2.facts h.a.rows
 have hp : (out1.map fun g => g.2.1) = out2.map fun g => g.2.1 := by
  refine asc_eq f1.asc f2.asc fun x => ?_
  rw [f1.mem x,f2.mem x]
  constructor
  ·rintro ⟨q1,q2,q3,q4⟩
   obtain ⟨j,hj⟩ := List.getElem?_of_mem q3
   exact ⟨⟨j,(List.getElem?_eq_some_iff.1 hj).1,hj⟩,by omega,q4⟩
  ·rintro ⟨⟨j,_,hj⟩,q2,q3⟩
   exact ⟨by omega,by omega,List.mem_of_getElem? hj,q3⟩
 have ho : out1 = out2 := by
  refine gns_eq hp fun g1 m1 g2 m2 e => ?_
  obtain ⟨a1,b1,c1⟩ := f1.each g1 m1
  obtain ⟨a2,b2,c2⟩ := f2.each g2 m2
  obtain ⟨k1,p1,X1,y1⟩ := g1
  obtain ⟨k2,p2,X2,y2⟩ := g2
  dsimp only at *
  subst e
  rw [h.kind a1 a2,h.wrds b1 b2,c1,c2]
 rw [← hp] at h3
 obtain ⟨rfl,_⟩ := f1.frees.det h.a h3
 exact ⟨ho,rfl,frees_sim h f1.frees⟩
theorem step_sim {R R1 R2 : List Rw} {ws vs C G ws' C1 G1 vs' C2 G2 : List Int} {ov o1 o2 : Bool} {ph sp cy W p1 s1 y1 p2 s2 y2 : Int} {out1 out2 : List Gn} (h : Sim R ws vs) (hsp : 0 ≤ sp) (h1 : Stepd R ws C G ov ph sp cy W out1 R1 ws' C1 G1 o1 p1 s1 y1) (h2 : RStepd R vs C G ov ph sp cy W out2 R2 vs' C2 G2 o2 p2 s2 y2) :
  out1 = out2 ∧ R1 = R2 ∧ C1 = C2 ∧ G1 = G2 ∧ o1 = o2 ∧ p1 = p2 ∧ s1 = s2 ∧ y1 = y2 ∧ Sim R1 ws' vs' := by
 cases h1 with
 | mark _ _ _ _ _ _ _ hp hm => cases h2 with
  | mark _ _ _ _ _ _ _ _ hm' =>
   obtain ⟨rfl,rfl,rfl,rfl,rfl,rfl,h3⟩ := marked_sim h hm hm'
   exact ⟨rfl,rfl,rfl,rfl,rfl,rfl,rfl,rfl,h3⟩
  | sweep _ _ hp' _ _ => rw [hp] at hp'; exact absurd hp' (by decide)
  | idle hp' _ => exact absurd hp hp'
 | sweep _ _ hp hs => cases h2 with
  | mark _ _ _ _ _ _ _ hp' _ => rw [hp] at hp'; exact absurd hp' (by decide)
  | sweep _ _ _ hg hf =>
   obtain ⟨rfl,rfl,h3⟩ := swept_sim h hsp hs hg hf
   exact ⟨rfl,rfl,rfl,rfl,rfl,rfl,rfl,rfl,h3⟩
  | idle _ hp' => exact absurd hp hp'
 | idle hp hp2 => cases h2 with
  | mark _ _ _ _ _ _ _ hp' _ => exact absurd hp' hp
  | sweep _ _ hp' _ _ => exact absurd hp' hp2
  | idle _ _ => exact ⟨rfl,rfl,rfl,rfl,rfl,rfl,rfl,rfl,h⟩
def wt (c : Option Int) : Nat := if c = some 0 then 2 else if c = some 1 then 1 else 0
def mu (R : List Rw) (C : List Int) : Nat := ((objs R).map fun a => wt C[a.toNat]?).sum
theorem sum_le {l : List Int} {f g : Int → Nat} (h : ∀ a ∈ l,f a ≤ g a) : (l.map f).sum ≤ (l.map g).sum := by
 induction l with
 | nil => exact Nat.le_refl _
 | cons x l ih =>
  have h1 := h x (List.mem_cons_self ..)
  have h2 := ih fun a ha => h a (List.mem_cons_of_mem _ ha)
  simp only [List.map_cons,List.sum_cons]
  omega
theorem sum_lt {l : List Int} {f g : Int → Nat} (h : ∀ a ∈ l,f a ≤ g a) {b : Int} (hb : b ∈ l) (hlt : f b < g b) : (l.map f).sum < (l.map g).sum := by
 induction l with
 | nil => cases hb
 | cons x l ih =>
  have h1 := h x (List.mem_cons_self ..)
  have h2 := sum_le (l := l) (f := f) (g := g) fun a ha => h a (List.mem_cons_of_mem _ ha)
  simp only [List.map_cons,List.sum_cons]
  rcases List.mem_cons.1 hb with rfl | hb
  ·omega
  ·have := ih (fun a ha => h a (List.mem_cons_of_mem _ ha)) hb
   omega
theorem mu_le_len (R : List Rw) (C : List Int) : mu R C ≤ 2 * (objs R).length := by
 unfold mu
 generalize objs R = l
 induction l with
 | nil => exact Nat.le_refl _
 | cons x l ih =>
  simp only [List.map_cons,List.sum_cons,List.length_cons]
  have : wt C[x.toNat]? ≤ 2 := by
                  unfold wt; split; · omega
                  ·split <;> omega
  omega
def COn (C C' : List Int) : Prop := ∀ p : Nat,wt C'[p]? ≤ wt C[p]?
theorem COn.refl (C : List Int) : COn C C := fun _ => Nat.le_refl _
theorem COn.trans {A B C : List Int} (h : COn A B) (k : COn B C) : COn A C := fun p => Nat.le_trans (k p) (h p)
theorem set_on {C : List Int} {q : Nat} {c : Int} (h : wt (some c) ≤ wt C[q]?) : COn C (C.set q c) := by
 intro p
 by_cases e : q = p
 ·subst e
  by_cases hl : q < C.length
  ·rw [List.getElem?_set_self hl]; exact h
  ·rw [List.getElem?_eq_none (by rw [List.length_set]; omega)]; unfold wt; simp
 ·rw [List.getElem?_set_ne e]; exact Nat.le_refl _
theorem shade_on (R : List Rw) (ph a : Int) (s : List Int × List Int × Bool) : COn s.1 (shade R ph a s).1 := by
 unfold shade
 split
 ·rename_i hc
  refine set_on (C := s.1) (q := a.toNat) (c := 1) ?_
  rw [hc.2.2]; decide
 ·exact COn.refl _
theorem shadeW_on (R : List Rw) (ph w : Int) (s : List Int × List Int × Bool) : COn s.1 (shadeW R ph w s).1 := by
 unfold shadeW
 split
 ·exact shade_on _ _ _ _
 ·exact COn.refl _
theorem shade_grey (R : List Rw) (ph a : Int) (s : List Int × List Int × Bool) (p : Nat) (h : s.1[p]? = some 1) : (shade R ph a s).1[p]? = some 1 := by
 unfold shade
 split
 ·rename_i hc
  show (s.1.set a.toNat 1)[p]? = some 1
  rw [List.getElem?_set_ne ?_]
  ·exact h
  ·intro e; rw [← e,hc.2.2] at h; exact absurd (Option.some.inj h) (by decide)
 ·exact h
theorem shadeW_grey (R : List Rw) (ph w : Int) (s : List Int × List Int × Bool) (p : Nat) (h : s.1[p]? = some 1) : (shadeW R ph w s).1[p]? = some 1 := by
 unfold shadeW
 split
 ·exact shade_grey _ _ _ _ _ h
 ·exact h
theorem fold_on (R : List Rw) (ph : Int) : ∀ (X : List Int) (s : List Int × List Int × Bool),COn s.1 (X.foldl (fun s w => shadeW R ph w s) s).1
 | [],s => COn.refl _
 | w :: X,s => (shadeW_on R ph w s).trans (fold_on R ph X _)
theorem fold_grey (R : List Rw) (ph : Int) : ∀ (X : List Int) (s : List Int × List Int × Bool) (p : Nat),s.1[p]? = some 1 → (X.foldl (fun s w => shadeW R ph w s) s).1[p]? = some 1
 | [],s,p,h => h
 | w :: X,s,p,h => fold_grey R ph X _ p (shadeW_grey R ph w s p h)
structure GOk (R : List Rw) (C G : List Int) : Prop where
 obj : ∀ x ∈ G,x ∈ objs R
 grey : ∀ x ∈ G,C[x.toNat]? = some 1
 once : G.Nodup
theorem shade_gok {R : List Rw} {ph a : Int} {s : List Int × List Int × Bool} (h : GOk R s.1 s.2.1) : GOk R (shade R ph a s).1 (shade R ph a s).2.1 := by
 have hg := fun x hx => shade_grey R ph a s _ (h.grey x hx)
 unfold shade at hg ⊢
 split
 ·rename_i hc
  rw [if_pos hc] at hg
  have hl := (List.getElem?_eq_some_iff.1 hc.2.2).1
  dsimp only at hg ⊢
  split
  ·dsimp only
   refine ⟨fun x hx => ?_,fun x hx => ?_,?_⟩
   ·rcases List.mem_append.1 hx with hx | hx
    ·exact h.obj x hx
    ·rw [List.mem_singleton.1 hx]; exact hc.2.1
   ·rcases List.mem_append.1 hx with hx | hx
    ·exact hg x hx
    ·rw [List.mem_singleton.1 hx]; exact List.getElem?_set_self hl
   ·rw [List.nodup_append]
    refine ⟨h.once,by simp,fun x hx y hy e => ?_⟩
    rw [List.mem_singleton.1 hy] at e
    subst e
    have := h.grey x hx
    rw [hc.2.2] at this
    exact absurd (Option.some.inj this) (by decide)
  ·exact ⟨h.obj,hg,h.once⟩
 ·rename_i hc
  rw [if_neg hc] at hg
  exact h
theorem shadeW_gok {R : List Rw} {ph w : Int} {s : List Int × List Int × Bool} (h : GOk R s.1 s.2.1) : GOk R (shadeW R ph w s).1 (shadeW R ph w s).2.1 := by
 unfold shadeW
 split
 ·exact shade_gok h
 ·exact h
theorem fold_gok {R : List Rw} {ph : Int} : ∀ (X : List Int) (s : List Int × List Int × Bool),GOk R s.1 s.2.1 → GOk R (X.foldl (fun s w => shadeW R ph w s) s).1 (X.foldl (fun s w => shadeW R ph w s) s).2.1
 | [],s,h => h
 | w :: X,s,h => fold_gok X _ (shadeW_gok h)
theorem shade_black (R : List Rw) (ph a : Int) (s : List Int × List Int × Bool) (p : Nat) (h : s.1[p]? = some 2) : (shade R ph a s).1[p]? = some 2 := by
 unfold shade
 split
 ·rename_i hc
  show (s.1.set a.toNat 1)[p]? = some 2
  rw [List.getElem?_set_ne ?_]
  ·exact h
  ·intro e; rw [← e,hc.2.2] at h; exact absurd (Option.some.inj h) (by decide)
 ·exact h
theorem shadeW_black (R : List Rw) (ph w : Int) (s : List Int × List Int × Bool) (p : Nat) (h : s.1[p]? = some 2) : (shadeW R ph w s).1[p]? = some 2 := by
 unfold shadeW
 split
 ·exact shade_black _ _ _ _ _ h
 ·exact h
theorem fold_black (R : List Rw) (ph : Int) : ∀ (X : List Int) (s : List Int × List Int × Bool) (p : Nat),s.1[p]? = some 2 → (X.foldl (fun s w => shadeW R ph w s) s).1[p]? = some 2
 | [],s,p,h => h
 | w :: X,s,p,h => fold_black R ph X _ p (shadeW_black R ph w s p h)
theorem shade_new {R : List Rw} {ph a : Int} {s : List Int × List Int × Bool} {x : Int} (h : x ∈ (shade R ph a s).2.1) : x ∈ s.2.1 ∨ s.1[x.toNat]? = some 0 := by
 unfold shade at h
 split at h
 ·rename_i hc
  dsimp only at h
  split at h
  ·rcases List.mem_append.1 h with h | h
   ·exact .inl h
   ·rw [List.mem_singleton.1 h]; exact .inr hc.2.2
  ·exact .inl h
 ·exact .inl h
theorem shadeW_new {R : List Rw} {ph w : Int} {s : List Int × List Int × Bool} {x : Int} (h : x ∈ (shadeW R ph w s).2.1) : x ∈ s.2.1 ∨ s.1[x.toNat]? = some 0 := by
 unfold shadeW at h
 split at h
 ·exact shade_new h
 ·exact .inl h
theorem fold_new {R : List Rw} {ph : Int} : ∀ (X : List Int) (s : List Int × List Int × Bool) (x : Int),x ∈ (X.foldl (fun s w => shadeW R ph w s) s).2.1 → x ∈ s.2.1 ∨ s.1[x.toNat]? = some 0
 | [],s,x,h => .inl h
 | w :: X,s,x,h => by
  rcases fold_new X _ x h with h | h
  ·exact shadeW_new h
  ·exact .inr ((shadeW_le R ph w s).1 _ h)
def CyI (R : List Rw) (C G : List Int) (ph sp cy N : Int) : Prop := (ph = 1 ∧ GOk R C G ∧ cy = 0) ∨ (ph = 2 ∧ cy = 0 ∧ 0 ≤ sp ∧ sp < N) ∨ (ph = 0 ∧ cy = 1)
def left_ (R : List Rw) (C : List Int) (ph sp N : Int) : Int := if ph = 1 then (mu R C : Int) + 1 + N else if ph = 2 then N - sp else 0
theorem marked_cy {R : List Rw} {ws ws' C C' G G' : List Int} {ov ov' : Bool} {sp p s N : Int} {out : List Gn} (hA : AOk R ws) (hCl : (C.length : Int) = 32 * R.length) (hN : 1 ≤ N) (h : GOk R C G) (hm : Marked R ws C G ov sp out p s ws' C' G' ov') :
  CyI R C' G' p s 0 N ∧ left_ R C' p s N < left_ R C 1 sp N ∧ ∀ q : Nat,C[q]? = some 2 → C'[q]? = some 2 := by
 cases hm with
 | scan v A X _ _ o1 _ hg hX hs =>
  have hC : C' = (X.foldl (fun s w => shadeW R 1 w s) (C,A,o1)).1.set v.toNat 2 := congrArg Prod.fst hs
  have hG : G' = (X.foldl (fun s w => shadeW R 1 w s) (C,A,o1)).2.1 := congrArg (fun x => x.2.1) hs
  obtain ⟨hv,hv1,hA',hvA⟩ : v ∈ objs R ∧ C[v.toNat]? = some 1 ∧ GOk R C A ∧ v ∉ A := by
   cases hg with
   | pop _ _ hGA =>
    have hn := h.once
    rw [hGA,List.nodup_append] at hn
    exact ⟨h.obj v (by rw [hGA]; simp),h.grey v (by rw [hGA]; simp),⟨fun x hx => h.obj x (by rw [hGA]; exact List.mem_append_left _ hx),fun x hx => h.grey x (by rw [hGA]; exact List.mem_append_left _ hx),hn.1⟩,fun hk => hn.2.2 v hk v (by simp) rfl⟩
   | found _ _ _ _ ha hc _ => exact ⟨List.mem_of_getElem? ha,hc,⟨fun x hx => (by cases hx),fun x hx => (by cases hx),List.nodup_nil⟩,fun hk => by cases hk⟩
  have hon := fold_on R 1 X (C,A,o1)
  have hgr := fold_grey R 1 X (C,A,o1)
  have hbl := fold_black R 1 X (C,A,o1)
  have hok := fold_gok (R := R) (ph := 1) X (C,A,o1) hA'
  have hnew := fold_new (R := R) (ph := 1) X (C,A,o1)
  generalize (X.foldl (fun s w => shadeW R 1 w s) (C,A,o1)) = F at hC hG hon hgr hbl hok hnew
  have hFv := hgr _ hv1
  have hFl := (List.getElem?_eq_some_iff.1 hFv).1
  have hself : C'[v.toNat]? = some 2 := by rw [hC]; exact List.getElem?_set_self hFl
  have hset : COn F.1 C' := by rw [hC]; exact set_on (by rw [show wt (some (2 : Int)) = 0 by decide]; exact Nat.zero_le _)
  have hlt : mu R C' < mu R C := by
   refine sum_lt (fun a _ => (hon.trans hset) a.toNat) hv ?_
   rw [hself,hv1]; decide
  refine ⟨.inl ⟨rfl,⟨fun x hx => hok.obj x (hG ▸ hx),fun x hx => ?_,by rw [hG]; exact hok.once⟩,rfl⟩,?_,fun q hq => ?_⟩
  ·have hx : x ∈ F.2.1 := hG ▸ hx
   have hxv : x ≠ v := by
    rintro rfl
    rcases hnew x hx with q | q
    ·exact hvA q
    ·have q : C[x.toNat]? = some 0 := q
     rw [hv1] at q; exact absurd (Option.some.inj q) (by decide)
   have b1 := obj_bd hA (hok.obj x hx)
   have b2 := obj_bd hA hv
   rw [hC,List.getElem?_set_ne (by omega)]
   exact hok.grey x hx
  ·unfold left_
   rw [if_pos rfl,if_pos rfl]
   omega
  ·by_cases e : v.toNat = q
   ·rw [← e]; exact hself
   ·rw [hC,List.getElem?_set_ne e]; exact hbl q hq
 | keep a A X _ _ _ o1 _ hg hf hX hst hs =>
  have hC : C' = (shade R 1 a (C,A,o1)).1 := congrArg Prod.fst hs
  have hG : G' = (shade R 1 a (C,A,o1)).2.1 := congrArg (fun x => x.2.1) hs
  have hA0 : A = [] := by cases hg <;> rfl
  obtain ⟨hao,ha0⟩ : a ∈ objs R ∧ C[a.toNat]? = some 0 := by
   cases hf with
   | found _ _ ha hd _ => exact ⟨List.mem_of_getElem? ha,hd.2.1⟩
  have hA' : GOk R C A := by rw [hA0]; exact ⟨fun x hx => (by cases hx),fun x hx => (by cases hx),List.nodup_nil⟩
  have hok := shade_gok (R := R) (ph := 1) (a := a) (s := (C,A,o1)) hA'
  have hl := (List.getElem?_eq_some_iff.1 ha0).1
  have hself : C'[a.toNat]? = some 1 := by
   rw [hC]; unfold shade
   rw [if_pos ⟨rfl,hao,ha0⟩]
   exact List.getElem?_set_self hl
  have hlt : mu R C' < mu R C := by
   refine sum_lt (fun b _ => by rw [hC]; exact shade_on R 1 a (C,A,o1) b.toNat) hao ?_
   rw [hself,ha0]; decide
  refine ⟨.inl ⟨rfl,by rw [hC,hG]; exact hok,rfl⟩,?_,fun q hq => by rw [hC]; exact shade_black R 1 a (C,A,o1) q hq⟩
  unfold left_
  rw [if_pos rfl,if_pos rfl]
  omega
 | sweep A o1 hg hf =>
  refine ⟨.inr (.inl ⟨rfl,rfl,Int.le_refl _,by omega⟩),?_,fun q hq => hq⟩
  unfold left_
  rw [if_neg (by decide),if_pos rfl,if_pos rfl]
  omega
theorem stepd_cy {R R' : List Rw} {ws ws' C C' G G' at_ : List Int} {ov ov' : Bool} {ph sp cy W N p s y : Int} {out : List Gn} (hA : AOk R ws) (hCl : (C.length : Int) = 32 * R.length) (hN : 1 ≤ N) (hW : W = 32 * N) (h : CyI R C G ph sp cy N) (hat : ∀ x ∈ at_,x ∈ objs R ∧ (ph ≠ 0 → C[x.toNat]? = some 2)) (hs : Stepd R ws C G ov ph sp cy W out R' ws' C' G' ov' p s y) :
  CyI R' C' G' p s y N ∧ (ph ≠ 0 → left_ R' C' p s N < left_ R C ph sp N) ∧ (∀ x ∈ at_,x ∈ objs R' ∧ (p ≠ 0 → C'[x.toNat]? = some 2)) := by
 cases hs with
 | mark _ _ _ _ _ _ _ hp hm =>
  subst hp
  rcases h with ⟨_,hg,rfl⟩ | ⟨q,_⟩ | ⟨q,_⟩
  ·obtain ⟨h1,h2,h3⟩ := marked_cy hA hCl hN hg hm
   exact ⟨h1,fun _ => h2,fun x hx => ⟨(hat x hx).1,fun _ => h3 _ ((hat x hx).2 (by decide))⟩⟩
  ·exact absurd q (by decide)
  ·exact absurd q (by decide)
 | sweep _ _ hp hs =>
  subst hp
  rcases h with ⟨q,_⟩ | ⟨_,rfl,h0,h1⟩ | ⟨q,_⟩
  ·exact absurd q (by decide)
  ·have f := hs.facts hA
   refine ⟨?_,fun _ => ?_,fun x hx => ⟨(f.left x).2 ⟨(hat x hx).1,fun hk => ?_⟩,fun _ => (hat x hx).2 (by decide)⟩⟩
   ·unfold swPh swCy
    split
    ·exact .inr (.inr ⟨rfl,by omega⟩)
    ·exact .inr (.inl ⟨rfl,rfl,by omega,by omega⟩)
   ·unfold left_ swPh
    split
    ·(repeat (first | rw [if_neg (by decide)] | rw [if_pos rfl])); omega
    ·(repeat (first | rw [if_neg (by decide)] | rw [if_pos rfl])); omega
   ·have := ((f.mem x).1 hk).2.2.2
    rw [(hat x hx).2 (by decide)] at this
    exact absurd (Option.some.inj this) (by decide)
  ·exact absurd q (by decide)
 | idle h1 h2 =>
  rcases h with ⟨q,_⟩ | ⟨q,_⟩ | ⟨q,hc⟩
  ·exact absurd q h1
  ·exact absurd q h2
  ·exact ⟨.inr (.inr ⟨q,hc⟩),fun k => absurd q k,fun x hx => ⟨(hat x hx).1,fun k => absurd q k⟩⟩
theorem left_le {R : List Rw} {C : List Int} {ph sp N : Int} (hsp : 0 ≤ sp) (hN : 0 ≤ N) : left_ R C ph sp N ≤ 2 * (objs R).length + 1 + N := by
 have := mu_le_len R C
 unfold left_
 split
 ·omega
 ·split <;> omega
def Leads (R : List Rw) (ws : List Int) (a b : Int) : Prop := ∃ i x,Loaded R ws a i x 0 ∧ x % 2 = 1 ∧ (x - 1) / 2 = b ∧ b ∈ objs R
inductive Rb (R : List Rw) (ws C A : List Int) : Int → Prop
 | root (a : Int) (h : a ∈ A) (ho : a ∈ objs R) : Rb R ws C A a
 | next (a b : Int) (h : Rb R ws C A a) (hc : C[a.toNat]? ≠ some 0) (hl : Leads R ws a b) : Rb R ws C A b
inductive Rch (R : List Rw) (ws A : List Int) : Int → Prop
 | root (a : Int) (h : a ∈ A) (ho : a ∈ objs R) : Rch R ws A a
 | next (a b : Int) (h : Rch R ws A a) (hl : Leads R ws a b) : Rch R ws A b
theorem Rb.mono {R : List Rw} {ws C C' A A' : List Int} (hc : ∀ p : Nat,C'[p]? = some 0 → C[p]? = some 0) (hA : ∀ a ∈ A,a ∈ A') {a : Int} (h : Rb R ws C A a) : Rb R ws C' A' a := by
 induction h with
 | root a h ho => exact .root a (hA a h) ho
 | next a b _ hn hl ih => exact .next a b ih (fun k => hn (hc _ k)) hl
structure Cm (R : List Rw) (ws C G : List Int) (ov : Bool) (A : List Int) (v : Int) : Prop where
 all : ov = false → ∀ a ∈ objs R,a ≠ v → C[a.toNat]? = some 1 → a ∈ G
 rb : ∀ a ∈ objs R,C[a.toNat]? ≠ some 0 → Rb R ws C A a
 c3 : ∀ a ∈ objs R,C[a.toNat]? = some 0 ∨ C[a.toNat]? = some 1 ∨ C[a.toNat]? = some 2
theorem Cm.more {R : List Rw} {ws C G : List Int} {ov : Bool} {A B : List Int} {v : Int} (h : Cm R ws C G ov A v) (hA : ∀ a ∈ A,a ∈ B) : Cm R ws C G ov B v :=
 ⟨h.all,fun a ha hn => (h.rb a ha hn).mono (fun _ k => k) hA,h.c3⟩
theorem Cm.shade {R : List Rw} {ws A : List Int} {v a : Int} {s : List Int × List Int × Bool} (hA : AOk R ws) (h : Cm R ws s.1 s.2.1 s.2.2 A v) (hR : a ∈ objs R → Rb R ws s.1 A a) : Cm R ws (shade R 1 a s).1 (shade R 1 a s).2.1 (shade R 1 a s).2.2 A v := by
 have hle := shade_le R 1 a s
 by_cases hc : (1 : Int) = 1 ∧ a ∈ objs R ∧ s.1[a.toNat]? = some 0
 ·have e : Go.Proofs.YtcbombkaacjngaaGreatDoor.shade R 1 a s = (s.1.set a.toNat 1,if s.2.1.length < 8 then (s.2.1 ++ [a],s.2.2) else (s.2.1,true)) := by
   unfold Go.Proofs.YtcbombkaacjngaaGreatDoor.shade
   rw [if_pos hc]
  rw [e] at hle ⊢
  have hab := obj_bd hA hc.2.1
  have hl := (List.getElem?_eq_some_iff.1 hc.2.2).1
  have hself : (s.1.set a.toNat 1)[a.toNat]? = some 1 := List.getElem?_set_self hl
  have hne : ∀ b ∈ objs R,b ≠ a → (s.1.set a.toNat 1)[b.toNat]? = s.1[b.toNat]? := fun b hb n => List.getElem?_set_ne (by have := obj_bd hA hb; omega)
  refine ⟨?_,fun b hb hn => ?_,fun b hb => ?_⟩
  ·intro ho b hb hbv hb1
   by_cases h8 : s.2.1.length < 8
   ·rw [if_pos h8] at ho ⊢
    by_cases eb : b = a
    ·exact List.mem_append_right _ (by rw [eb]; exact List.mem_singleton.2 rfl)
    ·exact List.mem_append_left _ (h.all ho b hb hbv (by rw [← hne b hb eb]; exact hb1))
   ·rw [if_neg h8] at ho
    exact absurd (show true = false from ho) (by decide)
  ·by_cases eb : b = a
   ·rw [eb]; exact (hR hc.2.1).mono hle.1 (fun _ k => k)
   ·exact (h.rb b hb (by rw [← hne b hb eb]; exact hn)).mono hle.1 (fun _ k => k)
  ·by_cases eb : b = a
   ·rw [eb]; exact .inr (.inl hself)
   ·have := h.c3 b hb
    rw [← hne b hb eb] at this
    exact this
 ·have e : Go.Proofs.YtcbombkaacjngaaGreatDoor.shade R 1 a s = s := by
   unfold Go.Proofs.YtcbombkaacjngaaGreatDoor.shade
   rw [if_neg hc]
  rw [e]; exact h
def Rt (R : List Rw) (C A : List Int) : Prop := ∀ a ∈ A,a ∈ objs R → C[a.toNat]? ≠ some 0
theorem Rt.le {R : List Rw} {C C' A : List Int} (h : Rt R C A) (hc : ∀ p : Nat,C'[p]? = some 0 → C[p]? = some 0) : Rt R C' A := fun a ha ho k => h a ha ho (hc _ k)
structure Cy1 (R : List Rw) (ws C G : List Int) (ov : Bool) (A : List Int) : Prop where
 dk : Dk R ws C
 g : GOk R C G
 cm : Cm R ws C G ov A (-1)
 rt : Rt R C A
theorem beg_all {R : List Rw} {ws : List Int} (hA : AOk R ws) : ∀ (A B : List Int) (s : List Int × List Int × Bool),Cm R ws s.1 s.2.1 s.2.2 B (-1) → GOk R s.1 s.2.1 → Rt R s.1 B → Cm R ws (A.foldl (fun s a => shade R 1 a s) s).1 (A.foldl (fun s a => shade R 1 a s) s).2.1 (A.foldl (fun s a => shade R 1 a s) s).2.2 (B ++ A) (-1) ∧ GOk R (A.foldl (fun s a => shade R 1 a s) s).1 (A.foldl (fun s a => shade R 1 a s) s).2.1 ∧ Rt R (A.foldl (fun s a => shade R 1 a s) s).1 (B ++ A)
 | [],B,s,h1,h2,h3 => by rw [List.append_nil]; exact ⟨h1,h2,h3⟩
 | a :: A,B,s,h1,h2,h3 => by
  have k := beg_all hA A (B ++ [a]) (shade R 1 a s) ((h1.more (fun x hx => List.mem_append_left _ hx)).shade hA (fun ho => .root a (List.mem_append_right _ (List.mem_singleton.2 rfl)) ho)) (shade_gok h2) (fun x hx ho => by
   rcases List.mem_append.1 hx with hx | hx
   ·exact h3.le (shade_le R 1 a s).1 x hx ho
   ·rw [List.mem_singleton.1 hx] at ho ⊢; exact shade_hit R a s ho)
  rw [List.append_assoc] at k
  exact k
theorem Cy1.begin {R : List Rw} {ws C G A : List Int} {ov : Bool} {W : Int} (hA : AOk R ws) (hW : W = 32 * R.length) (h : (C,G,ov) = begS R W A) : Cy1 R ws C G ov A := by
 have hrep : ∀ a ∈ objs R,(List.replicate W.toNat (0 : Int))[a.toNat]? = some 0 := by
  intro a ha
  have := obj_bd hA ha
  rw [List.getElem?_replicate,if_pos (by omega)]
 have k := beg_all hA A [] (List.replicate W.toNat 0,[],false) ⟨fun _ a ha _ h1 => by rw [hrep a ha] at h1; exact absurd (Option.some.inj h1) (by decide),fun a ha hn => absurd (hrep a ha) hn,fun a ha => .inl (hrep a ha)⟩ ⟨fun x hx => (by cases hx),fun x hx => (by cases hx),List.nodup_nil⟩ (fun a ha => by cases ha)
 have h1 : C = (begS R W A).1 := congrArg Prod.fst h
 have h2 : G = (begS R W A).2.1 := congrArg (fun x => x.2.1) h
 have h3 : ov = (begS R W A).2.2 := congrArg (fun x => x.2.2) h
 have hdk := Dk.begin (ws := ws) h
 rw [h1,h2,h3] at *
 exact ⟨hdk,k.2.1,k.1,k.2.2⟩
def keptOf (out : List Gn) : List Int := (out.filter fun g => g.2.2.2).map fun g => g.2.1
def goneOf (out : List Gn) : List Int := (out.filter fun g => !g.2.2.2).map fun g => g.2.1
def cnt (f : Rw → Nat) (R : List Rw) : Nat := (R.map f).sum
theorem alloct_load {R R' : List Rw} {ws ws' : List Int} {kind n a e : Int} (hA : AOk R ws) (hs : Alloct R ws kind n a e R' ws') (he : e = 0) :
  (∀ b i x,Loaded R' ws' b i x 0 → (b = a ∧ x = 0) ∨ Loaded R ws b i x 0) ∧ (∀ b i x,Loaded R ws b i x 0 → Loaded R' ws' b i x 0) ∧ (∀ b k l,Kept R' ws' b k l → (b = a ∧ k = kind) ∨ Kept R ws b k l) := by
 obtain ⟨h1,h2,_,h4,h5,h6,h7⟩ := alloct_ok hA hs he
 have hk : ∀ b k l,b ≠ a → Kept R' ws' b k l → Kept R ws b k l := by
  intro b k l hne hK
  rcases h6 b hK.obj6 with q | q
  ·exact absurd q hne
  ·obtain ⟨k2,l2,hK2⟩ := Kept.of hA q
   obtain ⟨e1,e2⟩ := (h5 b k2 l2 hK2).det9 hK
   rw [← e1,← e2]; exact hK2
 refine ⟨fun b i x hl => ?_,fun b i x hl => ?_,fun b k l hK => ?_⟩
 ·cases hl with
  | ok k l _ hK hi hx =>
   by_cases e : b = a
   ·subst e
    obtain ⟨_,e2⟩ := hK.det9 h1
    have := h4 i hi.1 (by omega)
    rw [hx] at this
    exact .inl ⟨rfl,Option.some.inj this⟩
   ·have hK0 := hk b k l e hK
    exact .inr (.ok k l x hK0 hi (by rw [← h7 b k l i hK0 hi.1 hi.2]; exact hx))
 ·cases hl with
  | ok k l _ hK hi hx => exact .ok k l x (h5 b k l hK) hi (by rw [h7 b k l i hK hi.1 hi.2]; exact hx)
 ·by_cases e : b = a
  ·subst e
   exact .inl ⟨rfl,(hK.det9 h1).1⟩
  ·exact .inr (hk b k l e hK)
structure Hst where
 R : List Rw
 ws : List Int
 C : List Int
 G : List Int
 ov : Bool
 ph : Int
 sp : Int
 cy : Int
def Stp (W : Int) (s : Hst) (out : List Gn) (t : Hst) : Prop := Stepd s.R s.ws s.C s.G s.ov s.ph s.sp s.cy W out t.R t.ws t.C t.G t.ov t.ph t.sp t.cy
inductive Many (W : Int) (s : Hst) : Nat → List Gn → Hst → Prop
 | zero : Many W s 0 [] s
 | succ (n : Nat) (out o2 : List Gn) (t u : Hst) (h : Many W s n out t) (hp : t.ph ≠ 0) (hs : Stp W t o2 u) : Many W s (n + 1) (out ++ o2) u
structure Good (N : Int) (s : Hst) : Prop where
 a : AOk s.R s.ws
 n : N = s.R.length
 n1 : 1 ≤ N
 n2 : N ≤ 128
 c : (s.C.length : Int) = 32 * N
 i : s.ph = 0 ∨ CyI s.R s.C s.G s.ph s.sp 0 N
 p : 0 ≤ s.sp ∧ s.sp ≤ N
 y : 0 ≤ s.cy
def Hst.left (N : Int) (s : Hst) : Int := left_ s.R s.C s.ph s.sp N
theorem stepd_lenV {R R' : List Rw} {ws ws' C C' G G' : List Int} {ov ov' : Bool} {ph sp cy W p s y : Int} {out : List Gn} (h : Stepd R ws C G ov ph sp cy W out R' ws' C' G' ov' p s y) : out.length ≤ 32 := by
 cases h with
 | mark _ _ _ _ _ _ _ hp hm =>
  cases hm with
  | scan _ _ _ _ _ _ _ _ _ _ => exact Nat.zero_le _
  | keep _ _ _ _ _ _ _ _ _ _ _ _ _ => show 1 ≤ 32; omega
  | sweep _ _ _ _ => exact Nat.zero_le _
 | sweep _ _ hp hs => exact hs.le
 | idle _ _ => exact Nat.zero_le _
theorem stepd_numsV {R R' : List Rw} {ws C G ws' C' G' : List Int} {ov ov' : Bool} {ph sp cy W p s y : Int} {out : List Gn} (hsp : 0 ≤ sp) (hcy : 0 ≤ cy) (h : Stepd R ws C G ov ph sp cy W out R' ws' C' G' ov' p s y) : 0 ≤ s ∧ s ≤ sp + 1 ∧ 0 ≤ y ∧ y ≤ cy + 1 := by
 cases h with
 | mark _ _ _ _ _ _ _ _ hm => cases hm with
  | scan _ _ _ _ _ _ _ _ _ _ => exact ⟨hsp,by omega,hcy,by omega⟩
  | keep _ _ _ _ _ _ _ _ _ _ _ _ _ => exact ⟨hsp,by omega,hcy,by omega⟩
  | sweep _ _ _ _ => exact ⟨by omega,by omega,hcy,by omega⟩
 | sweep _ _ _ _ =>
  unfold swCy
  split <;> exact ⟨by omega,by omega,by omega,by omega⟩
 | idle _ _ => exact ⟨hsp,by omega,hcy,by omega⟩
theorem shade_lenV (R : List Rw) (ph a : Int) (s : List Int × List Int × Bool) : (shade R ph a s).1.length = s.1.length := by
 unfold shade
 split
 ·exact List.length_set ..
 ·rfl
theorem shadeW_lenV (R : List Rw) (ph w : Int) (s : List Int × List Int × Bool) : (shadeW R ph w s).1.length = s.1.length := by
 unfold shadeW
 split
 ·exact shade_lenV ..
 ·rfl
theorem fold_lenV (R : List Rw) (ph : Int) : ∀ (X : List Int) (s : List Int × List Int × Bool),(X.foldl (fun s w => shadeW R ph w s) s).1.length = s.1.length
 | [],s => rfl
 | w :: X,s => by rw [List.foldl_cons,fold_lenV R ph X,shadeW_lenV]
theorem swept_lenV {ws C : List Int} {R : List Rw} {p : Int} {n : Nat} {out : List Gn} {R' : List Rw} (hA : AOk R ws) (h : SweptTo ws C R p n out R') : AOk R' ws ∧ R'.length = R.length := by
 induction h with
 | zero => exact ⟨hA,rfl⟩
 | skip _ _ _ _ _ ih => exact ih
 | free i out R1 R2 k X h hw hk hX hf ih =>
  obtain ⟨h1,h2⟩ := ih.1.freet hf
  exact ⟨h1,by rw [h2]; exact ih.2⟩
theorem stepd_aok {R R' : List Rw} {ws ws' C C' G G' : List Int} {ov ov' : Bool} {ph sp cy W p s y : Int} {out : List Gn} (hA : AOk R ws) (hCl : (C.length : Int) = 32 * R.length) (h : Stepd R ws C G ov ph sp cy W out R' ws' C' G' ov' p s y) : AOk R' ws' ∧ R'.length = R.length ∧ C'.length = C.length := by
 cases h with
 | mark _ _ _ _ _ _ _ hp hm =>
  cases hm with
  | scan v A X _ _ o1 _ hg hX hs =>
   refine ⟨hA,rfl,?_⟩
   have hC : C' = (X.foldl (fun s w => shadeW R 1 w s) (C,A,o1)).1.set v.toNat 2 := congrArg Prod.fst hs
   rw [hC,List.length_set,fold_lenV]
  | keep a A X _ _ _ o1 _ hg hf hX hst hs =>
   have hC : C' = (shade R 1 a (C,A,o1)).1 := congrArg Prod.fst hs
   refine ⟨hA.stored (by omega) hst,rfl,by rw [hC,shade_lenV]⟩
  | sweep _ _ _ _ => exact ⟨hA,rfl,rfl⟩
 | sweep _ _ hp hs =>
  obtain ⟨h1,h2⟩ := swept_lenV hA hs
  exact ⟨h1,h2,rfl⟩
 | idle _ _ => exact ⟨hA,rfl,rfl⟩
theorem stepd_spV {R R' : List Rw} {ws ws' C C' G G' : List Int} {ov ov' : Bool} {ph sp cy W N p s y : Int} {out : List Gn} (h : CyI R C G ph sp cy N) (hs0 : 0 ≤ sp ∧ sp ≤ N) (hs : Stepd R ws C G ov ph sp cy W out R' ws' C' G' ov' p s y) : 0 ≤ s ∧ s ≤ N := by
 cases hs with
 | mark _ _ _ _ _ _ _ _ hm => cases hm with
  | scan _ _ _ _ _ _ _ _ _ _ => exact hs0
  | keep _ _ _ _ _ _ _ _ _ _ _ _ _ => exact hs0
  | sweep _ _ _ _ => exact ⟨Int.le_refl _,by omega⟩
 | sweep _ _ hp _ =>
  rcases h with ⟨q,_⟩ | ⟨_,_,h0,h1⟩ | ⟨q,_⟩
  ·omega
  ·exact ⟨by omega,by omega⟩
  ·omega
 | idle _ _ => exact hs0
theorem Stepd.cyV {R R' : List Rw} {ws ws' C C' G G' : List Int} {ov ov' : Bool} {ph sp cy W p s y : Int} {out : List Gn} (h : Stepd R ws C G ov ph sp cy W out R' ws' C' G' ov' p s y) : ∃ y0,Stepd R ws C G ov ph sp 0 W out R' ws' C' G' ov' p s y0 := by
 cases h with
 | mark _ _ _ _ _ _ _ hp hm => exact ⟨_,.mark _ _ _ _ _ _ _ hp hm⟩
 | sweep _ _ hp hs => exact ⟨_,.sweep _ _ hp hs⟩
 | idle h1 h2 => exact ⟨_,.idle h1 h2⟩
theorem Good.left0 {N : Int} {s : Hst} (h : Good N s) : 0 ≤ s.left N ∧ (s.ph ≠ 0 → 1 ≤ s.left N) := by
 have h1 := h.n1
 have h2 := h.p
 refine ⟨?_,fun hp => ?_⟩
 ·unfold Hst.left left_
  split
  ·omega
  ·split <;> omega
 ·have hI := h.i.resolve_left hp
  unfold Hst.left left_
  rcases hI with ⟨k,_⟩ | ⟨k,_,_,k2⟩ | ⟨k,_⟩
  ·rw [if_pos k]; omega
  ·rw [if_neg (by omega),if_pos k]; omega
  ·exact absurd k hp
theorem Good.step {N W : Int} {s t : Hst} {out : List Gn} (h : Good N s) (hW : W = 32 * N) (hp : s.ph ≠ 0) (hs : Stp W s out t) : Good N t ∧ t.left N < s.left N ∧ t.cy ≤ s.cy + 1 ∧ out.length ≤ 32 := by
 obtain ⟨y0,hs0⟩ := Stepd.cyV hs
 have hI := h.i.resolve_left hp
 have hn := h.n
 have hc := h.c
 obtain ⟨g1,g2,_⟩ := stepd_cy (at_ := []) h.a (by omega) h.n1 hW hI (fun x hx => by cases hx) hs0
 obtain ⟨a1,a2,a3⟩ := stepd_aok h.a (by omega) hs
 have hm := stepd_numsV h.p.1 h.y hs
 have hsp := stepd_spV hI h.p hs0
 refine ⟨⟨a1,by rw [a2]; exact hn,h.n1,h.n2,by rw [a3]; exact hc,?_,hsp,hm.2.2.1⟩,g2 hp,hm.2.2.2,stepd_lenV hs⟩
 rcases g1 with ⟨k1,k2,_⟩ | ⟨k1,_,k2⟩ | ⟨k,_⟩
 ·exact .inr (.inl ⟨k1,k2,rfl⟩)
 ·exact .inr (.inr (.inl ⟨k1,rfl,k2⟩))
 ·exact .inl k
theorem Many.good {N W : Int} {s t : Hst} {n : Nat} {out : List Gn} (hW : W = 32 * N) (h : Good N s) (hm : Many W s n out t) : Good N t ∧ t.left N + n ≤ s.left N ∧ t.cy ≤ s.cy + n ∧ out.length ≤ 32 * n := by
 induction hm with
 | zero => exact ⟨h,by omega,by omega,Nat.zero_le _⟩
 | succ n out o2 t u _ hp hs ih =>
  obtain ⟨h1,h2,h3,h4⟩ := ih.1.step hW hp hs
  refine ⟨h1,by omega,by omega,?_⟩
  rw [List.length_append]; omega
theorem objCount_le8 {R : List Rw} (hR : RowsOk R) : objCount R ≤ 8 * R.length := by
 unfold objCount
 induction R with
 | nil => exact Nat.zero_le _
 | cons e R ih =>
  have h1 := ih fun x hx => hR x (List.mem_cons_of_mem _ hx)
  have h2 := (hR e (List.mem_cons_self ..)).1
  have h3 := List.count_le_length (a := true) (l := e.2)
  rw [List.map_cons,List.sum_cons,List.length_cons]
  omega
theorem Good.left_le {N : Int} {s : Hst} (h : Good N s) : s.left N ≤ 17 * N + 1 := by
 have h1 := Go.Proofs.YtcbombkaacjngaaGreatDoor.left_le (R := s.R) (C := s.C) (ph := s.ph) (sp := s.sp) (N := N) h.p.1 (by have := h.n1; omega)
 have h2 : ((objs s.R).length : Int) = objCount s.R := by unfold objs; rw [objs_length h.a.rows]
 have h3 := objCount_le8 h.a.rows
 have h4 := h.n
 unfold Hst.left
 omega
theorem Good.begin {N W : Int} {s : Hst} {A C' G' : List Int} {ov' : Bool} (h : Good N s) (hW : W = 32 * N) (hl : (C'.length : Int) = 32 * N) (hb : (C',G',ov') = begS s.R W A) : Good N ⟨s.R,s.ws,C',G',ov',1,s.sp,s.cy⟩ := by
 have hn := h.n
 have hc := Cy1.begin (ws := s.ws) h.a (by omega) hb
 exact ⟨h.a,h.n,h.n1,h.n2,hl,.inr (.inl ⟨rfl,hc.g,rfl⟩),h.p,h.y⟩
inductive Alls (s : Hst) : List (Int × Int) → List Int → Hst → Prop
 | nil : Alls s [] [] s
 | snoc (l : List (Int × Int)) (x : List Int) (t : Hst) (k n a : Int) (R : List Rw) (ws : List Int) (h : Alls s l x t) (ha : Alloct t.R t.ws k n a 0 R ws) : Alls s (l ++ [(k,n)]) (x ++ [a]) ⟨R,ws,allocC t.ph a 0 t.C,t.G,t.ov,t.ph,t.sp,t.cy⟩
structure More (s t : Hst) (x : List Int) : Prop where
 a : AOk t.R t.ws
 obj : ∀ b,b ∈ objs t.R ↔ b ∈ objs s.R ∨ b ∈ x
 new : ∀ b ∈ x,b ∉ objs s.R
 nd : x.Nodup
 cnt : objCount t.R = objCount s.R + x.length
 kept : ∀ b k l,Kept s.R s.ws b k l → Kept t.R t.ws b k l
 ld : ∀ b i w,Loaded s.R s.ws b i w 0 → Loaded t.R t.ws b i w 0
 dl : ∀ b i w,Loaded t.R t.ws b i w 0 → (b ∈ x ∧ w = 0) ∨ Loaded s.R s.ws b i w 0
 col : ∀ b ∈ objs s.R,t.C[b.toNat]? = s.C[b.toNat]?
 coln : ∀ b ∈ x,t.C[b.toNat]? = some (if s.ph = 0 then 0 else 2)
 g : t.G = s.G
 ov : t.ov = s.ov
 ph : t.ph = s.ph
 sp : t.sp = s.sp
 cy : t.cy = s.cy
 len : t.R.length = s.R.length
 cl : t.C.length = s.C.length
theorem More.refl {s : Hst} (hA : AOk s.R s.ws) : More s s [] :=
 ⟨hA,fun b => ⟨.inl,fun h => h.elim id (fun k => by cases k)⟩,fun b hb => (by cases hb),List.nodup_nil,rfl,fun _ _ _ h => h,fun _ _ _ h => h,fun _ _ _ h => .inr h,fun _ _ => rfl,fun b hb => (by cases hb),rfl,rfl,rfl,rfl,rfl,rfl,rfl⟩
theorem More.snoc {s t : Hst} {x : List Int} {N k n a : Int} {R : List Rw} {ws : List Int} (hN : N = s.R.length) (hc : (s.C.length : Int) = 32 * N) (h : More s t x) (ha : Alloct t.R t.ws k n a 0 R ws) : More s ⟨R,ws,allocC t.ph a 0 t.C,t.G,t.ov,t.ph,t.sp,t.cy⟩ (x ++ [a]) := by
 obtain ⟨h1,h2,h3,h4,h5,h6,h7⟩ := alloct_ok h.a ha rfl
 obtain ⟨l1,l2,l3⟩ := alloct_load h.a ha rfl
 obtain ⟨a1,a2⟩ := h.a.alloct ha
 have hna : a ∉ objs t.R := fun q => h2 ((obj_iff h.a a).1 q)
 have hb := h1.bounds a1
 have hlen := h.len
 have hcl := h.cl
 have hC : allocC t.ph a 0 t.C = t.C.set a.toNat (if t.ph = 0 then 0 else 2) := by unfold allocC; rw [if_pos rfl]
 have hne : ∀ b ∈ objs t.R,(t.C.set a.toNat (if t.ph = 0 then 0 else 2))[b.toNat]? = t.C[b.toNat]? := by
  intro b hb2
  refine List.getElem?_set_ne (fun e => hna ?_)
  have := obj_bd h.a hb2
  rw [show a = b by omega]; exact hb2
 refine ⟨a1,fun b => ?_,fun b hb2 => ?_,?_,?_,fun b k l hk => h5 b k l (h.kept b k l hk),fun b i w hl => l2 b i w (h.ld b i w hl),fun b i w hl => ?_,fun b hb2 => ?_,fun b hb2 => ?_,h.g,h.ov,h.ph,h.sp,h.cy,by rw [a2]; exact hlen,(allocC_length t.ph a 0 t.C).trans hcl⟩
 ·rw [List.mem_append,List.mem_singleton]
  constructor
  ·intro hb2
   rcases h6 b ((obj_iff a1 b).1 hb2) with e | e
   ·exact .inr (.inr e)
   ·exact ((h.obj b).1 ((obj_iff h.a b).2 e)).elim .inl (fun q => .inr (.inl q))
  ·rintro (hb2 | hb2 | rfl)
   ·obtain ⟨k',l',hk⟩ := Kept.of h.a ((obj_iff h.a b).1 ((h.obj b).2 (.inl hb2)))
    exact (obj_iff a1 b).2 (h5 b k' l' hk).obj6
   ·obtain ⟨k',l',hk⟩ := Kept.of h.a ((obj_iff h.a b).1 ((h.obj b).2 (.inr hb2)))
    exact (obj_iff a1 b).2 (h5 b k' l' hk).obj6
   ·exact (obj_iff a1 b).2 h1.obj6
 ·rcases List.mem_append.1 hb2 with q | q
  ·exact h.new b q
  ·rw [List.mem_singleton.1 q]; exact fun w => hna ((h.obj a).2 (.inl w))
 ·refine List.nodup_append.2 ⟨h.nd,by simp,fun p hp q hq e => hna ?_⟩
  rw [← List.mem_singleton.1 hq,← e]
  exact (h.obj p).2 (.inr hp)
 ·rw [show objCount (Hst.R _) = objCount R from rfl,h3,h.cnt,List.length_append]; rfl
 ·rcases l1 b i w hl with ⟨e,e2⟩ | e
  ·exact .inl ⟨by rw [e]; exact List.mem_append_right _ (List.mem_singleton.2 rfl),e2⟩
  ·rcases h.dl b i w e with ⟨e1,e2⟩ | e
   ·exact .inl ⟨List.mem_append_left _ e1,e2⟩
   ·exact .inr e
 ·show (allocC t.ph a 0 t.C)[b.toNat]? = _
  rw [hC,hne b ((h.obj b).2 (.inl hb2))]
  exact h.col b hb2
 ·show (allocC t.ph a 0 t.C)[b.toNat]? = _
  rw [hC]
  rcases List.mem_append.1 hb2 with q | q
  ·rw [hne b ((h.obj b).2 (.inr q))]; exact h.coln b q
  ·rw [List.mem_singleton.1 q,← h.ph]
   exact List.getElem?_set_self (by omega)
theorem Alls.more {s t : Hst} {l : List (Int × Int)} {x : List Int} {N : Int} (hA : AOk s.R s.ws) (hN : N = s.R.length) (hc : (s.C.length : Int) = 32 * N) (h : Alls s l x t) : More s t x ∧ x.length = l.length := by
 induction h with
 | nil => exact ⟨More.refl hA,rfl⟩
 | snoc l x t k n a R ws h ha ih => exact ⟨ih.1.snoc hN hc ha,by rw [List.length_append,List.length_append,ih.2]; rfl⟩
theorem More.good {N : Int} {s t : Hst} {x : List Int} (h : Good N s) (hm : More s t x) : Good N t := by
 refine ⟨hm.a,by rw [hm.len]; exact h.n,h.n1,h.n2,by rw [hm.cl]; exact h.c,?_,by rw [hm.sp]; exact h.p,by rw [hm.cy]; exact h.y⟩
 rw [hm.ph]
 refine h.i.imp id fun hI => ?_
 rcases hI with ⟨k,hg,_⟩ | ⟨k,_,k2⟩ | ⟨k,k2⟩
 ·refine .inl ⟨k,?_,rfl⟩
  rw [hm.g]
  exact ⟨fun x hx => (hm.obj x).2 (.inl (hg.obj x hx)),fun x hx => by rw [hm.col x (hg.obj x hx)]; exact hg.grey x hx,hg.once⟩
 ·exact .inr (.inl ⟨k,rfl,by rw [hm.sp]; exact k2⟩)
 ·omega
inductive Backs (R : List Rw) (x : List Int) : Nat → List Rw → Prop
 | zero : Backs R x x.length R
 | next (i : Nat) (a e : Int) (R1 R2 : List Rw) (h : Backs R x (i + 1) R1) (ha : x[i]? = some a) (hf : Freet R1 a e R2) : Backs R x i R2
theorem Backs.facts {R R' : List Rw} {ws x : List Int} {i : Nat} (hA : AOk R ws) (hx : ∀ a ∈ x,a ∈ objs R) (hd : x.Nodup) (h : Backs R x i R') : AOk R' ws ∧ R'.length = R.length ∧ i ≤ x.length ∧ (∀ b w,ObjAt R' b w ↔ ObjAt R b w ∧ b ∉ x.drop i) ∧ objCount R' + (x.length - i) = objCount R := by
 induction h with
 | zero => exact ⟨hA,rfl,Nat.le_refl _,fun b w => ⟨fun k => ⟨k,by rw [List.drop_length]; exact fun q => by cases q⟩,fun k => k.1⟩,by omega⟩
 | next i a e R1 R2 h ha hf ih =>
  obtain ⟨i1,i2,i3,i4,i5⟩ := ih
  have hil := (List.getElem?_eq_some_iff.1 ha).1
  have hdr : x.drop i = a :: x.drop (i + 1) := by rw [List.drop_eq_getElem_cons hil,(List.getElem?_eq_some_iff.1 ha).2]
  have hnd : a ∉ x.drop (i + 1) := by
   have := hd.sublist (List.drop_sublist i x)
   rw [hdr] at this
   exact (List.nodup_cons.1 this).1
  have hao : IsObj R1 a := by
   obtain ⟨w,hw⟩ := isObj_iff.1 ((obj_iff hA a).1 (hx a (List.mem_of_getElem? ha)))
   exact isObj_iff.2 ⟨w,(i4 a w).2 ⟨hw,hnd⟩⟩
  cases hf with
  | none hno => exact absurd hao hno
  | ok q s e he hs hat =>
   obtain ⟨f1,f2,f3,f4⟩ := free_objs i1.rows he hs a hat
   refine ⟨⟨f1,by rw [f2]; exact i1.len,i1.bd,fun b v hb => i1.hdr b v ((f4 b v).1 hb).1⟩,f2.trans i2,by omega,fun b w => ?_,by omega⟩
   rw [f4 b w,i4 b w,hdr,List.mem_cons]
   constructor
   ·rintro ⟨⟨k1,k2⟩,k3⟩; exact ⟨k1,fun q => q.elim k3 k2⟩
   ·rintro ⟨k1,k2⟩; exact ⟨⟨k1,fun q => k2 (.inr q)⟩,fun q => k2 (.inl q)⟩
inductive Allot (s : Hst) (l : List (Int × Int)) : Bool → List Int → Hst → Prop
 | ok (x : List Int) (t : Hst) (h : Alls s l x t) : Allot s l true x t
 | no (i : Nat) (k n a e : Int) (x : List Int) (t : Hst) (R R' : List Rw) (ws : List Int) (hi : l[i]? = some (k,n)) (h : Alls s (l.take i) x t) (ha : Alloct t.R t.ws k n a e R ws) (he : e ≠ 0) (hb : Backs t.R x 0 R') : Allot s l false [] ⟨R',t.ws,t.C,t.G,t.ov,t.ph,t.sp,t.cy⟩
theorem alloct_no {R R' : List Rw} {ws ws' : List Int} {k n a e : Int} (h : Alloct R ws k n a e R' ws') (he : e ≠ 0) : R' = R ∧ ws' = ws ∧ a = 0 := by
 cases h with
 | arg _ => exact ⟨rfl,rfl,rfl⟩
 | room i s _ _ ha => cases ha with
  | no _ => exact ⟨rfl,rfl,rfl⟩
  | full _ _ _ => exact ⟨rfl,rfl,rfl⟩
 | ok _ _ _ _ _ _ _ _ => exact absurd rfl he
theorem Backs.more {s t : Hst} {x : List Int} {R' : List Rw} (hA : AOk s.R s.ws) (h : More s t x) (hb : Backs t.R x 0 R') : More s ⟨R',t.ws,t.C,t.G,t.ov,t.ph,t.sp,t.cy⟩ [] := by
 obtain ⟨b1,b2,b3,b4,b5⟩ := hb.facts h.a (fun a ha => (h.obj a).2 (.inr ha)) h.nd
 have hk : ∀ b k l,b ∉ x → Kept t.R t.ws b k l → Kept R' t.ws b k l := by
  rintro b k l hn ⟨w,q1,q2,q3,q4,q5,q6⟩
  exact .mk k l w ((b4 b w).2 ⟨q1,by rw [List.drop_zero]; exact hn⟩) q2 q3 q4 q5 q6
 have hk2 : ∀ b k l,Kept R' t.ws b k l → b ∉ x ∧ Kept t.R t.ws b k l := by
  rintro b k l ⟨w,q1,q2,q3,q4,q5,q6⟩
  obtain ⟨p1,p2⟩ := (b4 b w).1 q1
  rw [List.drop_zero] at p2
  exact ⟨p2,.mk k l w p1 q2 q3 q4 q5 q6⟩
 have hobj : ∀ b,b ∈ objs R' ↔ b ∈ objs s.R := by
  intro b
  constructor
  ·intro hb2
   obtain ⟨k,l,q⟩ := Kept.of b1 ((obj_iff b1 b).1 hb2)
   obtain ⟨q1,q2⟩ := hk2 _ _ _ q
   exact ((h.obj b).1 ((obj_iff h.a b).2 q2.obj6)).resolve_right q1
  ·intro hb2
   obtain ⟨k,l,q⟩ := Kept.of h.a ((obj_iff h.a b).1 ((h.obj b).2 (.inl hb2)))
   exact (obj_iff b1 b).2 (hk _ _ _ (fun w => h.new b w hb2) q).obj6
 have hso : ∀ b k l,Kept s.R s.ws b k l → b ∉ x := fun b k l hb2 w => h.new b w ((obj_iff hA b).2 hb2.obj6)
 have hcnt := h.cnt
 refine ⟨b1,fun b => ?_,fun b hb2 => (by cases hb2),List.nodup_nil,?_,fun b k l hb2 => hk b k l (hso b k l hb2) (h.kept b k l hb2),fun b i w hl => ?_,fun b i w hl => ?_,h.col,fun b hb2 => (by cases hb2),h.g,h.ov,h.ph,h.sp,h.cy,b2.trans h.len,h.cl⟩
 ·rw [show (Hst.R ⟨R',t.ws,t.C,t.G,t.ov,t.ph,t.sp,t.cy⟩) = R' from rfl,hobj b]
  exact ⟨.inl,fun q => q.elim id (fun q => by cases q)⟩
 ·show objCount R' = objCount s.R + 0
  omega
 ·have hl2 := h.ld b i w hl
  cases hl with
  | ok k l _ hK hi hx =>
   cases hl2 with
   | ok k2 l2 _ hK2 hi2 hx2 => exact .ok k2 l2 w (hk b k2 l2 (hso b k l hK) hK2) hi2 hx2
 ·have hl2 : b ∉ x ∧ Loaded t.R t.ws b i w 0 := by
   cases hl with
   | ok k l _ hK hi hx => exact ⟨(hk2 _ _ _ hK).1,.ok k l w (hk2 _ _ _ hK).2 hi hx⟩
  rcases h.dl b i w hl2.2 with ⟨q,_⟩ | q
  ·exact absurd q hl2.1
  ·exact .inr q
theorem Allot.more {s t : Hst} {l : List (Int × Int)} {x : List Int} {b : Bool} {N : Int} (hA : AOk s.R s.ws) (hN : N = s.R.length) (hc : (s.C.length : Int) = 32 * N) (h : Allot s l b x t) : More s t x ∧ (b = true → x.length = l.length) := by
 cases h with
 | ok _ _ h => obtain ⟨h1,h2⟩ := h.more hA hN hc; exact ⟨h1,fun _ => h2⟩
 | no i k n a e y u R R' ws hi h ha he hb =>
  obtain ⟨h1,h2⟩ := h.more hA hN hc
  exact ⟨Backs.more hA h1 hb,fun q => by cases q⟩
theorem toTheEnd_lx (R : List Rw) (ws C G : List Int) (N W ph sp cy : Int) (L D Q : List PV) (z : ByteArray) (ov : Bool) (h : HM R ws C G N W L D Q z) (o : Unit → Obj) (ho : IsPow o) (hg : Good N ⟨R,ws,C,G,ov,ph,sp,cy⟩) (hcy : cy ≤ 900000000) :
  CallF (fun _ => Tryz.prog) 142 [.ptr 0 (.lit 0)] [hpA 0 1 5 6 3 W ph sp cy,hpB 1 2 4 3 W,hpC 2 3 270 2 N,hpP 3 L,hpP 4 D,hpF 5 z ov,hpP 6 Q,(7,.fix 0 o)] 8 (fun r h n => ∃ (out : List Gn) (m : Int) (cells : List PV) (k : Nat) (Rh : List Rw) (wh Ch Gh : List Int) (ovh : Bool) (sp2 cy2 : Int) (Lh Dh Qh : List PV) (zh : ByteArray),r = .sl 8 40 4 (.lit 0) (.sym m) ∧ h = [hpA 0 1 5 6 3 W 0 sp2 cy2,hpB 1 2 4 3 W,hpC 2 3 270 2 N,hpP 3 Lh,hpP 4 Dh,hpF 5 zh ovh,hpP 6 Qh,(7,.fix 0 o),hpP 8 cells] ∧ n = 9 ∧ HM Rh wh Ch Gh N W Lh Dh Qh zh ∧ cells = gpv out ∧ m = out.length ∧ Many W ⟨R,ws,C,G,ov,ph,sp,cy⟩ k out ⟨Rh,wh,Ch,Gh,ovh,0,sp2,cy2⟩) := by
 have hW := h.w
 have hN2 := hg.n2
 have hl0 := hg.left_le
 refine callF_of_body tok Tryz.func142 (by kernel_rfl) rfl rfl rfl ?_; conv => cbv
 refine LoopF.mk (fun kk s => ∃ (m ph2 : Int) (out : List Gn) (cells : List PV) (k : Nat) (Rh : List Rw) (wh Ch Gh : List Int) (ovh : Bool) (sp2 cy2 : Int) (Lh Dh Qh : List PV) (zh : ByteArray),s = ⟨.ptr 0 (.lit 0) :: (undefs 1 ++ .p .nils :: .sl 8 40 4 (.lit 0) (.sym m) :: undefs 8),[hpA 0 1 5 6 3 W ph2 sp2 cy2,hpB 1 2 4 3 W,hpC 2 3 270 2 N,hpP 3 Lh,hpP 4 Dh,hpF 5 zh ovh,hpP 6 Qh,(7,.fix 0 o),hpP 8 cells],9⟩ ∧ HM Rh wh Ch Gh N W Lh Dh Qh zh ∧ cells = gpv out ∧ m = out.length ∧ Many W ⟨R,ws,C,G,ov,ph,sp,cy⟩ k out ⟨Rh,wh,Ch,Gh,ovh,ph2,sp2,cy2⟩ ∧ kk = (Hst.left N ⟨Rh,wh,Ch,Gh,ovh,ph2,sp2,cy2⟩).toNat) (Hst.left N ⟨R,ws,C,G,ov,ph,sp,cy⟩).toNat _
  (Re.at [(0,0),(1,1),(2,2),(3,3),(4,4),(5,5),(6,6),(7,7)] [8]) ⟨0,ph,[],[],0,R,ws,C,G,ov,sp,cy,L,D,Q,z,rfl,h,rfl,rfl,.zero,rfl⟩ ?_
 rintro kk s ⟨m,ph2,out,cells,k,Rh,wh,Ch,Gh,ovh,sp2,cy2,Lh,Dh,Qh,zh,rfl,hh,hcells,hml,hm,hkk⟩
 obtain ⟨hgh,hlh,hch,hoh⟩ := hm.good hW hg
 have hgs0 : 0 ≤ sp2 := hgh.p.1
 have hgs1 : sp2 ≤ N := hgh.p.2
 have hgy : 0 ≤ cy2 := hgh.y
 have hch : cy2 ≤ cy + k := hch
 have hlb := hgh.left0
 conv => cbv
 refine cfr (phase_lx Rh wh Ch Gh N W ph2 sp2 cy2 Lh Dh Qh zh ovh) [(0,0),(1,1),(2,2),(3,3),(4,4),(5,5),(6,6)] (fun r h' n' ⟨e1,e2,e3⟩ => ?_)
 subst e1 e2 e3
 conv => cbv
 refine Br.mk (fun q2 => ?_) (fun q2 => ?_)
 case refine_2 =>
  have q2 : ph2 = 0 := Classical.byContradiction q2
  subst q2
  conv => cbv
  refine RetF.mk [.sl 8 40 4 (.lit 0) (.sym m)] [hpA 0 1 5 6 3 W 0 sp2 cy2,hpB 1 2 4 3 W,hpC 2 3 270 2 N,hpP 3 Lh,hpP 4 Dh,hpF 5 zh ovh,hpP 6 Qh,(7,.fix 0 o),hpP 8 cells] 9 (Re.at [(0,0),(1,1),(2,2),(3,3),(4,4),(5,5),(6,6),(7,7),(8,8)] []) rfl ⟨out,m,cells,k,Rh,wh,Ch,Gh,ovh,sp2,cy2,Lh,Dh,Qh,zh,rfl,rfl,rfl,hh,hcells,hml,hm⟩
 have q2 : ¬ ph2 = 0 := q2
 conv => cbv
 refine cfr (step_lx Rh wh Ch Gh N W ph2 sp2 cy2 Lh Dh Qh zh ovh hh o ho ⟨hgs0,by omega⟩ ⟨hgy,by omega⟩) [(0,0),(1,1),(2,2),(3,3),(4,4),(5,5),(6,6),(7,7)] (fun r h' n' hrr => ?_)
 obtain ⟨o2,kx,ph',sp',cy',R2,w2,C2,G2,ov2,cells',Lx,Dx,Qx,z2,e1,e2,e3,h2,hcs2,hkx,hst⟩ := hrr
 subst e1 e2 e3
 have hm2 := Many.succ k out o2 ⟨Rh,wh,Ch,Gh,ovh,ph2,sp2,cy2⟩ ⟨R2,w2,C2,G2,ov2,ph',sp',cy'⟩ hm q2 hst
 obtain ⟨hgg,hlt,hcl,hol⟩ := hm2.good hW hg
 have hg2l := hgg.left0.1
 have hlt2 : Hst.left N ⟨R2,w2,C2,G2,ov2,ph',sp',cy'⟩ < Hst.left N ⟨Rh,wh,Ch,Gh,ovh,ph2,sp2,cy2⟩ := (Good.step (t := ⟨R2,w2,C2,G2,ov2,ph',sp',cy'⟩) hgh hW q2 hst).2.1
 conv => cbv
 have hcl2 : cells'.length = 4 * o2.length := by rw [hcs2,gpv_length]
 have hcl1 : cells.length = 4 * out.length := by rw [hcells,gpv_length]
 rw [List.length_append] at hol
 refine Need.mk (by show (cells'.length : Int) = kx * 4; omega) ?_
 conv => cbv
 refine Room.new ⟨by show (cells.length : Int) = m * 4; omega,by show (m + kx) * 48 ≤ 140737488355328; omega,by show m + kx ≤ 9223372036854775807; omega⟩ ?_
 conv => cbv
 refine Upd.mk fun c2 hc2 => ?_
 have hc2 : c2 = gpv (out ++ o2) := by rw [show c2 = cells ++ cells' from hc2,hcells,hcs2,gpv_app]
 conv => cbv
 refine Sum.mk fun m2 hm3 => ?_
 have hm4 : m2 = ((out ++ o2).length : Int) := by rw [show m2 = m + kx from hm3,hml,hkx,List.length_append]; rfl
 conv => cbv
 refine Again.mk (Hst.left N ⟨R2,w2,C2,G2,ov2,ph',sp',cy'⟩).toNat _ (by omega) (Re.at [(0,0),(1,1),(2,2),(3,3),(4,4),(5,5),(6,6),(7,7),(9,8)] []) ⟨m2,ph',out ++ o2,c2,k + 1,R2,w2,C2,G2,ov2,sp',cy',Lx,Dx,Qx,z2,rfl,h2,hc2,hm4,hm2,rfl⟩
theorem gone_kept (out : List Gn) : out.length = (keptOf out).length + (goneOf out).length := by
 induction out with
 | nil => rfl
 | cons g out ih =>
  unfold keptOf goneOf at *
  cases hg : g.2.2.2 with
  | true => simp [hg] at *; omega
  | false => simp [hg] at *; omega
def Prot (s : Hst) (x : Int) : Prop := x ∈ objs s.R ∧ (s.ph ≠ 0 → s.C[x.toNat]? ≠ some 0)
structure Bgn (W : Int) (s : Hst) (A : List Int) (t : Hst) : Prop where
 r : t.R = s.R
 w : t.ws = s.ws
 p : t.ph = 1
 q : t.sp = s.sp
 y : t.cy = s.cy
 l : (t.C.length : Int) = W
 b : (t.C,t.G,t.ov) = begS s.R W A
theorem Bgn.good {N W : Int} {s t : Hst} {A : List Int} (hW : W = 32 * N) (hg : Good N s) (h : Bgn W s A t) : Good N t := by
 have k := hg.begin hW (by rw [← hW]; exact h.l) h.b
 obtain ⟨h1,h2,h3,h4,h5,h6,h7⟩ := h
 cases t
 dsimp only at h1 h2 h3 h4 h5
 subst h1 h2 h3 h4 h5
 exact k
def Nf (R : List Rw) (ws : List Int) : Prop := ∀ a l x,Kept R ws a 5 l → Loaded R ws a 1 x 0 → x = 0
def Mono (c : Int) (R : List Rw) : Prop := ∀ e ∈ R,e.2 ≠ [] → e.1 = c
def Val (p : Int × Int) : Prop := 0 ≤ p.2 ∧ p.2 ≤ 31 ∧ 1 ≤ p.1 ∧ p.1 ≤ 6
def usedW (R : List Rw) : Int := (R.map fun e => (e.2.count true : Int) * wordsOf e.1).sum
def Asst (W : Int) (n : Nat) (s : Hst) (out : List Gn) (t : Hst) : Prop := ∃ k,k ≤ n ∧ Many W s k out t ∧ (k = n ∨ t.ph = 0)
def Pre (W st : Int) (A : List Int) (s t : Hst) : Prop := (s.ph = 0 ∧ st * W ≤ 100 * usedW s.R ∧ Bgn W s A t) ∨ (¬ (s.ph = 0 ∧ st * W ≤ 100 * usedW s.R) ∧ t = s)
inductive Tried (W : Int) (l : List (Int × Int)) (A : List Int) (s : Hst) : Bool → List Int → List Gn → Hst → Prop
 | quick (x : List Int) (t : Hst) (h : Allot s l true x t) : Tried W l A s true x [] t
 | forced (b : Bool) (x : List Int) (o1 o2 : List Gn) (k1 k2 : Nat) (t1 t2 t3 t4 t5 : Hst) (h1 : Allot s l false [] t1) (h2 : Many W t1 k1 o1 t2) (p2 : t2.ph = 0) (h3 : Bgn W t2 (A ++ keptOf o1) t3) (h4 : Many W t3 k2 o2 t4) (p4 : t4.ph = 0) (h5 : Allot t4 l b x t5) : Tried W l A s b x (o1 ++ o2) t5
inductive Alcd (W st : Int) (n : Nat) (l : List (Int × Int)) (A : List Int) (s : Hst) : List Int → List Gn → Int → Hst → Prop
 | ok (x : List Int) (o1 o2 : List Gn) (t0 t1 t : Hst) (h0 : Pre W st A s t0) (h1 : Tried W l A t0 true x o1 t1) (h2 : Asst W n t1 o2 t) : Alcd W st n l A s x (o1 ++ o2) 0 t
 | room (x : List Int) (o : List Gn) (t0 t : Hst) (h0 : Pre W st A s t0) (h1 : Tried W l A t0 false x o t) : Alcd W st n l A s [] o 9 t
theorem Allot.good {N : Int} {s t : Hst} {l : List (Int × Int)} {x : List Int} {b : Bool} (hg : Good N s) (h : Allot s l b x t) : Good N t ∧ More s t x ∧ (b = true → x.length = l.length) := by
 have k := h.more hg.a hg.n hg.c
 exact ⟨k.1.good hg,k.1,k.2⟩
theorem Many.cyb {N W : Int} {s t : Hst} {n : Nat} {out : List Gn} (hW : W = 32 * N) (hg : Good N s) (hm : Many W s n out t) : t.cy ≤ s.cy + 2177 ∧ out.length ≤ 69664 ∧ n ≤ 2177 := by
 obtain ⟨h1,h2,h3,h4⟩ := hm.good hW hg
 have h5 := hg.left_le
 have h6 := hg.n2
 have h7 := h1.left0.1
 exact ⟨by omega,by omega,by omega⟩
theorem Pre.good {N W st : Int} {A : List Int} {s t : Hst} (hW : W = 32 * N) (hg : Good N s) (h : Pre W st A s t) : Good N t ∧ t.cy = s.cy ∧ t.R = s.R ∧ t.ws = s.ws := by
 rcases h with ⟨_,_,h⟩ | ⟨_,rfl⟩
 ·exact ⟨h.good hW hg,h.y,h.r,h.w⟩
 ·exact ⟨hg,rfl,rfl,rfl⟩
theorem Tried.good {N W : Int} {l : List (Int × Int)} {A : List Int} {s t : Hst} {b : Bool} {x : List Int} {o : List Gn} (hW : W = 32 * N) (hg : Good N s) (h : Tried W l A s b x o t) : Good N t ∧ t.cy ≤ s.cy + 4354 ∧ (b = true → x.length = l.length) ∧ o.length ≤ 139328 := by
 cases h with
 | quick x t h =>
  obtain ⟨h1,h2,h3⟩ := h.good hg
  have h4 := h2.cy
  exact ⟨h1,by omega,h3,Nat.zero_le _⟩
 | forced b x o1 o2 k1 k2 t1 t2 t3 t4 t5 h1 h2 p2 h3 h4 p4 h5 =>
  obtain ⟨g1,m1,_⟩ := h1.good hg
  have g2 := (h2.good hW g1).1
  have g3 := h3.good hW g2
  have g4 := (h4.good hW g3).1
  obtain ⟨g5,m5,e5⟩ := h5.good g4
  have c1 := m1.cy
  have c2 := h2.cyb hW g1
  have c3 := h3.y
  have c4 := h4.cyb hW g3
  have c5 := m5.cy
  exact ⟨g5,by omega,e5,by rw [List.length_append]; omega⟩
theorem Asst.good {N W : Int} {n : Nat} {s t : Hst} {o : List Gn} (hW : W = 32 * N) (hg : Good N s) (h : Asst W n s o t) : Good N t ∧ t.cy ≤ s.cy + 2177 ∧ o.length ≤ 69664 := by
 obtain ⟨k,_,hm,_⟩ := h
 have c := hm.cyb hW hg
 exact ⟨(hm.good hW hg).1,c.1,c.2.1⟩
theorem Alcd.good {N W st : Int} {n : Nat} {l : List (Int × Int)} {A : List Int} {s t : Hst} {x : List Int} {o : List Gn} {e : Int} (hW : W = 32 * N) (hg : Good N s) (h : Alcd W st n l A s x o e t) : Good N t ∧ t.cy ≤ s.cy + 7000 ∧ (e = 0 ∧ x.length = l.length ∨ e = 9 ∧ x = []) ∧ o.length ≤ 1000000 := by
 cases h with
 | ok x o1 o2 t0 t1 t h0 h1 h2 =>
  obtain ⟨g0,c0,_⟩ := h0.good hW hg
  obtain ⟨g1,c1,e1,l1⟩ := h1.good hW g0
  obtain ⟨g2,c2,l2⟩ := h2.good hW g1
  exact ⟨g2,by omega,.inl ⟨rfl,e1 rfl⟩,by rw [List.length_append]; omega⟩
 | room x o t0 t h0 h1 =>
  obtain ⟨g0,c0,_⟩ := h0.good hW hg
  obtain ⟨g1,c1,_,l1⟩ := h1.good hW g0
  exact ⟨g1,by omega,.inr ⟨rfl,rfl⟩,by omega⟩
structure Goes (s t : Hst) (A x : List Int) : Prop where
 nf : Nf t.R t.ws
 pr : ∀ a ∈ A,Prot s a → Prot t a
 px : ∀ a ∈ x,Prot t a
 nw : ∀ a ∈ x,a ∈ A → ¬ Prot s a
 xn : x.Nodup
 kf : ∀ a ∈ A,Prot s a → ∀ k l,Kept s.R s.ws a k l → Kept t.R t.ws a k l
 lf : ∀ a ∈ A,Prot s a → ∀ i w,Loaded s.R s.ws a i w 0 → Loaded t.R t.ws a i w 0
 dl : ∀ b i w,Loaded t.R t.ws b i w 0 → (b ∈ x ∧ w = 0) ∨ Loaded s.R s.ws b i w 0
 dk : ∀ b k l,Kept t.R t.ws b k l → b ∈ x ∨ Kept s.R s.ws b k l
structure Whole (N W : Int) (l : List (Int × Int)) (A : List Int) (s t2 t4 t : Hst) (b : Bool) (x : List Int) : Prop where
 g0 : ∃ t1,Allot s l false [] t1
 g2 : Good N t2
 a2 : Goes s t2 A []
 g4 : Good N t4
 a4 : Goes t2 t4 A []
 p4 : t4.ph = 0
 ob : ∀ y,y ∈ objs t4.R ↔ Rch t2.R t2.ws A y
 al : Allot t4 l b x t
 mo : ∀ c,(∀ p ∈ l,ofN p.2 = c) → Mono c s.R → Mono c t4.R
 kp : objCount t4.R ≤ objCount s.R
theorem gpv_cellsV (l : List Gn) : ∀ (i : Nat) (g : Gn),l[i]? = some g → (gpv l)[4 * i]? = some (.int .i64 (.sym g.1)) ∧ (gpv l)[4 * i + 1]? = some (.int .i64 (.sym g.2.1)) ∧ (gpv l)[4 * i + 2]? = some (.vsl (.sym (g.2.2.1.length : Int)) true (ipv g.2.2.1)) ∧ (gpv l)[4 * i + 3]? = some (.bool g.2.2.2) := by
 induction l with
 | nil => intro i g h; simp at h
 | cons x l ih =>
  intro i g h
  cases i with
  | zero => simp at h; subst h; exact ⟨rfl,rfl,rfl,rfl⟩
  | succ i =>
   have h2 := ih i g (by simpa using h)
   rw [show 4 * (i + 1) = (4 * i) + 4 by omega]
   exact h2
theorem keptOfV_take {out : List Gn} {j : Nat} {g : Gn} (h : out[j]? = some g) : keptOf (out.take (j + 1)) = keptOf (out.take j) ++ (if g.2.2.2 = true then [g.2.1] else []) := by
 unfold keptOf
 rw [List.take_add_one,h,List.filter_append,List.map_append]
 congr 1
 cases hb : g.2.2.2 <;> simp [hb]
theorem steps_lx (R : List Rw) (ws C G : List Int) (N W ph sp cy : Int) (L D Q : List PV) (z : ByteArray) (ov : Bool) (h : HM R ws C G N W L D Q z) (o : Unit → Obj) (ho : IsPow o) (hg : Good N ⟨R,ws,C,G,ov,ph,sp,cy⟩) (hcy : cy ≤ 900000000) (c : Int) (hc0 : 0 ≤ c) (hc1 : c ≤ 1000000000) :
  CallF (fun _ => Tryz.prog) 69 [.ptr 0 (.lit 0),i6 c] [hpA 0 1 5 6 3 W ph sp cy,hpB 1 2 4 3 W,hpC 2 3 270 2 N,hpP 3 L,hpP 4 D,hpF 5 z ov,hpP 6 Q,(7,.fix 0 o)] 8 (fun r h n => ∃ (out : List Gn) (m ph2 : Int) (cells : List PV) (Rh : List Rw) (wh Ch Gh : List Int) (ovh : Bool) (sp2 cy2 : Int) (Lh Dh Qh : List PV) (zh : ByteArray),r = .p (.vsl (.sym m) true cells) ∧ h = [hpA 0 1 5 6 3 W ph2 sp2 cy2,hpB 1 2 4 3 W,hpC 2 3 270 2 N,hpP 3 Lh,hpP 4 Dh,hpF 5 zh ovh,hpP 6 Qh,(7,.fix 0 o)] ∧ n = 8 ∧ HM Rh wh Ch Gh N W Lh Dh Qh zh ∧ cells = gpv out ∧ m = out.length ∧ Asst W c.toNat ⟨R,ws,C,G,ov,ph,sp,cy⟩ out ⟨Rh,wh,Ch,Gh,ovh,ph2,sp2,cy2⟩) := by
 have hW := h.w
 have hN2 := hg.n2
 have hl0 := hg.left_le
 refine callF_of_body tok Tryz.func69 (by kernel_rfl) rfl rfl rfl ?_; conv => cbv
 refine LoopF.mk (fun kk s => ∃ (i m ph2 : Int) (out : List Gn) (cells : List PV) (k : Nat) (Rh : List Rw) (wh Ch Gh : List Int) (ovh : Bool) (sp2 cy2 : Int) (Lh Dh Qh : List PV) (zh : ByteArray),s = ⟨.ptr 0 (.lit 0) :: (undefs 3 ++ .p .nils :: .sl 8 40 4 (.lit 0) (.sym m) :: .p (.int .i64 (.sym c)) :: .p (.int .i64 (.sym i)) :: undefs 10),[hpA 0 1 5 6 3 W ph2 sp2 cy2,hpB 1 2 4 3 W,hpC 2 3 270 2 N,hpP 3 Lh,hpP 4 Dh,hpF 5 zh ovh,hpP 6 Qh,(7,.fix 0 o),hpP 8 cells],9⟩ ∧ HM Rh wh Ch Gh N W Lh Dh Qh zh ∧ cells = gpv out ∧ m = out.length ∧ Many W ⟨R,ws,C,G,ov,ph,sp,cy⟩ k out ⟨Rh,wh,Ch,Gh,ovh,ph2,sp2,cy2⟩ ∧ 0 ≤ i ∧ i ≤ c ∧ k ≤ i.toNat ∧ (k = i.toNat ∨ ph2 = 0) ∧ kk = (c - i).toNat) c.toNat _
  (Re.at [(0,0),(1,1),(2,2),(3,3),(4,4),(5,5),(6,6),(7,7)] [8]) ⟨0,0,ph,[],[],0,R,ws,C,G,ov,sp,cy,L,D,Q,z,rfl,h,rfl,rfl,.zero,by omega,hc0,Nat.zero_le _,.inl rfl,by omega⟩ ?_
 rintro kk s ⟨i,m,ph2,out,cells,k,Rh,wh,Ch,Gh,ovh,sp2,cy2,Lh,Dh,Qh,zh,rfl,hh,hcells,hml,hm,hi0,hi1,hki,hkp,hkk⟩
 obtain ⟨hgh,hlh,hch,hoh⟩ := hm.good hW hg
 have hgs0 : 0 ≤ sp2 := hgh.p.1
 have hgs1 : sp2 ≤ N := hgh.p.2
 have hgy : 0 ≤ cy2 := hgh.y
 have hch : cy2 ≤ cy + k := hch
 have hlb := hgh.left0
 conv => cbv
 refine Br.mk (fun q => ?_) (fun q => ?_)
 case refine_2 =>
  have q : ¬ i < c := q
  conv => cbv
  refine RetF.mk [.p (.vsl (.sym m) true cells)] [hpA 0 1 5 6 3 W ph2 sp2 cy2,hpB 1 2 4 3 W,hpC 2 3 270 2 N,hpP 3 Lh,hpP 4 Dh,hpF 5 zh ovh,hpP 6 Qh,(7,.fix 0 o)] 8 (Re.at [(0,0),(1,1),(2,2),(3,3),(4,4),(5,5),(6,6),(7,7)] []) rfl ⟨out,m,ph2,cells,Rh,wh,Ch,Gh,ovh,sp2,cy2,Lh,Dh,Qh,zh,rfl,rfl,rfl,hh,hcells,hml,k,by omega,hm,by rw [show c.toNat = i.toNat by omega]; exact hkp⟩
 have q : i < c := q
 conv => cbv
 refine cfr (phase_lx Rh wh Ch Gh N W ph2 sp2 cy2 Lh Dh Qh zh ovh) [(0,0),(1,1),(2,2),(3,3),(4,4),(5,5),(6,6)] (fun r h' n' ⟨e1,e2,e3⟩ => ?_)
 subst e1 e2 e3
 conv => cbv
 refine Br.mk (fun q2 => ?_) (fun q2 => ?_)
 case refine_2 =>
  have q2 : ph2 = 0 := Classical.byContradiction q2
  conv => cbv
  refine Fit.mk (by show (-9223372036854775808 : Int) ≤ i + 1; omega) (by show i + 1 ≤ 9223372036854775807; omega) fun i2 hi2 => ?_
  have hi2 : i2 = i + 1 := hi2
  conv => cbv
  refine Again.mk (c - i2).toNat _ (by omega) (Re.at [(0,0),(1,1),(2,2),(3,3),(4,4),(5,5),(6,6),(7,7),(8,8)] []) ⟨i2,m,ph2,out,cells,k,Rh,wh,Ch,Gh,ovh,sp2,cy2,Lh,Dh,Qh,zh,rfl,hh,hcells,hml,hm,by omega,by omega,by omega,.inr q2,rfl⟩
 have q2 : ¬ ph2 = 0 := q2
 have hki2 : k = i.toNat := hkp.resolve_right q2
 conv => cbv
 refine cfr (step_lx Rh wh Ch Gh N W ph2 sp2 cy2 Lh Dh Qh zh ovh hh o ho ⟨hgs0,by omega⟩ ⟨hgy,by omega⟩) [(0,0),(1,1),(2,2),(3,3),(4,4),(5,5),(6,6),(7,7)] (fun r h' n' hrr => ?_)
 obtain ⟨o2,kx,ph',sp',cy',R2,w2,C2,G2,ov2,cells',Lx,Dx,Qx,z2,e1,e2,e3,h2,hcs2,hkx,hst⟩ := hrr
 subst e1 e2 e3
 have hm2 := Many.succ k out o2 ⟨Rh,wh,Ch,Gh,ovh,ph2,sp2,cy2⟩ ⟨R2,w2,C2,G2,ov2,ph',sp',cy'⟩ hm q2 hst
 obtain ⟨hgg,hlt,hcl,hol⟩ := hm2.good hW hg
 have hg2l := hgg.left0.1
 have hlt2 : Hst.left N ⟨R2,w2,C2,G2,ov2,ph',sp',cy'⟩ < Hst.left N ⟨Rh,wh,Ch,Gh,ovh,ph2,sp2,cy2⟩ := (Good.step (t := ⟨R2,w2,C2,G2,ov2,ph',sp',cy'⟩) hgh hW q2 hst).2.1
 conv => cbv
 have hcl2 : cells'.length = 4 * o2.length := by rw [hcs2,gpv_length]
 have hcl1 : cells.length = 4 * out.length := by rw [hcells,gpv_length]
 rw [List.length_append] at hol
 refine Need.mk (by show (cells'.length : Int) = kx * 4; omega) ?_
 conv => cbv
 refine Room.new ⟨by show (cells.length : Int) = m * 4; omega,by show (m + kx) * 48 ≤ 140737488355328; omega,by show m + kx ≤ 9223372036854775807; omega⟩ ?_
 conv => cbv
 refine Upd.mk fun c2 hc2 => ?_
 have hc2 : c2 = gpv (out ++ o2) := by rw [show c2 = cells ++ cells' from hc2,hcells,hcs2,gpv_app]
 conv => cbv
 refine Sum.mk fun m2 hm3 => ?_
 have hm4 : m2 = ((out ++ o2).length : Int) := by rw [show m2 = m + kx from hm3,hml,hkx,List.length_append]; rfl
 conv => cbv
 refine Fit.mk (by show (-9223372036854775808 : Int) ≤ i + 1; omega) (by show i + 1 ≤ 9223372036854775807; omega) fun i2 hi2 => ?_
 have hi2 : i2 = i + 1 := hi2
 conv => cbv
 refine Again.mk (c - i2).toNat _ (by omega) (Re.at [(0,0),(1,1),(2,2),(3,3),(4,4),(5,5),(6,6),(7,7),(9,8)] []) ⟨i2,m2,ph',out ++ o2,c2,k + 1,R2,w2,C2,G2,ov2,sp',cy',Lx,Dx,Qx,z2,rfl,h2,hc2,hm4,hm2,by omega,by omega,by omega,.inl (by omega),rfl⟩
theorem look21_lx (k a q : Int) (ws : List PV) (b : Bool) : CallF (fun _ => Tryz.prog) 210 [.agg [i6 k,i6 a,.p (.vsl (.sym q) true ws),.p (.bool b)]] [] 0 (fun r h n => (b = true ∧ r = .iface 273 (.agg [i6 a]) ∨ b = false ∧ r = .iface 285 (.agg [])) ∧ h = [] ∧ n = 0) := by
 cases b with
 | false =>
  refine callF_of_body tok Tryz.func210 (by kernel_rfl) rfl rfl rfl ?_; conv => cbv
  refine RetF.mk [.iface 285 (.agg [])] [] 0 (Re.at [] []) rfl ⟨.inr ⟨rfl,rfl⟩,rfl,rfl⟩
 | true =>
  refine callF_of_body tok Tryz.func210 (by kernel_rfl) rfl rfl rfl ?_; conv => cbv
  refine RetF.mk [.iface 273 (.agg [i6 a])] [] 0 (Re.at [] []) rfl ⟨.inl ⟨rfl,rfl⟩,rfl,rfl⟩
theorem keptOf_lx (out : List Gn) (k : Int) (cells : List PV) (hk : k = out.length) (hcs : cells = gpv out) (hl : out.length ≤ 1000000) : CallF (fun _ => Tryz.prog) 144 [.p (.vsl (.sym k) true cells)] [] 0 (fun r h n => ∃ (m : Int) (T : List PV),r = .sl 0 3 1 (.lit 0) (.sym m) ∧ h = [hpP 0 T] ∧ n = 1 ∧ T = ipv (keptOf out) ∧ m = (keptOf out).length) := by
 have hcl : cells.length = 4 * out.length := by rw [hcs,gpv_length]
 refine callF_of_body tok Tryz.func144 (by kernel_rfl) rfl rfl rfl ?_; conv => cbv
 refine LoopF.mk (fun kk s => ∃ (i m : Int) (T : List PV),s = ⟨undefs 2 ++ .p .nils :: .sl 0 3 1 (.lit 0) (.sym m) :: (undefs 4 ++ .p (.vsl (.sym k) true cells) :: .p (.int .i64 (.sym k)) :: .p (.int .i64 (.sym i)) :: undefs 17),[hpP 0 T],1⟩ ∧ 0 ≤ i ∧ i ≤ k ∧ T = ipv (keptOf (out.take i.toNat)) ∧ m = (keptOf (out.take i.toNat)).length ∧ kk = (k - i).toNat) k.toNat _
  (Re.at [] [0]) ⟨0,0,[],rfl,by omega,by omega,rfl,rfl,by omega⟩ ?_
 rintro kk s ⟨i,m,T,rfl,hi0,hi1,hT,hm,hkk⟩
 have hTl : T.length = (keptOf (out.take i.toNat)).length := by rw [hT,ipv_length]
 have hkl : (keptOf (out.take i.toNat)).length ≤ out.length := by
  have h1 := gone_kept (out.take i.toNat)
  rw [List.length_take] at h1
  omega
 conv => cbv
 refine Br.mk (fun q => ?_) (fun q => ?_)
 case refine_2 =>
  have q : ¬ i < k := q
  rw [List.take_of_length_le (by omega : out.length ≤ i.toNat)] at hT hm
  conv => cbv
  refine RetF.mk [.sl 0 3 1 (.lit 0) (.sym m)] [hpP 0 T] 1 (Re.at [(0,0)] []) rfl ⟨m,T,rfl,rfl,rfl,hT,hm⟩
 have q : i < k := q
 obtain ⟨⟨g1,g2,g3,g4⟩,hg⟩ : ∃ p,out[i.toNat]? = some p := ⟨_,List.getElem?_eq_getElem (by omega)⟩
 have hcc := gpv_cellsV out i.toNat _ hg
 rw [← hcs] at hcc
 dsimp only at hcc
 obtain ⟨q3,hq3⟩ : ∃ q : Int,q = ((g3.length : Nat) : Int) := ⟨_,rfl⟩
 obtain ⟨c3,hc3⟩ : ∃ c,c = ipv g3 := ⟨_,rfl⟩
 rw [← hq3,← hc3] at hcc
 conv => cbv
 refine Need.mk ⟨by show 0 ≤ i; omega,by show i < k; omega⟩ ?_
 conv => cbv
 refine Sum.mk fun w hw => ?_
 have hw : w = i * 4 := hw
 conv => cbv
 refine Cell.at (w + 0) _ hcc.1 rfl (by omega) ?_
 conv => cbv
 refine Cell.at (w + 1) _ hcc.2.1 rfl (by omega) ?_
 conv => cbv
 refine Cell.at (w + 2) _ hcc.2.2.1 rfl (by omega) ?_
 conv => cbv
 refine Cell.at (w + 3) _ hcc.2.2.2 rfl (by omega) ?_
 conv => cbv
 refine cfr (look21_lx g1 g2 q3 c3 g4) [] (fun r h' n' hrr => ?_)
 obtain ⟨hres,e2,e3⟩ := hrr
 subst e2 e3
 have htk := keptOfV_take hg
 dsimp only at htk
 have hi2n : (i + 1).toNat = i.toNat + 1 := by omega
 rcases hres with ⟨hb4,e1⟩ | ⟨hb4,e1⟩
 ·subst hb4 e1
  rw [if_pos rfl] at htk
  conv => cbv
  refine Room.new rfl ?_
  conv => cbv
  refine Room.new ⟨by show (T.length : Int) = m * 1; omega,by show (m + 1) * 8 ≤ 140737488355328; omega,by show m + 1 ≤ 9223372036854775807; omega⟩ ?_
  conv => cbv
  refine Upd.mk fun T2 hT2 => ?_
  have hT2 : T2 = ipv (keptOf (out.take (i.toNat + 1))) := by rw [show T2 = T ++ [.int .i64 (.sym g2)] from hT2,htk,← ipv_app,← hT]; rfl
  conv => cbv
  refine Sum.mk fun m2 hm2 => ?_
  have hm2 : m2 = (keptOf (out.take (i.toNat + 1))).length := by rw [show m2 = m + 1 from hm2,hm,htk,List.length_append]; rfl
  conv => cbv
  refine Fit.mk (by show (-9223372036854775808 : Int) ≤ i + 1; omega) (by show i + 1 ≤ 9223372036854775807; omega) fun i2 hi2 => ?_
  have hi2 : i2 = i + 1 := hi2
  conv => cbv
  refine Again.mk (k - i2).toNat _ (by omega) (Re.at [(4,0)] []) ⟨i2,m2,T2,rfl,by omega,by omega,by rw [show i2.toNat = i.toNat + 1 by omega]; exact hT2,by rw [show i2.toNat = i.toNat + 1 by omega]; exact hm2,rfl⟩
 ·subst hb4 e1
  rw [if_neg (by decide),List.append_nil] at htk
  conv => cbv
  refine Fit.mk (by show (-9223372036854775808 : Int) ≤ i + 1; omega) (by show i + 1 ≤ 9223372036854775807; omega) fun i2 hi2 => ?_
  have hi2 : i2 = i + 1 := hi2
  conv => cbv
  refine Again.mk (k - i2).toNat _ (by omega) (Re.at [(0,0)] []) ⟨i2,m,T,rfl,by omega,by omega,by rw [show i2.toNat = i.toNat + 1 by omega,htk]; exact hT,by rw [show i2.toNat = i.toNat + 1 by omega,htk]; exact hm,rfl⟩
end Go.Proofs.YtcbombkaacjngaaGreatDoor
namespace Go.Proofs
open Go.Shelf
set_option maxHeartbeats 32000000
def Tryz.laysNm215_ren : Go.Shelf.Ren := ⟨fun | 15 => 143 | n => n,fun | 22 => 34 | 3 => 3 | 4 => 4 | n => n,fun | n => n⟩
theorem Tryz.laysNm215 : Go.Proofs.Lays2.n15 Tryz.prog Tryz.laysNm215_ren := {
 mixed := by kernel_rfl
 f15 := Tryz.func143.trans (congrArg some (by kernel_rfl))
 t3 := Tryz.underlying3
 a3 := Tryz.isAgg3
 z3 := Tryz.sizeOf3
 v3 := Tryz.zeroValue3
 t4 := Tryz.underlying4
 a4 := Tryz.isAgg4
 z4 := Tryz.sizeOf4
 v4 := Tryz.zeroValue4
 t22 := Tryz.underlying34
 a22 := Tryz.isAgg34
 z22 := Tryz.sizeOf34
 v22 := Tryz.zeroValue34
 i3 := by kernel_rfl }
open Go.RowKit Go.Lib in
theorem Tryz.slices_Clone_int (b off n c : Nat) (zs : List Int) (w : World) (hz : n ≤ zs.length) (hbig : n * 8 ≤ 140737488355328) (hc : ∀ j,j < zs.length → w.cell? ⟨b,off + j,none⟩ = some (.int .i64 (zs.getD j 0))) :
  Calls Tryz.prog 143 #[.slice (some ⟨b,off,none⟩) n c] w fun e w' => ∃ v',e = .returned v' ∧ w'.ownsRow w.heap.size 3 1 v' n ((zs.take n).map (Value.int .i64)) ∧ v' ≠ .slice none 0 0 ∧ Below w.heap.size w w' := Any.slices_Clone_int Tryz.laysNm215 b off n c zs w hz hbig hc
open Go.RowKit Go.Lib in
theorem Tryz.slices_Clone_int_nil (n c : Nat) (w : World) :
  Calls Tryz.prog 143 #[.slice none n c] w fun e w' => e = .returned (.slice none 0 0) ∧ w' = w := Any.slices_Clone_int_nil Tryz.laysNm215 n c w
open Go.RowKit Go.Lib in
theorem Tryz.slices_Clone_int_zero (a : Addr) (c : Nat) (w : World) :
  Calls Tryz.prog 143 #[.slice (some a) 0 c] w fun e w' => ∃ v',e = .returned v' ∧ w'.ownsRow w.heap.size 3 1 v' 0 [] ∧ v' ≠ .slice none 0 0 ∧ Below w.heap.size w w' := Any.slices_Clone_int_zero Tryz.laysNm215 a c w
end Go.Proofs
namespace Go.Proofs.YtcbombkaacjngaaGreatDoor
open Go Go.LX
set_option maxRecDepth 100000
set_option linter.unusedVariables false
set_option linter.unusedSimpArgs false
set_option maxHeartbeats 32000000
open Go.RowKit in
theorem HR.owned {c : Ctx} {w w' : World} {h : LH} (hr : HR c w h) (hb : Below w.heap.size w w') (g : Nat) (hg : w.heap.size ≤ g) (hg2 : g < w'.heap.size) {B : LB} (hB : BR (c.grow (some g)) w' B (some g)) : Ext c w (c.grow (some g)) w' ∧ HR (c.grow (some g)) w' ((c.N,B) :: h) := by
 have he : Ext c w (c.grow (some g)) w' := by
  refine ⟨hb.os,hb.tape,hb.output,hb.size,rfl,Nat.le_succ _,fun b hb => .inl (grow_old c _ (Nat.ne_of_lt hb)),fun b r hb h => ?_,fun r hr _ => hb.block r hr,fun b r hbn h => ?_⟩
  ·by_cases e : b = c.N
   ·subst e; rw [grow_new] at h; cases h; exact .inl hg
   ·rw [grow_old c _ e,hr.fresh b hb] at h; cases h
  ·rw [grow_old c _ (Nat.ne_of_lt hbn)] at h
   simp only [World.shape?]
   rw [hb.block r (hr.lt b r h)]
 refine ⟨he,hr.step he (.inr rfl) (fun b hb => ?_) (fun b => ?_) (fun b C hb2 => ?_)⟩
 ·have hb' : c.N + 1 ≤ b := hb
  rw [grow_old c _ (by omega)]; exact hr.fresh b (by omega)
 ·by_cases e : b = c.N
  ·exact .inr (.inr ⟨e,.inr ⟨g,by rw [e,grow_new],hg,hg2⟩⟩)
  ·exact .inl (grow_old c _ e)
 ·rw [hget_cons] at hb2
  by_cases e : c.N = b
  ·rw [if_pos e] at hb2; cases hb2
   subst e
   exact .inr ⟨_,grow_new c _,hB⟩
  ·rw [if_neg e] at hb2
   exact .inl ⟨hb2,grow_old c _ (fun h => e h.symm),fun r hrr => hb.block r (hr.lt b r hrr)⟩
open Go.RowKit in
theorem clone_own {c : Ctx} {w w' : World} {A : List Int} {k : Int} {v : Value} {n : Nat} (hr : HR c w []) (hN : c.N = 0) (hk : k = A.length) (hn : n = A.length) (ho : w'.ownsRow w.heap.size 3 1 v n (A.map (Value.int .i64))) (hne : v ≠ .slice none 0 0) (hb : Below w.heap.size w w') :
  ∃ (c' : Ctx) (r : LV) (v2 : Value) (h' : LH) (n' : Nat),Ending.returned v = .returned v2 ∧ (∃ T : List PV,r = .sl 0 3 1 (.lit 0) (.sym k) ∧ h' = [hpP 0 T] ∧ n' = 1 ∧ T = ipv A) ∧ HR c' w' h' ∧ c'.N = n' ∧ LR c' w' r v2 ∧ Ext c w c' w' := by
 obtain ⟨hl,⟨h1,_⟩ | ⟨g,cap,cur,rfl,hg,hgh,hnc,hcm,hcs,hct⟩⟩ := ho
 ·exact absurd h1 hne
 have hgs : g < w'.heap.size := by
  have := (Array.getElem?_eq_some_iff.1 hgh).1
  exact this
 have hB : BR (c.grow (some g)) w' (.pure true (ipv A)) (some g) := by
  refine ⟨_,_,hgh,by rw [ipv_length,hcs]; omega,fun j u hu => ?_⟩
  have hj : j < A.length := by
   have := (List.getElem?_eq_some_iff.1 hu).1
   rwa [ipv_length] at this
  have hu2 := ipv_get (List.getElem?_eq_getElem hj)
  rw [hu2] at hu
  cases hu
  have hc : cur.toList[j]? = some (.int .i64 A[j]) := by
   have h2 : (cur.toList.take (n * 1))[j]? = some (.int .i64 A[j]) := by rw [hct,List.getElem?_map,List.getElem?_eq_getElem hj]; rfl
   rw [List.getElem?_take_of_lt (by omega)] at h2
   exact h2
  rw [Array.getD_eq_getD_getElem?,← Array.getElem?_toList,hc]
  exact .int _ _ _ rfl
 obtain ⟨he,hh⟩ := HR.owned hr hb g hg hgs hB
 rw [hN] at hh
 refine ⟨c.grow (some g),.sl 0 3 1 (.lit 0) (.sym k),_,[hpP 0 (ipv A)],1,rfl,⟨ipv A,rfl,rfl,rfl,rfl⟩,hh,by show c.N + 1 = 1; omega,?_,he⟩
 have hm : (c.grow (some g)).m 0 = some (some g) := by have := grow_new c (some g); rwa [hN] at this
 refine .sl _ _ _ _ _ g 0 n cap cur.size hm rfl ?_ hnc hcm ?_ (by omega)
 ·simp only [I.val]; omega
 ·simp only [World.shape?,hgh]
theorem addr_add {a : Addr} (h : a.spot = none) (j : Nat) : a.add j = ⟨a.block,a.off + j,none⟩ := by
 cases a; cases h
 unfold Addr.add
 by_cases e : j = 0
 ·subst e; rfl
 ·rw [if_neg e]
theorem ints_cells {M : Nat → Prop} {w : World} {A : List Int} {f : Nat → Value} (hrel : ∀ (j : Nat) (u : PV),(ipv A)[j]? = some u → PR M w u (f j)) {j : Nat} (hj : j < A.length) : f j = .int .i64 (A.getD j 0) := by
 have h1 := hrel j _ (ipv_get (List.getElem?_eq_getElem hj))
 rw [List.getD_eq_getElem?_getD,List.getElem?_eq_getElem hj]
 generalize f j = q at h1
 cases h1 with | int _ _ m hm => rw [← hm]; rfl
open Go.RowKit in
theorem clone_lx (A : List Int) (k : Int) (cells : List PV) (hk : k = A.length) (hcs : cells = ipv A) (hAl : A.length ≤ 100000) : CallF (fun _ => Tryz.prog) 143 [.p (.vsl (.sym k) true cells)] [] 0 (fun r h n => ∃ T : List PV,r = .sl 0 3 1 (.lit 0) (.sym k) ∧ h = [hpP 0 T] ∧ n = 1 ∧ T = ipv A) := by
 refine .mk ⟨_,_,Tryz.func143,by kernel_rfl,rfl⟩ fun c w xs hr hN hl2 hrel => ?_
 obtain ⟨x,rfl,hx⟩ : ∃ x,xs = #[x] ∧ LR c w (.p (.vsl (.sym k) true cells)) x := by
  have h0 := hrel 0 _ rfl
  rcases xs with ⟨l⟩
  match l,hl2 with
  | [x],_ => exact ⟨x,rfl,h0⟩
 cases hx with | p _ _ hx => ?_
 cases hx with
 | vsl0 _ _ _ a cp h0 hc =>
  have h0 : k = 0 := h0
  have hA : A = [] := List.eq_nil_of_length_eq_zero (by omega)
  subst hA
  cases a with
  | none =>
   refine (Tryz.slices_Clone_int_nil 0 cp w).mono ?_
   rintro e w' ⟨rfl,rfl⟩
   have hh := hr.void true
   rw [hN] at hh
   refine ⟨c.grow none,.sl 0 3 1 (.lit 0) (.sym k),_,[(0,.pure true [])],1,rfl,⟨[],rfl,rfl,rfl,rfl⟩,hh,by show c.N + 1 = 1; omega,?_,Ext.void hr⟩
   have hm : (c.grow none).m 0 = some none := by have := grow_new c none; rwa [hN] at this
   exact .slv _ _ _ _ _ hm rfl h0
  | some a =>
   refine (Tryz.slices_Clone_int_zero a cp w).mono ?_
   rintro e w' ⟨v',rfl,ho,hne,hb⟩
   exact clone_own hr hN hk rfl ho hne hb
 | vsl _ _ _ a n cp f hn hs hM hlt hk2 hc hcell hr2 =>
  have hn : k = n := hn
  have hnA : n = A.length := by omega
  rw [hcs] at hcell hr2
  have ha : a = ⟨a.block,a.off,none⟩ := by cases a; cases hs; rfl
  rw [ha]
  refine (Tryz.slices_Clone_int a.block a.off n cp A w (by omega) (by omega) (fun j hj => ?_)).mono ?_
  ·have h1 := hcell j _ (ipv_get (List.getElem?_eq_getElem hj))
   rw [ints_cells hr2 hj] at h1
   rw [addr_add hs] at h1; exact h1
  ·rintro e w' ⟨v',rfl,ho,hne,hb⟩
   rw [hnA,List.take_length] at ho
   exact clone_own hr hN hk rfl ho hne hb
def Made (W : Int) (A : List Int) (s : Hst) (out : List Gn) (t : Hst) : Prop := ∃ (o1 o2 : List Gn) (k1 k2 : Nat) (t2 t3 : Hst),out = o1 ++ o2 ∧ Many W s k1 o1 t2 ∧ t2.ph = 0 ∧ Bgn W t2 (A ++ keptOf o1) t3 ∧ Many W t3 k2 o2 t ∧ t.ph = 0
theorem makeRoom_lx (R : List Rw) (ws C G : List Int) (N W ph sp cy : Int) (L D Q : List PV) (z : ByteArray) (ov : Bool) (h : HM R ws C G N W L D Q z) (o : Unit → Obj) (ho : IsPow o) (hg : Good N ⟨R,ws,C,G,ov,ph,sp,cy⟩) (hcy : cy ≤ 800000000) (A : List Int) (j : Int) (ca : List PV) (hca : ca = ipv A) (hj : j = A.length) (hAl : A.length ≤ 100000) :
  CallF (fun _ => Tryz.prog) 68 [.ptr 0 (.lit 0),.p (.vsl (.sym j) true ca)] [hpA 0 1 5 6 3 W ph sp cy,hpB 1 2 4 3 W,hpC 2 3 270 2 N,hpP 3 L,hpP 4 D,hpF 5 z ov,hpP 6 Q,(7,.fix 0 o)] 8 (fun r h n => ∃ (out : List Gn) (m : Int) (cells : List PV) (Rh : List Rw) (wh Ch Gh : List Int) (ovh : Bool) (sp2 cy2 : Int) (Lh Dh Qh : List PV) (zh : ByteArray),r = .sl 9 40 4 (.lit 0) (.sym m) ∧ h = [hpA 0 1 8 6 3 W 0 sp2 cy2,hpB 1 2 4 3 W,hpC 2 3 270 2 N,hpP 3 Lh,hpP 4 Dh,hpF 8 zh ovh,hpP 6 Qh,(7,.fix 0 o),hpP 9 cells] ∧ n = 10 ∧ HM Rh wh Ch Gh N W Lh Dh Qh zh ∧ cells = gpv out ∧ m = out.length ∧ Made W A ⟨R,ws,C,G,ov,ph,sp,cy⟩ out ⟨Rh,wh,Ch,Gh,ovh,0,sp2,cy2⟩) := by
 have hW := h.w
 have hW2 : W = 32 * N := hW
 refine callF_of_body tok Tryz.func68 (by kernel_rfl) rfl rfl rfl ?_; conv => cbv
 refine cfr (toTheEnd_lx R ws C G N W ph sp cy L D Q z ov h o ho hg (by omega)) [(0,0),(1,1),(2,2),(3,3),(4,4),(5,5),(6,6),(7,7)] (fun r h' n' hrr => ?_)
 obtain ⟨o1,m1,c1,k1,R1,ws1,C1,G1,ov1,sp1,cy1,L1,D1,Q1,z1,e1,e2,e3,h1,hc1,hm1,hM1⟩ := hrr
 subst e1 e2 e3
 obtain ⟨g1,_,hy1,_⟩ := hM1.good hW2 hg
 have hb1 := hM1.cyb hW2 hg
 conv => cbv
 refine cfr (clone_lx A j ca hj hca hAl) [] (fun r h' n' hrr => ?_)
 obtain ⟨T,e1,e2,e3,hT⟩ := hrr
 subst e1 e2 e3
 conv => cbv
 refine callF_lend (keptOf_lx o1 m1 c1 hm1 hc1 (by omega)) (by simp [lends,lendV,hget,I.val,pvle]) (fun r h' n' hrr => ?_) (fun r h' n' hrr => ?_)
 ·obtain ⟨m2,T2,e1,e2,e3,hT2,hm2⟩ := hrr
  subst e1 e2
  exact ⟨trivial,fun u hu => by rw [hT2] at hu; obtain ⟨y,_,rfl⟩ := List.mem_map.1 hu; exact trivial,trivial⟩
 obtain ⟨m2,T2,e1,e2,e3,hT2,hm2⟩ := hrr
 subst e1 e2 e3
 conv => cbv
 have hTl : T.length = A.length := by rw [hT,ipv_length]
 have hT2l : T2.length = (keptOf o1).length := by rw [hT2,ipv_length]
 have hgk := gone_kept o1
 refine Room.new (by show (T2.length : Int) = m2 * 1; omega) ?_
 conv => cbv
 refine Room.new ⟨by show (T.length : Int) = j * 1; omega,by show (j + m2) * 8 ≤ 140737488355328; omega,by show j + m2 ≤ 9223372036854775807; omega⟩ ?_
 conv => cbv
 refine Upd.mk fun T3 hT3 => ?_
 have hT3 : T3 = ipv (A ++ keptOf o1) := by rw [show T3 = T ++ T2 from hT3,hT,hT2,← ipv_app]
 conv => cbv
 refine Sum.mk fun m3 hm3 => ?_
 have hm3 : m3 = ((A ++ keptOf o1).length : Int) := by rw [show m3 = j + m2 from hm3,hj,hm2,List.length_append]; rfl
 conv => cbv
 refine CallF.re (args0 := [.ptr 0 (.lit 0),.p (.vsl (.sym m3) true T3)]) (h' := [hpA 0 1 5 6 3 W 0 sp1 cy1,hpB 1 2 4 3 W,hpC 2 3 270 2 N,hpP 3 L1,hpP 4 D1,hpF 5 z1 ov1,hpP 6 Q1,(7,.fix 0 o),hpP 8 c1]) (Re.at [(0,0),(1,1),(2,2),(3,3),(4,4),(5,5),(6,6),(7,7),(8,8)] []) (cfr (begin_lx R1 ws1 C1 G1 N W 0 sp1 cy1 L1 D1 Q1 z1 ov1 h1 o ho (A ++ keptOf o1) m3 T3 hT3 hm3 (by rw [List.length_append]; omega) rfl) [(0,0),(1,1),(2,2),(3,3),(4,4),(5,5),(6,6),(7,7)] (fun r h' n' hrr => ?_))
 obtain ⟨C3,G3,ov3,Q3,z3,e1,e2,e3,h3,hb3⟩ := hrr
 subst e1 e2 e3
 have hB : Bgn W ⟨R1,ws1,C1,G1,ov1,0,sp1,cy1⟩ (A ++ keptOf o1) ⟨R1,ws1,C3,G3,ov3,1,sp1,cy1⟩ := ⟨rfl,rfl,rfl,rfl,rfl,(by have := h3.c; show (C3.length : Int) = W; exact this),hb3⟩
 conv => cbv
 have g3 := hB.good hW2 g1
 refine cfr (toTheEnd_lx R1 ws1 C3 G3 N W 1 sp1 cy1 L1 D1 Q3 z3 ov3 h3 o ho g3 (by have := hb1.1; show cy1 ≤ 900000000; have h9 : cy1 ≤ cy + 2177 := hb1.1; omega)) [(0,0),(1,1),(2,2),(3,3),(4,4),(5,12),(6,6),(7,7)] (fun r h' n' hrr => ?_)
 obtain ⟨o4,m4,c4,k4,R4,ws4,C4,G4,ov4,sp4,cy4,L4,D4,Q4,z4,e1,e2,e3,h4,hc4,hm4,hM4⟩ := hrr
 subst e1 e2 e3
 have hb4 := hM4.cyb hW2 g3
 have hl1 : c1.length = 4 * o1.length := by rw [hc1,gpv_length]
 have hl4 : c4.length = 4 * o4.length := by rw [hc4,gpv_length]
 conv => cbv
 refine Room.new (by show (c4.length : Int) = m4 * 4; omega) ?_
 conv => cbv
 refine Room.new ⟨by show (c1.length : Int) = m1 * 4; omega,by show (m1 + m4) * 48 ≤ 140737488355328; omega,by show m1 + m4 ≤ 9223372036854775807; omega⟩ ?_
 conv => cbv
 refine Upd.mk fun c5 hc5 => ?_
 have hc5 : c5 = gpv (o1 ++ o4) := by rw [show c5 = c1 ++ c4 from hc5,hc1,hc4,← gpv_app]
 conv => cbv
 refine Sum.mk fun m5 hm5 => ?_
 have hm5 : m5 = ((o1 ++ o4).length : Int) := by rw [show m5 = m1 + m4 from hm5,hm1,hm4,List.length_append]; rfl
 conv => cbv
 refine RetF.mk [.sl 9 40 4 (.lit 0) (.sym m5)] [hpA 0 1 8 6 3 W 0 sp4 cy4,hpB 1 2 4 3 W,hpC 2 3 270 2 N,hpP 3 L4,hpP 4 D4,hpF 8 z4 ov4,hpP 6 Q4,(7,.fix 0 o),hpP 9 c5] 10 (Re.at [(0,0),(1,1),(2,2),(3,3),(4,4),(12,8),(6,6),(7,7),(14,9)] []) rfl ⟨o1 ++ o4,m5,c5,R4,ws4,C4,G4,ov4,sp4,cy4,L4,D4,Q4,z4,rfl,rfl,rfl,h4,hc5,hm5,o1,o4,k1,k4,_,_,rfl,hM1,rfl,hB,hM4,rfl⟩
def COk (N st as_ : Int) : Prop := 1 ≤ st ∧ st ≤ 100 ∧ 0 ≤ as_ ∧ as_ ≤ 8
theorem newS_lx (N W st as_ : Int) (hc : COk N st as_) (h2 : 2 ≤ N) (h8 : N ≤ 128) (hW : W = 32 * N) (L D Q : List PV) (z : ByteArray) (hL : L = rpv (List.replicate N.toNat (0,[]))) (hD : D = ipv (List.replicate W.toNat 0)) (hQ : Q = ipv (List.replicate W.toNat 0)) (hz : z = ⟨(enc []).toArray⟩) : CallF (fun _ => Tryz.prog) 8 [.agg [i6 N,i6 st,i6 as_]] [] 0 (fun r h n => r = .tup [.ptr 0 (.lit 0),.p (.int .i64 (.lit 0))] ∧ h = [(0,.mix [.ptr 1 (.lit 0),i6 st,i6 as_]),hpA 1 2 6 7 3 W 0 0 0,hpB 2 3 5 3 W,hpC 3 4 270 2 N,hpP 4 L,hpP 5 D,hpF 6 z false,hpP 7 Q] ∧ n = 8) := by
 unfold COk at hc
 refine callF_of_body tok Tryz.func8 (by kernel_rfl) rfl rfl rfl ?_; conv => cbv
 refine Br.no (show ¬ (st < 1) by omega) ?_
 conv => cbv
 refine Br.no (show ¬ (100 < st) by omega) ?_
 conv => cbv
 refine Br.no (show ¬ (as_ < 0) by omega) ?_
 conv => cbv
 refine Br.no (show ¬ (8 < as_) by omega) ?_
 conv => cbv
 refine callF_frame (newH_lx N W h2 h8 hW L D Q z hL hD hQ hz) [] rfl trivial rfl rfl (fun r h' n' ⟨e1,e2,e3⟩ => ?_)
 subst e1 e2 e3
 conv => cbv
 refine RetF.mk [.ptr 0 (.lit 0),.p (.int .i64 (.lit 0))] [(0,.mix [.ptr 1 (.lit 0),i6 st,i6 as_]),hpA 1 2 6 7 3 W 0 0 0,hpB 2 3 5 3 W,hpC 3 4 270 2 N,hpP 4 L,hpP 5 D,hpF 6 z false,hpP 7 Q] 8 (Re.at [(8,0),(1,1),(2,2),(3,3),(4,4),(5,5),(6,6),(7,7)] []) rfl ⟨rfl,rfl,rfl⟩
theorem heapS_lx (R : List Rw) (ws C G : List Int) (N W ph sp cy : Int) (L D Q : List PV) (z : ByteArray) (ov : Bool) (st as_ : Int) : CallF (fun _ => Tryz.prog) 17 [.ptr 0 (.lit 0)] [(0,.mix [.ptr 1 (.lit 0),i6 st,i6 as_]),hpA 1 2 6 7 3 W ph sp cy,hpB 2 3 5 3 W,hpC 3 4 270 2 N,hpP 4 L,hpP 5 D,hpF 6 z ov,hpP 7 Q] 8 (fun r h n => r = .ptr 1 (.lit 0) ∧ h = [(0,.mix [.ptr 1 (.lit 0),i6 st,i6 as_]),hpA 1 2 6 7 3 W ph sp cy,hpB 2 3 5 3 W,hpC 3 4 270 2 N,hpP 4 L,hpP 5 D,hpF 6 z ov,hpP 7 Q] ∧ n = 8) := by
 refine callF_of_body tok Tryz.func17 (by kernel_rfl) rfl rfl rfl ?_; conv => cbv
 refine RetF.mk [.ptr 1 (.lit 0)] [(0,.mix [.ptr 1 (.lit 0),i6 st,i6 as_]),hpA 1 2 6 7 3 W ph sp cy,hpB 2 3 5 3 W,hpC 3 4 270 2 N,hpP 4 L,hpP 5 D,hpF 6 z ov,hpP 7 Q] 8 (Re.at [(0,0),(1,1),(2,2),(3,3),(4,4),(5,5),(6,6),(7,7)] []) rfl ⟨rfl,rfl,rfl⟩
def namesW : ByteArray := ⟨#[99,97,112,32,99,108,111,115,101,100,32,99,111,117,110,116,32,115,116,97,114,116,32,98,117,102,32,116,97,107,101,104,101,97,100,32,116,97,107,101,116,97,105,108,32,115,101,110,100,104,101,97,100,32,115,101,110,100,116,97,105,108,10,10,103,111,114,32,99,104,97,110,32,118,97,108,117,101,32,110,101,120,116,32,116,111,32,114,101,103,32,109,111,114,101,10,105,100,32,115,116,97,116,117,115,32,112,99,32,97,32,98,32,99,32,100,32,101,32,102,32,115,117,100,111,103,115,10,118,97,108,117,101,32,102,105,110,97,108,10,119,104,101,110,32,99,104,97,110,10]⟩
def byteW (p : Nat) : Int := ((namesW.get! p).toNat : Int)
def lnW : Nat → Int
 | 0 => 1
 | p + 1 => if byteW p = 10 then lnW p + 1 else lnW p
def frW : Nat → Int
 | 0 => 0
 | p + 1 => if byteW p = 10 then (p : Int) + 1 else frW p
theorem namesW_dec (p : Nat) (h : p < 150) : ((Utf8.decode namesW p).1 : Int) = byteW p ∧ (Utf8.decode namesW p).2 = 1 := by
 have : ∀ i : Fin 150,((Utf8.decode namesW i.val).1 : Int) = byteW i.val ∧ (Utf8.decode namesW i.val).2 = 1 := by decide +kernel
 exact this ⟨p,h⟩
theorem frW_le (p : Nat) : 0 ≤ frW p ∧ frW p ≤ p := by
 induction p with
 | zero => exact ⟨Int.le_refl _,Int.le_refl _⟩
 | succ p ih => rw [frW]; split <;> omega
theorem lnW_le (p : Nat) : 1 ≤ lnW p ∧ lnW p ≤ p + 1 := by
 induction p with
 | zero => exact ⟨Int.le_refl _,Int.le_refl _⟩
 | succ p ih => rw [lnW]; split <;> omega
def lineW (k : Int) : ByteArray := if k = 1 then namesW.extract 0 63 else if k = 3 then namesW.extract 64 96 else if k = 4 then namesW.extract 96 128 else if k = 5 then namesW.extract 128 140 else if k = 6 then namesW.extract 140 150 else ⟨#[]⟩
theorem lineW_at (p : Nat) (h : p < 150) (h1 : byteW p = 10) (h2 : frW p < p) : lineW (lnW p) = namesW.extract (frW p).toNat (p + 1) ∧ (lnW p = 1 ∨ 3 ≤ lnW p ∧ lnW p ≤ 6) := by
 have : ∀ i : Fin 150,byteW i.val = 10 → frW i.val < i.val → lineW (lnW i.val) = namesW.extract (frW i.val).toNat (i.val + 1) ∧ (lnW i.val = 1 ∨ 3 ≤ lnW i.val ∧ lnW i.val ≤ 6) := by decide +kernel
 exact this ⟨p,h⟩ h1 h2
theorem lineW_no (k : Int) (h : ∀ q : Nat,q < 150 → byteW q = 10 → frW q < q → lnW q ≠ k) : lineW k = ⟨#[]⟩ := by
 unfold lineW
 split
 ·exact absurd (by rename_i e; rw [e]; decide +kernel) (h 62 (by decide) (by decide +kernel) (by decide +kernel))
 ·split
  ·exact absurd (by rename_i e; rw [e]; decide +kernel) (h 95 (by decide) (by decide +kernel) (by decide +kernel))
  ·split
   ·exact absurd (by rename_i e; rw [e]; decide +kernel) (h 127 (by decide) (by decide +kernel) (by decide +kernel))
   ·split
    ·exact absurd (by rename_i e; rw [e]; decide +kernel) (h 139 (by decide) (by decide +kernel) (by decide +kernel))
    ·split
     ·exact absurd (by rename_i e; rw [e]; decide +kernel) (h 149 (by decide) (by decide +kernel) (by decide +kernel))
     ·rfl
theorem lineOf_lx (k : Int) : CallF (fun _ => Tryz.prog) 206 [i6 k] [] 0 (fun r h n => (∃ z : ByteArray,r = .p (.str fun _ => z) ∧ z = lineW k) ∧ h = [] ∧ n = 0) := by
 refine callF_of_body tok Tryz.func206 (by kernel_rfl) rfl rfl rfl ?_; conv => cbv
 refine LoopF.mk (fun kk s => ∃ (p ln fr : Int),s = ⟨.p (.int .i64 (.sym k)) :: .undef :: .undef :: .p (.int .i64 (.sym ln)) :: .p (.int .i64 (.sym fr)) :: .undef :: .undef :: .ptr 0 (.lit 0) :: undefs 22,[(0,.iter (fun _ => namesW) (.sym p))],1⟩ ∧ 0 ≤ p ∧ p ≤ 150 ∧ kk = (150 - p).toNat ∧ ln = lnW p.toNat ∧ fr = frW p.toNat ∧ (∀ q : Nat,q < p.toNat → byteW q = 10 → frW q < q → lnW q ≠ k)) 150 _
  (Re.at [(0,0)] []) ⟨0,1,0,rfl,by omega,by omega,by omega,rfl,rfl,fun q hq => absurd hq (by omega)⟩ ?_
 rintro kk s ⟨p,ln,fr,rfl,hp0,hp1,hkk,hln,hfr,hno⟩
 have b1 := frW_le p.toNat
 have b2 := lnW_le p.toNat
 conv => cbv
 by_cases hp : p < 150
 ·have hdc := namesW_dec p.toNat (by omega)
  refine NextS.more (show p < 150 by omega) ?_
  intro r p' hr hp'
  have hr : r = byteW p.toNat := hr.trans hdc.1
  have hp' : p' = p + 1 := by
   have : p' = p + ((Utf8.decode namesW p.toNat).2 : Int) := hp'
   rw [this,hdc.2]; rfl
  have hpn : p'.toNat = p.toNat + 1 := by omega
  clear hdc
  conv => cbv
  refine Br.mk (fun g => ?_) (fun g => ?_)
  ·have g : ¬ r = 10 := g
   have hb : ¬ byteW p.toNat = 10 := fun q => g (hr.trans q)
   conv => cbv
   refine Again.mk (150 - p').toNat _ (by omega) (Re.at [(0,0)] []) ⟨p',ln,fr,rfl,by omega,by omega,rfl,by rw [hpn,lnW,if_neg hb]; exact hln,by rw [hpn,frW,if_neg hb]; exact hfr,fun q hq h1 h2 => ?_⟩
   by_cases e : q = p.toNat
   ·rw [e] at h1; exact absurd h1 hb
   ·exact hno q (by omega) h1 h2
  ·have g : r = 10 := Classical.byContradiction fun q => g q
   have hb : byteW p.toNat = 10 := hr.symm.trans g
   conv => cbv
   refine Br.mk (fun g1 => ?_) (fun g1 => ?_)
   ·have g1 : ln = k := g1
    conv => cbv
    refine Br.mk (fun g2 => ?_) (fun g2 => ?_)
    ·have g2 : fr < p := g2
     have hat := lineW_at p.toNat (by omega) hb (by rw [← hfr]; omega)
     conv => cbv
     refine Fit.mk (by show (-9223372036854775808 : Int) ≤ p + 1; omega) (by show p + 1 ≤ 9223372036854775807; omega) fun f2 hf2 => ?_
     have hf2 : f2 = p + 1 := hf2
     conv => cbv
     refine Need.mk (show 0 ≤ fr ∧ fr ≤ f2 ∧ f2 ≤ (150 : Int) by omega) ?_
     conv => cbv
     refine Str.mk fun z hz => ?_
     have hz : z = namesW.extract fr.toNat f2.toNat := hz
     conv => cbv
     refine RetF.mk [.p (.str fun _ => z)] [] 0 (Re.at [] []) rfl ⟨⟨z,rfl,?_⟩,rfl,rfl⟩
     rw [hz,← g1,hln,hat.1,← hfr]
     congr 1
     omega
    ·have g2 : ¬ fr < p := g2
     conv => cbv
     refine Fit.mk (by show (-9223372036854775808 : Int) ≤ ln + 1; omega) (by show ln + 1 ≤ 9223372036854775807; omega) fun l2 hl2 => ?_
     have hl2 : l2 = ln + 1 := hl2
     conv => cbv
     refine Fit.mk (by show (-9223372036854775808 : Int) ≤ p + 1; omega) (by show p + 1 ≤ 9223372036854775807; omega) fun f2 hf2 => ?_
     have hf2 : f2 = p + 1 := hf2
     conv => cbv
     refine Again.mk (150 - p').toNat _ (by omega) (Re.at [(0,0)] []) ⟨p',l2,f2,rfl,by omega,by omega,rfl,by rw [hpn,lnW,if_pos hb]; omega,by rw [hpn,frW,if_pos hb]; omega,fun q hq h1 h2 => ?_⟩
     by_cases e : q = p.toNat
     ·have h2 : frW q < (q : Int) := h2
      rw [e,← hfr] at h2
      omega
     ·exact hno q (by omega) h1 h2
   ·have g1 : ¬ ln = k := g1
    conv => cbv
    refine Fit.mk (by show (-9223372036854775808 : Int) ≤ ln + 1; omega) (by show ln + 1 ≤ 9223372036854775807; omega) fun l2 hl2 => ?_
    have hl2 : l2 = ln + 1 := hl2
    conv => cbv
    refine Fit.mk (by show (-9223372036854775808 : Int) ≤ p + 1; omega) (by show p + 1 ≤ 9223372036854775807; omega) fun f2 hf2 => ?_
    have hf2 : f2 = p + 1 := hf2
    conv => cbv
    refine Again.mk (150 - p').toNat _ (by omega) (Re.at [(0,0)] []) ⟨p',l2,f2,rfl,by omega,by omega,rfl,by rw [hpn,lnW,if_pos hb]; omega,by rw [hpn,frW,if_pos hb]; omega,fun q hq h1 h2 => ?_⟩
    by_cases e : q = p.toNat
    ·rw [e,← hln]; exact g1
    ·exact hno q (by omega) h1 h2
 ·refine NextS.over (show (150 : Int) ≤ p by omega) ?_
  conv => cbv
  refine RetF.mk [.p (.str fun _ => ⟨#[]⟩)] [] 0 (Re.at [] []) rfl ⟨⟨_,rfl,(lineW_no k fun q hq => hno q (by omega)).symm⟩,rfl,rfl⟩
end Go.Proofs.YtcbombkaacjngaaGreatDoor
