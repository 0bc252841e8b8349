/-
  Layer 21: the objects that are picked, and the needs that are drawn.
-/
import Derived.Test.YtcbombkaacjngaaGreatDoorBh
import Derived.Test.YtcbombkaacjngaaGreatDoorV13
namespace Go.Proofs.YtcbombkaacjngaaGreatDoor
open Go Go.LX
set_option maxRecDepth 100000
set_option linter.unusedVariables false
set_option linter.unusedSimpArgs false
set_option maxHeartbeats 32000000
theorem pick21_lx (R : List Rw) (vs C G : List Int) (N W ph sp cy : Int) (P B V Q la : List PV) (m : Int) (ov : Bool) (h : RM R vs C G N W P B V Q la m) (x : Int) (hx : -9223372036854775808 ≤ x ∧ x ≤ 9223372036854775807) : CallF (fun _ => Tryz.prog) 15 [.ptr 0 (.lit 0),i6 x] [hpR 0 1 6 3 W 7 ph sp cy,hpB 1 2 5 3 W,hpD 2 3 3 1 N 4 203 8 N,hpP 3 P,hpP 4 B,hpP 5 V,hpP 6 Q,(7,.mix [.p (.vsl (.sym m) true la),.p (.bool ov)])] 8 (fun r h n => ∃ a : Int,r = .p (.int .i64 (.sym a)) ∧ h = [hpR 0 1 6 3 W 7 ph sp cy,hpB 1 2 5 3 W,hpD 2 3 3 1 N 4 203 8 N,hpP 3 P,hpP 4 B,hpP 5 V,hpP 6 Q,(7,.mix [.p (.vsl (.sym m) true la),.p (.bool ov)])] ∧ n = 8 ∧ -1 ≤ a ∧ a < W) := by
 have hCl := h.c; have hWn := h.w; have hNr := h.n; have hRr := h.r
 obtain ⟨mo,hmo⟩ : ∃ m : Int,m = objCount R := ⟨_,rfl⟩
 refine callF_of_body tok Tryz.func15 (by kernel_rfl) rfl rfl rfl ?_; conv => cbv
 refine cfr (robjects_lx mo R vs N W P B V h.p h.b h.v h.n h.r h.a h.w hmo) [(0,1),(1,2),(2,3),(3,4),(4,5)] (fun r h' n' hrr => ?_)
 obtain ⟨O,e1,e2,e3,hO⟩ := hrr
 subst e1 e2 e3
 have hOl : (O.length : Int) = mo := by rw [hO,ipv_length,objs_length h.a.rows,hmo]
 have hO : O = ipv (objs R) := hO
 have hol : ((objs R).length : Int) = mo := by rw [← hOl,hO,ipv_length]
 have hob : mo ≤ 8000 := by have := objsTo_le R R.length; rw [objs_length h.a.rows] at this; omega
 conv => cbv
 refine Br.mk (fun g => ?_) (fun g => ?_)
 ·have g : mo = 0 := g
  conv => cbv
  refine RetF.mk [i6 (-1)] [hpR 0 1 6 3 W 7 ph sp cy,hpB 1 2 5 3 W,hpD 2 3 3 1 N 4 203 8 N,hpP 3 P,hpP 4 B,hpP 5 V,hpP 6 Q,(7,.mix [.p (.vsl (.sym m) true la),.p (.bool ov)])] 8 (Re.at [(0,0),(1,1),(2,2),(3,3),(4,4),(5,5),(6,6),(7,7)] []) rfl ⟨-1,rfl,rfl,rfl,by omega,by omega⟩
 ·have g : ¬ mo = 0 := g
  conv => cbv
  refine Fit.wrap fun xa hxa => ?_
  have hxa : xa = IntKind.u64.wrap x := hxa
  have hxa0 : 0 ≤ xa := by rw [hxa]; simp [IntKind.wrap,IntKind.bits,IntKind.signed]; omega
  clear hxa
  conv => cbv
  refine Fit.mk (by show (0 : Int) ≤ mo; omega) (by show mo ≤ 18446744073709551615; omega) fun mu hmu => ?_
  have hmu : mu = mo := hmu
  conv => cbv
  refine Need.mk (show mu ≠ 0 by omega) ?_
  conv => cbv
  refine Sum.mk fun ya hya => ?_
  have hya : ya = xa % mu := (show ya = xa.tmod mu from hya).trans (Int.tmod_eq_emod_of_nonneg hxa0)
  have hya0 : 0 ≤ ya := by rw [hya]; exact Int.emod_nonneg _ (by omega)
  have hya1 : ya < mo := by rw [hya,← hmu]; exact Int.emod_lt_of_pos _ (by omega)
  conv => cbv
  refine Fit.mk (by show (-9223372036854775808 : Int) ≤ ya; omega) (by show ya ≤ 9223372036854775807; omega) fun za hza => ?_
  have hza : za = ya := hza
  obtain ⟨a,hat⟩ : ∃ a,(objs R)[za.toNat]? = some a := ⟨_,List.getElem?_eq_getElem (by omega)⟩
  have hab := obj_bd h.a (List.mem_of_getElem? hat)
  have hcO : O[za.toNat]? = some (.int .i64 (.sym a)) := by rw [hO]; exact ipv_get hat
  conv => cbv
  refine Need.mk ⟨by show 0 ≤ za; omega,by show za < mo; omega⟩ ?_
  conv => cbv
  refine Cell.at za _ hcO (by simp [I.val]) rfl ?_
  conv => cbv
  refine RetF.mk [i6 a] [hpR 0 1 6 3 W 7 ph sp cy,hpB 1 2 5 3 W,hpD 2 3 3 1 N 4 203 8 N,hpP 3 P,hpP 4 B,hpP 5 V,hpP 6 Q,(7,.mix [.p (.vsl (.sym m) true la),.p (.bool ov)])] 8 (Re.at [(0,0),(1,1),(2,2),(3,3),(4,4),(5,5),(6,6),(7,7)] []) rfl ⟨a,rfl,rfl,rfl,by omega,by omega⟩
theorem twosP_app : ∀ a b : List (Int × Int),twosP (a ++ b) = twosP a ++ twosP b
 | [],b => rfl
 | p :: a,b => by show _ :: _ :: twosP (a ++ b) = _; rw [twosP_app a b]; rfl
theorem needs21_lx (l : List (Int × Int)) (k : Int) (cells : List PV) (hk : k = l.length) (hcs : cells = twosP l) (hkb : k ≤ 9223372036854775807) : CallF (fun _ => Tryz.prog) 20 [.p (.vsl (.sym k) true cells)] [] 0 (fun r h n => ∃ (l2 : List (Int × Int)) (m : Int) (T : List PV),r = .sl 0 111 2 (.lit 0) (.sym m) ∧ h = [hpP 0 T] ∧ n = 1 ∧ T = twosP l2 ∧ m = l2.length ∧ l2.length ≤ 4) := by
 have hcl : cells.length = 2 * l.length := by rw [hcs,twosP_length]
 refine callF_of_body tok Tryz.func20 (by kernel_rfl) rfl rfl rfl ?_; conv => cbv
 refine LoopF.mk (fun kk s => ∃ (i m : Int) (l2 : List (Int × Int)) (T : List PV),s = ⟨.p (.vsl (.sym k) true cells) :: (undefs 2 ++ .sl 0 111 2 (.lit 0) (.sym m) :: .p (.int .i64 (.sym i)) :: undefs 34),[hpP 0 T],1⟩ ∧ T = twosP l2 ∧ m = l2.length ∧ i = m ∧ i ≤ k ∧ i ≤ 4 ∧ kk = (4 - i).toNat) 4 _
  (Re.at [] [0]) ⟨0,0,[],[],rfl,rfl,rfl,rfl,by omega,by omega,by omega⟩ ?_
 rintro kk s ⟨i,m,l2,T,rfl,hT,hm,him,hik,hi4,hkk⟩
 have hTl : T.length = 2 * l2.length := by rw [hT,twosP_length]
 conv => cbv
 refine Br.mk (fun q => ?_) (fun q => ?_)
 case refine_2 =>
  conv => cbv
  refine RetF.mk [.sl 0 111 2 (.lit 0) (.sym m)] [hpP 0 T] 1 (Re.at [(0,0)] []) rfl ⟨l2,m,T,rfl,rfl,rfl,hT,hm,by omega⟩
 have q : i < k := q
 conv => cbv
 refine Br.mk (fun q2 => ?_) (fun q2 => ?_)
 case refine_2 =>
  conv => cbv
  refine RetF.mk [.sl 0 111 2 (.lit 0) (.sym m)] [hpP 0 T] 1 (Re.at [(0,0)] []) rfl ⟨l2,m,T,rfl,rfl,rfl,hT,hm,by omega⟩
 have q2 : i < 4 := q2
 obtain ⟨⟨p1,p2⟩,hp⟩ : ∃ p,l[i.toNat]? = some p := ⟨_,List.getElem?_eq_getElem (by omega)⟩
 have hcc := twosP_get l i.toNat _ hp
 rw [← hcs] at hcc
 dsimp only at hcc
 conv => cbv
 refine drawn_sound tok (by kernel_rfl) [(18,[17,16,15,14,13,12,11,10,9,8,7,6,5,4,3,2,1,0]),(19,[])] [0,1,2,3,4,5,6,7,8,9,10,11,12,13,14,15,16,17,18,19] (by kernel_rfl) ?_; conv => cbv
 conv => cbv
 refine Need.mk ⟨by show 0 ≤ i; omega,by show i < k; omega⟩ ?_
 conv => cbv
 refine Sum.mk fun w1 hw1 => ?_
 have hw1 : w1 = i * 2 := hw1
 conv => cbv
 refine Cell.at (w1 + 0) _ hcc.1 rfl (by omega) ?_
 conv => cbv
 refine Fit.wrap fun xn_v1 hxn => ?_
 have hyn : 0 ≤ xn_v1 := by rw [show xn_v1 = IntKind.u64.wrap p1 from hxn]; simp [IntKind.wrap,IntKind.bits,IntKind.signed]; omega
 clear hxn
 conv => cbv
 refine Sum.mk fun tn_v1 htn => ?_
 have htn : tn_v1 = xn_v1 % 6 := (show tn_v1 = xn_v1.tmod 6 from htn).trans (Int.tmod_eq_emod_of_nonneg hyn)
 conv => cbv
 refine Fit.mk (by show (-9223372036854775808 : Int) ≤ tn_v1; omega) (by show tn_v1 ≤ 9223372036854775807; omega) fun un_v1 hun => ?_
 have hun : un_v1 = tn_v1 := hun
 conv => cbv
 refine Fit.mk (by show (-9223372036854775808 : Int) ≤ 1 + un_v1; omega) (by show 1 + un_v1 ≤ 9223372036854775807; omega) fun v1 hv1 => ?_
 have hv1 : v1 = 1 + un_v1 := hv1
 have hv10 : 1 ≤ v1 := by omega
 have hv11 : v1 ≤ 6 := by omega
 clear hv1 hun htn hyn
 conv => cbv
 refine Need.mk ⟨by show 0 ≤ i; omega,by show i < k; omega⟩ ?_
 conv => cbv
 refine Sum.mk fun w2 hw2 => ?_
 have hw2 : w2 = i * 2 := hw2
 conv => cbv
 refine Sum.mk fun y2 hy2 => ?_
 have hy2 : y2 = w2 + 1 := hy2
 conv => cbv
 refine Cell.at y2 _ hcc.2 (by simp [I.val]) (by omega) ?_
 conv => cbv
 refine Fit.wrap fun xn_v2 hxn => ?_
 have hyn : 0 ≤ xn_v2 := by rw [show xn_v2 = IntKind.u64.wrap p2 from hxn]; simp [IntKind.wrap,IntKind.bits,IntKind.signed]; omega
 clear hxn
 conv => cbv
 refine Sum.mk fun tn_v2 htn => ?_
 have htn : tn_v2 = xn_v2 % 4 := (show tn_v2 = xn_v2.tmod 4 from htn).trans (Int.tmod_eq_emod_of_nonneg hyn)
 conv => cbv
 refine Fit.mk (by show (-9223372036854775808 : Int) ≤ tn_v2; omega) (by show tn_v2 ≤ 9223372036854775807; omega) fun un_v2 hun => ?_
 have hun : un_v2 = tn_v2 := hun
 conv => cbv
 have hv20 : 0 ≤ un_v2 := by omega
 have hv21 : un_v2 ≤ 3 := by omega
 clear hun htn hyn
 refine Room.new rfl ?_
 conv => cbv
 refine Room.new ⟨by show (T.length : Int) = m * 2; omega,by show (m + 1) * 16 ≤ 140737488355328; omega,by show m + 1 ≤ 9223372036854775807; omega⟩ ?_
 conv => cbv
 refine Upd.mk fun T2 hT2 => ?_
 have hT2 : T2 = twosP (l2 ++ [(v1,un_v2)]) := by rw [show T2 = T ++ [.int .i64 (.sym v1),.int .i64 (.sym un_v2)] from hT2,twosP_app,hT]; rfl
 conv => cbv
 refine Sum.mk fun m2 hm2 => ?_
 have hm2 : m2 = ((l2 ++ [(v1,un_v2)]).length : Int) := by rw [show m2 = m + 1 from hm2,hm,List.length_append]; rfl
 conv => cbv
 refine Fit.mk (by show (-9223372036854775808 : Int) ≤ i + 1; omega) (by show i + 1 ≤ 9223372036854775807; omega) fun i2 hi2 => ?_
 have hi2 : i2 = i + 1 := hi2
 have hi3 : i2 = m2 := by rw [hm2,List.length_append]; show i2 = ((l2.length + 1 : Nat) : Int); omega
 conv => cbv
 refine Again.mk (4 - i2).toNat _ (by omega) (Re.at [(3,0)] []) ⟨i2,m2,l2 ++ [(v1,un_v2)],T2,rfl,hT2,hm2,hi3,by omega,by omega,rfl⟩
end Go.Proofs.YtcbombkaacjngaaGreatDoor
