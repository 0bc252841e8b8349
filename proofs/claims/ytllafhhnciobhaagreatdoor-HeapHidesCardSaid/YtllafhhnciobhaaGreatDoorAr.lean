/-
  Layer 7: the reference's arena: kinds, lengths, words.
-/
import Derived.Test.YtllafhhnciobhaaGreatDoorAp

import Derived.Test.YtllafhhnciobhaaGreatDoorAq

namespace Go.Proofs.YtllafhhnciobhaaGreatDoor

open Go Go.LX
set_option maxRecDepth 100000
set_option linter.unusedVariables false
set_option linter.unusedSimpArgs false

set_option maxHeartbeats 2000000 in
theorem rkind_lx (R : List Rw) (vs : List Int) (n at_ W : Int) (C B V : List PV) (hC : C = cpv R) (hB : B = bpv R) (hV : V = ipv vs) (hn : n = R.length) (hR : R.length ≤ 1000) (hA : AOk R vs) (hW : W = 32 * n) : CallF (fun _ => Tryz.prog) 52 [.ptr 0 (.lit 0), .p (.int .i64 (.sym at_))] [(0, .mix [.ptr 1 (.lit 0), .sl 4 3 1 (.lit 0) (.sym W)]), (1, .mix [.sl 2 3 1 (.lit 0) (.sym n), .sl 3 120 8 (.lit 0) (.sym n)]), (2, .pure true C), (3, .pure true B), (4, .pure true V)] 5
    (fun r h n' => ∃ v : Int, r = .p (.int .i64 (.sym v)) ∧ h = [(0, .mix [.ptr 1 (.lit 0), .sl 4 3 1 (.lit 0) (.sym W)]), (1, .mix [.sl 2 3 1 (.lit 0) (.sym n), .sl 3 120 8 (.lit 0) (.sym n)]), (2, .pure true C), (3, .pure true B), (4, .pure true V)] ∧ n' = 5 ∧ KindR R vs at_ v) := by
  have hlen := hA.len
  refine callF_of_body tok Tryz.func52 (by kernel_rfl) rfl rfl rfl ?_; conv => cbv
  refine callF_frame (ris_lx R vs n at_ W C B V hC hB hV hn hR hA hW) [(0, 0), (1, 1), (2, 2), (3, 3), (4, 4)] rfl (by simp [hmapOk, nget, hget, renB, okB, renV, renVs, rn, okVs, okV]) rfl rfl (fun r h' n' hrr => ?_)
  obtain ⟨b, e1, e2, e3, hb⟩ := hrr
  subst e1 e2 e3
  cases b with
  | false =>
    have hno : ¬ IsObj R at_ := fun h => by cases hb.2 h
    conv => cbv
    refine RetF.mk [.p (.int .i64 (.sym 0))] [(0, .mix [.ptr 1 (.lit 0), .sl 4 3 1 (.lit 0) (.sym W)]), (1, .mix [.sl 2 3 1 (.lit 0) (.sym n), .sl 3 120 8 (.lit 0) (.sym n)]), (2, .pure true C), (3, .pure true B), (4, .pure true V)] 5 (Re.at [(0, 0), (1, 1), (2, 2), (3, 3), (4, 4)] []) rfl ⟨0, rfl, rfl, rfl, .no hno⟩
  | true =>
    have hobj := hb.1 rfl
    conv => cbv
    obtain ⟨k, l, hk⟩ := Kept.of hA hobj
    have hk' := hk
    have hb2 := hk.bounds hA
    obtain ⟨w, _, hx, q1, q2, q3, _⟩ := hk'
    have hc := ipv_get hx
    rw [← hV] at hc
    have hh := (hdr_of q1 q2 q3).1
    refine Need.mk ⟨hb2.1, by show at_ < W; omega⟩ ?_
    conv => cbv
    refine Cell.at at_ _ hc (by simp [I.val]) rfl ?_
    conv => cbv
    refine Sum.mk fun v hv => ?_
    have hv : v = k := (show v = Int.tmod (k + 16 * l) 16 from hv).trans hh
    have hK : KindR R vs at_ v := by rw [hv]; exact .is k l hk
    conv => cbv
    refine RetF.mk [.p (.int .i64 (.sym v))] [(0, .mix [.ptr 1 (.lit 0), .sl 4 3 1 (.lit 0) (.sym W)]), (1, .mix [.sl 2 3 1 (.lit 0) (.sym n), .sl 3 120 8 (.lit 0) (.sym n)]), (2, .pure true C), (3, .pure true B), (4, .pure true V)] 5 (Re.at [(0, 0), (1, 1), (2, 2), (3, 3), (4, 4)] []) rfl ⟨v, rfl, rfl, rfl, hK⟩
set_option maxHeartbeats 2000000 in
theorem rlen_lx (R : List Rw) (vs : List Int) (n at_ W : Int) (C B V : List PV) (hC : C = cpv R) (hB : B = bpv R) (hV : V = ipv vs) (hn : n = R.length) (hR : R.length ≤ 1000) (hA : AOk R vs) (hW : W = 32 * n) : CallF (fun _ => Tryz.prog) 53 [.ptr 0 (.lit 0), .p (.int .i64 (.sym at_))] [(0, .mix [.ptr 1 (.lit 0), .sl 4 3 1 (.lit 0) (.sym W)]), (1, .mix [.sl 2 3 1 (.lit 0) (.sym n), .sl 3 120 8 (.lit 0) (.sym n)]), (2, .pure true C), (3, .pure true B), (4, .pure true V)] 5
    (fun r h n' => ∃ v : Int, r = .p (.int .i64 (.sym v)) ∧ h = [(0, .mix [.ptr 1 (.lit 0), .sl 4 3 1 (.lit 0) (.sym W)]), (1, .mix [.sl 2 3 1 (.lit 0) (.sym n), .sl 3 120 8 (.lit 0) (.sym n)]), (2, .pure true C), (3, .pure true B), (4, .pure true V)] ∧ n' = 5 ∧ LenR R vs at_ v) := by
  have hlen := hA.len
  refine callF_of_body tok Tryz.func53 (by kernel_rfl) rfl rfl rfl ?_; conv => cbv
  refine callF_frame (ris_lx R vs n at_ W C B V hC hB hV hn hR hA hW) [(0, 0), (1, 1), (2, 2), (3, 3), (4, 4)] rfl (by simp [hmapOk, nget, hget, renB, okB, renV, renVs, rn, okVs, okV]) rfl rfl (fun r h' n' hrr => ?_)
  obtain ⟨b, e1, e2, e3, hb⟩ := hrr
  subst e1 e2 e3
  cases b with
  | false =>
    have hno : ¬ IsObj R at_ := fun h => by cases hb.2 h
    conv => cbv
    refine RetF.mk [.p (.int .i64 (.sym 0))] [(0, .mix [.ptr 1 (.lit 0), .sl 4 3 1 (.lit 0) (.sym W)]), (1, .mix [.sl 2 3 1 (.lit 0) (.sym n), .sl 3 120 8 (.lit 0) (.sym n)]), (2, .pure true C), (3, .pure true B), (4, .pure true V)] 5 (Re.at [(0, 0), (1, 1), (2, 2), (3, 3), (4, 4)] []) rfl ⟨0, rfl, rfl, rfl, .no hno⟩
  | true =>
    have hobj := hb.1 rfl
    conv => cbv
    obtain ⟨k, l, hk⟩ := Kept.of hA hobj
    have hk' := hk
    have hb2 := hk.bounds hA
    obtain ⟨w, _, hx, q1, q2, q3, _⟩ := hk'
    have hc := ipv_get hx
    rw [← hV] at hc
    have hh := (hdr_of q1 q2 q3).2
    refine Need.mk ⟨hb2.1, by show at_ < W; omega⟩ ?_
    conv => cbv
    refine Cell.at at_ _ hc (by simp [I.val]) rfl ?_
    conv => cbv
    refine Fit.mk (by show (-9223372036854775808 : Int) ≤ Int.tdiv (k + 16 * l) 16; omega) (by show Int.tdiv (k + 16 * l) 16 ≤ 9223372036854775807; omega) fun v hv => ?_
    have hv : v = l := (show v = Int.tdiv (k + 16 * l) 16 from hv).trans hh
    have hK : LenR R vs at_ v := by rw [hv]; exact .is k l hk
    conv => cbv
    refine RetF.mk [.p (.int .i64 (.sym v))] [(0, .mix [.ptr 1 (.lit 0), .sl 4 3 1 (.lit 0) (.sym W)]), (1, .mix [.sl 2 3 1 (.lit 0) (.sym n), .sl 3 120 8 (.lit 0) (.sym n)]), (2, .pure true C), (3, .pure true B), (4, .pure true V)] 5 (Re.at [(0, 0), (1, 1), (2, 2), (3, 3), (4, 4)] []) rfl ⟨v, rfl, rfl, rfl, hK⟩
set_option maxHeartbeats 2000000 in
theorem rload_lx (i : Int) (R : List Rw) (vs : List Int) (n at_ W : Int) (C B V : List PV) (hC : C = cpv R) (hB : B = bpv R) (hV : V = ipv vs) (hn : n = R.length) (hR : R.length ≤ 1000) (hA : AOk R vs) (hW : W = 32 * n) : CallF (fun _ => Tryz.prog) 54 [.ptr 0 (.lit 0), .p (.int .i64 (.sym at_)), .p (.int .i64 (.sym i))] [(0, .mix [.ptr 1 (.lit 0), .sl 4 3 1 (.lit 0) (.sym W)]), (1, .mix [.sl 2 3 1 (.lit 0) (.sym n), .sl 3 120 8 (.lit 0) (.sym n)]), (2, .pure true C), (3, .pure true B), (4, .pure true V)] 5
    (fun r h n' => ∃ x e : Int, r = .tup [.p (.int .i64 (.sym x)), .p (.int .i64 (.sym e))] ∧ h = [(0, .mix [.ptr 1 (.lit 0), .sl 4 3 1 (.lit 0) (.sym W)]), (1, .mix [.sl 2 3 1 (.lit 0) (.sym n), .sl 3 120 8 (.lit 0) (.sym n)]), (2, .pure true C), (3, .pure true B), (4, .pure true V)] ∧ n' = 5 ∧ Loaded R vs at_ i x e) := by
  have hlen := hA.len
  refine callF_of_body tok Tryz.func54 (by kernel_rfl) rfl rfl rfl ?_; conv => cbv
  refine callF_frame (ris_lx R vs n at_ W C B V hC hB hV hn hR hA hW) [(0, 0), (1, 1), (2, 2), (3, 3), (4, 4)] rfl (by simp [hmapOk, nget, hget, renB, okB, renV, renVs, rn, okVs, okV]) rfl rfl (fun r h' n' hrr => ?_)
  obtain ⟨b, e1, e2, e3, hb⟩ := hrr
  subst e1 e2 e3
  cases b with
  | false =>
    have hno : ¬ IsObj R at_ := fun h => by cases hb.2 h
    conv => cbv
    refine RetF.mk [.p (.int .i64 (.sym 0)), .p (.int .i64 (.sym 8))] [(0, .mix [.ptr 1 (.lit 0), .sl 4 3 1 (.lit 0) (.sym W)]), (1, .mix [.sl 2 3 1 (.lit 0) (.sym n), .sl 3 120 8 (.lit 0) (.sym n)]), (2, .pure true C), (3, .pure true B), (4, .pure true V)] 5 (Re.at [(0, 0), (1, 1), (2, 2), (3, 3), (4, 4)] []) rfl ⟨0, 8, rfl, rfl, rfl, .none hno⟩
  | true =>
    have hobj := hb.1 rfl
    conv => cbv
    obtain ⟨k, l, hk⟩ := Kept.of hA hobj
    have hb2 := hk.bounds hA
    refine Br.mk (fun g => ?_) (fun g => ?_)
    · have g : i < 0 := g
      conv => cbv
      refine RetF.mk [.p (.int .i64 (.sym 0)), .p (.int .i64 (.sym 1))] [(0, .mix [.ptr 1 (.lit 0), .sl 4 3 1 (.lit 0) (.sym W)]), (1, .mix [.sl 2 3 1 (.lit 0) (.sym n), .sl 3 120 8 (.lit 0) (.sym n)]), (2, .pure true C), (3, .pure true B), (4, .pure true V)] 5 (Re.at [(0, 0), (1, 1), (2, 2), (3, 3), (4, 4)] []) rfl ⟨0, 1, rfl, rfl, rfl, .arg k l hk (by omega)⟩
    have g : ¬ i < 0 := g
    conv => cbv
    refine callF_frame (rlen_lx R vs n at_ W C B V hC hB hV hn hR hA hW) [(0, 0), (1, 1), (2, 2), (3, 3), (4, 4)] rfl (by simp [hmapOk, nget, hget, renB, okB, renV, renVs, rn, okVs, okV]) rfl rfl (fun r h' n' hrr => ?_)
    obtain ⟨v, e1, e2, e3, hL⟩ := hrr
    subst e1 e2 e3
    conv => cbv
    have hvl : v = l := lenR_of6 hk hL
    refine Br.mk (fun g2 => ?_) (fun g2 => ?_)
    · have g2 : v ≤ i := g2
      conv => cbv
      refine RetF.mk [.p (.int .i64 (.sym 0)), .p (.int .i64 (.sym 1))] [(0, .mix [.ptr 1 (.lit 0), .sl 4 3 1 (.lit 0) (.sym W)]), (1, .mix [.sl 2 3 1 (.lit 0) (.sym n), .sl 3 120 8 (.lit 0) (.sym n)]), (2, .pure true C), (3, .pure true B), (4, .pure true V)] 5 (Re.at [(0, 0), (1, 1), (2, 2), (3, 3), (4, 4)] []) rfl ⟨0, 1, rfl, rfl, rfl, .arg k l hk (by omega)⟩
    have g2 : ¬ v ≤ i := g2
    obtain ⟨x, hx⟩ : ∃ x, vs[(at_ + 1 + i).toNat]? = some x := ⟨_, List.getElem?_eq_getElem (by omega)⟩
    have hc := ipv_get hx
    rw [← hV] at hc
    conv => cbv
    refine Fit.mk (by show (-9223372036854775808 : Int) ≤ at_ + 1; omega) (by show at_ + 1 ≤ 9223372036854775807; omega) fun a1 ha1 => ?_
    have ha1 : a1 = at_ + 1 := ha1
    conv => cbv
    refine Fit.mk (by show (-9223372036854775808 : Int) ≤ a1 + i; omega) (by show a1 + i ≤ 9223372036854775807; omega) fun a2 ha2 => ?_
    have ha2 : a2 = a1 + i := ha2
    have ha2 : a2 = at_ + 1 + i := by omega
    conv => cbv
    refine Need.mk ⟨by show 0 ≤ a2; omega, by show a2 < W; omega⟩ ?_
    conv => cbv
    refine Cell.at a2 _ hc (by simp [I.val]) (by omega) ?_
    conv => cbv
    refine RetF.mk [.p (.int .i64 (.sym x)), .p (.int .i64 (.sym 0))] [(0, .mix [.ptr 1 (.lit 0), .sl 4 3 1 (.lit 0) (.sym W)]), (1, .mix [.sl 2 3 1 (.lit 0) (.sym n), .sl 3 120 8 (.lit 0) (.sym n)]), (2, .pure true C), (3, .pure true B), (4, .pure true V)] 5 (Re.at [(0, 0), (1, 1), (2, 2), (3, 3), (4, 4)] []) rfl ⟨x, 0, rfl, rfl, rfl, .ok k l x hk (by omega) hx⟩
set_option maxHeartbeats 2000000 in
theorem rstore_lx (i x : Int) (R : List Rw) (vs : List Int) (n at_ W : Int) (C B V : List PV) (hC : C = cpv R) (hB : B = bpv R) (hV : V = ipv vs) (hn : n = R.length) (hR : R.length ≤ 1000) (hA : AOk R vs) (hW : W = 32 * n) : CallF (fun _ => Tryz.prog) 28 [.ptr 0 (.lit 0), .p (.int .i64 (.sym at_)), .p (.int .i64 (.sym i)), .p (.int .i64 (.sym x))] [(0, .mix [.ptr 1 (.lit 0), .sl 4 3 1 (.lit 0) (.sym W)]), (1, .mix [.sl 2 3 1 (.lit 0) (.sym n), .sl 3 120 8 (.lit 0) (.sym n)]), (2, .pure true C), (3, .pure true B), (4, .pure true V)] 5
    (fun r h n' => ∃ (e : Int) (vs' : List Int) (V' : List PV), r = .p (.int .i64 (.sym e)) ∧ h = [(0, .mix [.ptr 1 (.lit 0), .sl 4 3 1 (.lit 0) (.sym W)]), (1, .mix [.sl 2 3 1 (.lit 0) (.sym n), .sl 3 120 8 (.lit 0) (.sym n)]), (2, .pure true C), (3, .pure true B), (4, .pure true V')] ∧ n' = 5 ∧ V' = ipv vs' ∧ Stored R vs at_ i x e vs') := by
  have hlen := hA.len
  have hVl : V.length = vs.length := by rw [hV, ipv_length]
  refine callF_of_body tok Tryz.func28 (by kernel_rfl) rfl rfl rfl ?_; conv => cbv
  refine callF_frame (rload_lx i R vs n at_ W C B V hC hB hV hn hR hA hW) [(0, 0), (1, 1), (2, 2), (3, 3), (4, 4)] rfl (by simp [hmapOk, nget, hget, renB, okB, renV, renVs, rn, okVs, okV]) rfl rfl (fun r h' n' hrr => ?_)
  obtain ⟨y, e, e1, e2, e3, hLd⟩ := hrr
  subst e1 e2 e3
  cases hLd with
  | none hno =>
    conv => cbv
    refine Br.mk (fun g => ?_) (fun g => ?_)
    case refine_1 =>
      have gf : False := absurd g (by decide)
      cases gf
    conv => cbv
    refine RetF.mk [.p (.int .i64 (.sym 8))] [(0, .mix [.ptr 1 (.lit 0), .sl 4 3 1 (.lit 0) (.sym W)]), (1, .mix [.sl 2 3 1 (.lit 0) (.sym n), .sl 3 120 8 (.lit 0) (.sym n)]), (2, .pure true C), (3, .pure true B), (4, .pure true V)] 5 (Re.at [(0, 0), (1, 1), (2, 2), (3, 3), (4, 4)] []) rfl ⟨8, vs, V, rfl, rfl, rfl, hV, .none hno⟩
  | arg k l hk hi =>
    conv => cbv
    refine Br.mk (fun g => ?_) (fun g => ?_)
    case refine_1 =>
      have gf : False := absurd g (by decide)
      cases gf
    conv => cbv
    refine RetF.mk [.p (.int .i64 (.sym 1))] [(0, .mix [.ptr 1 (.lit 0), .sl 4 3 1 (.lit 0) (.sym W)]), (1, .mix [.sl 2 3 1 (.lit 0) (.sym n), .sl 3 120 8 (.lit 0) (.sym n)]), (2, .pure true C), (3, .pure true B), (4, .pure true V)] 5 (Re.at [(0, 0), (1, 1), (2, 2), (3, 3), (4, 4)] []) rfl ⟨1, vs, V, rfl, rfl, rfl, hV, .arg k l hk hi⟩
  | ok k l _ hk hi hx =>
    conv => cbv
    refine Br.mk (fun g => ?_) (fun g => ?_)
    case refine_2 =>
      have gf : False := g rfl
      cases gf
    conv => cbv
    have hb2 := hk.bounds hA
    refine Fit.mk (by show (-9223372036854775808 : Int) ≤ at_ + 1; omega) (by show at_ + 1 ≤ 9223372036854775807; omega) fun a1 ha1 => ?_
    have ha1 : a1 = at_ + 1 := ha1
    conv => cbv
    refine Fit.mk (by show (-9223372036854775808 : Int) ≤ a1 + i; omega) (by show a1 + i ≤ 9223372036854775807; omega) fun a2 ha2 => ?_
    have ha2 : a2 = a1 + i := ha2
    have ha2 : a2 = at_ + 1 + i := by omega
    conv => cbv
    refine Need.mk ⟨by show 0 ≤ a2; omega, by show a2 < W; omega⟩ ?_
    conv => cbv
    refine Need.mk (by show a2 + ((1 : Nat) : Int) ≤ (V.length : Int); omega) ?_
    conv => cbv
    refine Upd.mk fun V2 hV2 => ?_
    have hV2 : V2 = updL V a2.toNat [.int .i64 (.sym x)] := hV2
    have hV3 : V2 = ipv (vs.set (at_ + 1 + i).toNat x) := by rw [hV2, hV, updL_ipv, ha2]
    clear hV2
    conv => cbv
    refine RetF.mk [.p (.int .i64 (.sym 0))] [(0, .mix [.ptr 1 (.lit 0), .sl 4 3 1 (.lit 0) (.sym W)]), (1, .mix [.sl 2 3 1 (.lit 0) (.sym n), .sl 3 120 8 (.lit 0) (.sym n)]), (2, .pure true C), (3, .pure true B), (4, .pure true V2)] 5 (Re.at [(0, 0), (1, 1), (2, 2), (3, 3), (4, 4)] []) rfl ⟨0, _, V2, rfl, rfl, rfl, hV3, .ok k l hk hi⟩
end Go.Proofs.YtllafhhnciobhaaGreatDoor
