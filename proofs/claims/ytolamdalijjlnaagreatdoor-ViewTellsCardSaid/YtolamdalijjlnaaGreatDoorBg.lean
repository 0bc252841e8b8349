/-
  The ground of the proof, part 7: the calculus and what is proved with it.
-/
import Derived.Test.YtolamdalijjlnaaGreatDoorBf
import Derived.Test.YtolamdalijjlnaaGreatDoorBc
import Derived.Test.YtolamdalijjlnaaGreatDoorBe
import Derived.OpenShut
/-
  Layer 11 in the calculus: the reference's things put.
-/
namespace Go.Proofs.YtolamdalijjlnaaGreatDoor

open Go Go.LX
set_option maxRecDepth 100000
set_option linter.unusedVariables false
set_option linter.unusedSimpArgs false

theorem WR.two {kd ln : Int} {R : List Rw} {ws : List Int} {a e : Int} {Y : List Int} (h : WR kd ln R ws a e Y) : (e = 0 ∧ Kept R ws a kd ln ∧ Wrds R ws a Y ∧ Y.length = ln) ∨ (e = 10 ∧ Y = [] ∧ ¬ Kept R ws a kd ln) := by
  cases h with
  | ok _ h hX hl => exact .inl ⟨rfl, h, hX, hl⟩
  | no h => exact .inr ⟨rfl, rfl, h⟩
set_option maxHeartbeats 8000000 in
theorem rPutW1_lx (R : List Rw) (vs C G : List Int) (N W ph sp cy : Int) (P B V Q la : List PV) (m : Int) (ov : Bool) (h : RM R vs C G N W P B V Q la m) (a : Int) (X : List Int) (O : List PV) (hO : O = ipv X) (hXl : (X.length : Int) = 9) (hXb : ∀ x ∈ X, -9223372036854775808 ≤ x ∧ x ≤ 9223372036854775807) : CallF (fun _ => Tryz.prog) 100 [.ptr 0 (.lit 0), .p (.int .i64 (.sym a)), .p (.int .i64 (.lit 1)), .p (.vsl (.sym 9) true O)] [(0, .mix [.ptr 1 (.lit 0), .sl 6 3 1 (.lit 0) (.sym W), .ptr 7 (.lit 0), .p (.int .i64 (.sym ph)), .p (.int .i64 (.sym sp)), .p (.int .i64 (.sym cy))]), (1, .mix [.ptr 2 (.lit 0), .sl 5 3 1 (.lit 0) (.sym W)]), (2, .mix [.sl 3 3 1 (.lit 0) (.sym N), .sl 4 189 8 (.lit 0) (.sym N)]), (3, .pure true P), (4, .pure true B), (5, .pure true V), (6, .pure true Q), (7, .mix [.p (.vsl (.sym m) true la), .p (.bool ov)])] 8
    (fun r h n => ∃ (e : Int) (vs' C' G' : List Int) (ov' : Bool) (V' Q' la' : List PV) (m' : Int), r = .p (.int .i64 (.sym e)) ∧ h = [(0, .mix [.ptr 1 (.lit 0), .sl 6 3 1 (.lit 0) (.sym W), .ptr 7 (.lit 0), .p (.int .i64 (.sym ph)), .p (.int .i64 (.sym sp)), .p (.int .i64 (.sym cy))]), (1, .mix [.ptr 2 (.lit 0), .sl 5 3 1 (.lit 0) (.sym W)]), (2, .mix [.sl 3 3 1 (.lit 0) (.sym N), .sl 4 189 8 (.lit 0) (.sym N)]), (3, .pure true P), (4, .pure true B), (5, .pure true V'), (6, .pure true Q'), (7, .mix [.p (.vsl (.sym m') true la'), .p (.bool ov')])] ∧ n = 8 ∧ RM R vs' C' G' N W P B V' Q' la' m' ∧ PT 1 9 X R ph a (vs, C, G, ov) e (vs', C', G', ov')) := by
  refine callF_of_body tok Tryz.func100 (by kernel_rfl) rfl rfl rfl ?_; conv => cbv
  refine callF_frame (rWords1_lx R vs C G N W ph sp cy P B V Q la m ov h a) [(0, 0), (1, 1), (2, 2), (3, 3), (4, 4), (5, 5), (6, 6), (7, 7)] rfl (by simp [hmapOk, nget, hget, renB, okB, renV, renVs, rn, okVs, okV]) rfl rfl (fun r h' n' hrr => ?_)
  obtain ⟨⟨Y, y, e, OY, e1, hOY, hy, hW⟩, e2, e3⟩ := hrr
  subst e1 e2 e3
  conv => cbv
  rcases hW.two with ⟨he, hK, hY, hYl⟩ | ⟨he, hYn, hK⟩
  case inr =>
    have hy0 : y = 0 := by rw [hy, hYn]; rfl
    refine LoopF.rounds 1 ?_
    conv => cbv
    refine Br.no (show ¬ (0 < y) by omega) ?_
    conv => cbv
    refine RetF.mk [.p (.int .i64 (.sym e))] [(0, .mix [.ptr 1 (.lit 0), .sl 6 3 1 (.lit 0) (.sym W), .ptr 7 (.lit 0), .p (.int .i64 (.sym ph)), .p (.int .i64 (.sym sp)), .p (.int .i64 (.sym cy))]), (1, .mix [.ptr 2 (.lit 0), .sl 5 3 1 (.lit 0) (.sym W)]), (2, .mix [.sl 3 3 1 (.lit 0) (.sym N), .sl 4 189 8 (.lit 0) (.sym N)]), (3, .pure true P), (4, .pure true B), (5, .pure true V), (6, .pure true Q), (7, .mix [.p (.vsl (.sym m) true la), .p (.bool ov)])] 8 (Re.at [(0, 0), (1, 1), (2, 2), (3, 3), (4, 4), (5, 5), (6, 6), (7, 7)] []) rfl ⟨e, vs, C, G, ov, V, Q, la, m, rfl, rfl, rfl, h, by rw [he]; exact .no hK⟩
  case inl =>
  have hyl : y = 9 := by omega
  have hb := hK.bounds h.a
  clear hW
  obtain ⟨E, hE⟩ : ∃ E, E = putS R ph a 0 X (vs, C, G, ov) := ⟨_, rfl⟩
  refine LoopF.mk (fun kk s => ∃ (i e : Int) (vs1 C1 G1 : List Int) (ov1 : Bool) (V1 Q1 la1 : List PV) (m1 : Int), s = ⟨.ptr 0 (.lit 0) :: .p (.int .i64 (.sym a)) :: .undef :: .p (.vsl (.sym 9) true O) :: (undefs 5 ++ .p (.vsl (.sym y) true OY) :: .p (.int .i64 (.sym e)) :: .p (.int .i64 (.sym i)) :: undefs 35), [(0, .mix [.ptr 1 (.lit 0), .sl 6 3 1 (.lit 0) (.sym W), .ptr 7 (.lit 0), .p (.int .i64 (.sym ph)), .p (.int .i64 (.sym sp)), .p (.int .i64 (.sym cy))]), (1, .mix [.ptr 2 (.lit 0), .sl 5 3 1 (.lit 0) (.sym W)]), (2, .mix [.sl 3 3 1 (.lit 0) (.sym N), .sl 4 189 8 (.lit 0) (.sym N)]), (3, .pure true P), (4, .pure true B), (5, .pure true V1), (6, .pure true Q1), (7, .mix [.p (.vsl (.sym m1) true la1), .p (.bool ov1)])], 8⟩ ∧ 0 ≤ i ∧ i ≤ 9 ∧ kk = (9 - i).toNat ∧ e = 0 ∧ RM R vs1 C1 G1 N W P B V1 Q1 la1 m1 ∧ Kept R vs1 a 1 9 ∧ (∀ j, i ≤ j → j < 9 → vs1[(a + 1 + j).toNat]? = vs[(a + 1 + j).toNat]?) ∧ E = putS R ph a i.toNat (X.drop i.toNat) (vs1, C1, G1, ov1)) 9 _
    (Re.at [(0, 0), (1, 1), (2, 2), (3, 3), (4, 4), (5, 5), (6, 6), (7, 7)] []) ⟨0, e, vs, C, G, ov, V, Q, la, m, rfl, by omega, by omega, by omega, he, h, hK, fun _ _ _ => rfl, hE⟩ ?_
  clear he
  rintro kk s ⟨i, e, vs1, C1, G1, ov1, V1, Q1, la1, m1, rfl, hi0, hi1, hkk, he, h1, hK1, hsm, hE1⟩
  have hb1 := hK1.bounds h1.a
  have hlen1 := h1.a.len
  conv => cbv
  refine Br.mk (fun gi => ?_) (fun gi => ?_)
  · have gi : i < 9 := by have : i < y := gi; omega
    obtain ⟨w, hw⟩ : ∃ w, X[i.toNat]? = some w := ⟨_, List.getElem?_eq_getElem (by omega)⟩
    have hOw : O[i.toNat]? = some (.int .i64 (.sym w)) := by rw [hO, ipv_getx, hw]; rfl
    have hwb := hXb w (List.mem_of_getElem? hw)
    obtain ⟨x, hx⟩ : ∃ x, Y[i.toNat]? = some x := ⟨_, List.getElem?_eq_getElem (by omega)⟩
    have hOx : OY[i.toNat]? = some (.int .i64 (.sym x)) := by rw [hOY, ipv_getx, hx]; rfl
    have hld := hY.2 _ _ hx
    rw [show ((i.toNat : Nat) : Int) = i by omega] at hld
    have hxw : vs1[(a + 1 + i).toNat]? = some x := by rw [hsm i (Int.le_refl _) gi]; exact (loaded_of hK ⟨hi0, gi⟩ hld).2
    have hdr : X.drop i.toNat = w :: X.drop (i.toNat + 1) := by rw [List.drop_eq_getElem_cons (by omega)]; rw [List.getElem?_eq_getElem (by omega)] at hw; rw [Option.some.inj hw]
    rw [hdr, putS] at hE1
    dsimp only at hE1
    rw [show a + 1 + ((i.toNat : Nat) : Int) = a + 1 + i by omega, hxw] at hE1
    conv => cbv
    refine Br.yes (show e = 0 from he) ?_
    conv => cbv
    refine drawn_sound tok (by kernel_rfl) [] [0, 1, 2, 3, 4, 5, 6, 7, 8] (by kernel_rfl) ?_; conv => cbv
    refine Need.mk (show 0 ≤ i ∧ i < y by omega) ?_
    conv => cbv
    refine Cell.at i _ hOx (by simp [I.val]) rfl ?_
    conv => cbv
    refine Need.mk (show 0 ≤ i ∧ i < 9 by omega) ?_
    conv => cbv
    refine Cell.at i _ hOw (by simp [I.val]) rfl ?_
    conv => cbv
    refine Br.mk (fun gx => ?_) (fun gx => ?_)
    · have gx : ¬ x = w := gx
      rw [if_neg (fun q => gx (Option.some.inj q))] at hE1
      conv => cbv
      refine Need.mk (show 0 ≤ i ∧ i < 9 by omega) ?_
      conv => cbv
      refine Cell.at i _ hOw (by simp [I.val]) rfl ?_
      conv => cbv
      refine callF_frame (rstore9_lx R vs1 C1 G1 N W ph sp cy P B V1 Q1 la1 m1 ov1 h1 a i w hwb) [(0, 0), (1, 1), (2, 2), (3, 3), (4, 4), (5, 5), (6, 6), (7, 7)] rfl (by simp [hmapOk, nget, hget, renB, okB, renV, renVs, rn, okVs, okV]) rfl rfl (fun r h' n' hrr => ?_)
      obtain ⟨f, vs2, C2, G2, ov2, V2, Q2, la2, m2, e1, e2, e3, h2, hS, hC⟩ := hrr
      subst e1 e2 e3
      have hK2 := (stored_to h1.a hS).1 a 1 9 hK1
      obtain ⟨hf, hw2⟩ := stored_of hK1 ⟨hi0, gi⟩ hS
      have hC : (C2, G2, ov2) = shadeW R ph w (C1, G1, ov1) := by rw [hC, storeS, if_pos hf]
      rw [← hC, ← hw2] at hE1
      clear hS hC h1 hK1
      conv => cbv
      refine Fit.mk (by show (-9223372036854775808 : Int) ≤ i + 1; omega) (by show i + 1 ≤ 9223372036854775807; omega) fun i2 hi2 => ?_
      have hi2 : i2 = i + 1 := hi2
      have htn : i2.toNat = i.toNat + 1 := by omega
      rw [← htn] at hE1
      conv => cbv
      refine Again.mk (9 - i2).toNat _ (by omega) (Re.at [(0, 0), (1, 1), (2, 2), (3, 3), (4, 4), (5, 5), (6, 6), (7, 7)] []) ⟨i2, f, vs2, C2, G2, ov2, V2, Q2, la2, m2, rfl, by omega, by omega, rfl, hf, h2, hK2, fun j hj0 hj1 => ?_, hE1⟩
      rw [hw2, List.getElem?_set_ne (by omega)]
      exact hsm j (by omega) hj1
    · have gx : x = w := Classical.byContradiction fun q => gx q
      rw [if_pos (by rw [gx])] at hE1
      conv => cbv
      refine Fit.mk (by show (-9223372036854775808 : Int) ≤ i + 1; omega) (by show i + 1 ≤ 9223372036854775807; omega) fun i2 hi2 => ?_
      have hi2 : i2 = i + 1 := hi2
      have htn : i2.toNat = i.toNat + 1 := by omega
      rw [← htn] at hE1
      conv => cbv
      refine Again.mk (9 - i2).toNat _ (by omega) (Re.at [(0, 0), (1, 1), (2, 2), (3, 3), (4, 4), (5, 5), (6, 6), (7, 7)] []) ⟨i2, e, vs1, C1, G1, ov1, V1, Q1, la1, m1, rfl, by omega, by omega, rfl, he, h1, hK1, fun j hj0 hj1 => hsm j (by omega) hj1, hE1⟩
  · have gi : ¬ i < 9 := by have : ¬ i < y := gi; omega
    have hdr : X.drop i.toNat = [] := List.drop_eq_nil_of_le (by omega)
    rw [hdr, putS] at hE1
    conv => cbv
    refine RetF.mk [.p (.int .i64 (.sym e))] [(0, .mix [.ptr 1 (.lit 0), .sl 6 3 1 (.lit 0) (.sym W), .ptr 7 (.lit 0), .p (.int .i64 (.sym ph)), .p (.int .i64 (.sym sp)), .p (.int .i64 (.sym cy))]), (1, .mix [.ptr 2 (.lit 0), .sl 5 3 1 (.lit 0) (.sym W)]), (2, .mix [.sl 3 3 1 (.lit 0) (.sym N), .sl 4 189 8 (.lit 0) (.sym N)]), (3, .pure true P), (4, .pure true B), (5, .pure true V1), (6, .pure true Q1), (7, .mix [.p (.vsl (.sym m1) true la1), .p (.bool ov1)])] 8 (Re.at [(0, 0), (1, 1), (2, 2), (3, 3), (4, 4), (5, 5), (6, 6), (7, 7)] []) rfl ⟨e, vs1, C1, G1, ov1, V1, Q1, la1, m1, rfl, rfl, rfl, h1, by rw [he, ← hE1, hE]; exact .ok hK⟩
set_option maxHeartbeats 8000000 in
theorem rPutW3_lx (R : List Rw) (vs C G : List Int) (N W ph sp cy : Int) (P B V Q la : List PV) (m : Int) (ov : Bool) (h : RM R vs C G N W P B V Q la m) (a : Int) (X : List Int) (O : List PV) (hO : O = ipv X) (hXl : (X.length : Int) = 7) (hXb : ∀ x ∈ X, -9223372036854775808 ≤ x ∧ x ≤ 9223372036854775807) : CallF (fun _ => Tryz.prog) 100 [.ptr 0 (.lit 0), .p (.int .i64 (.sym a)), .p (.int .i64 (.lit 3)), .p (.vsl (.sym 7) true O)] [(0, .mix [.ptr 1 (.lit 0), .sl 6 3 1 (.lit 0) (.sym W), .ptr 7 (.lit 0), .p (.int .i64 (.sym ph)), .p (.int .i64 (.sym sp)), .p (.int .i64 (.sym cy))]), (1, .mix [.ptr 2 (.lit 0), .sl 5 3 1 (.lit 0) (.sym W)]), (2, .mix [.sl 3 3 1 (.lit 0) (.sym N), .sl 4 189 8 (.lit 0) (.sym N)]), (3, .pure true P), (4, .pure true B), (5, .pure true V), (6, .pure true Q), (7, .mix [.p (.vsl (.sym m) true la), .p (.bool ov)])] 8
    (fun r h n => ∃ (e : Int) (vs' C' G' : List Int) (ov' : Bool) (V' Q' la' : List PV) (m' : Int), r = .p (.int .i64 (.sym e)) ∧ h = [(0, .mix [.ptr 1 (.lit 0), .sl 6 3 1 (.lit 0) (.sym W), .ptr 7 (.lit 0), .p (.int .i64 (.sym ph)), .p (.int .i64 (.sym sp)), .p (.int .i64 (.sym cy))]), (1, .mix [.ptr 2 (.lit 0), .sl 5 3 1 (.lit 0) (.sym W)]), (2, .mix [.sl 3 3 1 (.lit 0) (.sym N), .sl 4 189 8 (.lit 0) (.sym N)]), (3, .pure true P), (4, .pure true B), (5, .pure true V'), (6, .pure true Q'), (7, .mix [.p (.vsl (.sym m') true la'), .p (.bool ov')])] ∧ n = 8 ∧ RM R vs' C' G' N W P B V' Q' la' m' ∧ PT 3 7 X R ph a (vs, C, G, ov) e (vs', C', G', ov')) := by
  refine callF_of_body tok Tryz.func100 (by kernel_rfl) rfl rfl rfl ?_; conv => cbv
  refine callF_frame (rWords3_lx R vs C G N W ph sp cy P B V Q la m ov h a) [(0, 0), (1, 1), (2, 2), (3, 3), (4, 4), (5, 5), (6, 6), (7, 7)] rfl (by simp [hmapOk, nget, hget, renB, okB, renV, renVs, rn, okVs, okV]) rfl rfl (fun r h' n' hrr => ?_)
  obtain ⟨⟨Y, y, e, OY, e1, hOY, hy, hW⟩, e2, e3⟩ := hrr
  subst e1 e2 e3
  conv => cbv
  rcases hW.two with ⟨he, hK, hY, hYl⟩ | ⟨he, hYn, hK⟩
  case inr =>
    have hy0 : y = 0 := by rw [hy, hYn]; rfl
    refine LoopF.rounds 1 ?_
    conv => cbv
    refine Br.no (show ¬ (0 < y) by omega) ?_
    conv => cbv
    refine RetF.mk [.p (.int .i64 (.sym e))] [(0, .mix [.ptr 1 (.lit 0), .sl 6 3 1 (.lit 0) (.sym W), .ptr 7 (.lit 0), .p (.int .i64 (.sym ph)), .p (.int .i64 (.sym sp)), .p (.int .i64 (.sym cy))]), (1, .mix [.ptr 2 (.lit 0), .sl 5 3 1 (.lit 0) (.sym W)]), (2, .mix [.sl 3 3 1 (.lit 0) (.sym N), .sl 4 189 8 (.lit 0) (.sym N)]), (3, .pure true P), (4, .pure true B), (5, .pure true V), (6, .pure true Q), (7, .mix [.p (.vsl (.sym m) true la), .p (.bool ov)])] 8 (Re.at [(0, 0), (1, 1), (2, 2), (3, 3), (4, 4), (5, 5), (6, 6), (7, 7)] []) rfl ⟨e, vs, C, G, ov, V, Q, la, m, rfl, rfl, rfl, h, by rw [he]; exact .no hK⟩
  case inl =>
  have hyl : y = 7 := by omega
  have hb := hK.bounds h.a
  clear hW
  obtain ⟨E, hE⟩ : ∃ E, E = putS R ph a 0 X (vs, C, G, ov) := ⟨_, rfl⟩
  refine LoopF.mk (fun kk s => ∃ (i e : Int) (vs1 C1 G1 : List Int) (ov1 : Bool) (V1 Q1 la1 : List PV) (m1 : Int), s = ⟨.ptr 0 (.lit 0) :: .p (.int .i64 (.sym a)) :: .undef :: .p (.vsl (.sym 7) true O) :: (undefs 5 ++ .p (.vsl (.sym y) true OY) :: .p (.int .i64 (.sym e)) :: .p (.int .i64 (.sym i)) :: undefs 35), [(0, .mix [.ptr 1 (.lit 0), .sl 6 3 1 (.lit 0) (.sym W), .ptr 7 (.lit 0), .p (.int .i64 (.sym ph)), .p (.int .i64 (.sym sp)), .p (.int .i64 (.sym cy))]), (1, .mix [.ptr 2 (.lit 0), .sl 5 3 1 (.lit 0) (.sym W)]), (2, .mix [.sl 3 3 1 (.lit 0) (.sym N), .sl 4 189 8 (.lit 0) (.sym N)]), (3, .pure true P), (4, .pure true B), (5, .pure true V1), (6, .pure true Q1), (7, .mix [.p (.vsl (.sym m1) true la1), .p (.bool ov1)])], 8⟩ ∧ 0 ≤ i ∧ i ≤ 7 ∧ kk = (7 - i).toNat ∧ e = 0 ∧ RM R vs1 C1 G1 N W P B V1 Q1 la1 m1 ∧ Kept R vs1 a 3 7 ∧ (∀ j, i ≤ j → j < 7 → vs1[(a + 1 + j).toNat]? = vs[(a + 1 + j).toNat]?) ∧ E = putS R ph a i.toNat (X.drop i.toNat) (vs1, C1, G1, ov1)) 7 _
    (Re.at [(0, 0), (1, 1), (2, 2), (3, 3), (4, 4), (5, 5), (6, 6), (7, 7)] []) ⟨0, e, vs, C, G, ov, V, Q, la, m, rfl, by omega, by omega, by omega, he, h, hK, fun _ _ _ => rfl, hE⟩ ?_
  clear he
  rintro kk s ⟨i, e, vs1, C1, G1, ov1, V1, Q1, la1, m1, rfl, hi0, hi1, hkk, he, h1, hK1, hsm, hE1⟩
  have hb1 := hK1.bounds h1.a
  have hlen1 := h1.a.len
  conv => cbv
  refine Br.mk (fun gi => ?_) (fun gi => ?_)
  · have gi : i < 7 := by have : i < y := gi; omega
    obtain ⟨w, hw⟩ : ∃ w, X[i.toNat]? = some w := ⟨_, List.getElem?_eq_getElem (by omega)⟩
    have hOw : O[i.toNat]? = some (.int .i64 (.sym w)) := by rw [hO, ipv_getx, hw]; rfl
    have hwb := hXb w (List.mem_of_getElem? hw)
    obtain ⟨x, hx⟩ : ∃ x, Y[i.toNat]? = some x := ⟨_, List.getElem?_eq_getElem (by omega)⟩
    have hOx : OY[i.toNat]? = some (.int .i64 (.sym x)) := by rw [hOY, ipv_getx, hx]; rfl
    have hld := hY.2 _ _ hx
    rw [show ((i.toNat : Nat) : Int) = i by omega] at hld
    have hxw : vs1[(a + 1 + i).toNat]? = some x := by rw [hsm i (Int.le_refl _) gi]; exact (loaded_of hK ⟨hi0, gi⟩ hld).2
    have hdr : X.drop i.toNat = w :: X.drop (i.toNat + 1) := by rw [List.drop_eq_getElem_cons (by omega)]; rw [List.getElem?_eq_getElem (by omega)] at hw; rw [Option.some.inj hw]
    rw [hdr, putS] at hE1
    dsimp only at hE1
    rw [show a + 1 + ((i.toNat : Nat) : Int) = a + 1 + i by omega, hxw] at hE1
    conv => cbv
    refine Br.yes (show e = 0 from he) ?_
    conv => cbv
    refine drawn_sound tok (by kernel_rfl) [] [0, 1, 2, 3, 4, 5, 6, 7, 8] (by kernel_rfl) ?_; conv => cbv
    refine Need.mk (show 0 ≤ i ∧ i < y by omega) ?_
    conv => cbv
    refine Cell.at i _ hOx (by simp [I.val]) rfl ?_
    conv => cbv
    refine Need.mk (show 0 ≤ i ∧ i < 7 by omega) ?_
    conv => cbv
    refine Cell.at i _ hOw (by simp [I.val]) rfl ?_
    conv => cbv
    refine Br.mk (fun gx => ?_) (fun gx => ?_)
    · have gx : ¬ x = w := gx
      rw [if_neg (fun q => gx (Option.some.inj q))] at hE1
      conv => cbv
      refine Need.mk (show 0 ≤ i ∧ i < 7 by omega) ?_
      conv => cbv
      refine Cell.at i _ hOw (by simp [I.val]) rfl ?_
      conv => cbv
      refine callF_frame (rstore9_lx R vs1 C1 G1 N W ph sp cy P B V1 Q1 la1 m1 ov1 h1 a i w hwb) [(0, 0), (1, 1), (2, 2), (3, 3), (4, 4), (5, 5), (6, 6), (7, 7)] rfl (by simp [hmapOk, nget, hget, renB, okB, renV, renVs, rn, okVs, okV]) rfl rfl (fun r h' n' hrr => ?_)
      obtain ⟨f, vs2, C2, G2, ov2, V2, Q2, la2, m2, e1, e2, e3, h2, hS, hC⟩ := hrr
      subst e1 e2 e3
      have hK2 := (stored_to h1.a hS).1 a 3 7 hK1
      obtain ⟨hf, hw2⟩ := stored_of hK1 ⟨hi0, gi⟩ hS
      have hC : (C2, G2, ov2) = shadeW R ph w (C1, G1, ov1) := by rw [hC, storeS, if_pos hf]
      rw [← hC, ← hw2] at hE1
      clear hS hC h1 hK1
      conv => cbv
      refine Fit.mk (by show (-9223372036854775808 : Int) ≤ i + 1; omega) (by show i + 1 ≤ 9223372036854775807; omega) fun i2 hi2 => ?_
      have hi2 : i2 = i + 1 := hi2
      have htn : i2.toNat = i.toNat + 1 := by omega
      rw [← htn] at hE1
      conv => cbv
      refine Again.mk (7 - i2).toNat _ (by omega) (Re.at [(0, 0), (1, 1), (2, 2), (3, 3), (4, 4), (5, 5), (6, 6), (7, 7)] []) ⟨i2, f, vs2, C2, G2, ov2, V2, Q2, la2, m2, rfl, by omega, by omega, rfl, hf, h2, hK2, fun j hj0 hj1 => ?_, hE1⟩
      rw [hw2, List.getElem?_set_ne (by omega)]
      exact hsm j (by omega) hj1
    · have gx : x = w := Classical.byContradiction fun q => gx q
      rw [if_pos (by rw [gx])] at hE1
      conv => cbv
      refine Fit.mk (by show (-9223372036854775808 : Int) ≤ i + 1; omega) (by show i + 1 ≤ 9223372036854775807; omega) fun i2 hi2 => ?_
      have hi2 : i2 = i + 1 := hi2
      have htn : i2.toNat = i.toNat + 1 := by omega
      rw [← htn] at hE1
      conv => cbv
      refine Again.mk (7 - i2).toNat _ (by omega) (Re.at [(0, 0), (1, 1), (2, 2), (3, 3), (4, 4), (5, 5), (6, 6), (7, 7)] []) ⟨i2, e, vs1, C1, G1, ov1, V1, Q1, la1, m1, rfl, by omega, by omega, rfl, he, h1, hK1, fun j hj0 hj1 => hsm j (by omega) hj1, hE1⟩
  · have gi : ¬ i < 7 := by have : ¬ i < y := gi; omega
    have hdr : X.drop i.toNat = [] := List.drop_eq_nil_of_le (by omega)
    rw [hdr, putS] at hE1
    conv => cbv
    refine RetF.mk [.p (.int .i64 (.sym e))] [(0, .mix [.ptr 1 (.lit 0), .sl 6 3 1 (.lit 0) (.sym W), .ptr 7 (.lit 0), .p (.int .i64 (.sym ph)), .p (.int .i64 (.sym sp)), .p (.int .i64 (.sym cy))]), (1, .mix [.ptr 2 (.lit 0), .sl 5 3 1 (.lit 0) (.sym W)]), (2, .mix [.sl 3 3 1 (.lit 0) (.sym N), .sl 4 189 8 (.lit 0) (.sym N)]), (3, .pure true P), (4, .pure true B), (5, .pure true V1), (6, .pure true Q1), (7, .mix [.p (.vsl (.sym m1) true la1), .p (.bool ov1)])] 8 (Re.at [(0, 0), (1, 1), (2, 2), (3, 3), (4, 4), (5, 5), (6, 6), (7, 7)] []) rfl ⟨e, vs1, C1, G1, ov1, V1, Q1, la1, m1, rfl, rfl, rfl, h1, by rw [he, ← hE1, hE]; exact .ok hK⟩
set_option maxHeartbeats 8000000 in
theorem rPutW4_lx (R : List Rw) (vs C G : List Int) (N W ph sp cy : Int) (P B V Q la : List PV) (m : Int) (ov : Bool) (h : RM R vs C G N W P B V Q la m) (a : Int) (X : List Int) (O : List PV) (hO : O = ipv X) (hXl : (X.length : Int) = 10) (hXb : ∀ x ∈ X, -9223372036854775808 ≤ x ∧ x ≤ 9223372036854775807) : CallF (fun _ => Tryz.prog) 100 [.ptr 0 (.lit 0), .p (.int .i64 (.sym a)), .p (.int .i64 (.lit 4)), .p (.vsl (.sym 10) true O)] [(0, .mix [.ptr 1 (.lit 0), .sl 6 3 1 (.lit 0) (.sym W), .ptr 7 (.lit 0), .p (.int .i64 (.sym ph)), .p (.int .i64 (.sym sp)), .p (.int .i64 (.sym cy))]), (1, .mix [.ptr 2 (.lit 0), .sl 5 3 1 (.lit 0) (.sym W)]), (2, .mix [.sl 3 3 1 (.lit 0) (.sym N), .sl 4 189 8 (.lit 0) (.sym N)]), (3, .pure true P), (4, .pure true B), (5, .pure true V), (6, .pure true Q), (7, .mix [.p (.vsl (.sym m) true la), .p (.bool ov)])] 8
    (fun r h n => ∃ (e : Int) (vs' C' G' : List Int) (ov' : Bool) (V' Q' la' : List PV) (m' : Int), r = .p (.int .i64 (.sym e)) ∧ h = [(0, .mix [.ptr 1 (.lit 0), .sl 6 3 1 (.lit 0) (.sym W), .ptr 7 (.lit 0), .p (.int .i64 (.sym ph)), .p (.int .i64 (.sym sp)), .p (.int .i64 (.sym cy))]), (1, .mix [.ptr 2 (.lit 0), .sl 5 3 1 (.lit 0) (.sym W)]), (2, .mix [.sl 3 3 1 (.lit 0) (.sym N), .sl 4 189 8 (.lit 0) (.sym N)]), (3, .pure true P), (4, .pure true B), (5, .pure true V'), (6, .pure true Q'), (7, .mix [.p (.vsl (.sym m') true la'), .p (.bool ov')])] ∧ n = 8 ∧ RM R vs' C' G' N W P B V' Q' la' m' ∧ PT 4 10 X R ph a (vs, C, G, ov) e (vs', C', G', ov')) := by
  refine callF_of_body tok Tryz.func100 (by kernel_rfl) rfl rfl rfl ?_; conv => cbv
  refine callF_frame (rWords4_lx R vs C G N W ph sp cy P B V Q la m ov h a) [(0, 0), (1, 1), (2, 2), (3, 3), (4, 4), (5, 5), (6, 6), (7, 7)] rfl (by simp [hmapOk, nget, hget, renB, okB, renV, renVs, rn, okVs, okV]) rfl rfl (fun r h' n' hrr => ?_)
  obtain ⟨⟨Y, y, e, OY, e1, hOY, hy, hW⟩, e2, e3⟩ := hrr
  subst e1 e2 e3
  conv => cbv
  rcases hW.two with ⟨he, hK, hY, hYl⟩ | ⟨he, hYn, hK⟩
  case inr =>
    have hy0 : y = 0 := by rw [hy, hYn]; rfl
    refine LoopF.rounds 1 ?_
    conv => cbv
    refine Br.no (show ¬ (0 < y) by omega) ?_
    conv => cbv
    refine RetF.mk [.p (.int .i64 (.sym e))] [(0, .mix [.ptr 1 (.lit 0), .sl 6 3 1 (.lit 0) (.sym W), .ptr 7 (.lit 0), .p (.int .i64 (.sym ph)), .p (.int .i64 (.sym sp)), .p (.int .i64 (.sym cy))]), (1, .mix [.ptr 2 (.lit 0), .sl 5 3 1 (.lit 0) (.sym W)]), (2, .mix [.sl 3 3 1 (.lit 0) (.sym N), .sl 4 189 8 (.lit 0) (.sym N)]), (3, .pure true P), (4, .pure true B), (5, .pure true V), (6, .pure true Q), (7, .mix [.p (.vsl (.sym m) true la), .p (.bool ov)])] 8 (Re.at [(0, 0), (1, 1), (2, 2), (3, 3), (4, 4), (5, 5), (6, 6), (7, 7)] []) rfl ⟨e, vs, C, G, ov, V, Q, la, m, rfl, rfl, rfl, h, by rw [he]; exact .no hK⟩
  case inl =>
  have hyl : y = 10 := by omega
  have hb := hK.bounds h.a
  clear hW
  obtain ⟨E, hE⟩ : ∃ E, E = putS R ph a 0 X (vs, C, G, ov) := ⟨_, rfl⟩
  refine LoopF.mk (fun kk s => ∃ (i e : Int) (vs1 C1 G1 : List Int) (ov1 : Bool) (V1 Q1 la1 : List PV) (m1 : Int), s = ⟨.ptr 0 (.lit 0) :: .p (.int .i64 (.sym a)) :: .undef :: .p (.vsl (.sym 10) true O) :: (undefs 5 ++ .p (.vsl (.sym y) true OY) :: .p (.int .i64 (.sym e)) :: .p (.int .i64 (.sym i)) :: undefs 35), [(0, .mix [.ptr 1 (.lit 0), .sl 6 3 1 (.lit 0) (.sym W), .ptr 7 (.lit 0), .p (.int .i64 (.sym ph)), .p (.int .i64 (.sym sp)), .p (.int .i64 (.sym cy))]), (1, .mix [.ptr 2 (.lit 0), .sl 5 3 1 (.lit 0) (.sym W)]), (2, .mix [.sl 3 3 1 (.lit 0) (.sym N), .sl 4 189 8 (.lit 0) (.sym N)]), (3, .pure true P), (4, .pure true B), (5, .pure true V1), (6, .pure true Q1), (7, .mix [.p (.vsl (.sym m1) true la1), .p (.bool ov1)])], 8⟩ ∧ 0 ≤ i ∧ i ≤ 10 ∧ kk = (10 - i).toNat ∧ e = 0 ∧ RM R vs1 C1 G1 N W P B V1 Q1 la1 m1 ∧ Kept R vs1 a 4 10 ∧ (∀ j, i ≤ j → j < 10 → vs1[(a + 1 + j).toNat]? = vs[(a + 1 + j).toNat]?) ∧ E = putS R ph a i.toNat (X.drop i.toNat) (vs1, C1, G1, ov1)) 10 _
    (Re.at [(0, 0), (1, 1), (2, 2), (3, 3), (4, 4), (5, 5), (6, 6), (7, 7)] []) ⟨0, e, vs, C, G, ov, V, Q, la, m, rfl, by omega, by omega, by omega, he, h, hK, fun _ _ _ => rfl, hE⟩ ?_
  clear he
  rintro kk s ⟨i, e, vs1, C1, G1, ov1, V1, Q1, la1, m1, rfl, hi0, hi1, hkk, he, h1, hK1, hsm, hE1⟩
  have hb1 := hK1.bounds h1.a
  have hlen1 := h1.a.len
  conv => cbv
  refine Br.mk (fun gi => ?_) (fun gi => ?_)
  · have gi : i < 10 := by have : i < y := gi; omega
    obtain ⟨w, hw⟩ : ∃ w, X[i.toNat]? = some w := ⟨_, List.getElem?_eq_getElem (by omega)⟩
    have hOw : O[i.toNat]? = some (.int .i64 (.sym w)) := by rw [hO, ipv_getx, hw]; rfl
    have hwb := hXb w (List.mem_of_getElem? hw)
    obtain ⟨x, hx⟩ : ∃ x, Y[i.toNat]? = some x := ⟨_, List.getElem?_eq_getElem (by omega)⟩
    have hOx : OY[i.toNat]? = some (.int .i64 (.sym x)) := by rw [hOY, ipv_getx, hx]; rfl
    have hld := hY.2 _ _ hx
    rw [show ((i.toNat : Nat) : Int) = i by omega] at hld
    have hxw : vs1[(a + 1 + i).toNat]? = some x := by rw [hsm i (Int.le_refl _) gi]; exact (loaded_of hK ⟨hi0, gi⟩ hld).2
    have hdr : X.drop i.toNat = w :: X.drop (i.toNat + 1) := by rw [List.drop_eq_getElem_cons (by omega)]; rw [List.getElem?_eq_getElem (by omega)] at hw; rw [Option.some.inj hw]
    rw [hdr, putS] at hE1
    dsimp only at hE1
    rw [show a + 1 + ((i.toNat : Nat) : Int) = a + 1 + i by omega, hxw] at hE1
    conv => cbv
    refine Br.yes (show e = 0 from he) ?_
    conv => cbv
    refine drawn_sound tok (by kernel_rfl) [] [0, 1, 2, 3, 4, 5, 6, 7, 8] (by kernel_rfl) ?_; conv => cbv
    refine Need.mk (show 0 ≤ i ∧ i < y by omega) ?_
    conv => cbv
    refine Cell.at i _ hOx (by simp [I.val]) rfl ?_
    conv => cbv
    refine Need.mk (show 0 ≤ i ∧ i < 10 by omega) ?_
    conv => cbv
    refine Cell.at i _ hOw (by simp [I.val]) rfl ?_
    conv => cbv
    refine Br.mk (fun gx => ?_) (fun gx => ?_)
    · have gx : ¬ x = w := gx
      rw [if_neg (fun q => gx (Option.some.inj q))] at hE1
      conv => cbv
      refine Need.mk (show 0 ≤ i ∧ i < 10 by omega) ?_
      conv => cbv
      refine Cell.at i _ hOw (by simp [I.val]) rfl ?_
      conv => cbv
      refine callF_frame (rstore9_lx R vs1 C1 G1 N W ph sp cy P B V1 Q1 la1 m1 ov1 h1 a i w hwb) [(0, 0), (1, 1), (2, 2), (3, 3), (4, 4), (5, 5), (6, 6), (7, 7)] rfl (by simp [hmapOk, nget, hget, renB, okB, renV, renVs, rn, okVs, okV]) rfl rfl (fun r h' n' hrr => ?_)
      obtain ⟨f, vs2, C2, G2, ov2, V2, Q2, la2, m2, e1, e2, e3, h2, hS, hC⟩ := hrr
      subst e1 e2 e3
      have hK2 := (stored_to h1.a hS).1 a 4 10 hK1
      obtain ⟨hf, hw2⟩ := stored_of hK1 ⟨hi0, gi⟩ hS
      have hC : (C2, G2, ov2) = shadeW R ph w (C1, G1, ov1) := by rw [hC, storeS, if_pos hf]
      rw [← hC, ← hw2] at hE1
      clear hS hC h1 hK1
      conv => cbv
      refine Fit.mk (by show (-9223372036854775808 : Int) ≤ i + 1; omega) (by show i + 1 ≤ 9223372036854775807; omega) fun i2 hi2 => ?_
      have hi2 : i2 = i + 1 := hi2
      have htn : i2.toNat = i.toNat + 1 := by omega
      rw [← htn] at hE1
      conv => cbv
      refine Again.mk (10 - i2).toNat _ (by omega) (Re.at [(0, 0), (1, 1), (2, 2), (3, 3), (4, 4), (5, 5), (6, 6), (7, 7)] []) ⟨i2, f, vs2, C2, G2, ov2, V2, Q2, la2, m2, rfl, by omega, by omega, rfl, hf, h2, hK2, fun j hj0 hj1 => ?_, hE1⟩
      rw [hw2, List.getElem?_set_ne (by omega)]
      exact hsm j (by omega) hj1
    · have gx : x = w := Classical.byContradiction fun q => gx q
      rw [if_pos (by rw [gx])] at hE1
      conv => cbv
      refine Fit.mk (by show (-9223372036854775808 : Int) ≤ i + 1; omega) (by show i + 1 ≤ 9223372036854775807; omega) fun i2 hi2 => ?_
      have hi2 : i2 = i + 1 := hi2
      have htn : i2.toNat = i.toNat + 1 := by omega
      rw [← htn] at hE1
      conv => cbv
      refine Again.mk (10 - i2).toNat _ (by omega) (Re.at [(0, 0), (1, 1), (2, 2), (3, 3), (4, 4), (5, 5), (6, 6), (7, 7)] []) ⟨i2, e, vs1, C1, G1, ov1, V1, Q1, la1, m1, rfl, by omega, by omega, rfl, he, h1, hK1, fun j hj0 hj1 => hsm j (by omega) hj1, hE1⟩
  · have gi : ¬ i < 10 := by have : ¬ i < y := gi; omega
    have hdr : X.drop i.toNat = [] := List.drop_eq_nil_of_le (by omega)
    rw [hdr, putS] at hE1
    conv => cbv
    refine RetF.mk [.p (.int .i64 (.sym e))] [(0, .mix [.ptr 1 (.lit 0), .sl 6 3 1 (.lit 0) (.sym W), .ptr 7 (.lit 0), .p (.int .i64 (.sym ph)), .p (.int .i64 (.sym sp)), .p (.int .i64 (.sym cy))]), (1, .mix [.ptr 2 (.lit 0), .sl 5 3 1 (.lit 0) (.sym W)]), (2, .mix [.sl 3 3 1 (.lit 0) (.sym N), .sl 4 189 8 (.lit 0) (.sym N)]), (3, .pure true P), (4, .pure true B), (5, .pure true V1), (6, .pure true Q1), (7, .mix [.p (.vsl (.sym m1) true la1), .p (.bool ov1)])] 8 (Re.at [(0, 0), (1, 1), (2, 2), (3, 3), (4, 4), (5, 5), (6, 6), (7, 7)] []) rfl ⟨e, vs1, C1, G1, ov1, V1, Q1, la1, m1, rfl, rfl, rfl, h1, by rw [he, ← hE1, hE]; exact .ok hK⟩
end Go.Proofs.YtolamdalijjlnaaGreatDoor
/-
  Layer 11 in the calculus: the reference's things seen.
-/
namespace Go.Proofs.YtolamdalijjlnaaGreatDoor

open Go Go.LX
set_option maxRecDepth 100000
set_option linter.unusedVariables false
set_option linter.unusedSimpArgs false

set_option maxHeartbeats 8000000 in
theorem rchan_lx (R : List Rw) (vs C G : List Int) (N W ph sp cy : Int) (P B V Q la : List PV) (m : Int) (ov : Bool) (h : RM R vs C G N W P B V Q la m) (a : Int) : CallF (fun _ => Tryz.prog) 49 [.ptr 0 (.lit 0), .p (.int .i64 (.sym a))] [(0, .mix [.ptr 1 (.lit 0), .sl 6 3 1 (.lit 0) (.sym W), .ptr 7 (.lit 0), .p (.int .i64 (.sym ph)), .p (.int .i64 (.sym sp)), .p (.int .i64 (.sym cy))]), (1, .mix [.ptr 2 (.lit 0), .sl 5 3 1 (.lit 0) (.sym W)]), (2, .mix [.sl 3 3 1 (.lit 0) (.sym N), .sl 4 189 8 (.lit 0) (.sym N)]), (3, .pure true P), (4, .pure true B), (5, .pure true V), (6, .pure true Q), (7, .mix [.p (.vsl (.sym m) true la), .p (.bool ov)])] 8 (fun r h n => (∃ (y0 y1 y2 y3 y4 y5 y6 y7 y8 e : Int), r = .tup [.agg [.p (.int .i64 (.sym y0)), .p (.int .i64 (.sym y1)), .p (.int .i64 (.sym y2)), .p (.int .i64 (.sym y3)), .p (.int .i64 (.sym y4)), .p (.int .i64 (.sym y5)), .p (.int .i64 (.sym y6)), .p (.int .i64 (.sym y7)), .p (.int .i64 (.sym y8))], .p (.int .i64 (.sym e))] ∧ TR 1 9 chanFs R vs a e [y0, y1, y2, y3, y4, y5, y6, y7, y8]) ∧ h = [(0, .mix [.ptr 1 (.lit 0), .sl 6 3 1 (.lit 0) (.sym W), .ptr 7 (.lit 0), .p (.int .i64 (.sym ph)), .p (.int .i64 (.sym sp)), .p (.int .i64 (.sym cy))]), (1, .mix [.ptr 2 (.lit 0), .sl 5 3 1 (.lit 0) (.sym W)]), (2, .mix [.sl 3 3 1 (.lit 0) (.sym N), .sl 4 189 8 (.lit 0) (.sym N)]), (3, .pure true P), (4, .pure true B), (5, .pure true V), (6, .pure true Q), (7, .mix [.p (.vsl (.sym m) true la), .p (.bool ov)])] ∧ n = 8) := by
  refine callF_of_body tok Tryz.func49 (by kernel_rfl) rfl rfl rfl ?_; conv => cbv
  refine CallF.le (args0 := [.ptr 0 (.lit 0), .p (.int .i64 (.sym a)), .p (.int .i64 (.lit 1))]) (callF_frame (rWords1_lx R vs C G N W ph sp cy P B V Q la m ov h a) [(0, 0), (1, 1), (2, 2), (3, 3), (4, 4), (5, 5), (6, 6), (7, 7)] rfl (by simp [hmapOk, nget, hget, renB, okB, renV, renVs, rn, okVs, okV]) rfl rfl (fun r h' n' hrr => ?_)) (by simp [ales, ale, pvle, I.val])
  obtain ⟨⟨Y, q, e, OY, e1, hOY, hq, hW⟩, e2, e3⟩ := hrr
  subst e1 e2 e3
  conv => cbv
  rcases hW.two with ⟨he, hK, hY, hYl⟩ | ⟨he, hYn, hK⟩
  case inr =>
    refine Br.yes (show ¬ e = 0 by omega) ?_
    conv => cbv
    refine RetF.mk [.agg [.p (.int .i64 (.sym 0)), .p (.int .i64 (.sym 0)), .p (.int .i64 (.sym 0)), .p (.int .i64 (.sym 0)), .p (.int .i64 (.sym 0)), .p (.int .i64 (.sym 0)), .p (.int .i64 (.sym 0)), .p (.int .i64 (.sym 0)), .p (.int .i64 (.sym 0))], .p (.int .i64 (.sym e))] [(0, .mix [.ptr 1 (.lit 0), .sl 6 3 1 (.lit 0) (.sym W), .ptr 7 (.lit 0), .p (.int .i64 (.sym ph)), .p (.int .i64 (.sym sp)), .p (.int .i64 (.sym cy))]), (1, .mix [.ptr 2 (.lit 0), .sl 5 3 1 (.lit 0) (.sym W)]), (2, .mix [.sl 3 3 1 (.lit 0) (.sym N), .sl 4 189 8 (.lit 0) (.sym N)]), (3, .pure true P), (4, .pure true B), (5, .pure true V), (6, .pure true Q), (7, .mix [.p (.vsl (.sym m) true la), .p (.bool ov)])] 8 (Re.at [(0, 0), (1, 1), (2, 2), (3, 3), (4, 4), (5, 5), (6, 6), (7, 7)] []) rfl ⟨⟨0, 0, 0, 0, 0, 0, 0, 0, 0, e, rfl, by rw [he]; exact .no hK⟩, rfl, rfl⟩
  case inl =>
  obtain ⟨x0, x1, x2, x3, x4, x5, x6, x7, x8, rfl⟩ := list9 (X := Y) (by omega)
  have hb := hY.bd h.a
  simp only [List.forall_mem_cons] at hb
  obtain ⟨b0, b1, b2, b3, b4, b5, b6, b7, b8, _⟩ := hb
  have hqn : q = 9 := hq
  refine Br.no (show ¬ ¬ e = 0 by omega) ?_
  conv => cbv
  refine drawn_sound tok (by kernel_rfl) [(3, [37, 34, 33, 32, 30, 29, 28, 26, 25, 24, 22, 21, 20, 18, 17, 16, 14, 13, 12, 10, 9, 8, 6, 5, 4]), (7, [37, 34, 33, 32, 30, 29, 28, 26, 25, 24, 22, 21, 20, 18, 17, 16, 14, 13, 12, 10, 9, 8]), (11, [37, 34, 33, 32, 30, 29, 28, 26, 25, 24, 22, 21, 20, 18, 17, 16, 14, 13, 12]), (15, [37, 34, 33, 32, 30, 29, 28, 26, 25, 24, 22, 21, 20, 18, 17, 16]), (19, [37, 34, 33, 32, 30, 29, 28, 26, 25, 24, 22, 21, 20]), (23, [37, 34, 33, 32, 30, 29, 28, 26, 25, 24]), (27, [37, 34, 33, 32, 30, 29, 28]), (31, [37, 34, 33, 32]), (35, [37]), (38, [37])] [0, 1, 2, 4, 5, 6, 8, 9, 10, 12, 13, 14, 16, 17, 18, 20, 21, 22, 24, 25, 26, 28, 29, 30, 32, 33, 34, 37, 3, 7, 11, 15, 19, 23, 27, 31, 35, 36, 38, 39] (by kernel_rfl) ?_; conv => cbv
  refine Need.mk (show (0 : Int) ≤ 0 ∧ (0 : Int) < q by omega) ?_
  conv => cbv
  refine Cell.mk (.int .i64 (.sym x0)) (by rw [hOY]; rfl) ?_
  conv => cbv
  refine Need.mk (show (0 : Int) ≤ 1 ∧ (1 : Int) < q by omega) ?_
  conv => cbv
  refine Cell.mk (.int .i64 (.sym x1)) (by rw [hOY]; rfl) ?_
  conv => cbv
  refine Need.mk (show (0 : Int) ≤ 2 ∧ (2 : Int) < q by omega) ?_
  conv => cbv
  refine Cell.mk (.int .i64 (.sym x2)) (by rw [hOY]; rfl) ?_
  conv => cbv
  refine Need.mk (show (0 : Int) ≤ 3 ∧ (3 : Int) < q by omega) ?_
  conv => cbv
  refine Cell.mk (.int .i64 (.sym x3)) (by rw [hOY]; rfl) ?_
  conv => cbv
  refine Need.mk (show (0 : Int) ≤ 4 ∧ (4 : Int) < q by omega) ?_
  conv => cbv
  refine Cell.mk (.int .i64 (.sym x4)) (by rw [hOY]; rfl) ?_
  conv => cbv
  refine Need.mk (show (0 : Int) ≤ 5 ∧ (5 : Int) < q by omega) ?_
  conv => cbv
  refine Cell.mk (.int .i64 (.sym x5)) (by rw [hOY]; rfl) ?_
  conv => cbv
  refine Need.mk (show (0 : Int) ≤ 6 ∧ (6 : Int) < q by omega) ?_
  conv => cbv
  refine Cell.mk (.int .i64 (.sym x6)) (by rw [hOY]; rfl) ?_
  conv => cbv
  refine Need.mk (show (0 : Int) ≤ 7 ∧ (7 : Int) < q by omega) ?_
  conv => cbv
  refine Cell.mk (.int .i64 (.sym x7)) (by rw [hOY]; rfl) ?_
  conv => cbv
  refine Need.mk (show (0 : Int) ≤ 8 ∧ (8 : Int) < q by omega) ?_
  conv => cbv
  refine Cell.mk (.int .i64 (.sym x8)) (by rw [hOY]; rfl) ?_
  conv => cbv
  refine callF_frame (rNumber_lx x0 b0) [] rfl trivial rfl rfl (fun r h' n' hrr => ?_)
  obtain ⟨⟨y0, e1, hy0⟩, e2, e3⟩ := hrr
  subst e1 e2 e3
  conv => cbv
  refine callF_frame (rNumber_lx x1 b1) [] rfl trivial rfl rfl (fun r h' n' hrr => ?_)
  obtain ⟨⟨y1, e1, hy1⟩, e2, e3⟩ := hrr
  subst e1 e2 e3
  conv => cbv
  refine callF_frame (rNumber_lx x2 b2) [] rfl trivial rfl rfl (fun r h' n' hrr => ?_)
  obtain ⟨⟨y2, e1, hy2⟩, e2, e3⟩ := hrr
  subst e1 e2 e3
  conv => cbv
  refine callF_frame (rNumber_lx x3 b3) [] rfl trivial rfl rfl (fun r h' n' hrr => ?_)
  obtain ⟨⟨y3, e1, hy3⟩, e2, e3⟩ := hrr
  subst e1 e2 e3
  conv => cbv
  refine callF_frame (rPlace_lx x4 b4) [] rfl trivial rfl rfl (fun r h' n' hrr => ?_)
  obtain ⟨⟨y4, e1, hy4⟩, e2, e3⟩ := hrr
  subst e1 e2 e3
  conv => cbv
  refine callF_frame (rPlace_lx x5 b5) [] rfl trivial rfl rfl (fun r h' n' hrr => ?_)
  obtain ⟨⟨y5, e1, hy5⟩, e2, e3⟩ := hrr
  subst e1 e2 e3
  conv => cbv
  refine callF_frame (rPlace_lx x6 b6) [] rfl trivial rfl rfl (fun r h' n' hrr => ?_)
  obtain ⟨⟨y6, e1, hy6⟩, e2, e3⟩ := hrr
  subst e1 e2 e3
  conv => cbv
  refine callF_frame (rPlace_lx x7 b7) [] rfl trivial rfl rfl (fun r h' n' hrr => ?_)
  obtain ⟨⟨y7, e1, hy7⟩, e2, e3⟩ := hrr
  subst e1 e2 e3
  conv => cbv
  refine callF_frame (rPlace_lx x8 b8) [] rfl trivial rfl rfl (fun r h' n' hrr => ?_)
  obtain ⟨⟨y8, e1, hy8⟩, e2, e3⟩ := hrr
  subst e1 e2 e3
  conv => cbv
  refine RetF.mk [.agg [.p (.int .i64 (.sym y0)), .p (.int .i64 (.sym y1)), .p (.int .i64 (.sym y2)), .p (.int .i64 (.sym y3)), .p (.int .i64 (.sym y4)), .p (.int .i64 (.sym y5)), .p (.int .i64 (.sym y6)), .p (.int .i64 (.sym y7)), .p (.int .i64 (.sym y8))], .p (.int .i64 (.sym e))] [(0, .mix [.ptr 1 (.lit 0), .sl 6 3 1 (.lit 0) (.sym W), .ptr 7 (.lit 0), .p (.int .i64 (.sym ph)), .p (.int .i64 (.sym sp)), .p (.int .i64 (.sym cy))]), (1, .mix [.ptr 2 (.lit 0), .sl 5 3 1 (.lit 0) (.sym W)]), (2, .mix [.sl 3 3 1 (.lit 0) (.sym N), .sl 4 189 8 (.lit 0) (.sym N)]), (3, .pure true P), (4, .pure true B), (5, .pure true V), (6, .pure true Q), (7, .mix [.p (.vsl (.sym m) true la), .p (.bool ov)])] 8 (Re.at [(0, 0), (1, 1), (2, 2), (3, 3), (4, 4), (5, 5), (6, 6), (7, 7)] []) rfl ⟨⟨y0, y1, y2, y3, y4, y5, y6, y7, y8, e, rfl, ?_⟩, rfl, rfl⟩
  have hfs : [y0, y1, y2, y3, y4, y5, y6, y7, y8] = chanFs [x0, x1, x2, x3, x4, x5, x6, x7, x8] := by simp only [chanFs, hy0, hy1, hy2, hy3, hy4, hy5, hy6, hy7, hy8]
  rw [he, hfs]; exact .ok _ hK hY
set_option maxHeartbeats 8000000 in
theorem rsudog_lx (R : List Rw) (vs C G : List Int) (N W ph sp cy : Int) (P B V Q la : List PV) (m : Int) (ov : Bool) (h : RM R vs C G N W P B V Q la m) (a : Int) : CallF (fun _ => Tryz.prog) 51 [.ptr 0 (.lit 0), .p (.int .i64 (.sym a))] [(0, .mix [.ptr 1 (.lit 0), .sl 6 3 1 (.lit 0) (.sym W), .ptr 7 (.lit 0), .p (.int .i64 (.sym ph)), .p (.int .i64 (.sym sp)), .p (.int .i64 (.sym cy))]), (1, .mix [.ptr 2 (.lit 0), .sl 5 3 1 (.lit 0) (.sym W)]), (2, .mix [.sl 3 3 1 (.lit 0) (.sym N), .sl 4 189 8 (.lit 0) (.sym N)]), (3, .pure true P), (4, .pure true B), (5, .pure true V), (6, .pure true Q), (7, .mix [.p (.vsl (.sym m) true la), .p (.bool ov)])] 8 (fun r h n => (∃ (y0 y1 y2 y3 y4 y5 y6 e : Int), r = .tup [.agg [.p (.int .i64 (.sym y0)), .p (.int .i64 (.sym y1)), .p (.int .i64 (.sym y2)), .p (.int .i64 (.sym y3)), .p (.int .i64 (.sym y4)), .p (.int .i64 (.sym y5)), .p (.int .i64 (.sym y6))], .p (.int .i64 (.sym e))] ∧ TR 3 7 sudogFs R vs a e [y0, y1, y2, y3, y4, y5, y6]) ∧ h = [(0, .mix [.ptr 1 (.lit 0), .sl 6 3 1 (.lit 0) (.sym W), .ptr 7 (.lit 0), .p (.int .i64 (.sym ph)), .p (.int .i64 (.sym sp)), .p (.int .i64 (.sym cy))]), (1, .mix [.ptr 2 (.lit 0), .sl 5 3 1 (.lit 0) (.sym W)]), (2, .mix [.sl 3 3 1 (.lit 0) (.sym N), .sl 4 189 8 (.lit 0) (.sym N)]), (3, .pure true P), (4, .pure true B), (5, .pure true V), (6, .pure true Q), (7, .mix [.p (.vsl (.sym m) true la), .p (.bool ov)])] ∧ n = 8) := by
  refine callF_of_body tok Tryz.func51 (by kernel_rfl) rfl rfl rfl ?_; conv => cbv
  refine CallF.le (args0 := [.ptr 0 (.lit 0), .p (.int .i64 (.sym a)), .p (.int .i64 (.lit 3))]) (callF_frame (rWords3_lx R vs C G N W ph sp cy P B V Q la m ov h a) [(0, 0), (1, 1), (2, 2), (3, 3), (4, 4), (5, 5), (6, 6), (7, 7)] rfl (by simp [hmapOk, nget, hget, renB, okB, renV, renVs, rn, okVs, okV]) rfl rfl (fun r h' n' hrr => ?_)) (by simp [ales, ale, pvle, I.val])
  obtain ⟨⟨Y, q, e, OY, e1, hOY, hq, hW⟩, e2, e3⟩ := hrr
  subst e1 e2 e3
  conv => cbv
  rcases hW.two with ⟨he, hK, hY, hYl⟩ | ⟨he, hYn, hK⟩
  case inr =>
    refine Br.yes (show ¬ e = 0 by omega) ?_
    conv => cbv
    refine RetF.mk [.agg [.p (.int .i64 (.sym 0)), .p (.int .i64 (.sym 0)), .p (.int .i64 (.sym 0)), .p (.int .i64 (.sym 0)), .p (.int .i64 (.sym 0)), .p (.int .i64 (.sym 0)), .p (.int .i64 (.sym 0))], .p (.int .i64 (.sym e))] [(0, .mix [.ptr 1 (.lit 0), .sl 6 3 1 (.lit 0) (.sym W), .ptr 7 (.lit 0), .p (.int .i64 (.sym ph)), .p (.int .i64 (.sym sp)), .p (.int .i64 (.sym cy))]), (1, .mix [.ptr 2 (.lit 0), .sl 5 3 1 (.lit 0) (.sym W)]), (2, .mix [.sl 3 3 1 (.lit 0) (.sym N), .sl 4 189 8 (.lit 0) (.sym N)]), (3, .pure true P), (4, .pure true B), (5, .pure true V), (6, .pure true Q), (7, .mix [.p (.vsl (.sym m) true la), .p (.bool ov)])] 8 (Re.at [(0, 0), (1, 1), (2, 2), (3, 3), (4, 4), (5, 5), (6, 6), (7, 7)] []) rfl ⟨⟨0, 0, 0, 0, 0, 0, 0, e, rfl, by rw [he]; exact .no hK⟩, rfl, rfl⟩
  case inl =>
  obtain ⟨x0, x1, x2, x3, x4, x5, x6, rfl⟩ := list7 (X := Y) (by omega)
  have hb := hY.bd h.a
  simp only [List.forall_mem_cons] at hb
  obtain ⟨b0, b1, b2, b3, b4, b5, b6, _⟩ := hb
  have hqn : q = 7 := hq
  refine Br.no (show ¬ ¬ e = 0 by omega) ?_
  conv => cbv
  refine drawn_sound tok (by kernel_rfl) [(3, [28, 25, 24, 23, 21, 20, 19, 17, 16, 15, 13, 12, 11, 10, 9, 8, 6, 5, 4]), (7, [28, 25, 24, 23, 21, 20, 19, 17, 16, 15, 13, 12, 11, 10, 9, 8]), (14, [28, 25, 24, 23, 21, 20, 19, 17, 16, 15, 10, 9, 8]), (18, [28, 25, 24, 23, 21, 20, 19, 10, 9, 8]), (22, [28, 25, 24, 23, 10, 9, 8]), (26, [28, 10, 9, 8]), (29, [28])] [0, 1, 2, 4, 5, 6, 8, 9, 10, 11, 12, 13, 15, 16, 17, 19, 20, 21, 23, 24, 25, 28, 3, 7, 14, 18, 22, 26, 27, 29, 30] (by kernel_rfl) ?_; conv => cbv
  refine Need.mk (show (0 : Int) ≤ 0 ∧ (0 : Int) < q by omega) ?_
  conv => cbv
  refine Cell.mk (.int .i64 (.sym x0)) (by rw [hOY]; rfl) ?_
  conv => cbv
  refine Need.mk (show (0 : Int) ≤ 1 ∧ (1 : Int) < q by omega) ?_
  conv => cbv
  refine Cell.mk (.int .i64 (.sym x1)) (by rw [hOY]; rfl) ?_
  conv => cbv
  refine Need.mk (show (0 : Int) ≤ 2 ∧ (2 : Int) < q by omega) ?_
  conv => cbv
  refine Cell.mk (.int .i64 (.sym x2)) (by rw [hOY]; rfl) ?_
  conv => cbv
  refine Need.mk (show (0 : Int) ≤ 3 ∧ (3 : Int) < q by omega) ?_
  conv => cbv
  refine Cell.mk (.int .i64 (.sym x3)) (by rw [hOY]; rfl) ?_
  conv => cbv
  refine Need.mk (show (0 : Int) ≤ 4 ∧ (4 : Int) < q by omega) ?_
  conv => cbv
  refine Cell.mk (.int .i64 (.sym x4)) (by rw [hOY]; rfl) ?_
  conv => cbv
  refine Need.mk (show (0 : Int) ≤ 5 ∧ (5 : Int) < q by omega) ?_
  conv => cbv
  refine Cell.mk (.int .i64 (.sym x5)) (by rw [hOY]; rfl) ?_
  conv => cbv
  refine Need.mk (show (0 : Int) ≤ 6 ∧ (6 : Int) < q by omega) ?_
  conv => cbv
  refine Cell.mk (.int .i64 (.sym x6)) (by rw [hOY]; rfl) ?_
  conv => cbv
  refine callF_frame (rPlace_lx x0 b0) [] rfl trivial rfl rfl (fun r h' n' hrr => ?_)
  obtain ⟨⟨y0, e1, hy0⟩, e2, e3⟩ := hrr
  subst e1 e2 e3
  conv => cbv
  refine callF_frame (rPlace_lx x1 b1) [] rfl trivial rfl rfl (fun r h' n' hrr => ?_)
  obtain ⟨⟨y1, e1, hy1⟩, e2, e3⟩ := hrr
  subst e1 e2 e3
  conv => cbv
  refine callF_frame (rPlace_lx x3 b3) [] rfl trivial rfl rfl (fun r h' n' hrr => ?_)
  obtain ⟨⟨y3, e1, hy3⟩, e2, e3⟩ := hrr
  subst e1 e2 e3
  conv => cbv
  refine callF_frame (rNumber_lx x4 b4) [] rfl trivial rfl rfl (fun r h' n' hrr => ?_)
  obtain ⟨⟨y4, e1, hy4⟩, e2, e3⟩ := hrr
  subst e1 e2 e3
  conv => cbv
  refine callF_frame (rNumber_lx x5 b5) [] rfl trivial rfl rfl (fun r h' n' hrr => ?_)
  obtain ⟨⟨y5, e1, hy5⟩, e2, e3⟩ := hrr
  subst e1 e2 e3
  conv => cbv
  refine callF_frame (rPlace_lx x6 b6) [] rfl trivial rfl rfl (fun r h' n' hrr => ?_)
  obtain ⟨⟨y6, e1, hy6⟩, e2, e3⟩ := hrr
  subst e1 e2 e3
  conv => cbv
  refine RetF.mk [.agg [.p (.int .i64 (.sym y0)), .p (.int .i64 (.sym y1)), .p (.int .i64 (.sym x2)), .p (.int .i64 (.sym y3)), .p (.int .i64 (.sym y4)), .p (.int .i64 (.sym y5)), .p (.int .i64 (.sym y6))], .p (.int .i64 (.sym e))] [(0, .mix [.ptr 1 (.lit 0), .sl 6 3 1 (.lit 0) (.sym W), .ptr 7 (.lit 0), .p (.int .i64 (.sym ph)), .p (.int .i64 (.sym sp)), .p (.int .i64 (.sym cy))]), (1, .mix [.ptr 2 (.lit 0), .sl 5 3 1 (.lit 0) (.sym W)]), (2, .mix [.sl 3 3 1 (.lit 0) (.sym N), .sl 4 189 8 (.lit 0) (.sym N)]), (3, .pure true P), (4, .pure true B), (5, .pure true V), (6, .pure true Q), (7, .mix [.p (.vsl (.sym m) true la), .p (.bool ov)])] 8 (Re.at [(0, 0), (1, 1), (2, 2), (3, 3), (4, 4), (5, 5), (6, 6), (7, 7)] []) rfl ⟨⟨y0, y1, x2, y3, y4, y5, y6, e, rfl, ?_⟩, rfl, rfl⟩
  have hfs : [y0, y1, x2, y3, y4, y5, y6] = sudogFs [x0, x1, x2, x3, x4, x5, x6] := by simp only [sudogFs, hy0, hy1, hy3, hy4, hy5, hy6]
  rw [he, hfs]; exact .ok _ hK hY
set_option maxHeartbeats 8000000 in
theorem rgor_lx (R : List Rw) (vs C G : List Int) (N W ph sp cy : Int) (P B V Q la : List PV) (m : Int) (ov : Bool) (h : RM R vs C G N W P B V Q la m) (a : Int) : CallF (fun _ => Tryz.prog) 53 [.ptr 0 (.lit 0), .p (.int .i64 (.sym a))] [(0, .mix [.ptr 1 (.lit 0), .sl 6 3 1 (.lit 0) (.sym W), .ptr 7 (.lit 0), .p (.int .i64 (.sym ph)), .p (.int .i64 (.sym sp)), .p (.int .i64 (.sym cy))]), (1, .mix [.ptr 2 (.lit 0), .sl 5 3 1 (.lit 0) (.sym W)]), (2, .mix [.sl 3 3 1 (.lit 0) (.sym N), .sl 4 189 8 (.lit 0) (.sym N)]), (3, .pure true P), (4, .pure true B), (5, .pure true V), (6, .pure true Q), (7, .mix [.p (.vsl (.sym m) true la), .p (.bool ov)])] 8 (fun r h n => (∃ (y0 y1 y2 y3 y4 y5 y6 y7 y8 y9 e : Int), r = .tup [.agg [.p (.int .i64 (.sym y0)), .p (.int .i64 (.sym y1)), .p (.int .i64 (.sym y2)), .p (.int .i64 (.sym y3)), .p (.int .i64 (.sym y4)), .p (.int .i64 (.sym y5)), .p (.int .i64 (.sym y6)), .p (.int .i64 (.sym y7)), .p (.int .i64 (.sym y8)), .p (.int .i64 (.sym y9))], .p (.int .i64 (.sym e))] ∧ TR 4 10 gorFs R vs a e [y0, y1, y2, y3, y4, y5, y6, y7, y8, y9]) ∧ h = [(0, .mix [.ptr 1 (.lit 0), .sl 6 3 1 (.lit 0) (.sym W), .ptr 7 (.lit 0), .p (.int .i64 (.sym ph)), .p (.int .i64 (.sym sp)), .p (.int .i64 (.sym cy))]), (1, .mix [.ptr 2 (.lit 0), .sl 5 3 1 (.lit 0) (.sym W)]), (2, .mix [.sl 3 3 1 (.lit 0) (.sym N), .sl 4 189 8 (.lit 0) (.sym N)]), (3, .pure true P), (4, .pure true B), (5, .pure true V), (6, .pure true Q), (7, .mix [.p (.vsl (.sym m) true la), .p (.bool ov)])] ∧ n = 8) := by
  refine callF_of_body tok Tryz.func53 (by kernel_rfl) rfl rfl rfl ?_; conv => cbv
  refine CallF.le (args0 := [.ptr 0 (.lit 0), .p (.int .i64 (.sym a)), .p (.int .i64 (.lit 4))]) (callF_frame (rWords4_lx R vs C G N W ph sp cy P B V Q la m ov h a) [(0, 0), (1, 1), (2, 2), (3, 3), (4, 4), (5, 5), (6, 6), (7, 7)] rfl (by simp [hmapOk, nget, hget, renB, okB, renV, renVs, rn, okVs, okV]) rfl rfl (fun r h' n' hrr => ?_)) (by simp [ales, ale, pvle, I.val])
  obtain ⟨⟨Y, q, e, OY, e1, hOY, hq, hW⟩, e2, e3⟩ := hrr
  subst e1 e2 e3
  conv => cbv
  rcases hW.two with ⟨he, hK, hY, hYl⟩ | ⟨he, hYn, hK⟩
  case inr =>
    refine Br.yes (show ¬ e = 0 by omega) ?_
    conv => cbv
    refine RetF.mk [.agg [.p (.int .i64 (.sym 0)), .p (.int .i64 (.sym 0)), .p (.int .i64 (.sym 0)), .p (.int .i64 (.sym 0)), .p (.int .i64 (.sym 0)), .p (.int .i64 (.sym 0)), .p (.int .i64 (.sym 0)), .p (.int .i64 (.sym 0)), .p (.int .i64 (.sym 0)), .p (.int .i64 (.sym 0))], .p (.int .i64 (.sym e))] [(0, .mix [.ptr 1 (.lit 0), .sl 6 3 1 (.lit 0) (.sym W), .ptr 7 (.lit 0), .p (.int .i64 (.sym ph)), .p (.int .i64 (.sym sp)), .p (.int .i64 (.sym cy))]), (1, .mix [.ptr 2 (.lit 0), .sl 5 3 1 (.lit 0) (.sym W)]), (2, .mix [.sl 3 3 1 (.lit 0) (.sym N), .sl 4 189 8 (.lit 0) (.sym N)]), (3, .pure true P), (4, .pure true B), (5, .pure true V), (6, .pure true Q), (7, .mix [.p (.vsl (.sym m) true la), .p (.bool ov)])] 8 (Re.at [(0, 0), (1, 1), (2, 2), (3, 3), (4, 4), (5, 5), (6, 6), (7, 7)] []) rfl ⟨⟨0, 0, 0, 0, 0, 0, 0, 0, 0, 0, e, rfl, by rw [he]; exact .no hK⟩, rfl, rfl⟩
  case inl =>
  obtain ⟨x0, x1, x2, x3, x4, x5, x6, x7, x8, x9, rfl⟩ := list10 (X := Y) (by omega)
  have hb := hY.bd h.a
  simp only [List.forall_mem_cons] at hb
  obtain ⟨b0, b1, b2, b3, b4, b5, b6, b7, b8, b9, _⟩ := hb
  have hqn : q = 10 := hq
  refine Br.no (show ¬ ¬ e = 0 by omega) ?_
  conv => cbv
  obtain ⟨y0, hy0⟩ : ∃ y, y = numW x0 := ⟨_, rfl⟩
  obtain ⟨y1, hy1⟩ : ∃ y, y = numW x1 := ⟨_, rfl⟩
  obtain ⟨y2, hy2⟩ : ∃ y, y = numW x2 := ⟨_, rfl⟩
  obtain ⟨y9, hy9⟩ : ∃ y, y = atW x9 := ⟨_, rfl⟩
  refine quiet_sound tok (by kernel_rfl) [3, 7, 11, 15] [(17, [16, 15, 14, 13, 12, 11, 10, 9, 8, 7, 6, 5, 4, 3, 2, 1, 0]), (18, [])] [0, 1, 2, 3, 4, 5, 6, 7, 8, 9, 10, 11, 12, 13, 14, 15, 16, 17, 18] (by kernel_rfl) ?_; conv => cbv
  refine Need.mk (show (0 : Int) ≤ 0 ∧ (0 : Int) < q by omega) ?_
  conv => cbv
  refine Cell.mk (.int .i64 (.sym x0)) (by rw [hOY]; rfl) ?_
  conv => cbv
  refine QuietF.mk (.p (.int .i64 (.sym y0))) (quiet_int (rNumber_lx x0 b0) hy0 rfl) ?_
  conv => cbv
  refine Need.mk (show (0 : Int) ≤ 1 ∧ (1 : Int) < q by omega) ?_
  conv => cbv
  refine Cell.mk (.int .i64 (.sym x1)) (by rw [hOY]; rfl) ?_
  conv => cbv
  refine QuietF.mk (.p (.int .i64 (.sym y1))) (quiet_int (rNumber_lx x1 b1) hy1 rfl) ?_
  conv => cbv
  refine Need.mk (show (0 : Int) ≤ 2 ∧ (2 : Int) < q by omega) ?_
  conv => cbv
  refine Cell.mk (.int .i64 (.sym x2)) (by rw [hOY]; rfl) ?_
  conv => cbv
  refine QuietF.mk (.p (.int .i64 (.sym y2))) (quiet_int (rNumber_lx x2 b2) hy2 rfl) ?_
  conv => cbv
  refine Need.mk (show (0 : Int) ≤ 9 ∧ (9 : Int) < q by omega) ?_
  conv => cbv
  refine Cell.mk (.int .i64 (.sym x9)) (by rw [hOY]; rfl) ?_
  conv => cbv
  refine QuietF.mk (.p (.int .i64 (.sym y9))) (quiet_int (rPlace_lx x9 b9) hy9 rfl) ?_
  conv => cbv
  refine LoopF.rounds 7 ?_
  conv => cbv
  refine Need.mk (show (0 : Int) ≤ 3 ∧ (3 : Int) < q by omega) ?_
  conv => cbv
  refine Cell.mk (.int .i64 (.sym x3)) (by rw [hOY]; rfl) ?_
  conv => cbv
  refine Need.mk (by simp [I.val]) ?_
  conv => cbv
  refine Need.mk (show (0 : Int) ≤ 4 ∧ (4 : Int) < q by omega) ?_
  conv => cbv
  refine Cell.mk (.int .i64 (.sym x4)) (by rw [hOY]; rfl) ?_
  conv => cbv
  refine Need.mk (by simp [I.val]) ?_
  conv => cbv
  refine Need.mk (show (0 : Int) ≤ 5 ∧ (5 : Int) < q by omega) ?_
  conv => cbv
  refine Cell.mk (.int .i64 (.sym x5)) (by rw [hOY]; rfl) ?_
  conv => cbv
  refine Need.mk (by simp [I.val]) ?_
  conv => cbv
  refine Need.mk (show (0 : Int) ≤ 6 ∧ (6 : Int) < q by omega) ?_
  conv => cbv
  refine Cell.mk (.int .i64 (.sym x6)) (by rw [hOY]; rfl) ?_
  conv => cbv
  refine Need.mk (by simp [I.val]) ?_
  conv => cbv
  refine Need.mk (show (0 : Int) ≤ 7 ∧ (7 : Int) < q by omega) ?_
  conv => cbv
  refine Cell.mk (.int .i64 (.sym x7)) (by rw [hOY]; rfl) ?_
  conv => cbv
  refine Need.mk (by simp [I.val]) ?_
  conv => cbv
  refine Need.mk (show (0 : Int) ≤ 8 ∧ (8 : Int) < q by omega) ?_
  conv => cbv
  refine Cell.mk (.int .i64 (.sym x8)) (by rw [hOY]; rfl) ?_
  conv => cbv
  refine Need.mk (by simp [I.val]) ?_
  conv => cbv
  refine RetF.mk [.agg [.p (.int .i64 (.sym y0)), .p (.int .i64 (.sym y1)), .p (.int .i64 (.sym y2)), .p (.int .i64 (.sym x3)), .p (.int .i64 (.sym x4)), .p (.int .i64 (.sym x5)), .p (.int .i64 (.sym x6)), .p (.int .i64 (.sym x7)), .p (.int .i64 (.sym x8)), .p (.int .i64 (.sym y9))], .p (.int .i64 (.sym e))] [(0, .mix [.ptr 1 (.lit 0), .sl 6 3 1 (.lit 0) (.sym W), .ptr 7 (.lit 0), .p (.int .i64 (.sym ph)), .p (.int .i64 (.sym sp)), .p (.int .i64 (.sym cy))]), (1, .mix [.ptr 2 (.lit 0), .sl 5 3 1 (.lit 0) (.sym W)]), (2, .mix [.sl 3 3 1 (.lit 0) (.sym N), .sl 4 189 8 (.lit 0) (.sym N)]), (3, .pure true P), (4, .pure true B), (5, .pure true V), (6, .pure true Q), (7, .mix [.p (.vsl (.sym m) true la), .p (.bool ov)])] 8 (Re.at [(0, 0), (1, 1), (2, 2), (3, 3), (4, 4), (5, 5), (6, 6), (7, 7)] []) rfl ⟨⟨y0, y1, y2, x3, x4, x5, x6, x7, x8, y9, e, rfl, ?_⟩, rfl, rfl⟩
  have hfs : [y0, y1, y2, x3, x4, x5, x6, x7, x8, y9] = gorFs [x0, x1, x2, x3, x4, x5, x6, x7, x8, x9] := by simp only [gorFs, hy0, hy1, hy2, hy9]
  rw [he, hfs]; exact .ok _ hK hY
end Go.Proofs.YtolamdalijjlnaaGreatDoor
/-
  Layer 11 in the calculus: the reference's things put.
-/
namespace Go.Proofs.YtolamdalijjlnaaGreatDoor

open Go Go.LX
set_option maxRecDepth 100000
set_option linter.unusedVariables false
set_option linter.unusedSimpArgs false

set_option maxHeartbeats 8000000 in
theorem rPutChan_lx (R : List Rw) (vs C G : List Int) (N W ph sp cy : Int) (P B V Q la : List PV) (m : Int) (ov : Bool) (h : RM R vs C G N W P B V Q la m) (a x0 x1 x2 x3 x4 x5 x6 x7 x8 : Int) (hb : ∀ x ∈ [x0, x1, x2, x3, x4, x5, x6, x7, x8], b62 x) : CallF (fun _ => Tryz.prog) 41 [.ptr 0 (.lit 0), .p (.int .i64 (.sym a)), .agg [.p (.int .i64 (.sym x0)), .p (.int .i64 (.sym x1)), .p (.int .i64 (.sym x2)), .p (.int .i64 (.sym x3)), .p (.int .i64 (.sym x4)), .p (.int .i64 (.sym x5)), .p (.int .i64 (.sym x6)), .p (.int .i64 (.sym x7)), .p (.int .i64 (.sym x8))]] [(0, .mix [.ptr 1 (.lit 0), .sl 6 3 1 (.lit 0) (.sym W), .ptr 7 (.lit 0), .p (.int .i64 (.sym ph)), .p (.int .i64 (.sym sp)), .p (.int .i64 (.sym cy))]), (1, .mix [.ptr 2 (.lit 0), .sl 5 3 1 (.lit 0) (.sym W)]), (2, .mix [.sl 3 3 1 (.lit 0) (.sym N), .sl 4 189 8 (.lit 0) (.sym N)]), (3, .pure true P), (4, .pure true B), (5, .pure true V), (6, .pure true Q), (7, .mix [.p (.vsl (.sym m) true la), .p (.bool ov)])] 8
    (fun r h n => ∃ (e : Int) (vs' C' G' : List Int) (ov' : Bool) (V' Q' la' : List PV) (m' : Int), r = .p (.int .i64 (.sym e)) ∧ h = [(0, .mix [.ptr 1 (.lit 0), .sl 6 3 1 (.lit 0) (.sym W), .ptr 7 (.lit 0), .p (.int .i64 (.sym ph)), .p (.int .i64 (.sym sp)), .p (.int .i64 (.sym cy))]), (1, .mix [.ptr 2 (.lit 0), .sl 5 3 1 (.lit 0) (.sym W)]), (2, .mix [.sl 3 3 1 (.lit 0) (.sym N), .sl 4 189 8 (.lit 0) (.sym N)]), (3, .pure true P), (4, .pure true B), (5, .pure true V'), (6, .pure true Q'), (7, .mix [.p (.vsl (.sym m') true la'), .p (.bool ov')])] ∧ n = 8 ∧ RM R vs' C' G' N W P B V' Q' la' m' ∧ PT 1 9 (chanWs [x0, x1, x2, x3, x4, x5, x6, x7, x8]) R ph a (vs, C, G, ov) e (vs', C', G', ov')) := by
  have hbd := chanWs_bd x0 x1 x2 x3 x4 x5 x6 x7 x8 hb
  simp only [List.forall_mem_cons] at hb
  obtain ⟨b0, b1, b2, b3, b4, b5, b6, b7, b8, _⟩ := hb
  refine callF_of_body tok Tryz.func41 (by kernel_rfl) rfl rfl rfl ?_; conv => cbv
  refine drawn_sound tok (by kernel_rfl) [(4, [27, 26, 24, 23, 21, 20, 18, 17, 15, 14, 12, 11, 9, 8, 6, 5, 1, 0]), (7, [27, 26, 24, 23, 21, 20, 18, 17, 15, 14, 12, 11, 9, 8, 1, 0]), (10, [27, 26, 24, 23, 21, 20, 18, 17, 15, 14, 12, 11, 1, 0]), (13, [27, 26, 24, 23, 21, 20, 18, 17, 15, 14, 1, 0]), (16, [27, 26, 24, 23, 21, 20, 18, 17, 1, 0]), (19, [27, 26, 24, 23, 21, 20, 1, 0]), (22, [27, 26, 24, 23, 1, 0]), (25, [27, 26, 1, 0]), (28, [1, 0]), (29, [1, 0]), (30, [])] [0, 1, 2, 3, 5, 6, 8, 9, 11, 12, 14, 15, 17, 18, 20, 21, 23, 24, 26, 27, 4, 7, 10, 13, 16, 19, 22, 25, 28, 29, 30, 31] (by kernel_rfl) ?_; conv => cbv
  refine callF_frame (rInt62_lx x0 b0) [] rfl trivial rfl rfl (fun r h' n' hrr => ?_)
  obtain ⟨⟨v0, e1, hv0⟩, e2, e3⟩ := hrr
  subst e1 e2 e3
  conv => cbv
  refine callF_frame (rInt62_lx x1 b1) [] rfl trivial rfl rfl (fun r h' n' hrr => ?_)
  obtain ⟨⟨v1, e1, hv1⟩, e2, e3⟩ := hrr
  subst e1 e2 e3
  conv => cbv
  refine callF_frame (rInt62_lx x2 b2) [] rfl trivial rfl rfl (fun r h' n' hrr => ?_)
  obtain ⟨⟨v2, e1, hv2⟩, e2, e3⟩ := hrr
  subst e1 e2 e3
  conv => cbv
  refine callF_frame (rInt62_lx x3 b3) [] rfl trivial rfl rfl (fun r h' n' hrr => ?_)
  obtain ⟨⟨v3, e1, hv3⟩, e2, e3⟩ := hrr
  subst e1 e2 e3
  conv => cbv
  refine callF_frame (rptr_lx x4 b4) [] rfl trivial rfl rfl (fun r h' n' hrr => ?_)
  obtain ⟨⟨v4, e1, hv4⟩, e2, e3⟩ := hrr
  subst e1 e2 e3
  conv => cbv
  refine callF_frame (rptr_lx x5 b5) [] rfl trivial rfl rfl (fun r h' n' hrr => ?_)
  obtain ⟨⟨v5, e1, hv5⟩, e2, e3⟩ := hrr
  subst e1 e2 e3
  conv => cbv
  refine callF_frame (rptr_lx x6 b6) [] rfl trivial rfl rfl (fun r h' n' hrr => ?_)
  obtain ⟨⟨v6, e1, hv6⟩, e2, e3⟩ := hrr
  subst e1 e2 e3
  conv => cbv
  refine callF_frame (rptr_lx x7 b7) [] rfl trivial rfl rfl (fun r h' n' hrr => ?_)
  obtain ⟨⟨v7, e1, hv7⟩, e2, e3⟩ := hrr
  subst e1 e2 e3
  conv => cbv
  refine callF_frame (rptr_lx x8 b8) [] rfl trivial rfl rfl (fun r h' n' hrr => ?_)
  obtain ⟨⟨v8, e1, hv8⟩, e2, e3⟩ := hrr
  subst e1 e2 e3
  conv => cbv
  have hv : [v0, v1, v2, v3, v4, v5, v6, v7, v8] = chanWs [x0, x1, x2, x3, x4, x5, x6, x7, x8] := by simp only [chanWs, hv0, hv1, hv2, hv3, hv4, hv5, hv6, hv7, hv8]
  refine CallF.re (args0 := [.ptr 0 (.lit 0), .p (.int .i64 (.sym a)), .p (.int .i64 (.lit 1)), .p (.vsl (.sym 9) true [.int .i64 (.sym v0), .int .i64 (.sym v1), .int .i64 (.sym v2), .int .i64 (.sym v3), .int .i64 (.sym v4), .int .i64 (.sym v5), .int .i64 (.sym v6), .int .i64 (.sym v7), .int .i64 (.sym v8)])]) (h' := [(0, .mix [.ptr 1 (.lit 0), .sl 6 3 1 (.lit 0) (.sym W), .ptr 7 (.lit 0), .p (.int .i64 (.sym ph)), .p (.int .i64 (.sym sp)), .p (.int .i64 (.sym cy))]), (1, .mix [.ptr 2 (.lit 0), .sl 5 3 1 (.lit 0) (.sym W)]), (2, .mix [.sl 3 3 1 (.lit 0) (.sym N), .sl 4 189 8 (.lit 0) (.sym N)]), (3, .pure true P), (4, .pure true B), (5, .pure true V), (6, .pure true Q), (7, .mix [.p (.vsl (.sym m) true la), .p (.bool ov)])]) (Re.at [(0, 0), (1, 1), (2, 2), (3, 3), (4, 4), (5, 5), (6, 6), (7, 7)] []) (callF_frame (rPutW1_lx R vs C G N W ph sp cy P B V Q la m ov h a [v0, v1, v2, v3, v4, v5, v6, v7, v8] [.int .i64 (.sym v0), .int .i64 (.sym v1), .int .i64 (.sym v2), .int .i64 (.sym v3), .int .i64 (.sym v4), .int .i64 (.sym v5), .int .i64 (.sym v6), .int .i64 (.sym v7), .int .i64 (.sym v8)] rfl rfl (by rw [hv]; exact hbd)) [(0, 0), (1, 1), (2, 2), (3, 3), (4, 4), (5, 5), (6, 6), (7, 7)] rfl (by simp [hmapOk, nget, hget, renB, okB, renV, renVs, rn, okVs, okV]) rfl rfl (fun r h' n' hrr => ?_))
  obtain ⟨e, vs', C', G', ov', V', Q', la', m', e1, e2, e3, h', hP⟩ := hrr
  subst e1 e2 e3
  rw [hv] at hP
  conv => cbv
  refine RetF.mk [.p (.int .i64 (.sym e))] [(0, .mix [.ptr 1 (.lit 0), .sl 6 3 1 (.lit 0) (.sym W), .ptr 7 (.lit 0), .p (.int .i64 (.sym ph)), .p (.int .i64 (.sym sp)), .p (.int .i64 (.sym cy))]), (1, .mix [.ptr 2 (.lit 0), .sl 5 3 1 (.lit 0) (.sym W)]), (2, .mix [.sl 3 3 1 (.lit 0) (.sym N), .sl 4 189 8 (.lit 0) (.sym N)]), (3, .pure true P), (4, .pure true B), (5, .pure true V'), (6, .pure true Q'), (7, .mix [.p (.vsl (.sym m') true la'), .p (.bool ov')])] 8 (Re.at [(0, 0), (1, 1), (2, 2), (3, 3), (4, 4), (5, 5), (6, 6), (7, 7)] []) rfl ⟨e, vs', C', G', ov', V', Q', la', m', rfl, rfl, rfl, h', hP⟩
set_option maxHeartbeats 8000000 in
theorem rPutSudog_lx (R : List Rw) (vs C G : List Int) (N W ph sp cy : Int) (P B V Q la : List PV) (m : Int) (ov : Bool) (h : RM R vs C G N W P B V Q la m) (a x0 x1 x2 x3 x4 x5 x6 : Int) (hb : ∀ x ∈ [x0, x1, x3, x4, x5, x6], b62 x) (hw : ∀ x ∈ [x2], -9223372036854775808 ≤ x ∧ x ≤ 9223372036854775807) : CallF (fun _ => Tryz.prog) 43 [.ptr 0 (.lit 0), .p (.int .i64 (.sym a)), .agg [.p (.int .i64 (.sym x0)), .p (.int .i64 (.sym x1)), .p (.int .i64 (.sym x2)), .p (.int .i64 (.sym x3)), .p (.int .i64 (.sym x4)), .p (.int .i64 (.sym x5)), .p (.int .i64 (.sym x6))]] [(0, .mix [.ptr 1 (.lit 0), .sl 6 3 1 (.lit 0) (.sym W), .ptr 7 (.lit 0), .p (.int .i64 (.sym ph)), .p (.int .i64 (.sym sp)), .p (.int .i64 (.sym cy))]), (1, .mix [.ptr 2 (.lit 0), .sl 5 3 1 (.lit 0) (.sym W)]), (2, .mix [.sl 3 3 1 (.lit 0) (.sym N), .sl 4 189 8 (.lit 0) (.sym N)]), (3, .pure true P), (4, .pure true B), (5, .pure true V), (6, .pure true Q), (7, .mix [.p (.vsl (.sym m) true la), .p (.bool ov)])] 8
    (fun r h n => ∃ (e : Int) (vs' C' G' : List Int) (ov' : Bool) (V' Q' la' : List PV) (m' : Int), r = .p (.int .i64 (.sym e)) ∧ h = [(0, .mix [.ptr 1 (.lit 0), .sl 6 3 1 (.lit 0) (.sym W), .ptr 7 (.lit 0), .p (.int .i64 (.sym ph)), .p (.int .i64 (.sym sp)), .p (.int .i64 (.sym cy))]), (1, .mix [.ptr 2 (.lit 0), .sl 5 3 1 (.lit 0) (.sym W)]), (2, .mix [.sl 3 3 1 (.lit 0) (.sym N), .sl 4 189 8 (.lit 0) (.sym N)]), (3, .pure true P), (4, .pure true B), (5, .pure true V'), (6, .pure true Q'), (7, .mix [.p (.vsl (.sym m') true la'), .p (.bool ov')])] ∧ n = 8 ∧ RM R vs' C' G' N W P B V' Q' la' m' ∧ PT 3 7 (sudogWs [x0, x1, x2, x3, x4, x5, x6]) R ph a (vs, C, G, ov) e (vs', C', G', ov')) := by
  have hbd := sudogWs_bd x0 x1 x2 x3 x4 x5 x6 hb hw
  simp only [List.forall_mem_cons] at hb
  obtain ⟨b0, b1, b3, b4, b5, b6, _⟩ := hb
  refine callF_of_body tok Tryz.func43 (by kernel_rfl) rfl rfl rfl ?_; conv => cbv
  refine drawn_sound tok (by kernel_rfl) [(4, [20, 19, 17, 16, 14, 13, 11, 10, 9, 8, 6, 5, 1, 0]), (7, [20, 19, 17, 16, 14, 13, 11, 10, 9, 8, 1, 0]), (12, [20, 19, 17, 16, 14, 13, 9, 8, 1, 0]), (15, [20, 19, 17, 16, 9, 8, 1, 0]), (18, [20, 19, 9, 8, 1, 0]), (21, [9, 8, 1, 0]), (22, [1, 0]), (23, [])] [0, 1, 2, 3, 5, 6, 8, 9, 10, 11, 13, 14, 16, 17, 19, 20, 4, 7, 12, 15, 18, 21, 22, 23, 24] (by kernel_rfl) ?_; conv => cbv
  refine callF_frame (rptr_lx x0 b0) [] rfl trivial rfl rfl (fun r h' n' hrr => ?_)
  obtain ⟨⟨v0, e1, hv0⟩, e2, e3⟩ := hrr
  subst e1 e2 e3
  conv => cbv
  refine callF_frame (rptr_lx x1 b1) [] rfl trivial rfl rfl (fun r h' n' hrr => ?_)
  obtain ⟨⟨v1, e1, hv1⟩, e2, e3⟩ := hrr
  subst e1 e2 e3
  conv => cbv
  refine callF_frame (rptr_lx x3 b3) [] rfl trivial rfl rfl (fun r h' n' hrr => ?_)
  obtain ⟨⟨v3, e1, hv3⟩, e2, e3⟩ := hrr
  subst e1 e2 e3
  conv => cbv
  refine callF_frame (rInt62_lx x4 b4) [] rfl trivial rfl rfl (fun r h' n' hrr => ?_)
  obtain ⟨⟨v4, e1, hv4⟩, e2, e3⟩ := hrr
  subst e1 e2 e3
  conv => cbv
  refine callF_frame (rInt62_lx x5 b5) [] rfl trivial rfl rfl (fun r h' n' hrr => ?_)
  obtain ⟨⟨v5, e1, hv5⟩, e2, e3⟩ := hrr
  subst e1 e2 e3
  conv => cbv
  refine callF_frame (rptr_lx x6 b6) [] rfl trivial rfl rfl (fun r h' n' hrr => ?_)
  obtain ⟨⟨v6, e1, hv6⟩, e2, e3⟩ := hrr
  subst e1 e2 e3
  conv => cbv
  have hv : [v0, v1, x2, v3, v4, v5, v6] = sudogWs [x0, x1, x2, x3, x4, x5, x6] := by simp only [sudogWs, hv0, hv1, hv3, hv4, hv5, hv6]
  refine CallF.re (args0 := [.ptr 0 (.lit 0), .p (.int .i64 (.sym a)), .p (.int .i64 (.lit 3)), .p (.vsl (.sym 7) true [.int .i64 (.sym v0), .int .i64 (.sym v1), .int .i64 (.sym x2), .int .i64 (.sym v3), .int .i64 (.sym v4), .int .i64 (.sym v5), .int .i64 (.sym v6)])]) (h' := [(0, .mix [.ptr 1 (.lit 0), .sl 6 3 1 (.lit 0) (.sym W), .ptr 7 (.lit 0), .p (.int .i64 (.sym ph)), .p (.int .i64 (.sym sp)), .p (.int .i64 (.sym cy))]), (1, .mix [.ptr 2 (.lit 0), .sl 5 3 1 (.lit 0) (.sym W)]), (2, .mix [.sl 3 3 1 (.lit 0) (.sym N), .sl 4 189 8 (.lit 0) (.sym N)]), (3, .pure true P), (4, .pure true B), (5, .pure true V), (6, .pure true Q), (7, .mix [.p (.vsl (.sym m) true la), .p (.bool ov)])]) (Re.at [(0, 0), (1, 1), (2, 2), (3, 3), (4, 4), (5, 5), (6, 6), (7, 7)] []) (callF_frame (rPutW3_lx R vs C G N W ph sp cy P B V Q la m ov h a [v0, v1, x2, v3, v4, v5, v6] [.int .i64 (.sym v0), .int .i64 (.sym v1), .int .i64 (.sym x2), .int .i64 (.sym v3), .int .i64 (.sym v4), .int .i64 (.sym v5), .int .i64 (.sym v6)] rfl rfl (by rw [hv]; exact hbd)) [(0, 0), (1, 1), (2, 2), (3, 3), (4, 4), (5, 5), (6, 6), (7, 7)] rfl (by simp [hmapOk, nget, hget, renB, okB, renV, renVs, rn, okVs, okV]) rfl rfl (fun r h' n' hrr => ?_))
  obtain ⟨e, vs', C', G', ov', V', Q', la', m', e1, e2, e3, h', hP⟩ := hrr
  subst e1 e2 e3
  rw [hv] at hP
  conv => cbv
  refine RetF.mk [.p (.int .i64 (.sym e))] [(0, .mix [.ptr 1 (.lit 0), .sl 6 3 1 (.lit 0) (.sym W), .ptr 7 (.lit 0), .p (.int .i64 (.sym ph)), .p (.int .i64 (.sym sp)), .p (.int .i64 (.sym cy))]), (1, .mix [.ptr 2 (.lit 0), .sl 5 3 1 (.lit 0) (.sym W)]), (2, .mix [.sl 3 3 1 (.lit 0) (.sym N), .sl 4 189 8 (.lit 0) (.sym N)]), (3, .pure true P), (4, .pure true B), (5, .pure true V'), (6, .pure true Q'), (7, .mix [.p (.vsl (.sym m') true la'), .p (.bool ov')])] 8 (Re.at [(0, 0), (1, 1), (2, 2), (3, 3), (4, 4), (5, 5), (6, 6), (7, 7)] []) rfl ⟨e, vs', C', G', ov', V', Q', la', m', rfl, rfl, rfl, h', hP⟩
set_option maxHeartbeats 8000000 in
theorem rPutGor_lx (R : List Rw) (vs C G : List Int) (N W ph sp cy : Int) (P B V Q la : List PV) (m : Int) (ov : Bool) (h : RM R vs C G N W P B V Q la m) (a x0 x1 x2 x3 x4 x5 x6 x7 x8 x9 : Int) (hb : ∀ x ∈ [x0, x1, x2, x9], b62 x) (hw : ∀ x ∈ [x3, x4, x5, x6, x7, x8], -9223372036854775808 ≤ x ∧ x ≤ 9223372036854775807) : CallF (fun _ => Tryz.prog) 45 [.ptr 0 (.lit 0), .p (.int .i64 (.sym a)), .agg [.p (.int .i64 (.sym x0)), .p (.int .i64 (.sym x1)), .p (.int .i64 (.sym x2)), .p (.int .i64 (.sym x3)), .p (.int .i64 (.sym x4)), .p (.int .i64 (.sym x5)), .p (.int .i64 (.sym x6)), .p (.int .i64 (.sym x7)), .p (.int .i64 (.sym x8)), .p (.int .i64 (.sym x9))]] [(0, .mix [.ptr 1 (.lit 0), .sl 6 3 1 (.lit 0) (.sym W), .ptr 7 (.lit 0), .p (.int .i64 (.sym ph)), .p (.int .i64 (.sym sp)), .p (.int .i64 (.sym cy))]), (1, .mix [.ptr 2 (.lit 0), .sl 5 3 1 (.lit 0) (.sym W)]), (2, .mix [.sl 3 3 1 (.lit 0) (.sym N), .sl 4 189 8 (.lit 0) (.sym N)]), (3, .pure true P), (4, .pure true B), (5, .pure true V), (6, .pure true Q), (7, .mix [.p (.vsl (.sym m) true la), .p (.bool ov)])] 8
    (fun r h n => ∃ (e : Int) (vs' C' G' : List Int) (ov' : Bool) (V' Q' la' : List PV) (m' : Int), r = .p (.int .i64 (.sym e)) ∧ h = [(0, .mix [.ptr 1 (.lit 0), .sl 6 3 1 (.lit 0) (.sym W), .ptr 7 (.lit 0), .p (.int .i64 (.sym ph)), .p (.int .i64 (.sym sp)), .p (.int .i64 (.sym cy))]), (1, .mix [.ptr 2 (.lit 0), .sl 5 3 1 (.lit 0) (.sym W)]), (2, .mix [.sl 3 3 1 (.lit 0) (.sym N), .sl 4 189 8 (.lit 0) (.sym N)]), (3, .pure true P), (4, .pure true B), (5, .pure true V'), (6, .pure true Q'), (7, .mix [.p (.vsl (.sym m') true la'), .p (.bool ov')])] ∧ n = 8 ∧ RM R vs' C' G' N W P B V' Q' la' m' ∧ PT 4 10 (gorWs [x0, x1, x2, x3, x4, x5, x6, x7, x8, x9]) R ph a (vs, C, G, ov) e (vs', C', G', ov')) := by
  have hbd := gorWs_bd x0 x1 x2 x3 x4 x5 x6 x7 x8 x9 hb hw
  simp only [List.forall_mem_cons] at hb
  obtain ⟨b0, b1, b2, b9, _⟩ := hb
  refine callF_of_body tok Tryz.func45 (by kernel_rfl) rfl rfl rfl ?_; conv => cbv
  refine drawn_sound tok (by kernel_rfl) [(2, [7, 6, 4, 3]), (5, [7, 6]), (8, []), (9, [])] [0, 1, 3, 4, 6, 7, 2, 5, 8, 9, 10] (by kernel_rfl) ?_; conv => cbv
  refine callF_frame (rInt62_lx x0 b0) [] rfl trivial rfl rfl (fun r h' n' hrr => ?_)
  obtain ⟨⟨v0, e1, hv0⟩, e2, e3⟩ := hrr
  subst e1 e2 e3
  conv => cbv
  refine callF_frame (rInt62_lx x1 b1) [] rfl trivial rfl rfl (fun r h' n' hrr => ?_)
  obtain ⟨⟨v1, e1, hv1⟩, e2, e3⟩ := hrr
  subst e1 e2 e3
  conv => cbv
  refine callF_frame (rInt62_lx x2 b2) [] rfl trivial rfl rfl (fun r h' n' hrr => ?_)
  obtain ⟨⟨v2, e1, hv2⟩, e2, e3⟩ := hrr
  subst e1 e2 e3
  conv => cbv
  refine LoopF.rounds 7 ?_
  conv => cbv
  refine Need.mk (by simp [I.val]) ?_
  conv => cbv
  refine Room.new rfl ?_
  conv => cbv
  refine Room.new ⟨rfl, by simp [I.val], by simp [I.val]⟩ ?_
  conv => cbv
  refine Need.mk (by simp [I.val]) ?_
  conv => cbv
  refine Room.new rfl ?_
  conv => cbv
  refine Room.new ⟨rfl, by simp [I.val], by simp [I.val]⟩ ?_
  conv => cbv
  refine Need.mk (by simp [I.val]) ?_
  conv => cbv
  refine Room.new rfl ?_
  conv => cbv
  refine Room.new ⟨rfl, by simp [I.val], by simp [I.val]⟩ ?_
  conv => cbv
  refine Need.mk (by simp [I.val]) ?_
  conv => cbv
  refine Room.new rfl ?_
  conv => cbv
  refine Room.new ⟨rfl, by simp [I.val], by simp [I.val]⟩ ?_
  conv => cbv
  refine Need.mk (by simp [I.val]) ?_
  conv => cbv
  refine Room.new rfl ?_
  conv => cbv
  refine Room.new ⟨rfl, by simp [I.val], by simp [I.val]⟩ ?_
  conv => cbv
  refine Need.mk (by simp [I.val]) ?_
  conv => cbv
  refine Room.new rfl ?_
  conv => cbv
  refine Room.new ⟨rfl, by simp [I.val], by simp [I.val]⟩ ?_
  conv => cbv
  refine callF_frame (rptr_lx x9 b9) [] rfl trivial rfl rfl (fun r h' n' hrr => ?_)
  obtain ⟨⟨v9, e1, hv9⟩, e2, e3⟩ := hrr
  subst e1 e2 e3
  conv => cbv
  refine Room.new rfl ?_
  conv => cbv
  refine Room.new ⟨rfl, by simp [I.val], by simp [I.val]⟩ ?_
  conv => cbv
  have hv : [v0, v1, v2, x3, x4, x5, x6, x7, x8, v9] = gorWs [x0, x1, x2, x3, x4, x5, x6, x7, x8, x9] := by simp only [gorWs, hv0, hv1, hv2, hv9]
  refine CallF.re (args0 := [.ptr 0 (.lit 0), .p (.int .i64 (.sym a)), .p (.int .i64 (.lit 4)), .p (.vsl (.sym 10) true [.int .i64 (.sym v0), .int .i64 (.sym v1), .int .i64 (.sym v2), .int .i64 (.sym x3), .int .i64 (.sym x4), .int .i64 (.sym x5), .int .i64 (.sym x6), .int .i64 (.sym x7), .int .i64 (.sym x8), .int .i64 (.sym v9)])]) (h' := [(0, .mix [.ptr 1 (.lit 0), .sl 6 3 1 (.lit 0) (.sym W), .ptr 7 (.lit 0), .p (.int .i64 (.sym ph)), .p (.int .i64 (.sym sp)), .p (.int .i64 (.sym cy))]), (1, .mix [.ptr 2 (.lit 0), .sl 5 3 1 (.lit 0) (.sym W)]), (2, .mix [.sl 3 3 1 (.lit 0) (.sym N), .sl 4 189 8 (.lit 0) (.sym N)]), (3, .pure true P), (4, .pure true B), (5, .pure true V), (6, .pure true Q), (7, .mix [.p (.vsl (.sym m) true la), .p (.bool ov)])]) (Re.at [(0, 0), (1, 1), (2, 2), (3, 3), (4, 4), (5, 5), (6, 6), (7, 7)] []) (callF_frame (rPutW4_lx R vs C G N W ph sp cy P B V Q la m ov h a [v0, v1, v2, x3, x4, x5, x6, x7, x8, v9] [.int .i64 (.sym v0), .int .i64 (.sym v1), .int .i64 (.sym v2), .int .i64 (.sym x3), .int .i64 (.sym x4), .int .i64 (.sym x5), .int .i64 (.sym x6), .int .i64 (.sym x7), .int .i64 (.sym x8), .int .i64 (.sym v9)] rfl rfl (by rw [hv]; exact hbd)) [(0, 0), (1, 1), (2, 2), (3, 3), (4, 4), (5, 5), (6, 6), (7, 7)] rfl (by simp [hmapOk, nget, hget, renB, okB, renV, renVs, rn, okVs, okV]) rfl rfl (fun r h' n' hrr => ?_))
  obtain ⟨e, vs', C', G', ov', V', Q', la', m', e1, e2, e3, h', hP⟩ := hrr
  subst e1 e2 e3
  rw [hv] at hP
  conv => cbv
  refine RetF.mk [.p (.int .i64 (.sym e))] [(0, .mix [.ptr 1 (.lit 0), .sl 6 3 1 (.lit 0) (.sym W), .ptr 7 (.lit 0), .p (.int .i64 (.sym ph)), .p (.int .i64 (.sym sp)), .p (.int .i64 (.sym cy))]), (1, .mix [.ptr 2 (.lit 0), .sl 5 3 1 (.lit 0) (.sym W)]), (2, .mix [.sl 3 3 1 (.lit 0) (.sym N), .sl 4 189 8 (.lit 0) (.sym N)]), (3, .pure true P), (4, .pure true B), (5, .pure true V'), (6, .pure true Q'), (7, .mix [.p (.vsl (.sym m') true la'), .p (.bool ov')])] 8 (Re.at [(0, 0), (1, 1), (2, 2), (3, 3), (4, 4), (5, 5), (6, 6), (7, 7)] []) rfl ⟨e, vs', C', G', ov', V', Q', la', m', rfl, rfl, rfl, h', hP⟩
end Go.Proofs.YtolamdalijjlnaaGreatDoor
/-
  Layer 9: what is gone, held against each other; a reference's heap made.
-/
namespace Go.Proofs.YtolamdalijjlnaaGreatDoor

open Go Go.LX
set_option maxRecDepth 100000
set_option linter.unusedVariables false
set_option linter.unusedSimpArgs false

set_option maxHeartbeats 4000000 in
theorem rnewH_lx (N W : Int) (h2 : 2 ≤ N) (h8 : N ≤ 128) (hW : W = 32 * N) : CallF (fun _ => Tryz.prog) 16 [.p (.int .i64 (.sym N))] [] 0 (fun r h n => ∃ P B V Q : List PV, r = .tup [.ptr 0 (.lit 0), .p (.int .i64 (.lit 0))] ∧ h = [(0, .mix [.ptr 1 (.lit 0), .sl 6 3 1 (.lit 0) (.sym W), .ptr 7 (.lit 0), .p (.int .i64 (.sym 0)), .p (.int .i64 (.sym 0)), .p (.int .i64 (.sym 0))]), (1, .mix [.ptr 2 (.lit 0), .sl 5 3 1 (.lit 0) (.sym W)]), (2, .mix [.sl 3 3 1 (.lit 0) (.sym N), .sl 4 189 8 (.lit 0) (.sym N)]), (3, .pure true P), (4, .pure true B), (5, .pure true V), (6, .pure true Q), (7, .mix [.p (.vsl (.sym 0) true []), .p (.bool false)])] ∧ n = 8 ∧ RM (List.replicate N.toNat (0, [])) (List.replicate W.toNat 0) (List.replicate W.toNat 0) [] N W P B V Q [] 0) := by
  refine callF_of_body tok Tryz.func16 (by kernel_rfl) rfl rfl rfl ?_; conv => cbv
  refine callF_frame (rnewA_lx N W h2 h8 hW) [] rfl trivial rfl rfl (fun r h' n' hrr => ?_)
  obtain ⟨P, B, V, e1, e2, e3, hP, hB, hV⟩ := hrr
  subst e1 e2 e3
  conv => cbv
  refine Need.mk ⟨by show 0 ≤ W; omega, Int.le_refl _, by show W * 8 ≤ 140737488355328; omega, by show W ≤ 9223372036854775807; omega⟩ ?_
  conv => cbv
  obtain ⟨Q, hQ⟩ : ∃ Q, Q = ipv (List.replicate W.toNat 0) := ⟨_, rfl⟩
  refine Upd.mk fun Q0 hQ0 => ?_
  have hle : pvles Q0 Q := by
    have hQ0 : Q0 = repsP [.int .i64 (.lit 0)] W.toNat := hQ0
    rw [hQ0, hQ]; exact zero_ipv _
  unfold pvles at hle
  clear hQ0
  conv => cbv
  refine RetF.mk [.ptr 0 (.lit 0), .p (.int .i64 (.lit 0))] [(0, .mix [.ptr 1 (.lit 0), .sl 6 3 1 (.lit 0) (.sym W), .ptr 7 (.lit 0), .p (.int .i64 (.sym 0)), .p (.int .i64 (.sym 0)), .p (.int .i64 (.sym 0))]), (1, .mix [.ptr 2 (.lit 0), .sl 5 3 1 (.lit 0) (.sym W)]), (2, .mix [.sl 3 3 1 (.lit 0) (.sym N), .sl 4 189 8 (.lit 0) (.sym N)]), (3, .pure true P), (4, .pure true B), (5, .pure true V), (6, .pure true Q), (7, .mix [.p (.vsl (.sym 0) true []), .p (.bool false)])] 8 (Re.at [(7, 0), (0, 1), (1, 2), (2, 3), (3, 4), (4, 5), (5, 6), (6, 7)] []) rfl ⟨P, B, V, Q, rfl, rfl, rfl, ⟨by rw [show W.toNat = 32 * N.toNat by omega]; exact AOk.new _, by rw [List.length_replicate]; omega, by rw [List.length_replicate]; omega, hW, hP, hB, hV, hQ, by rw [List.length_replicate]; omega, rfl, rfl, fun x hx => (by cases hx), Nat.zero_le _⟩⟩
end Go.Proofs.YtolamdalijjlnaaGreatDoor
/-
  Layer 9: HeapPlays.
-/
namespace Go.Proofs.YtolamdalijjlnaaGreatDoor

open Go Go.LX
set_option maxRecDepth 100000
set_option linter.unusedVariables false
set_option linter.unusedSimpArgs false

theorem Sim.new9 (n : Nat) : Sim (List.replicate n (0, [])) (List.replicate (32 * n) 0) (List.replicate (32 * n) 0) :=
  ⟨AOk.new n, AOk.new n, fun _ _ _ h => absurd h.obj6 (new_none n _), fun _ _ _ _ h => absurd h.obj6 (new_none n _)⟩
end Go.Proofs.YtolamdalijjlnaaGreatDoor
/-
  Layer 11: the bench.
-/
namespace Go.Proofs.YtolamdalijjlnaaGreatDoor

open Go Go.LX
set_option maxRecDepth 100000
set_option linter.unusedVariables false
set_option linter.unusedSimpArgs false

/-- A channel, a sudog, a goroutine and a box, all of them empty. -/
structure Quad (R : List Rw) (ws : List Int) (r1 r2 r3 r4 : Int) : Prop where
  k1 : Kept R ws r1 1 9
  k2 : Kept R ws r2 3 7
  k3 : Kept R ws r3 4 10
  k4 : Kept R ws r4 5 2
  ob : ∀ x, x ∈ objs R ↔ x = r1 ∨ x = r2 ∨ x = r3 ∨ x = r4
  zero : ∀ a k l i, Kept R ws a k l → 0 ≤ i → i < l → ws[(a + 1 + i).toNat]? = some 0
/-- So many empty objects, one behind the other. -/
structure Rowd (R : List Rw) (ws l : List Int) : Prop where
  ob : ∀ x, x ∈ objs R ↔ x ∈ l
  cnt : objCount R = l.length
  zero : ∀ a k l i, Kept R ws a k l → 0 ≤ i → i < l → ws[(a + 1 + i).toNat]? = some 0
theorem Rowd.new (n m : Nat) : Rowd (List.replicate n ((0, []) : Rw)) (List.replicate m 0) [] := by
  refine ⟨fun x => ⟨fun h => absurd ((objs_mem (AOk.new n).rows x).1 h) (new_none n x), fun h => by cases h⟩, by rw [new_count]; rfl, fun a k l i hK => absurd hK.obj6 (new_none n a)⟩
theorem Rowd.alloc {R R' : List Rw} {ws ws' l : List Int} {kind n a e : Int} (hA : AOk R ws) (h : Rowd R ws l) (hr : l.length < R.length) (hk : 0 ≤ n ∧ n ≤ 31 ∧ 1 ≤ kind ∧ kind ≤ 6) (hs : Alloct R ws kind n a e R' ws') : e = 0 ∧ Rowd R' ws' (l ++ [a]) ∧ Kept R' ws' a kind n ∧ ∀ b k l, Kept R ws b k l → Kept R' ws' b k l := by
  have he : e = 0 := by have := alloct_err hA hs (by rw [h.cnt]; exact hr); rw [if_pos hk] at this; exact this
  obtain ⟨h1, h2, h3, h4, h5, h6, h7⟩ := alloct_ok hA hs he
  have hA' := (hA.alloct hs).1
  refine ⟨he, ⟨fun x => ?_, by rw [h3, h.cnt, List.length_append]; rfl, fun b k l i hK hi0 hi1 => ?_⟩, h1, h5⟩
  · rw [List.mem_append, List.mem_singleton, ← h.ob x, obj_iff hA' x, obj_iff hA x]
    constructor
    · intro q; rcases h6 x q with q | q
      · exact .inr q
      · exact .inl q
    · rintro (q | q)
      · obtain ⟨k, l, hK⟩ := Kept.of hA q; exact (h5 x k l hK).obj6
      · rw [q]; exact h1.obj6
  · by_cases e : b = a
    · subst e
      obtain ⟨_, e2⟩ := hK.det9 h1
      exact h4 i hi0 (by omega)
    · rcases h6 b hK.obj6 with q | q
      · exact absurd q e
      · obtain ⟨k2, l2, hK2⟩ := Kept.of hA q
        obtain ⟨_, e2⟩ := (h5 b k2 l2 hK2).det9 hK
        rw [h7 b k2 l2 i hK2 hi0 (by omega)]
        exact h.zero b k2 l2 i hK2 hi0 (by omega)
theorem allocC_white {n : Nat} (a : Int) : allocC 0 a 0 (List.replicate n 0) = List.replicate n 0 := by
  unfold allocC
  rw [if_pos rfl, if_pos rfl, List.set_replicate_self]
set_option maxHeartbeats 8000000 in
theorem both_lx (o : Unit → Obj) (ho : IsPow o) (mk : Bool) : CallF (fun _ => Tryz.prog) 36 [.p (.bool mk)] [(0, .fix 0 o)] 1 (fun r h n => ∃ (R : List Rw) (ws vs C : List Int) (N W ph : Int) (L D Q : List PV) (z : ByteArray) (ov : Bool) (P B V Qr la : List PV) (m r1 r2 r3 r4 : Int), r = .tup [.ptr 1 (.lit 0), .ptr 8 (.lit 0)] ∧ h = [(1, .mix [.ptr 2 (.lit 0), .ptr 6 (.lit 0), .sl 7 3 1 (.lit 0) (.sym W), .p (.int .i64 (.sym ph)), .p (.int .i64 (.sym 0)), .p (.int .i64 (.sym 0))]), (2, .mix [.ptr 3 (.lit 0), .sl 5 3 1 (.lit 0) (.sym W)]), (3, .mix [.sl 4 161 2 (.lit 0) (.sym N)]), (4, .pure true L), (5, .pure true D), (6, .pure false [.str fun _ => z, .bool ov]), (7, .pure true Q), (8, .mix [.ptr 9 (.lit 0), .sl 14 3 1 (.lit 0) (.sym W), .ptr 15 (.lit 0), .p (.int .i64 (.sym ph)), .p (.int .i64 (.sym 0)), .p (.int .i64 (.sym 0))]), (9, .mix [.ptr 10 (.lit 0), .sl 13 3 1 (.lit 0) (.sym W)]), (10, .mix [.sl 11 3 1 (.lit 0) (.sym N), .sl 12 189 8 (.lit 0) (.sym N)]), (11, .pure true P), (12, .pure true B), (13, .pure true V), (14, .pure true Qr), (15, .mix [.p (.vsl (.sym m) true la), .p (.bool ov)]), (0, .fix 0 o)] ∧ n = 16 ∧ HM R ws C [] N W L D Q z ∧ RM R vs C [] N W P B V Qr la m ∧ Sim R ws vs ∧ Quad R ws r1 r2 r3 r4 ∧ C = List.replicate W.toNat 0 ∧ N = 4 ∧ (ph = if mk then 1 else 0)) := by
  refine callF_of_body tok Tryz.func36 (by kernel_rfl) rfl rfl rfl ?_; conv => cbv
  obtain ⟨N, hN⟩ : ∃ N : Int, N = 4 := ⟨_, rfl⟩
  obtain ⟨W, hW⟩ : ∃ W, W = 32 * N := ⟨_, rfl⟩
  obtain ⟨Rz, hRz⟩ : ∃ Rz, Rz = List.replicate N.toNat ((0, []) : Rw) := ⟨_, rfl⟩
  obtain ⟨wz, hwz⟩ : ∃ wz, wz = List.replicate W.toNat (0 : Int) := ⟨_, rfl⟩
  obtain ⟨L0, hL0⟩ : ∃ L0, L0 = rpv Rz := ⟨_, rfl⟩
  obtain ⟨D0, hD0⟩ : ∃ D0, D0 = ipv wz := ⟨_, rfl⟩
  obtain ⟨z0, hz0⟩ : ∃ z0 : ByteArray, z0 = ⟨(enc []).toArray⟩ := ⟨_, rfl⟩
  have h0 : HM Rz wz wz [] N W L0 D0 D0 z0 := by rw [hRz, hwz] at *; exact HM.new (by omega) (by omega) hW hL0 hD0 hD0 hz0
  refine CallF.le (args0 := [.p (.int .i64 (.sym N))]) (callF_frame (newH_lx N W (by omega) (by omega) hW L0 D0 D0 z0 (by rw [hL0, hRz]) (by rw [hD0, hwz]) (by rw [hD0, hwz]) hz0) [] rfl trivial rfl rfl (fun r h' n' ⟨e1, e2, e3⟩ => ?_)) (by simp [ales, ale, pvle, I.val, hN])
  subst e1 e2 e3
  conv => cbv
  refine CallF.le (args0 := [.p (.int .i64 (.sym N))]) (callF_frame (rnewH_lx N W (by omega) (by omega) hW) [] rfl trivial rfl rfl (fun r h' n' hrr => ?_)) (by simp [ales, ale, pvle, I.val, hN])
  obtain ⟨P0, B0, V0, Qr0, e1, e2, e3, g0⟩ := hrr
  subst e1 e2 e3
  rw [← hRz, ← hwz] at g0
  have hS0 : Sim Rz wz wz := by rw [hRz, hwz, show W.toNat = 32 * N.toNat by omega]; exact Sim.new9 _
  have hO0 : Rowd Rz wz [] := by rw [hRz, hwz]; exact Rowd.new _ _
  have hlz : Rz.length = 4 := by rw [hRz, List.length_replicate]; omega
  conv => cbv
  refine callF_frame (arena_lx Rz wz wz [] N W 0 0 0 L0 D0 D0 z0 false) [(0, 1), (1, 2), (2, 3), (3, 4), (4, 5), (5, 6), (6, 7)] rfl (by simp [hmapOk, nget, hget, renB, okB, renV, renVs, rn, okVs, okV]) rfl rfl (fun r h' n' ⟨e1, e2, e3⟩ => ?_)
  subst e1 e2 e3
  conv => cbv
  refine LoopF.rounds 5 ?_
  conv => cbv
  refine drawn_sound tok (by kernel_rfl) [(9, [])] [0, 1, 2, 3, 4, 5, 6, 7, 8, 9, 10, 11, 12, 13, 14] (by kernel_rfl) ?_; conv => cbv
  refine Need.mk (by simp [I.val]) ?_
  conv => cbv
  refine Need.mk (by simp [I.val]) ?_
  conv => cbv
  refine CallF.le (args0 := [.ptr 1 (.lit 0), .p (.int .i64 (.sym 1)), .p (.int .i64 (.sym 9))]) (callF_frame (alloc9_lx Rz wz wz [] N W 0 0 0 L0 D0 D0 z0 false h0 1 9) [(0, 1), (1, 2), (2, 3), (3, 4), (4, 5), (5, 6), (6, 7)] rfl (by simp [hmapOk, nget, hget, renB, okB, renV, renVs, rn, okVs, okV]) rfl rfl (fun r h' n' hrr => ?_)) (by simp [ales, ale, pvle, I.val])
  obtain ⟨r1, f1, R1, ws1, C1, L1, D1, Q1, e1, e2, e3, h1, hT1, hC1⟩ := hrr
  subst e1 e2 e3
  conv => cbv
  refine drawn_sound tok (by kernel_rfl) [(9, [])] [0, 1, 2, 3, 4, 5, 6, 7, 8, 9, 10, 11, 12, 13, 14] (by kernel_rfl) ?_; conv => cbv
  refine Need.mk (by simp [I.val]) ?_
  conv => cbv
  refine Need.mk (by simp [I.val]) ?_
  conv => cbv
  refine CallF.le (args0 := [.ptr 8 (.lit 0), .p (.int .i64 (.sym 1)), .p (.int .i64 (.sym 9))]) (callF_frame (ralloc9_lx Rz wz wz [] N W 0 0 0 P0 B0 V0 Qr0 [] 0 false g0 1 9) [(0, 8), (1, 9), (2, 10), (3, 11), (4, 12), (5, 13), (6, 14), (7, 15)] rfl (by simp [hmapOk, nget, hget, renB, okB, renV, renVs, rn, okVs, okV]) rfl rfl (fun r h' n' hrr => ?_)) (by simp [ales, ale, pvle, I.val])
  obtain ⟨b1, k1, Y1, vs1, DC1, P1, B1, V1, Qr1, e1, e2, e3, g1, hU1, hD1⟩ := hrr
  subst e1 e2 e3
  obtain ⟨q1, q2, q3, hS1, hl1⟩ := hS0.alloc hT1 hU1
  subst q1 q2 q3
  obtain rfl : C1 = DC1 := hC1.trans hD1.symm
  obtain ⟨hf1, hO1, hK1, hup1⟩ := hO0.alloc h0.a (by simp; omega) (by decide) hT1
  clear hU1 hD1 hT1
  conv => cbv
  refine Br.no (show ¬ ¬ r1 = r1 from fun q => q rfl) ?_
  conv => cbv
  refine Br.no (show ¬ ¬ f1 = f1 from fun q => q rfl) ?_
  conv => cbv
  refine drawn_sound tok (by kernel_rfl) [(9, [])] [0, 1, 2, 3, 4, 5, 6, 7, 8, 9, 10, 11, 12, 13, 14] (by kernel_rfl) ?_; conv => cbv
  refine Need.mk (by simp [I.val]) ?_
  conv => cbv
  refine Need.mk (by simp [I.val]) ?_
  conv => cbv
  refine CallF.le (args0 := [.ptr 1 (.lit 0), .p (.int .i64 (.sym 3)), .p (.int .i64 (.sym 7))]) (callF_frame (alloc9_lx R1 ws1 C1 [] N W 0 0 0 L1 D1 Q1 z0 false h1 3 7) [(0, 1), (1, 2), (2, 3), (3, 4), (4, 5), (5, 6), (6, 7)] rfl (by simp [hmapOk, nget, hget, renB, okB, renV, renVs, rn, okVs, okV]) rfl rfl (fun r h' n' hrr => ?_)) (by simp [ales, ale, pvle, I.val])
  obtain ⟨r2, f2, R2, ws2, C2, L2, D2, Q2, e1, e2, e3, h2, hT2, hC2⟩ := hrr
  subst e1 e2 e3
  conv => cbv
  refine drawn_sound tok (by kernel_rfl) [(9, [])] [0, 1, 2, 3, 4, 5, 6, 7, 8, 9, 10, 11, 12, 13, 14] (by kernel_rfl) ?_; conv => cbv
  refine Need.mk (by simp [I.val]) ?_
  conv => cbv
  refine Need.mk (by simp [I.val]) ?_
  conv => cbv
  refine CallF.le (args0 := [.ptr 8 (.lit 0), .p (.int .i64 (.sym 3)), .p (.int .i64 (.sym 7))]) (callF_frame (ralloc9_lx R1 vs1 C1 [] N W 0 0 0 P1 B1 V1 Qr1 [] 0 false g1 3 7) [(0, 8), (1, 9), (2, 10), (3, 11), (4, 12), (5, 13), (6, 14), (7, 15)] rfl (by simp [hmapOk, nget, hget, renB, okB, renV, renVs, rn, okVs, okV]) rfl rfl (fun r h' n' hrr => ?_)) (by simp [ales, ale, pvle, I.val])
  obtain ⟨b2, k2, Y2, vs2, DC2, P2, B2, V2, Qr2, e1, e2, e3, g2, hU2, hD2⟩ := hrr
  subst e1 e2 e3
  obtain ⟨q1, q2, q3, hS2, hl2⟩ := hS1.alloc hT2 hU2
  subst q1 q2 q3
  obtain rfl : C2 = DC2 := hC2.trans hD2.symm
  obtain ⟨hf2, hO2, hK2, hup2⟩ := hO1.alloc h1.a (by simp; omega) (by decide) hT2
  clear hU2 hD2 hT2
  conv => cbv
  refine Br.no (show ¬ ¬ r2 = r2 from fun q => q rfl) ?_
  conv => cbv
  refine Br.no (show ¬ ¬ f2 = f2 from fun q => q rfl) ?_
  conv => cbv
  refine drawn_sound tok (by kernel_rfl) [(9, [])] [0, 1, 2, 3, 4, 5, 6, 7, 8, 9, 10, 11, 12, 13, 14] (by kernel_rfl) ?_; conv => cbv
  refine Need.mk (by simp [I.val]) ?_
  conv => cbv
  refine Need.mk (by simp [I.val]) ?_
  conv => cbv
  refine CallF.le (args0 := [.ptr 1 (.lit 0), .p (.int .i64 (.sym 4)), .p (.int .i64 (.sym 10))]) (callF_frame (alloc9_lx R2 ws2 C2 [] N W 0 0 0 L2 D2 Q2 z0 false h2 4 10) [(0, 1), (1, 2), (2, 3), (3, 4), (4, 5), (5, 6), (6, 7)] rfl (by simp [hmapOk, nget, hget, renB, okB, renV, renVs, rn, okVs, okV]) rfl rfl (fun r h' n' hrr => ?_)) (by simp [ales, ale, pvle, I.val])
  obtain ⟨r3, f3, R3, ws3, C3, L3, D3, Q3, e1, e2, e3, h3, hT3, hC3⟩ := hrr
  subst e1 e2 e3
  conv => cbv
  refine drawn_sound tok (by kernel_rfl) [(9, [])] [0, 1, 2, 3, 4, 5, 6, 7, 8, 9, 10, 11, 12, 13, 14] (by kernel_rfl) ?_; conv => cbv
  refine Need.mk (by simp [I.val]) ?_
  conv => cbv
  refine Need.mk (by simp [I.val]) ?_
  conv => cbv
  refine CallF.le (args0 := [.ptr 8 (.lit 0), .p (.int .i64 (.sym 4)), .p (.int .i64 (.sym 10))]) (callF_frame (ralloc9_lx R2 vs2 C2 [] N W 0 0 0 P2 B2 V2 Qr2 [] 0 false g2 4 10) [(0, 8), (1, 9), (2, 10), (3, 11), (4, 12), (5, 13), (6, 14), (7, 15)] rfl (by simp [hmapOk, nget, hget, renB, okB, renV, renVs, rn, okVs, okV]) rfl rfl (fun r h' n' hrr => ?_)) (by simp [ales, ale, pvle, I.val])
  obtain ⟨b3, k3, Y3, vs3, DC3, P3, B3, V3, Qr3, e1, e2, e3, g3, hU3, hD3⟩ := hrr
  subst e1 e2 e3
  obtain ⟨q1, q2, q3, hS3, hl3⟩ := hS2.alloc hT3 hU3
  subst q1 q2 q3
  obtain rfl : C3 = DC3 := hC3.trans hD3.symm
  obtain ⟨hf3, hO3, hK3, hup3⟩ := hO2.alloc h2.a (by simp; omega) (by decide) hT3
  clear hU3 hD3 hT3
  conv => cbv
  refine Br.no (show ¬ ¬ r3 = r3 from fun q => q rfl) ?_
  conv => cbv
  refine Br.no (show ¬ ¬ f3 = f3 from fun q => q rfl) ?_
  conv => cbv
  refine drawn_sound tok (by kernel_rfl) [(9, [])] [0, 1, 2, 3, 4, 5, 6, 7, 8, 9, 10, 11, 12, 13, 14] (by kernel_rfl) ?_; conv => cbv
  refine Need.mk (by simp [I.val]) ?_
  conv => cbv
  refine Need.mk (by simp [I.val]) ?_
  conv => cbv
  refine CallF.le (args0 := [.ptr 1 (.lit 0), .p (.int .i64 (.sym 5)), .p (.int .i64 (.sym 2))]) (callF_frame (alloc9_lx R3 ws3 C3 [] N W 0 0 0 L3 D3 Q3 z0 false h3 5 2) [(0, 1), (1, 2), (2, 3), (3, 4), (4, 5), (5, 6), (6, 7)] rfl (by simp [hmapOk, nget, hget, renB, okB, renV, renVs, rn, okVs, okV]) rfl rfl (fun r h' n' hrr => ?_)) (by simp [ales, ale, pvle, I.val])
  obtain ⟨r4, f4, R4, ws4, C4, L4, D4, Q4, e1, e2, e3, h4, hT4, hC4⟩ := hrr
  subst e1 e2 e3
  conv => cbv
  refine drawn_sound tok (by kernel_rfl) [(9, [])] [0, 1, 2, 3, 4, 5, 6, 7, 8, 9, 10, 11, 12, 13, 14] (by kernel_rfl) ?_; conv => cbv
  refine Need.mk (by simp [I.val]) ?_
  conv => cbv
  refine Need.mk (by simp [I.val]) ?_
  conv => cbv
  refine CallF.le (args0 := [.ptr 8 (.lit 0), .p (.int .i64 (.sym 5)), .p (.int .i64 (.sym 2))]) (callF_frame (ralloc9_lx R3 vs3 C3 [] N W 0 0 0 P3 B3 V3 Qr3 [] 0 false g3 5 2) [(0, 8), (1, 9), (2, 10), (3, 11), (4, 12), (5, 13), (6, 14), (7, 15)] rfl (by simp [hmapOk, nget, hget, renB, okB, renV, renVs, rn, okVs, okV]) rfl rfl (fun r h' n' hrr => ?_)) (by simp [ales, ale, pvle, I.val])
  obtain ⟨b4, k4, Y4, vs4, DC4, P4, B4, V4, Qr4, e1, e2, e3, g4, hU4, hD4⟩ := hrr
  subst e1 e2 e3
  obtain ⟨q1, q2, q3, hS4, hl4⟩ := hS3.alloc hT4 hU4
  subst q1 q2 q3
  obtain rfl : C4 = DC4 := hC4.trans hD4.symm
  obtain ⟨hf4, hO4, hK4, hup4⟩ := hO3.alloc h3.a (by simp; omega) (by decide) hT4
  clear hU4 hD4 hT4
  conv => cbv
  refine Br.no (show ¬ ¬ r4 = r4 from fun q => q rfl) ?_
  conv => cbv
  refine Br.no (show ¬ ¬ f4 = f4 from fun q => q rfl) ?_
  conv => cbv
  obtain ⟨hw1, hw2, hw3, hw4⟩ : C1 = wz ∧ C2 = wz ∧ C3 = wz ∧ C4 = wz := by
    have a1 : C1 = wz := by rw [hC1, hf1, hwz, allocC_white]
    have a2 : C2 = wz := by rw [hC2, hf2, a1, hwz, allocC_white]
    have a3 : C3 = wz := by rw [hC3, hf3, a2, hwz, allocC_white]
    exact ⟨a1, a2, a3, by rw [hC4, hf4, a3, hwz, allocC_white]⟩
  have hQ4 : Quad R4 ws4 r1 r2 r3 r4 := ⟨hup4 _ _ _ (hup3 _ _ _ (hup2 _ _ _ hK1)), hup4 _ _ _ (hup3 _ _ _ hK2), hup4 _ _ _ hK3, hK4, fun x => by rw [hO4.ob x]; simp, hO4.zero⟩
  have hCw : C4 = List.replicate W.toNat 0 := hw4.trans hwz
  cases mk with
  | false =>
    conv => cbv
    refine RetF.mk [.ptr 1 (.lit 0), .ptr 8 (.lit 0)] [(1, .mix [.ptr 2 (.lit 0), .ptr 6 (.lit 0), .sl 7 3 1 (.lit 0) (.sym W), .p (.int .i64 (.sym 0)), .p (.int .i64 (.sym 0)), .p (.int .i64 (.sym 0))]), (2, .mix [.ptr 3 (.lit 0), .sl 5 3 1 (.lit 0) (.sym W)]), (3, .mix [.sl 4 161 2 (.lit 0) (.sym N)]), (4, .pure true L4), (5, .pure true D4), (6, .pure false [.str fun _ => z0, .bool false]), (7, .pure true Q4), (8, .mix [.ptr 9 (.lit 0), .sl 14 3 1 (.lit 0) (.sym W), .ptr 15 (.lit 0), .p (.int .i64 (.sym 0)), .p (.int .i64 (.sym 0)), .p (.int .i64 (.sym 0))]), (9, .mix [.ptr 10 (.lit 0), .sl 13 3 1 (.lit 0) (.sym W)]), (10, .mix [.sl 11 3 1 (.lit 0) (.sym N), .sl 12 189 8 (.lit 0) (.sym N)]), (11, .pure true P4), (12, .pure true B4), (13, .pure true V4), (14, .pure true Qr4), (15, .mix [.p (.vsl (.sym 0) true []), .p (.bool false)]), (0, .fix 0 o)] 16 (Re.at [(0, 0), (1, 1), (2, 2), (3, 3), (4, 4), (5, 5), (6, 6), (7, 7), (8, 8), (9, 9), (10, 10), (11, 11), (12, 12), (13, 13), (14, 14), (15, 15)] []) rfl ⟨R4, ws4, vs4, C4, N, W, 0, L4, D4, Q4, z0, false, P4, B4, V4, Qr4, [], 0, r1, r2, r3, r4, rfl, rfl, rfl, h4, g4, hS4, hQ4, hCw, hN, rfl⟩
  | true =>
    conv => cbv
    refine CallF.le (args0 := [.ptr 1 (.lit 0), .p (.vsl (.sym 0) true [])]) (callF_frame (begin_lx R4 ws4 C4 [] N W 0 0 0 L4 D4 Q4 z0 false h4 o ho [] 0 [] rfl rfl (by decide) rfl) [(0, 1), (1, 2), (2, 3), (3, 4), (4, 5), (5, 6), (6, 7), (7, 0)] rfl (by simp [hmapOk, nget, hget, renB, okB, renV, renVs, rn, okVs, okV]) rfl rfl (fun r h' n' hrr => ?_)) (by simp [ales, ale, pvle, I.val])
    obtain ⟨C5, G5, ov5, Q5, z5, e1, e2, e3, h5, hb5⟩ := hrr
    subst e1 e2 e3
    conv => cbv
    refine CallF.le (args0 := [.ptr 8 (.lit 0), .p (.vsl (.sym 0) true [])]) (callF_frame (rbegin_lx R4 vs4 C4 [] N W 0 0 0 P4 B4 V4 Qr4 [] 0 false g4 [] 0 [] rfl rfl (by decide) rfl) [(0, 8), (1, 9), (2, 10), (3, 11), (4, 12), (5, 13), (6, 14), (7, 15)] rfl (by simp [hmapOk, nget, hget, renB, okB, renV, renVs, rn, okVs, okV]) rfl rfl (fun r h' n' hrr => ?_)) (by simp [ales, ale, pvle, I.val])
    obtain ⟨C6, G6, ov6, Q6, la6, m6, e1, e2, e3, g6, hb6⟩ := hrr
    subst e1 e2 e3
    obtain ⟨rfl, rfl, rfl⟩ : C5 = List.replicate W.toNat 0 ∧ G5 = [] ∧ ov5 = false := by have hb5 : (C5, G5, ov5) = (List.replicate W.toNat 0, [], false) := hb5; simpa using hb5
    obtain ⟨rfl, rfl, rfl⟩ : C6 = List.replicate W.toNat 0 ∧ G6 = [] ∧ ov6 = false := by have hb6 : (C6, G6, ov6) = (List.replicate W.toNat 0, [], false) := hb6; simpa using hb6
    conv => cbv
    refine RetF.mk [.ptr 1 (.lit 0), .ptr 8 (.lit 0)] [(1, .mix [.ptr 2 (.lit 0), .ptr 6 (.lit 0), .sl 7 3 1 (.lit 0) (.sym W), .p (.int .i64 (.sym 1)), .p (.int .i64 (.sym 0)), .p (.int .i64 (.sym 0))]), (2, .mix [.ptr 3 (.lit 0), .sl 5 3 1 (.lit 0) (.sym W)]), (3, .mix [.sl 4 161 2 (.lit 0) (.sym N)]), (4, .pure true L4), (5, .pure true D4), (6, .pure false [.str fun _ => z5, .bool false]), (7, .pure true Q5), (8, .mix [.ptr 9 (.lit 0), .sl 14 3 1 (.lit 0) (.sym W), .ptr 15 (.lit 0), .p (.int .i64 (.sym 1)), .p (.int .i64 (.sym 0)), .p (.int .i64 (.sym 0))]), (9, .mix [.ptr 10 (.lit 0), .sl 13 3 1 (.lit 0) (.sym W)]), (10, .mix [.sl 11 3 1 (.lit 0) (.sym N), .sl 12 189 8 (.lit 0) (.sym N)]), (11, .pure true P4), (12, .pure true B4), (13, .pure true V4), (14, .pure true Q6), (15, .mix [.p (.vsl (.sym m6) true la6), .p (.bool false)]), (0, .fix 0 o)] 16 (Re.at [(0, 0), (1, 1), (2, 2), (3, 3), (4, 4), (5, 5), (18, 6), (7, 7), (8, 8), (9, 9), (10, 10), (11, 11), (12, 12), (13, 13), (14, 14), (19, 15)] []) rfl ⟨R4, ws4, vs4, _, N, W, 1, L4, D4, Q5, z5, false, P4, B4, V4, Q6, la6, m6, r1, r2, r3, r4, rfl, rfl, rfl, h5, g6, hS4, hQ4, rfl, hN, rfl⟩
end Go.Proofs.YtolamdalijjlnaaGreatDoor
/-
  Layer 11: what is put is seen.
-/
namespace Go.Proofs.YtolamdalijjlnaaGreatDoor

open Go Go.LX
set_option maxRecDepth 100000
set_option linter.unusedVariables false
set_option linter.unusedSimpArgs false

structure PutF (R : List Rw) (a kd m : Int) (i : Nat) (l : List Int) (s s' : List Int) : Prop where
  ok : AOk R s'
  kept : Kept R s' a kd m
  up : ∀ b k n, Kept R s b k n → Kept R s' b k n
  down : ∀ b k n, Kept R s' b k n → Kept R s b k n
  oth : ∀ b j y, b ≠ a → Loaded R s b j y 0 → Loaded R s' b j y 0
  out : ∀ j : Int, 0 ≤ j → (j < i ∨ (i : Int) + l.length ≤ j) → s'[(a + 1 + j).toNat]? = s[(a + 1 + j).toNat]?
  in_ : ∀ (q : Nat) (x : Int), l[q]? = some x → s'[(a + 1 + (i + q : Nat)).toNat]? = some x
theorem putS_fact {R : List Rw} {ph a kd m : Int} : ∀ (l : List Int) (i : Nat) (s : St4), AOk R s.1 → Kept R s.1 a kd m → (i : Int) + l.length ≤ m → (∀ x ∈ l, -9223372036854775808 ≤ x ∧ x ≤ 9223372036854775807) → PutF R a kd m i l s.1 (putS R ph a i l s).1
  | [], i, s, hA, hK, _, _ => ⟨hA, hK, fun _ _ _ h => h, fun _ _ _ h => h, fun _ _ _ _ h => h, fun _ _ _ => rfl, fun q x h => by simp at h⟩
  | w :: l, i, s, hA, hK, hm, hb => by
    have hbd := hK.bounds hA
    have hlen := hA.len
    rw [List.length_cons] at hm
    rw [putS]
    by_cases hc : s.1[(a + 1 + (i : Int)).toNat]? = some w
    · rw [if_pos hc]
      have f := putS_fact (ph := ph) l (i + 1) s hA hK (by omega) fun x hx => hb x (List.mem_cons_of_mem _ hx)
      refine ⟨f.ok, f.kept, f.up, f.down, f.oth, fun j hj0 hj => ?_, fun q x hq => ?_⟩
      · by_cases e : j = i
        · subst e; exact f.out _ hj0 (.inl (by omega))
        · rw [List.length_cons] at hj
          exact f.out j hj0 (by omega)
      · cases q with
        | zero => simp at hq; rw [← hq, ← hc]; rw [show (i + 0 : Nat) = i from rfl]; exact f.out i (by omega) (.inl (by omega))
        | succ q => have := f.in_ q x (by simpa using hq); rw [show i + (q + 1) = i + 1 + q by omega]; exact this
    · rw [if_neg hc]
      have hS : Stored R s.1 a i w 0 (s.1.set (a + 1 + (i : Int)).toNat w) := .ok kd m hK ⟨by omega, by omega⟩
      obtain ⟨g1, g2⟩ := stored_to hA hS
      have f := putS_fact (ph := ph) l (i + 1) (s.1.set (a + 1 + (i : Int)).toNat w, shadeW R ph w s.2) (hA.set hK ⟨by omega, by omega⟩ (hb w (List.mem_cons_self ..))) (g1 _ _ _ hK) (by omega) fun x hx => hb x (List.mem_cons_of_mem _ hx)
      refine ⟨f.ok, f.kept, fun b k n h => f.up b k n (g1 b k n h), fun b k n h => stored_kept hA hS b k n (f.down b k n h), fun b j y hn h => f.oth b j y hn (g2 b j y hn h), fun j hj0 hj => ?_, fun q x hq => ?_⟩
      · rw [List.length_cons] at hj
        rw [f.out j hj0 (by omega)]
        exact List.getElem?_set_ne (by omega)
      · cases q with
        | zero =>
          simp at hq
          rw [← hq, show (i + 0 : Nat) = i from rfl, f.out i (by omega) (.inl (by omega))]
          exact List.getElem?_set_self (by omega)
        | succ q => have := f.in_ q x (by simpa using hq); rw [show i + (q + 1) = i + 1 + q by omega]; exact this
theorem PutF.wrds {R : List Rw} {a kd m : Int} {l s s' : List Int} (h : PutF R a kd m 0 l s s') (hl : (l.length : Int) = m) {X : List Int} (hX : Wrds R s' a X) : X = l := by
  have hXl : (X.length : Int) = m := lenR_of6 h.kept hX.1
  apply List.ext_getElem?
  intro j
  by_cases hj : j < l.length
  · obtain ⟨x, hx⟩ : ∃ x, X[j]? = some x := ⟨_, List.getElem?_eq_getElem (by omega)⟩
    have h1 := (loaded_of h.kept ⟨by omega, by omega⟩ (hX.2 j x hx)).2
    have h2 := h.in_ j _ (List.getElem?_eq_getElem hj)
    rw [show (0 + j : Nat) = j by omega, h1] at h2
    rw [hx, List.getElem?_eq_getElem hj, Option.some.inj h2]
  · rw [List.getElem?_eq_none (by omega), List.getElem?_eq_none (by omega)]
theorem putS_sim {R : List Rw} {ph a kd m : Int} : ∀ (l : List Int) (i : Nat) (ws vs : List Int) (c : List Int × List Int × Bool), Sim R ws vs → Kept R ws a kd m → (i : Int) + l.length ≤ m → (∀ x ∈ l, -9223372036854775808 ≤ x ∧ x ≤ 9223372036854775807) → (putS R ph a i l (ws, c)).2 = (putS R ph a i l (vs, c)).2 ∧ Sim R (putS R ph a i l (ws, c)).1 (putS R ph a i l (vs, c)).1
  | [], i, ws, vs, c, hS, _, _, _ => ⟨rfl, hS⟩
  | w :: l, i, ws, vs, c, hS, hK, hm, hb => by
    rw [List.length_cons] at hm
    have hK2 := hS.hdr _ _ _ hK
    have hin := hS.in_ a kd m i hK (by omega) (by omega)
    rw [putS, putS]
    dsimp only
    rw [hin]
    by_cases hc : ws[(a + 1 + (i : Int)).toNat]? = some w
    · rw [if_pos hc, if_pos hc]
      exact putS_sim l (i + 1) ws vs c hS hK (by omega) fun x hx => hb x (List.mem_cons_of_mem _ hx)
    · rw [if_neg hc, if_neg hc]
      have h1 : Stored R ws a i w 0 (ws.set (a + 1 + (i : Int)).toNat w) := .ok kd m hK ⟨by omega, by omega⟩
      have h2 : Stored R vs a i w 0 (vs.set (a + 1 + (i : Int)).toNat w) := .ok kd m hK2 ⟨by omega, by omega⟩
      exact putS_sim l (i + 1) _ _ _ (hS.store (hb w (List.mem_cons_self ..)) h1 h2).2 ((stored_to hS.a h1).1 _ _ _ hK) (by omega) fun x hx => hb x (List.mem_cons_of_mem _ hx)
/-- Put twice: nothing turns. -/
theorem putS_same {R : List Rw} {ph a : Int} : ∀ (l : List Int) (i : Nat) (s : St4), (∀ (q : Nat) (x : Int), l[q]? = some x → s.1[(a + 1 + (i + q : Nat)).toNat]? = some x) → putS R ph a i l s = s
  | [], i, s, _ => rfl
  | w :: l, i, s, h => by
    rw [putS, if_pos (by have := h 0 w rfl; exact this)]
    exact putS_same l (i + 1) s fun q x hq => by have := h (q + 1) x (by simpa using hq); rw [show i + 1 + q = i + (q + 1) by omega]; exact this
theorem atW_plW {a : Int} (h : -1 ≤ a) : atW (plW a) = a := by unfold atW plW; split <;> split <;> omega
theorem numW_two (v : Int) : numW (v * 2) = v := by unfold numW; rw [if_neg (by omega)]; omega
theorem PT.two {kd ln : Int} {W : List Int} {R : List Rw} {ph a e : Int} {s s' : St4} (h : PT kd ln W R ph a s e s') : (e = 0 ∧ Kept R s.1 a kd ln ∧ s' = putS R ph a 0 W s) ∨ (e = 10 ∧ ¬ Kept R s.1 a kd ln ∧ s' = s) := by
  cases h with
  | ok h => exact .inl ⟨rfl, h, rfl⟩
  | no h => exact .inr ⟨rfl, h, rfl⟩
theorem PT.sim {kd ln : Int} {W : List Int} {R : List Rw} {ph a e f : Int} {ws vs ws' vs' : List Int} {c c' d' : List Int × List Int × Bool} (hS : Sim R ws vs) (hl : (W.length : Int) = ln) (hb : ∀ x ∈ W, -9223372036854775808 ≤ x ∧ x ≤ 9223372036854775807) (h1 : PT kd ln W R ph a (ws, c) e (ws', c')) (h2 : PT kd ln W R ph a (vs, c) f (vs', d')) : e = f ∧ c' = d' ∧ Sim R ws' vs' := by
  rcases h1.two with ⟨e1, k1, q1⟩ | ⟨e1, k1, q1⟩ <;> rcases h2.two with ⟨e2, k2, q2⟩ | ⟨e2, k2, q2⟩
  · have := putS_sim (ph := ph) W 0 ws vs c hS k1 (by omega) hb
    rw [← q1, ← q2] at this
    exact ⟨e1.trans e2.symm, this.1, this.2⟩
  · exact absurd (hS.hdr _ _ _ k1) k2
  · exfalso
    obtain ⟨k, l, hk⟩ := Kept.of hS.a (k2.obj6)
    have := (hS.hdr _ _ _ hk).det9 k2
    rw [this.1, this.2] at hk
    exact k1 hk
  · cases q1; cases q2
    exact ⟨e1.trans e2.symm, rfl, hS⟩
theorem TR.sim {kd ln : Int} {fs : List Int → List Int} {R : List Rw} {ws vs : List Int} {a e f : Int} {y z : List Int} (hS : Sim R ws vs) (h1 : TR kd ln fs R ws a e y) (h2 : TR kd ln fs R vs a f z) : e = f ∧ y = z := by
  cases h1 with
  | ok X h hX => cases h2 with
    | ok Y h' hY => rw [hS.wrds hX hY]; exact ⟨rfl, rfl⟩
    | no h' => exact absurd (hS.hdr _ _ _ h) h'
  | no h => cases h2 with
    | ok Y h' hY =>
      exfalso
      obtain ⟨k, l, hk⟩ := Kept.of hS.a (h'.obj6)
      have := (hS.hdr _ _ _ hk).det9 h'
      rw [this.1, this.2] at hk
      exact h hk
    | no h' => exact ⟨rfl, rfl⟩
theorem chan_back (x0 x1 x2 x3 x4 x5 x6 x7 x8 : Int) (hp : ∀ x ∈ [x4, x5, x6, x7, x8], -1 ≤ x) : chanFs (chanWs [x0, x1, x2, x3, x4, x5, x6, x7, x8]) = [x0, x1, x2, x3, x4, x5, x6, x7, x8] := by
  simp only [List.forall_mem_cons] at hp
  obtain ⟨p4, p5, p6, p7, p8, _⟩ := hp
  simp only [chanFs, chanWs, numW_two, atW_plW p4, atW_plW p5, atW_plW p6, atW_plW p7, atW_plW p8]
end Go.Proofs.YtolamdalijjlnaaGreatDoor
/-
  Layer 11: the bench's places.
-/
namespace Go.Proofs.YtolamdalijjlnaaGreatDoor

open Go Go.LX
set_option maxRecDepth 100000
set_option linter.unusedVariables false
set_option linter.unusedSimpArgs false

def selW (r : Int) (l : List Int) (i : Nat) : Int := if r ∈ l.take i then r else -1
theorem selW_hit {r : Int} {l : List Int} {i : Nat} (h : l[i]? = some r) : selW r l (i + 1) = r := by
  unfold selW
  rw [if_pos]
  rw [List.take_add_one, h]
  exact List.mem_append_right _ (by simp)
theorem selW_miss {r x : Int} {l : List Int} {i : Nat} (h : l[i]? = some x) (hn : r ≠ x) : selW r l (i + 1) = selW r l i := by
  unfold selW
  rw [List.take_add_one, h]
  simp [hn]
theorem selW_all {r : Int} {l : List Int} {i : Nat} (h : r ∈ l) (hi : l.length ≤ i) : selW r l i = r := by
  unfold selW
  rw [List.take_of_length_le hi, if_pos h]
set_option maxHeartbeats 8000000 in
theorem places_lx (R : List Rw) (vs C G : List Int) (N W ph sp cy : Int) (P B V Q la : List PV) (m : Int) (ov : Bool) (h : RM R vs C G N W P B V Q la m) (r1 r2 r3 r4 : Int) (hQ : Quad R vs r1 r2 r3 r4) : CallF (fun _ => Tryz.prog) 38 [.ptr 0 (.lit 0)] [(0, .mix [.ptr 1 (.lit 0), .sl 6 3 1 (.lit 0) (.sym W), .ptr 7 (.lit 0), .p (.int .i64 (.sym ph)), .p (.int .i64 (.sym sp)), .p (.int .i64 (.sym cy))]), (1, .mix [.ptr 2 (.lit 0), .sl 5 3 1 (.lit 0) (.sym W)]), (2, .mix [.sl 3 3 1 (.lit 0) (.sym N), .sl 4 189 8 (.lit 0) (.sym N)]), (3, .pure true P), (4, .pure true B), (5, .pure true V), (6, .pure true Q), (7, .mix [.p (.vsl (.sym m) true la), .p (.bool ov)])] 8 (fun r h n => r = .tup [.p (.int .i64 (.sym r1)), .p (.int .i64 (.sym r2)), .p (.int .i64 (.sym r3)), .p (.int .i64 (.sym r4))] ∧ h = [(0, .mix [.ptr 1 (.lit 0), .sl 6 3 1 (.lit 0) (.sym W), .ptr 7 (.lit 0), .p (.int .i64 (.sym ph)), .p (.int .i64 (.sym sp)), .p (.int .i64 (.sym cy))]), (1, .mix [.ptr 2 (.lit 0), .sl 5 3 1 (.lit 0) (.sym W)]), (2, .mix [.sl 3 3 1 (.lit 0) (.sym N), .sl 4 189 8 (.lit 0) (.sym N)]), (3, .pure true P), (4, .pure true B), (5, .pure true V), (6, .pure true Q), (7, .mix [.p (.vsl (.sym m) true la), .p (.bool ov)])] ∧ n = 8) := by
  have hCl := h.c; have hWn := h.w; have hNr := h.n; have hRr := h.r
  obtain ⟨mo, hmo⟩ : ∃ m : Int, m = objCount R := ⟨_, rfl⟩
  refine callF_of_body tok Tryz.func38 (by kernel_rfl) rfl rfl rfl ?_; conv => cbv
  refine callF_frame (robjects_lx mo R vs N W P B V h.p h.b h.v h.n h.r h.a h.w hmo) [(0, 1), (1, 2), (2, 3), (3, 4), (4, 5)] rfl (by simp [hmapOk, nget, hget, renB, okB, renV, renVs, rn, okVs, okV]) rfl rfl (fun r h' n' hrr => ?_)
  obtain ⟨O, e1, e2, e3, hO⟩ := hrr
  subst e1 e2 e3
  have hOl : (O.length : Int) = mo := by rw [hO, ipv_length, objs_length h.a.rows, hmo]
  have hO : O = ipv (objs R) := hO
  have hol : ((objs R).length : Int) = mo := by rw [← hOl, hO, ipv_length]
  have hob : mo ≤ 8000 := by have := objsTo_le R R.length; rw [objs_length h.a.rows] at this; omega
  obtain ⟨A, hA⟩ : ∃ A, A = objs R := ⟨_, rfl⟩
  rw [← hA] at hO hol
  conv => cbv
  refine LoopF.mk (fun kk s => ∃ (i c1 c2 c3 c4 : Int), s = ⟨.ptr 0 (.lit 0) :: (undefs 5 ++ .p (.int .i64 (.sym c1)) :: .p (.int .i64 (.sym c2)) :: .p (.int .i64 (.sym c3)) :: .p (.int .i64 (.sym c4)) :: .sl 8 3 1 (.lit 0) (.sym mo) :: .p (.int .i64 (.sym i)) :: undefs 46), [(0, .mix [.ptr 1 (.lit 0), .sl 6 3 1 (.lit 0) (.sym W), .ptr 7 (.lit 0), .p (.int .i64 (.sym ph)), .p (.int .i64 (.sym sp)), .p (.int .i64 (.sym cy))]), (1, .mix [.ptr 2 (.lit 0), .sl 5 3 1 (.lit 0) (.sym W)]), (2, .mix [.sl 3 3 1 (.lit 0) (.sym N), .sl 4 189 8 (.lit 0) (.sym N)]), (3, .pure true P), (4, .pure true B), (5, .pure true V), (6, .pure true Q), (7, .mix [.p (.vsl (.sym m) true la), .p (.bool ov)]), (8, .pure true O)], 9⟩ ∧ 0 ≤ i ∧ i ≤ mo ∧ kk = (mo - i).toNat ∧ c1 = selW r1 A i.toNat ∧ c2 = selW r2 A i.toNat ∧ c3 = selW r3 A i.toNat ∧ c4 = selW r4 A i.toNat) mo.toNat _
    (Re.at [(0, 0), (1, 1), (2, 2), (3, 3), (4, 4), (5, 5), (6, 6), (7, 7), (8, 8)] []) ⟨0, -1, -1, -1, -1, rfl, by omega, by omega, by omega, rfl, rfl, rfl, rfl⟩ ?_
  rintro kk s ⟨i, c1, c2, c3, c4, rfl, hi0, hi1, hkk, h1, h2, h3, h4⟩
  conv => cbv
  refine Br.mk (fun gi => ?_) (fun gi => ?_)
  · have gi : i < mo := gi
    obtain ⟨x, hx⟩ : ∃ x, A[i.toNat]? = some x := ⟨_, List.getElem?_eq_getElem (by omega)⟩
    have hOx : O[i.toNat]? = some (.int .i64 (.sym x)) := by rw [hO, ipv_getx, hx]; rfl
    have hxo := (hQ.ob x).1 (hA ▸ List.mem_of_getElem? hx)
    conv => cbv
    refine drawn_sound tok (by kernel_rfl) [(8, [])] [0, 1, 2, 3, 4, 5, 6, 7, 8] (by kernel_rfl) ?_; conv => cbv
    refine Need.mk (show 0 ≤ i ∧ i < mo from ⟨hi0, gi⟩) ?_
    conv => cbv
    refine Cell.at i _ hOx (by simp [I.val]) rfl ?_
    conv => cbv
    refine callF_frame (rkind_lx R vs N x W P B V h.p h.b h.v h.n h.r h.a h.w) [(0, 1), (1, 2), (2, 3), (3, 4), (4, 5)] rfl (by simp [hmapOk, nget, hget, renB, okB, renV, renVs, rn, okVs, okV]) rfl rfl (fun r h' n' hrr => ?_)
    obtain ⟨v, e1, e2, e3, hv⟩ := hrr
    subst e1 e2 e3
    conv => cbv
    have hdist : r1 ≠ r2 ∧ r1 ≠ r3 ∧ r1 ≠ r4 ∧ r2 ≠ r3 ∧ r2 ≠ r4 ∧ r3 ≠ r4 := by
      refine ⟨?_, ?_, ?_, ?_, ?_, ?_⟩ <;> intro e
      · rw [e] at hQ; exact absurd (hQ.k1.det9 hQ.k2).1 (by decide)
      · rw [e] at hQ; exact absurd (hQ.k1.det9 hQ.k3).1 (by decide)
      · rw [e] at hQ; exact absurd (hQ.k1.det9 hQ.k4).1 (by decide)
      · rw [e] at hQ; exact absurd (hQ.k2.det9 hQ.k3).1 (by decide)
      · rw [e] at hQ; exact absurd (hQ.k2.det9 hQ.k4).1 (by decide)
      · rw [e] at hQ; exact absurd (hQ.k3.det9 hQ.k4).1 (by decide)
    obtain ⟨d12, d13, d14, d23, d24, d34⟩ := hdist
    rcases hxo with e | e | e | e
    · have hv1 : v = 1 := by rw [e] at hv; exact kindR_of6 hQ.k1 hv
      refine Br.yes (show v = 1 from hv1) ?_
      conv => cbv
      refine Need.mk (show 0 ≤ i ∧ i < mo from ⟨hi0, gi⟩) ?_
      conv => cbv
      refine Cell.at i _ hOx (by simp [I.val]) rfl ?_
      conv => cbv
      refine Fit.mk (by show (-9223372036854775808 : Int) ≤ i + 1; omega) (by show i + 1 ≤ 9223372036854775807; omega) fun i2 hi2 => ?_
      have hi2 : i2 = i + 1 := hi2
      have htn : i2.toNat = i.toNat + 1 := by omega
      rw [e] at hx
      conv => cbv
      refine Again.mk (mo - i2).toNat _ (by omega) (Re.at [(0, 0), (1, 1), (2, 2), (3, 3), (4, 4), (5, 5), (6, 6), (7, 7), (8, 8)] []) ⟨i2, x, c2, c3, c4, rfl, by omega, by omega, rfl, by rw [htn, e]; exact (selW_hit hx).symm, by rw [htn, selW_miss hx d12.symm]; exact h2, by rw [htn, selW_miss hx d13.symm]; exact h3, by rw [htn, selW_miss hx d14.symm]; exact h4⟩
    · have hv1 : v = 3 := by rw [e] at hv; exact kindR_of6 hQ.k2 hv
      refine Br.no (show ¬ (v = 1) by omega) ?_
      conv => cbv
      refine Br.yes (show v = 3 from hv1) ?_
      conv => cbv
      refine Need.mk (show 0 ≤ i ∧ i < mo from ⟨hi0, gi⟩) ?_
      conv => cbv
      refine Cell.at i _ hOx (by simp [I.val]) rfl ?_
      conv => cbv
      refine Fit.mk (by show (-9223372036854775808 : Int) ≤ i + 1; omega) (by show i + 1 ≤ 9223372036854775807; omega) fun i2 hi2 => ?_
      have hi2 : i2 = i + 1 := hi2
      have htn : i2.toNat = i.toNat + 1 := by omega
      rw [e] at hx
      conv => cbv
      refine Again.mk (mo - i2).toNat _ (by omega) (Re.at [(0, 0), (1, 1), (2, 2), (3, 3), (4, 4), (5, 5), (6, 6), (7, 7), (8, 8)] []) ⟨i2, c1, x, c3, c4, rfl, by omega, by omega, rfl, by rw [htn, selW_miss hx d12]; exact h1, by rw [htn, e]; exact (selW_hit hx).symm, by rw [htn, selW_miss hx d23.symm]; exact h3, by rw [htn, selW_miss hx d24.symm]; exact h4⟩
    · have hv1 : v = 4 := by rw [e] at hv; exact kindR_of6 hQ.k3 hv
      refine Br.no (show ¬ (v = 1) by omega) ?_
      conv => cbv
      refine Br.no (show ¬ (v = 3) by omega) ?_
      conv => cbv
      refine Br.yes (show v = 4 from hv1) ?_
      conv => cbv
      refine Need.mk (show 0 ≤ i ∧ i < mo from ⟨hi0, gi⟩) ?_
      conv => cbv
      refine Cell.at i _ hOx (by simp [I.val]) rfl ?_
      conv => cbv
      refine Fit.mk (by show (-9223372036854775808 : Int) ≤ i + 1; omega) (by show i + 1 ≤ 9223372036854775807; omega) fun i2 hi2 => ?_
      have hi2 : i2 = i + 1 := hi2
      have htn : i2.toNat = i.toNat + 1 := by omega
      rw [e] at hx
      conv => cbv
      refine Again.mk (mo - i2).toNat _ (by omega) (Re.at [(0, 0), (1, 1), (2, 2), (3, 3), (4, 4), (5, 5), (6, 6), (7, 7), (8, 8)] []) ⟨i2, c1, c2, x, c4, rfl, by omega, by omega, rfl, by rw [htn, selW_miss hx d13]; exact h1, by rw [htn, selW_miss hx d23]; exact h2, by rw [htn, e]; exact (selW_hit hx).symm, by rw [htn, selW_miss hx d34.symm]; exact h4⟩
    · have hv1 : v = 5 := by rw [e] at hv; exact kindR_of6 hQ.k4 hv
      refine Br.no (show ¬ (v = 1) by omega) ?_
      conv => cbv
      refine Br.no (show ¬ (v = 3) by omega) ?_
      conv => cbv
      refine Br.no (show ¬ (v = 4) by omega) ?_
      conv => cbv
      refine Need.mk (show 0 ≤ i ∧ i < mo from ⟨hi0, gi⟩) ?_
      conv => cbv
      refine Cell.at i _ hOx (by simp [I.val]) rfl ?_
      conv => cbv
      refine Fit.mk (by show (-9223372036854775808 : Int) ≤ i + 1; omega) (by show i + 1 ≤ 9223372036854775807; omega) fun i2 hi2 => ?_
      have hi2 : i2 = i + 1 := hi2
      have htn : i2.toNat = i.toNat + 1 := by omega
      rw [e] at hx
      conv => cbv
      refine Again.mk (mo - i2).toNat _ (by omega) (Re.at [(0, 0), (1, 1), (2, 2), (3, 3), (4, 4), (5, 5), (6, 6), (7, 7), (8, 8)] []) ⟨i2, c1, c2, c3, x, rfl, by omega, by omega, rfl, by rw [htn, selW_miss hx d14]; exact h1, by rw [htn, selW_miss hx d24]; exact h2, by rw [htn, selW_miss hx d34]; exact h3, by rw [htn, e]; exact (selW_hit hx).symm⟩
  · have gi : ¬ i < mo := gi
    have hfin : ∀ r, r ∈ A → selW r A i.toNat = r := fun r hr => selW_all hr (by omega)
    have hm : ∀ r, (r = r1 ∨ r = r2 ∨ r = r3 ∨ r = r4) → r ∈ A := fun r hr => hA ▸ (hQ.ob r).2 hr
    rw [hfin r1 (hm _ (.inl rfl))] at h1
    rw [hfin r2 (hm _ (.inr (.inl rfl)))] at h2
    rw [hfin r3 (hm _ (.inr (.inr (.inl rfl))))] at h3
    rw [hfin r4 (hm _ (.inr (.inr (.inr rfl))))] at h4
    conv => cbv
    refine RetF.mk [.p (.int .i64 (.sym c1)), .p (.int .i64 (.sym c2)), .p (.int .i64 (.sym c3)), .p (.int .i64 (.sym c4))] [(0, .mix [.ptr 1 (.lit 0), .sl 6 3 1 (.lit 0) (.sym W), .ptr 7 (.lit 0), .p (.int .i64 (.sym ph)), .p (.int .i64 (.sym sp)), .p (.int .i64 (.sym cy))]), (1, .mix [.ptr 2 (.lit 0), .sl 5 3 1 (.lit 0) (.sym W)]), (2, .mix [.sl 3 3 1 (.lit 0) (.sym N), .sl 4 189 8 (.lit 0) (.sym N)]), (3, .pure true P), (4, .pure true B), (5, .pure true V), (6, .pure true Q), (7, .mix [.p (.vsl (.sym m) true la), .p (.bool ov)])] 8 (Re.at [(0, 0), (1, 1), (2, 2), (3, 3), (4, 4), (5, 5), (6, 6), (7, 7)] []) rfl ⟨by rw [h1, h2, h3, h4]; rfl, rfl, rfl⟩
end Go.Proofs.YtolamdalijjlnaaGreatDoor
/-
  Layer 11: awake.
-/
namespace Go.Proofs.YtolamdalijjlnaaGreatDoor

open Go Go.LX
set_option maxRecDepth 100000
set_option linter.unusedVariables false
set_option linter.unusedSimpArgs false

theorem Sim.back {R : List Rw} {ws vs : List Int} (hS : Sim R ws vs) {a k l : Int} (h : Kept R vs a k l) : Kept R ws a k l := by
  obtain ⟨k2, l2, hk⟩ := Kept.of hS.a h.obj6
  have := (hS.hdr _ _ _ hk).det9 h
  rw [this.1, this.2] at hk
  exact hk
theorem Quad.sim {R : List Rw} {ws vs : List Int} {r1 r2 r3 r4 : Int} (hS : Sim R ws vs) (h : Quad R ws r1 r2 r3 r4) : Quad R vs r1 r2 r3 r4 :=
  ⟨hS.hdr _ _ _ h.k1, hS.hdr _ _ _ h.k2, hS.hdr _ _ _ h.k3, hS.hdr _ _ _ h.k4, h.ob, fun a k l i hK h0 h1 => by rw [hS.in_ a k l i (hS.back hK) h0 h1]; exact h.zero a k l i (hS.back hK) h0 h1⟩
theorem aggYes {P : Unit → Program} {t : Nat} {l m : List LV} {K : Bool → Prop} (h : flatOK (P ()) t l m = true) (he : eqLs l m) (hk : K true) : AggEq P t l m K := .mk h (fun _ => hk) (fun q => absurd he q)
theorem put_see {kd ln : Int} {fs : List Int → List Int} {Wl : List Int} {R : List Rw} {ph a e f : Int} {s s' : St4} {y : List Int} (hA : AOk R s.1) (hK : Kept R s.1 a kd ln) (hl : (Wl.length : Int) = ln) (hb : ∀ x ∈ Wl, -9223372036854775808 ≤ x ∧ x ≤ 9223372036854775807) (hP : PT kd ln Wl R ph a s e s') (hT : TR kd ln fs R s'.1 a f y) : e = 0 ∧ f = 0 ∧ y = fs Wl := by
  rcases hP.two with ⟨e1, k1, q1⟩ | ⟨e1, k1, q1⟩
  · have hF := putS_fact (ph := ph) Wl 0 s hA hK (by omega) hb
    rw [← q1] at hF
    cases hT with
    | ok X h hX => exact ⟨e1, rfl, by rw [hF.wrds hl hX]⟩
    | no h => exact absurd hF.kept h
  · exact absurd hK k1
set_option maxHeartbeats 8000000 in
theorem awake11_lx (o : Unit → Obj) (ho : IsPow o) : CallF (fun _ => Tryz.prog) 37 [] [(0, .fix 0 o)] 1 (fun r h n => r = .p (.bool true) ∧ h = [(0, .fix 0 o)] ∧ n = 1) := by
  refine callF_of_body tok Tryz.func37 (by kernel_rfl) rfl rfl rfl ?_; conv => cbv
  refine callF_frame (both_lx o ho false) [(0, 0)] rfl (by simp [hmapOk, nget, hget, renB, okB, renV, renVs, rn, okVs, okV]) rfl rfl (fun r h' n' hrr => ?_)
  obtain ⟨R, ws, vs, C, N, W, ph, L, D, Q, z, ov, P, B, V, Qr, la, m, r1, r2, r3, r4, e1, e2, e3, h, hr, hS, hQ, hC, hN, hph⟩ := hrr
  subst e1 e2 e3
  conv => cbv
  refine callF_frame (places_lx R vs C [] N W ph 0 0 P B V Qr la m ov hr r1 r2 r3 r4 (hQ.sim hS)) [(0, 8), (1, 9), (2, 10), (3, 11), (4, 12), (5, 13), (6, 14), (7, 15)] rfl (by simp [hmapOk, nget, hget, renB, okB, renV, renVs, rn, okVs, okV]) rfl rfl (fun r h' n' ⟨e1, e2, e3⟩ => ?_)
  subst e1 e2 e3
  conv => cbv
  refine CallF.le (args0 := [.ptr 1 (.lit 0), .p (.int .i64 (.sym r1)), .agg [.p (.int .i64 (.sym 2)), .p (.int .i64 (.sym 0)), .p (.int .i64 (.sym 0)), .p (.int .i64 (.sym 0)), .p (.int .i64 (.sym (-1))), .p (.int .i64 (.sym (-1))), .p (.int .i64 (.sym (-1))), .p (.int .i64 (.sym (-1))), .p (.int .i64 (.sym 5))]]) (callF_frame (putChan_lx R ws C [] N W ph 0 0 L D Q z ov h o ho r1 2 0 0 0 (-1) (-1) (-1) (-1) 5 (by simp [b62])) [(0, 1), (1, 2), (2, 3), (3, 4), (4, 5), (5, 6), (6, 7), (7, 0)] rfl (by simp [hmapOk, nget, hget, renB, okB, renV, renVs, rn, okVs, okV]) rfl rfl (fun r h' n' hrr => ?_)) (by simp [ales, ale, pvle, I.val])
  obtain ⟨e, ws1, C1, G1, ov1, D1, Q1, z1, e1, e2, e3, h1, hP⟩ := hrr
  subst e1 e2 e3
  conv => cbv
  refine callF_frame (chan_lx R ws1 C1 G1 N W ph 0 0 L D1 Q1 z1 ov1 h1 r1) [(0, 1), (1, 2), (2, 3), (3, 4), (4, 5), (5, 6), (6, 7)] rfl (by simp [hmapOk, nget, hget, renB, okB, renV, renVs, rn, okVs, okV]) rfl rfl (fun r h' n' hrr => ?_)
  obtain ⟨⟨y0, y1, y2, y3, y4, y5, y6, y7, y8, f, e1, hT⟩, e2, e3⟩ := hrr
  subst e1 e2 e3
  obtain ⟨he, hf, hy⟩ := put_see h.a hQ.k1 rfl (chanWs_bd 2 0 0 0 (-1) (-1) (-1) (-1) 5 (by simp [b62])) hP hT
  rw [chan_back 2 0 0 0 (-1) (-1) (-1) (-1) 5 (by simp)] at hy
  simp only [List.cons.injEq, and_true] at hy
  obtain ⟨g0, g1, g2, g3, g4, g5, g6, g7, g8⟩ := hy
  clear hP hT
  conv => cbv
  refine Br.yes (show e = 0 from he) ?_
  conv => cbv
  refine Br.yes (show f = 0 from hf) ?_
  conv => cbv
  refine aggYes (by kernel_rfl) ⟨g0, g1, g2, g3, g4, g5, g6, g7, g8, trivial⟩ ?_
  conv => cbv
  refine RetF.mk [.p (.bool true)] [(0, .fix 0 o)] 1 (Re.at [(0, 0)] []) rfl ⟨rfl, rfl, rfl⟩
end Go.Proofs.YtolamdalijjlnaaGreatDoor
/-
  Layer 11: ViewBack's numbers.
-/
namespace Go.Proofs.YtolamdalijjlnaaGreatDoor

open Go Go.LX
set_option maxRecDepth 100000
set_option linter.unusedVariables false
set_option linter.unusedSimpArgs false

def smW (v : Int) : Int := v.tmod 1099511627776
theorem smW_bd (v : Int) : -1099511627776 < smW v ∧ smW v < 1099511627776 := by
  unfold smW
  have h1 := Int.tmod_lt_of_pos v (show (0 : Int) < 1099511627776 by omega)
  have h2 : -1099511627776 < v.tmod 1099511627776 := Int.lt_tmod_of_pos v (by omega)
  exact ⟨h2, h1⟩
theorem smW_b62 (v : Int) : b62 (smW v) := by have := smW_bd v; unfold b62; omega
theorem small_lx (v : Int) : CallF (fun _ => Tryz.prog) 39 [.p (.int .i64 (.sym v))] [] 0 (fun r h n => (∃ x : Int, r = .p (.int .i64 (.sym x)) ∧ x = smW v) ∧ h = [] ∧ n = 0) := by
  refine callF_of_body tok Tryz.func39 (by kernel_rfl) rfl rfl rfl ?_; conv => cbv
  refine Sum.mk fun x hx => ?_
  conv => cbv
  refine RetF.mk [.p (.int .i64 (.sym x))] [] 0 (Re.at [] []) rfl ⟨⟨x, rfl, hx⟩, rfl, rfl⟩
end Go.Proofs.YtolamdalijjlnaaGreatDoor
/-
  Layer 9: room for few objects of two classes; what a cycle leaves.
-/
namespace Go.Proofs.YtolamdalijjlnaaGreatDoor

open Go Go.LX
set_option maxRecDepth 100000
set_option linter.unusedVariables false
set_option linter.unusedSimpArgs false

def uu (e : Rw) : Nat := if e.2 = [] then 0 else 1
def ff (c : Int) (e : Rw) : Nat := if e.1 = c ∧ e.2 ≠ [] then 1 else 0
def sl_ (c : Int) (e : Rw) : Nat := if e.1 = c then e.2.count true else 0
def cnt (f : Rw → Nat) (R : List Rw) : Nat := (R.map f).sum
theorem cnt_set {f : Rw → Nat} {R : List Rw} {i : Nat} {e e' : Rw} (h : R[i]? = some e) : cnt f (R.set i e') + f e = cnt f R + f e' := by
  unfold cnt
  rw [List.map_set]
  exact sum_set _ _ _ _ (by rw [List.getElem?_map, h]; rfl)
theorem cnt_mul {f g : Rw → Nat} {k : Nat} : ∀ {R : List Rw}, (∀ e ∈ R, f e = k * g e) → cnt f R = k * cnt g R
  | [], _ => rfl
  | e :: R, h => by
    have h1 := h e (List.mem_cons_self ..)
    have h2 := cnt_mul (R := R) fun x hx => h x (List.mem_cons_of_mem _ hx)
    unfold cnt at h2 ⊢
    simp only [List.map_cons, List.sum_cons]
    rw [h1, h2, Nat.mul_add]
theorem cnt_le2 {f g h : Rw → Nat} : ∀ {R : List Rw}, (∀ e ∈ R, f e + g e ≤ h e) → cnt f R + cnt g R ≤ cnt h R
  | [], _ => Nat.le_refl _
  | e :: R, H => by
    have h1 := H e (List.mem_cons_self ..)
    have h2 := cnt_le2 (R := R) fun x hx => H x (List.mem_cons_of_mem _ hx)
    unfold cnt at h2 ⊢
    simp only [List.map_cons, List.sum_cons]
    omega
theorem cnt_uu : ∀ {R : List Rw}, (∀ e ∈ R, e.2 ≠ []) → cnt uu R = R.length
  | [], _ => rfl
  | e :: R, h => by
    have h1 := h e (List.mem_cons_self ..)
    have h2 := cnt_uu (R := R) fun x hx => h x (List.mem_cons_of_mem _ hx)
    unfold cnt at h2 ⊢
    simp only [List.map_cons, List.sum_cons, List.length_cons]
    rw [h2]
    unfold uu
    rw [if_neg h1]
    omega
theorem slots_in (R : List Rw) : cnt (sl_ 0) R + cnt (sl_ 2) R ≤ objCount R := by
  have := cnt_le2 (f := sl_ 0) (g := sl_ 2) (h := fun e => e.2.count true) (R := R) (fun e _ => by
    unfold sl_
    by_cases h0 : e.1 = 0
    · rw [if_pos h0, if_neg (by omega)]; exact Nat.le_refl _
    · rw [if_neg h0]
      by_cases h2 : e.1 = 2
      · rw [if_pos h2]; omega
      · rw [if_neg h2]; omega)
  exact this
/-- Spans of two classes, filled one behind the other. -/
structure Rm (R : List Rw) : Prop where
  u : cnt uu R ≤ cnt (ff 0) R + cnt (ff 2) R
  a : 8 * cnt (ff 0) R ≤ cnt (sl_ 0) R + 7
  b : 2 * cnt (ff 2) R ≤ cnt (sl_ 2) R + 1
theorem Rm.new (n : Nat) : Rm (List.replicate n ((0, []) : Rw)) := by
  have h : ∀ f : Rw → Nat, f (0, []) = 0 → cnt f (List.replicate n ((0, []) : Rw)) = 0 := by
    intro f hf
    unfold cnt
    rw [List.map_replicate, hf]
    induction n with
    | zero => rfl
    | succ n ih => rw [List.replicate_succ, List.sum_cons, ih]
  have e1 := h uu (by decide)
  have e2 := h (ff 0) (by decide)
  have e3 := h (ff 2) (by decide)
  exact ⟨by omega, by omega, by omega⟩
theorem count_full {m : List Bool} (h : false ∉ m) : m.count true = m.length := by
  rw [List.count_eq_length]
  intro b hb
  cases b with
  | true => rfl
  | false => exact absurd hb h
theorem Rm.alloced {R R' : List Rw} {c i s : Int} (hR : RowsOk R) (h : Rm R) (hc : c = 0 ∨ c = 2) (ha : Alloced R c i s true R') : Rm R' := by
  cases ha with
  | old i s l h0 hi hs h1 h2 =>
    have hne : l ≠ [] := by intro e; subst e; simp at hs
    have hne2 : l.set s true ≠ [] := by intro e; exact hne (by have := congrArg List.length e; rw [List.length_set] at this; exact List.eq_nil_of_length_eq_zero this)
    have hct := count_set hs
    have q1 := cnt_set (f := uu) (e' := (c, l.set s true)) hi
    have q2 := cnt_set (f := ff 0) (e' := (c, l.set s true)) hi
    have q3 := cnt_set (f := ff 2) (e' := (c, l.set s true)) hi
    have q4 := cnt_set (f := sl_ 0) (e' := (c, l.set s true)) hi
    have q5 := cnt_set (f := sl_ 2) (e' := (c, l.set s true)) hi
    have ha := h.a; have hb := h.b; have hu := h.u
    rcases hc with rfl | rfl
    · simp [uu, ff, sl_, hne, hne2] at q1 q2 q3 q4 q5
      exact ⟨by omega, by omega, by omega⟩
    · simp [uu, ff, sl_, hne, hne2] at q1 q2 q3 q4 q5
      exact ⟨by omega, by omega, by omega⟩
  | fresh i d h0 h2 hi h3 =>
    have hfull : ∀ k : Nat, slotsOf c = k → cnt (sl_ c) R = k * cnt (ff c) R := by
      intro k hk
      refine cnt_mul fun e he => ?_
      unfold sl_ ff
      by_cases h1 : e.1 = c
      · rw [if_pos h1]
        by_cases h4 : e.2 = []
        · rw [if_neg (fun q => q.2 h4), h4]; rfl
        · rw [if_pos ⟨h1, h4⟩]
          obtain ⟨j, hj⟩ := List.getElem?_of_mem he
          have h5 := h2 j e.2 (by rw [hj, ← h1])
          have h6 := (hR e he).2 h4
          rw [count_full h5, h6.2.1, h1, hk]; omega
      · rw [if_neg h1, if_neg (fun q => h1 q.1)]; omega
    have ha := h.a; have hb := h.b; have hu := h.u
    rcases hc with rfl | rfl
    · have q0 := hfull 8 rfl
      have q1 := cnt_set (f := uu) (e' := ((0 : Int), (List.replicate (slotsOf 0) false).set 0 true)) hi
      have q2 := cnt_set (f := ff 0) (e' := ((0 : Int), (List.replicate (slotsOf 0) false).set 0 true)) hi
      have q3 := cnt_set (f := ff 2) (e' := ((0 : Int), (List.replicate (slotsOf 0) false).set 0 true)) hi
      have q4 := cnt_set (f := sl_ 0) (e' := ((0 : Int), (List.replicate (slotsOf 0) false).set 0 true)) hi
      have q5 := cnt_set (f := sl_ 2) (e' := ((0 : Int), (List.replicate (slotsOf 0) false).set 0 true)) hi
      have k1 : uu ((0 : Int), (List.replicate (slotsOf 0) false).set 0 true) = 1 := by decide
      have k2 : ff 0 ((0 : Int), (List.replicate (slotsOf 0) false).set 0 true) = 1 := by decide
      have k3 : ff 2 ((0 : Int), (List.replicate (slotsOf 0) false).set 0 true) = 0 := by decide
      have k4 : sl_ 0 ((0 : Int), (List.replicate (slotsOf 0) false).set 0 true) = 1 := by decide
      have k5 : sl_ 2 ((0 : Int), (List.replicate (slotsOf 0) false).set 0 true) = 0 := by decide
      have k6 : ∀ c, ff c (d, []) = 0 := fun c => by simp [ff]
      have k7 : ∀ c, sl_ c (d, []) = 0 := fun c => by simp [sl_]
      have k8 : uu (d, []) = 0 := by simp [uu]
      rw [k1, k8] at q1; rw [k2, k6] at q2; rw [k3, k6] at q3; rw [k4, k7] at q4; rw [k5, k7] at q5
      exact ⟨by omega, by omega, by omega⟩
    · have q0 := hfull 2 rfl
      have q1 := cnt_set (f := uu) (e' := ((2 : Int), (List.replicate (slotsOf 2) false).set 0 true)) hi
      have q2 := cnt_set (f := ff 0) (e' := ((2 : Int), (List.replicate (slotsOf 2) false).set 0 true)) hi
      have q3 := cnt_set (f := ff 2) (e' := ((2 : Int), (List.replicate (slotsOf 2) false).set 0 true)) hi
      have q4 := cnt_set (f := sl_ 0) (e' := ((2 : Int), (List.replicate (slotsOf 2) false).set 0 true)) hi
      have q5 := cnt_set (f := sl_ 2) (e' := ((2 : Int), (List.replicate (slotsOf 2) false).set 0 true)) hi
      have k1 : uu ((2 : Int), (List.replicate (slotsOf 2) false).set 0 true) = 1 := by decide
      have k2 : ff 0 ((2 : Int), (List.replicate (slotsOf 2) false).set 0 true) = 0 := by decide
      have k3 : ff 2 ((2 : Int), (List.replicate (slotsOf 2) false).set 0 true) = 1 := by decide
      have k4 : sl_ 0 ((2 : Int), (List.replicate (slotsOf 2) false).set 0 true) = 0 := by decide
      have k5 : sl_ 2 ((2 : Int), (List.replicate (slotsOf 2) false).set 0 true) = 1 := by decide
      have k6 : ∀ c, ff c (d, []) = 0 := fun c => by simp [ff]
      have k7 : ∀ c, sl_ c (d, []) = 0 := fun c => by simp [sl_]
      have k8 : uu (d, []) = 0 := by simp [uu]
      rw [k1, k8] at q1; rw [k2, k6] at q2; rw [k3, k6] at q3; rw [k4, k7] at q4; rw [k5, k7] at q5
      exact ⟨by omega, by omega, by omega⟩
/-- With few objects there is room. -/
theorem Rm.alloc {R R' : List Rw} {ws ws' : List Int} {kind n a e : Int} (hA : AOk R ws) (h : Rm R) (hn : ofN n = 0 ∨ ofN n = 2) (hk : 0 ≤ n ∧ n ≤ 31 ∧ 1 ≤ kind ∧ kind ≤ 6) (hr : objCount R ≤ 53) (hl : 29 ≤ R.length) (hs : Alloct R ws kind n a e R' ws') : e = 0 ∧ Rm R' := by
  cases hs with
  | arg h1 => exact absurd hk h1
  | room i s _ h1 ha =>
    exfalso
    cases ha with
    | no h0 => exact absurd h0 (ofN_slots n)
    | full h0 h2 h3 =>
      have hu := cnt_uu (R := R) (fun e he hE => by
        obtain ⟨j, hj⟩ := List.getElem?_of_mem he
        exact h3 j e.1 (by rw [hj, ← hE]))
      have := slots_in R
      have := h.u; have := h.a; have := h.b
      omega
  | ok i s _ _ h1 ha hi hat => exact ⟨rfl, h.alloced hA.rows hn ha⟩
theorem nodup_le {l m : List Int} (h : l.Nodup) (hs : ∀ x ∈ l, x ∈ m) : l.length ≤ m.length := by
  induction l generalizing m with
  | nil => exact Nat.zero_le _
  | cons x l ih =>
    have hx := hs x (List.mem_cons_self ..)
    have hn := List.nodup_cons.1 h
    have := ih (m := m.erase x) hn.2 (fun y hy => (List.mem_erase_of_ne (show y ≠ x from fun e => hn.1 (e ▸ hy))).2 (hs y (List.mem_cons_of_mem _ hy)))
    have hl := List.length_erase_of_mem hx
    have hp : 0 < m.length := List.length_pos_of_mem hx
    simp only [List.length_cons]
    omega
theorem objs_nodup {R : List Rw} (hR : RowsOk R) : (objs R).Nodup := by
  rw [List.nodup_iff_pairwise_ne, List.pairwise_iff_getElem]
  intro i j hi hj hij
  have := objs_lt hR hij (List.getElem?_eq_getElem hi) (List.getElem?_eq_getElem hj)
  omega
/-- Roots, what they lead to, and nothing else that leads anywhere. -/
structure Ov (R : List Rw) (ws g kp : List Int) : Prop where
  ob : ∀ b ∈ kp, b ∈ objs R
  nd : kp.Nodup
  wd : ∀ a i x, Loaded R ws a i x 0 → x = 0 ∨ ∃ b ∈ kp, x = b * 2 + 1
  bx : ∀ a l x, Kept R ws a 5 l → Loaded R ws a 1 x 0 → x = 0
  gk : ∀ b ∈ g, b ∈ kp ∧ Kept R ws b 4 10
  kr : ∀ b ∈ kp, b ∈ g ∨ ∃ r ∈ g, ∃ i, Loaded R ws r i (b * 2 + 1) 0
theorem alloct_load {R R' : List Rw} {ws ws' : List Int} {kind n a e : Int} (hA : AOk R ws) (hs : Alloct R ws kind n a e R' ws') (he : e = 0) :
    (∀ b i x, Loaded R' ws' b i x 0 → (b = a ∧ x = 0) ∨ Loaded R ws b i x 0) ∧ (∀ b i x, Loaded R ws b i x 0 → Loaded R' ws' b i x 0) ∧ (∀ b k l, Kept R' ws' b k l → (b = a ∧ k = kind) ∨ Kept R ws b k l) := by
  obtain ⟨h1, h2, _, h4, h5, h6, h7⟩ := alloct_ok hA hs he
  have hk : ∀ b k l, b ≠ a → Kept R' ws' b k l → Kept R ws b k l := by
    intro b k l hne hK
    rcases h6 b hK.obj6 with q | q
    · exact absurd q hne
    · obtain ⟨k2, l2, hK2⟩ := Kept.of hA q
      obtain ⟨e1, e2⟩ := (h5 b k2 l2 hK2).det9 hK
      rw [← e1, ← e2]; exact hK2
  refine ⟨fun b i x hl => ?_, fun b i x hl => ?_, fun b k l hK => ?_⟩
  · cases hl with
    | ok k l _ hK hi hx =>
      by_cases e : b = a
      · subst e
        obtain ⟨_, e2⟩ := hK.det9 h1
        have := h4 i hi.1 (by omega)
        rw [hx] at this
        exact .inl ⟨rfl, Option.some.inj this⟩
      · have hK0 := hk b k l e hK
        exact .inr (.ok k l x hK0 hi (by rw [← h7 b k l i hK0 hi.1 hi.2]; exact hx))
  · cases hl with
    | ok k l _ hK hi hx => exact .ok k l x (h5 b k l hK) hi (by rw [h7 b k l i hK hi.1 hi.2]; exact hx)
  · by_cases e : b = a
    · subst e
      exact .inl ⟨rfl, (hK.det9 h1).1⟩
    · exact .inr (hk b k l e hK)
/-- One more object, that nobody leads to. -/
theorem Ov.alloc {R R' : List Rw} {ws ws' g kp : List Int} {kind n a e : Int} (hA : AOk R ws) (h : Ov R ws g kp) (hs : Alloct R ws kind n a e R' ws') (he : e = 0) : Ov R' ws' g kp ∧ a ∉ kp ∧ a ∈ objs R' ∧ Kept R' ws' a kind n := by
  obtain ⟨h1, h2, _, h4, h5, h6, h7⟩ := alloct_ok hA hs he
  obtain ⟨k1, k2, k3⟩ := alloct_load hA hs he
  have hA' := (hA.alloct hs).1
  have hup : ∀ b, b ∈ objs R → b ∈ objs R' := fun b hb => by
    obtain ⟨k, l, hK⟩ := Kept.of hA ((obj_iff hA b).1 hb)
    exact (obj_iff hA' b).2 (h5 b k l hK).obj6
  refine ⟨⟨fun b hb => hup b (h.ob b hb), h.nd, fun b i x hl => ?_, fun b l x hK hl => ?_, fun b hb => ⟨(h.gk b hb).1, h5 b 4 10 (h.gk b hb).2⟩, fun b hb => ?_⟩, fun k => h2 ((obj_iff hA a).1 (h.ob a k)), (obj_iff hA' a).2 h1.obj6, h1⟩
  · rcases k1 b i x hl with ⟨_, q⟩ | q
    · exact .inl q
    · exact h.wd b i x q
  · rcases k1 b 1 x hl with ⟨_, q⟩ | q
    · exact q
    · rcases k3 b 5 l hK with ⟨q2, _⟩ | q2
      · exfalso
        cases q with
        | ok k l _ hK2 _ _ => exact h2 (q2 ▸ hK2.obj6)
      · exact h.bx b l x q2 q
  · rcases h.kr b hb with q | ⟨r, hr, i, q⟩
    · exact .inl q
    · exact .inr ⟨r, hr, i, k2 r i _ q⟩
/-- A new root. -/
theorem Ov.root {R : List Rw} {ws g kp : List Int} {a : Int} (h : Ov R ws g kp) (hn : a ∉ kp) (ho : a ∈ objs R) (hK : Kept R ws a 4 10) : Ov R ws (g ++ [a]) (kp ++ [a]) := by
  have hin : ∀ l : List Int, a ∈ l ++ [a] := fun l => List.mem_append_right _ (List.mem_singleton.2 rfl)
  refine ⟨fun b hb => ?_, ?_, fun b i x hl => ?_, h.bx, fun b hb => ?_, fun b hb => ?_⟩
  · rcases List.mem_append.1 hb with q | q
    · exact h.ob b q
    · rw [List.mem_singleton.1 q]; exact ho
  · rw [List.nodup_append]
    refine ⟨h.nd, by simp, fun x hx y hy e => ?_⟩
    rw [List.mem_singleton.1 hy] at e
    exact hn (e ▸ hx)
  · rcases h.wd b i x hl with q | ⟨c, hc, q⟩
    · exact .inl q
    · exact .inr ⟨c, List.mem_append_left _ hc, q⟩
  · rcases List.mem_append.1 hb with q | q
    · exact ⟨List.mem_append_left _ (h.gk b q).1, (h.gk b q).2⟩
    · rw [List.mem_singleton.1 q]; exact ⟨hin _, hK⟩
  · rcases List.mem_append.1 hb with q | q
    · rcases h.kr b q with q | ⟨r, hr, i, q⟩
      · exact .inl (List.mem_append_left _ q)
      · exact .inr ⟨r, List.mem_append_left _ hr, i, q⟩
    · rw [List.mem_singleton.1 q]; exact .inl (hin _)
/-- A root leads to a new object; its word there was 0. -/
theorem Ov.store {R : List Rw} {ws ws' g kp : List Int} {r a i e : Int} (hA : AOk R ws) (h : Ov R ws g kp) (hr : r ∈ g) (hn : a ∉ kp) (ho : a ∈ objs R) (hi : 0 ≤ i ∧ i < 10) (hz : Loaded R ws r i 0 0) (hs : Stored R ws r i (a * 2 + 1) e ws') : e = 0 ∧ Ov R ws' g (kp ++ [a]) ∧ ∀ j y, j ≠ i → Loaded R ws r j y 0 → Loaded R ws' r j y 0 := by
  have hK := (h.gk r hr).2
  obtain ⟨h1, h2, h3⟩ := stored_own hA hK hi hs
  obtain ⟨h4, h5⟩ := stored_to hA hs
  have hin : a ∈ kp ++ [a] := List.mem_append_right _ (List.mem_singleton.2 rfl)
  refine ⟨h1, ⟨fun b hb => ?_, ?_, fun b j x hl => ?_, fun b l x hK5 hl => ?_, fun b hb => ⟨List.mem_append_left _ (h.gk b hb).1, h4 b 4 10 (h.gk b hb).2⟩, fun b hb => ?_⟩, h3⟩
  · rcases List.mem_append.1 hb with q | q
    · exact h.ob b q
    · rw [List.mem_singleton.1 q]; exact ho
  · rw [List.nodup_append]
    refine ⟨h.nd, by simp, fun x hx y hy e => ?_⟩
    rw [List.mem_singleton.1 hy] at e
    exact hn (e ▸ hx)
  · rcases stored_loaded hA hs hl with ⟨_, q⟩ | q
    · exact .inr ⟨a, hin, q⟩
    · rcases h.wd b j x q with q | ⟨c, hc, q⟩
      · exact .inl q
      · exact .inr ⟨c, List.mem_append_left _ hc, q⟩
  · have hK0 := stored_kept hA hs b 5 l hK5
    have hne : b ≠ r := by
      rintro rfl
      have := (hK.det9 hK0).1
      omega
    cases hl with
    | ok k l2 _ hKK hj hx =>
      have hb2 := (stored_kept hA hs b k l2 hKK).bounds hA
      have hlen := hA.len
      have hx' : Loaded R ws b 1 x 0 := by
        obtain ⟨_, hw⟩ := stored_of hK hi hs
        obtain ⟨y, hy⟩ : ∃ y, ws[(b + 1 + 1).toNat]? = some y := ⟨_, List.getElem?_eq_getElem (by omega)⟩
        have hly : Loaded R ws b 1 y 0 := .ok k l2 y (stored_kept hA hs b k l2 hKK) hj hy
        have := loaded_one (h5 b 1 y hne hly) (.ok k l2 x hKK hj hx)
        rw [← this]; exact hly
      exact h.bx b l x hK0 hx'
  · rcases List.mem_append.1 hb with q | q
    · rcases h.kr b q with q | ⟨r2, hr2, j, q⟩
      · exact .inl q
      · refine .inr ⟨r2, hr2, j, ?_⟩
        by_cases e1 : r2 = r
        · subst e1
          by_cases e2 : j = i
          · subst e2
            have := loaded_one hz q
            omega
          · exact h3 j _ e2 q
        · exact h5 r2 j _ e1 q
    · rw [List.mem_singleton.1 q]; exact .inr ⟨r, hr, i, h2⟩
end Go.Proofs.YtolamdalijjlnaaGreatDoor
/-
  Layer 11: what an object holds, put by put.
-/
namespace Go.Proofs.YtolamdalijjlnaaGreatDoor

open Go Go.LX
set_option maxRecDepth 100000
set_option linter.unusedVariables false
set_option linter.unusedSimpArgs false

/-- An object, with these words. -/
def Hld (R : List Rw) (ws : List Int) (a kd ln : Int) (Wl : List Int) : Prop := Kept R ws a kd ln ∧ (Wl.length : Int) = ln ∧ ∀ (q : Nat) (x : Int), Wl[q]? = some x → ws[(a + 1 + (q : Int)).toNat]? = some x
theorem Kept.ne9 {R : List Rw} {ws : List Int} {a b k l k' l' : Int} (h : Kept R ws a k l) (h' : Kept R ws b k' l') (hk : k ≠ k') : a ≠ b := fun e => by
  subst e
  exact hk (h.det9 h').1
theorem PT.hld {kd ln : Int} {Wl : List Int} {R : List Rw} {ph a e : Int} {s s' : St4} (hA : AOk R s.1) (hK : Kept R s.1 a kd ln) (hl : (Wl.length : Int) = ln) (hb : ∀ x ∈ Wl, -9223372036854775808 ≤ x ∧ x ≤ 9223372036854775807) (hP : PT kd ln Wl R ph a s e s') : e = 0 ∧ Hld R s'.1 a kd ln Wl ∧ (∀ b k n V, b ≠ a → Hld R s.1 b k n V → Hld R s'.1 b k n V) ∧ (∀ b k n, Kept R s.1 b k n → Kept R s'.1 b k n) := by
  rcases hP.two with ⟨e1, k1, q1⟩ | ⟨e1, k1, q1⟩
  · have hF := putS_fact (ph := ph) Wl 0 s hA hK (by omega) hb
    rw [← q1] at hF
    refine ⟨e1, ⟨hF.kept, hl, fun q x hq => ?_⟩, fun b k n V hn ⟨h1, h2, h3⟩ => ⟨hF.up _ _ _ h1, h2, fun q x hq => ?_⟩, hF.up⟩
    · have := hF.in_ q x hq
      rwa [show (0 + q : Nat) = q by omega] at this
    · have hql : q < V.length := by
        rcases Nat.lt_or_ge q V.length with h | h
        · exact h
        · rw [List.getElem?_eq_none h] at hq; cases hq
      exact (loaded_of (hF.up _ _ _ h1) ⟨by omega, by omega⟩ (hF.oth b q x hn (.ok k n x h1 ⟨by omega, by omega⟩ (h3 q x hq)))).2
  · exact absurd hK k1
theorem TR.hld {kd ln : Int} {fs : List Int → List Int} {Wl : List Int} {R : List Rw} {ws : List Int} {a f : Int} {y : List Int} (hH : Hld R ws a kd ln Wl) (hT : TR kd ln fs R ws a f y) : f = 0 ∧ y = fs Wl := by
  obtain ⟨hK, hl, hw⟩ := hH
  cases hT with
  | no h => exact absurd hK h
  | ok X h hX =>
    refine ⟨rfl, ?_⟩
    have hXl : (X.length : Int) = ln := lenR_of6 hK hX.1
    have : X = Wl := by
      apply List.ext_getElem?
      intro j
      by_cases hj : j < Wl.length
      · obtain ⟨x, hx⟩ : ∃ x, X[j]? = some x := ⟨_, List.getElem?_eq_getElem (by omega)⟩
        have h1 := (loaded_of hK ⟨by omega, by omega⟩ (hX.2 j x hx)).2
        have h2 := hw j _ (List.getElem?_eq_getElem hj)
        rw [h1] at h2
        rw [hx, List.getElem?_eq_getElem hj, Option.some.inj h2]
      · rw [List.getElem?_eq_none (by omega), List.getElem?_eq_none (by omega)]
    rw [this]
theorem PT.again {kd ln : Int} {Wl : List Int} {R : List Rw} {ph a e : Int} {s s' : St4} (hH : Hld R s.1 a kd ln Wl) (hP : PT kd ln Wl R ph a s e s') : e = 0 ∧ s' = s := by
  rcases hP.two with ⟨e1, k1, q1⟩ | ⟨e1, k1, q1⟩
  · refine ⟨e1, q1.trans (putS_same Wl 0 s fun q x hq => ?_)⟩
    have := hH.2.2 q x hq
    rwa [show (0 + q : Nat) = q by omega]
  · exact absurd hH.1 k1
theorem Quad.count {R : List Rw} {ws : List Int} {r1 r2 r3 r4 : Int} (hA : AOk R ws) (hQ : Quad R ws r1 r2 r3 r4) : objCount R = 4 := by
  have d12 := hQ.k1.ne9 hQ.k2 (by decide); have d13 := hQ.k1.ne9 hQ.k3 (by decide); have d14 := hQ.k1.ne9 hQ.k4 (by decide)
  have d23 := hQ.k2.ne9 hQ.k3 (by decide); have d24 := hQ.k2.ne9 hQ.k4 (by decide); have d34 := hQ.k3.ne9 hQ.k4 (by decide)
  have h1 := nodup_le (objs_nodup hA.rows) (m := [r1, r2, r3, r4]) fun x hx => by rcases (hQ.ob x).1 hx with e | e | e | e <;> simp [e]
  have h2 := nodup_le (l := [r1, r2, r3, r4]) (m := objs R) (by simp [d12, d13, d14, d23, d24, d34]) fun x hx => (hQ.ob x).2 (by simpa using hx)
  rw [← objs_length hA.rows]
  have h3 : (objs R).length = (objsTo R R.length).length := rfl
  simp only [List.length_cons, List.length_nil] at h1 h2
  omega
theorem Hld.word {R : List Rw} {ws : List Int} {a kd ln : Int} {Wl : List Int} (hH : Hld R ws a kd ln Wl) (i : Nat) (y : Int) (hy : Wl[i]? = some y) {x e : Int} (hL : Loaded R ws a i x e) : x = y := by
  obtain ⟨hK, hl, hw⟩ := hH
  have hlt : i < Wl.length := (List.getElem?_eq_some_iff.1 hy).1
  have h1 := (loaded_of hK ⟨by omega, by omega⟩ hL).2
  rw [hw i y hy] at h1
  exact (Option.some.inj h1).symm
end Go.Proofs.YtolamdalijjlnaaGreatDoor
/-
  Layer 11: alike.
-/
namespace Go.Proofs.YtolamdalijjlnaaGreatDoor

open Go Go.LX
set_option maxRecDepth 100000
set_option linter.unusedVariables false
set_option linter.unusedSimpArgs false

set_option maxHeartbeats 8000000 in
theorem alike11_lx (R : List Rw) (ws vs C G : List Int) (N W ph sp cy : Int) (L D Q : List PV) (z : ByteArray) (ov : Bool) (P B V Qr la : List PV) (m : Int) (h : HM R ws C G N W L D Q z) (hr : RM R vs C G N W P B V Qr la m) (hS : Sim R ws vs) : CallF (fun _ => Tryz.prog) 47 [.ptr 0 (.lit 0), .ptr 7 (.lit 0)] [(0, .mix [.ptr 1 (.lit 0), .ptr 5 (.lit 0), .sl 6 3 1 (.lit 0) (.sym W), .p (.int .i64 (.sym ph)), .p (.int .i64 (.sym sp)), .p (.int .i64 (.sym cy))]), (1, .mix [.ptr 2 (.lit 0), .sl 4 3 1 (.lit 0) (.sym W)]), (2, .mix [.sl 3 161 2 (.lit 0) (.sym N)]), (3, .pure true L), (4, .pure true D), (5, .pure false [.str fun _ => z, .bool ov]), (6, .pure true Q), (7, .mix [.ptr 8 (.lit 0), .sl 13 3 1 (.lit 0) (.sym W), .ptr 14 (.lit 0), .p (.int .i64 (.sym ph)), .p (.int .i64 (.sym sp)), .p (.int .i64 (.sym cy))]), (8, .mix [.ptr 9 (.lit 0), .sl 12 3 1 (.lit 0) (.sym W)]), (9, .mix [.sl 10 3 1 (.lit 0) (.sym N), .sl 11 189 8 (.lit 0) (.sym N)]), (10, .pure true P), (11, .pure true B), (12, .pure true V), (13, .pure true Qr), (14, .mix [.p (.vsl (.sym m) true la), .p (.bool ov)])] 15 (fun r h n => r = .p (.bool true) ∧ h = [(0, .mix [.ptr 1 (.lit 0), .ptr 5 (.lit 0), .sl 6 3 1 (.lit 0) (.sym W), .p (.int .i64 (.sym ph)), .p (.int .i64 (.sym sp)), .p (.int .i64 (.sym cy))]), (1, .mix [.ptr 2 (.lit 0), .sl 4 3 1 (.lit 0) (.sym W)]), (2, .mix [.sl 3 161 2 (.lit 0) (.sym N)]), (3, .pure true L), (4, .pure true D), (5, .pure false [.str fun _ => z, .bool ov]), (6, .pure true Q), (7, .mix [.ptr 8 (.lit 0), .sl 13 3 1 (.lit 0) (.sym W), .ptr 14 (.lit 0), .p (.int .i64 (.sym ph)), .p (.int .i64 (.sym sp)), .p (.int .i64 (.sym cy))]), (8, .mix [.ptr 9 (.lit 0), .sl 12 3 1 (.lit 0) (.sym W)]), (9, .mix [.sl 10 3 1 (.lit 0) (.sym N), .sl 11 189 8 (.lit 0) (.sym N)]), (10, .pure true P), (11, .pure true B), (12, .pure true V), (13, .pure true Qr), (14, .mix [.p (.vsl (.sym m) true la), .p (.bool ov)])] ∧ n = 15) := by
  have hCl := h.c; have hWn := h.w; have hNr := h.n; have hRr := h.r
  have hQl : Qr.length = C.length := by rw [hr.q, ipv_length]
  obtain ⟨mo, hmo⟩ : ∃ m : Int, m = objCount R := ⟨_, rfl⟩
  refine callF_of_body tok Tryz.func47 (by kernel_rfl) rfl rfl rfl ?_; conv => cbv
  refine callF_frame (robjects_lx mo R vs N W P B V hr.p hr.b hr.v hr.n hr.r hr.a hr.w hmo) [(0, 8), (1, 9), (2, 10), (3, 11), (4, 12)] rfl (by simp [hmapOk, nget, hget, renB, okB, renV, renVs, rn, okVs, okV]) rfl rfl (fun r h' n' hrr => ?_)
  obtain ⟨O, e1, e2, e3, hO⟩ := hrr
  subst e1 e2 e3
  have hOl : (O.length : Int) = mo := by rw [hO, ipv_length, objs_length h.a.rows, hmo]
  have hO : O = ipv (objs R) := hO
  have hol : ((objs R).length : Int) = mo := by rw [← hOl, hO, ipv_length]
  have hob : mo ≤ 8000 := by have := objsTo_le R R.length; rw [objs_length h.a.rows] at this; omega
  conv => cbv
  refine LoopF.mk (fun kk s => ∃ i : Int, s = ⟨.ptr 0 (.lit 0) :: .ptr 7 (.lit 0) :: (undefs 3 ++ .sl 15 3 1 (.lit 0) (.sym mo) :: .p (.int .i64 (.sym i)) :: undefs 72), [(0, .mix [.ptr 1 (.lit 0), .ptr 5 (.lit 0), .sl 6 3 1 (.lit 0) (.sym W), .p (.int .i64 (.sym ph)), .p (.int .i64 (.sym sp)), .p (.int .i64 (.sym cy))]), (1, .mix [.ptr 2 (.lit 0), .sl 4 3 1 (.lit 0) (.sym W)]), (2, .mix [.sl 3 161 2 (.lit 0) (.sym N)]), (3, .pure true L), (4, .pure true D), (5, .pure false [.str fun _ => z, .bool ov]), (6, .pure true Q), (7, .mix [.ptr 8 (.lit 0), .sl 13 3 1 (.lit 0) (.sym W), .ptr 14 (.lit 0), .p (.int .i64 (.sym ph)), .p (.int .i64 (.sym sp)), .p (.int .i64 (.sym cy))]), (8, .mix [.ptr 9 (.lit 0), .sl 12 3 1 (.lit 0) (.sym W)]), (9, .mix [.sl 10 3 1 (.lit 0) (.sym N), .sl 11 189 8 (.lit 0) (.sym N)]), (10, .pure true P), (11, .pure true B), (12, .pure true V), (13, .pure true Qr), (14, .mix [.p (.vsl (.sym m) true la), .p (.bool ov)]), (15, .pure true O)], 16⟩ ∧ 0 ≤ i ∧ i ≤ mo ∧ kk = (mo - i).toNat) mo.toNat _
    (Re.at [(0, 0), (1, 1), (2, 2), (3, 3), (4, 4), (5, 5), (6, 6), (7, 7), (8, 8), (9, 9), (10, 10), (11, 11), (12, 12), (13, 13), (14, 14), (15, 15)] []) ⟨0, rfl, by omega, by omega, by omega⟩ ?_
  rintro kk s ⟨i, rfl, hi0, hi1, hkk⟩
  conv => cbv
  refine Br.mk (fun gi => ?_) (fun gi => ?_)
  · have gi : i < mo := gi
    obtain ⟨k', rfl⟩ : ∃ k', kk = k' + 1 := ⟨kk - 1, by omega⟩
    obtain ⟨a, ha⟩ : ∃ a, (objs R)[i.toNat]? = some a := ⟨_, List.getElem?_eq_getElem (by omega)⟩
    have hc : O[i.toNat]? = some (.int .i64 (.sym a)) := by rw [hO]; exact ipv_get ha
    have hao := List.mem_of_getElem? ha
    have hab := obj_bd h.a hao
    obtain ⟨x, hx⟩ : ∃ x, C[a.toNat]? = some x := ⟨_, List.getElem?_eq_getElem (by omega)⟩
    have hq : Qr[a.toNat]? = some (.int .i64 (.sym x)) := by rw [hr.q]; exact ipv_get hx
    obtain ⟨k0, l0, hK⟩ := Kept.of hr.a ((obj_iff hr.a a).1 hao)
    have hll := hK.bounds hr.a
    conv => cbv
    refine drawn_sound tok (by kernel_rfl) [(5, [15, 14, 13, 12, 11, 10, 9, 8, 7, 6])] [0, 1, 2, 3, 4, 6, 7, 8, 9, 10, 11, 12, 13, 14, 15, 5, 16] (by kernel_rfl) ?_; conv => cbv
    refine Need.mk ⟨hi0, gi⟩ ?_
    conv => cbv
    refine Cell.at i _ hc (by simp [I.val]) rfl ?_
    conv => cbv
    refine Need.mk ⟨hi0, gi⟩ ?_
    conv => cbv
    refine Cell.at i _ hc (by simp [I.val]) rfl ?_
    conv => cbv
    refine Need.mk ⟨by show 0 ≤ a; omega, by show a < W; omega⟩ ?_
    conv => cbv
    refine Cell.at a _ hq (by simp [I.val]) rfl ?_
    conv => cbv
    refine callF_frame (colour_lx R ws C G N W ph sp cy L D Q z ov h a) [(0, 0), (1, 1), (2, 2), (3, 3), (4, 4), (5, 5), (6, 6)] rfl (by simp [hmapOk, nget, hget, renB, okB, renV, renVs, rn, okVs, okV]) rfl rfl (fun r h' n' hrr => ?_)
    obtain ⟨c1, e1, e2, e3, hc1, _⟩ := hrr
    subst e1 e2 e3
    have hcx : c1 = x := Option.some.inj ((hc1 hao).symm.trans hx)
    conv => cbv
    refine Br.no (show ¬ (c1 ≠ x) from fun k => k hcx) ?_
    conv => cbv
    refine LoopF.mk (fun kq s => ∃ q : Int, s = ⟨.ptr 0 (.lit 0) :: .ptr 7 (.lit 0) :: (undefs 3 ++ .sl 15 3 1 (.lit 0) (.sym mo) :: .p (.int .i64 (.sym i)) :: .p (.int .i64 (.sym q)) :: undefs 71), [(0, .mix [.ptr 1 (.lit 0), .ptr 5 (.lit 0), .sl 6 3 1 (.lit 0) (.sym W), .p (.int .i64 (.sym ph)), .p (.int .i64 (.sym sp)), .p (.int .i64 (.sym cy))]), (1, .mix [.ptr 2 (.lit 0), .sl 4 3 1 (.lit 0) (.sym W)]), (2, .mix [.sl 3 161 2 (.lit 0) (.sym N)]), (3, .pure true L), (4, .pure true D), (5, .pure false [.str fun _ => z, .bool ov]), (6, .pure true Q), (7, .mix [.ptr 8 (.lit 0), .sl 13 3 1 (.lit 0) (.sym W), .ptr 14 (.lit 0), .p (.int .i64 (.sym ph)), .p (.int .i64 (.sym sp)), .p (.int .i64 (.sym cy))]), (8, .mix [.ptr 9 (.lit 0), .sl 12 3 1 (.lit 0) (.sym W)]), (9, .mix [.sl 10 3 1 (.lit 0) (.sym N), .sl 11 189 8 (.lit 0) (.sym N)]), (10, .pure true P), (11, .pure true B), (12, .pure true V), (13, .pure true Qr), (14, .mix [.p (.vsl (.sym m) true la), .p (.bool ov)]), (15, .pure true O)], 16⟩ ∧ 0 ≤ q ∧ q ≤ 32 ∧ kq = (32 - q).toNat) 32 _
      (Re.at [(0, 0), (1, 1), (2, 2), (3, 3), (4, 4), (5, 5), (6, 6), (7, 7), (8, 8), (9, 9), (10, 10), (11, 11), (12, 12), (13, 13), (14, 14), (15, 15)] []) ⟨0, rfl, by omega, by omega, by omega⟩ ?_
    rintro kq s ⟨q, rfl, hq0, hq1, hkq⟩
    conv => cbv
    refine drawn_sound tok (by kernel_rfl) [(9, [0])] [0, 1, 2, 3, 4, 5, 6, 7, 8, 9, 10] (by kernel_rfl) ?_; conv => cbv
    refine Need.mk ⟨hi0, gi⟩ ?_
    conv => cbv
    refine Cell.at i _ hc (by simp [I.val]) rfl ?_
    conv => cbv
    refine callF_frame (rlen_lx R vs N a W P B V hr.p hr.b hr.v hr.n hr.r hr.a hr.w) [(0, 8), (1, 9), (2, 10), (3, 11), (4, 12)] rfl (by simp [hmapOk, nget, hget, renB, okB, renV, renVs, rn, okVs, okV]) rfl rfl (fun r h' n' hrr => ?_)
    obtain ⟨y, e1, e2, e3, hy⟩ := hrr
    subst e1 e2 e3
    have hyl : y = l0 := lenR_of6 hK hy
    conv => cbv
    refine Br.mk (fun gq => ?_) (fun gq => ?_)
    · have gq : q < y := gq
      obtain ⟨kq', rfl⟩ : ∃ k', kq = k' + 1 := ⟨kq - 1, by omega⟩
      conv => cbv
      refine Need.mk ⟨hi0, gi⟩ ?_
      conv => cbv
      refine Cell.at i _ hc (by simp [I.val]) rfl ?_
      conv => cbv
      refine callF_frame (load9_lx R ws C G N W ph sp cy L D Q z ov h a q) [(0, 0), (1, 1), (2, 2), (3, 3), (4, 4), (5, 5), (6, 6)] rfl (by simp [hmapOk, nget, hget, renB, okB, renV, renVs, rn, okVs, okV]) rfl rfl (fun r h' n' hrr => ?_)
      obtain ⟨x8, f8, e1, e2, e3, hx8⟩ := hrr
      subst e1 e2 e3
      conv => cbv
      refine drawn_sound tok (by kernel_rfl) [(9, [])] [0, 1, 2, 3, 4, 5, 6, 7, 8, 9, 10, 11, 12, 13, 14] (by kernel_rfl) ?_; conv => cbv
      refine Need.mk ⟨hi0, gi⟩ ?_
      conv => cbv
      refine Cell.at i _ hc (by simp [I.val]) rfl ?_
      conv => cbv
      refine callF_frame (rload_lx q R vs N a W P B V hr.p hr.b hr.v hr.n hr.r hr.a hr.w) [(0, 8), (1, 9), (2, 10), (3, 11), (4, 12)] rfl (by simp [hmapOk, nget, hget, renB, okB, renV, renVs, rn, okVs, okV]) rfl rfl (fun r h' n' hrr => ?_)
      obtain ⟨x9, f9, e1, e2, e3, hx9⟩ := hrr
      subst e1 e2 e3
      have hxx := (hS.load hx8 hx9).1
      conv => cbv
      refine Br.no (show ¬ (x8 ≠ x9) from fun k => k hxx) ?_
      conv => cbv
      refine Fit.mk (by show (-9223372036854775808 : Int) ≤ q + 1; omega) (by show q + 1 ≤ 9223372036854775807; omega) fun q2 hq2 => ?_
      have hq2 : q2 = q + 1 := hq2
      conv => cbv
      refine Again.mk kq' _ (Nat.lt_succ_self _) (Re.at [(0, 0), (1, 1), (2, 2), (3, 3), (4, 4), (5, 5), (6, 6), (7, 7), (8, 8), (9, 9), (10, 10), (11, 11), (12, 12), (13, 13), (14, 14), (15, 15)] []) ⟨q2, rfl, by omega, by omega, by omega⟩
    · have gq : ¬ q < y := gq
      conv => cbv
      refine Fit.mk (by show (-9223372036854775808 : Int) ≤ i + 1; omega) (by show i + 1 ≤ 9223372036854775807; omega) fun i2 hi2 => ?_
      have hi2 : i2 = i + 1 := hi2
      conv => cbv
      refine Again.mk k' _ (Nat.lt_succ_self _) (Re.at [(0, 0), (1, 1), (2, 2), (3, 3), (4, 4), (5, 5), (6, 6), (7, 7), (8, 8), (9, 9), (10, 10), (11, 11), (12, 12), (13, 13), (14, 14), (15, 15)] []) ⟨i2, rfl, by omega, by omega, by omega⟩
  · have gi : ¬ i < mo := gi
    conv => cbv
    refine RetF.mk [.p (.bool true)] [(0, .mix [.ptr 1 (.lit 0), .ptr 5 (.lit 0), .sl 6 3 1 (.lit 0) (.sym W), .p (.int .i64 (.sym ph)), .p (.int .i64 (.sym sp)), .p (.int .i64 (.sym cy))]), (1, .mix [.ptr 2 (.lit 0), .sl 4 3 1 (.lit 0) (.sym W)]), (2, .mix [.sl 3 161 2 (.lit 0) (.sym N)]), (3, .pure true L), (4, .pure true D), (5, .pure false [.str fun _ => z, .bool ov]), (6, .pure true Q), (7, .mix [.ptr 8 (.lit 0), .sl 13 3 1 (.lit 0) (.sym W), .ptr 14 (.lit 0), .p (.int .i64 (.sym ph)), .p (.int .i64 (.sym sp)), .p (.int .i64 (.sym cy))]), (8, .mix [.ptr 9 (.lit 0), .sl 12 3 1 (.lit 0) (.sym W)]), (9, .mix [.sl 10 3 1 (.lit 0) (.sym N), .sl 11 189 8 (.lit 0) (.sym N)]), (10, .pure true P), (11, .pure true B), (12, .pure true V), (13, .pure true Qr), (14, .mix [.p (.vsl (.sym m) true la), .p (.bool ov)])] 15 (Re.at [(0, 0), (1, 1), (2, 2), (3, 3), (4, 4), (5, 5), (6, 6), (7, 7), (8, 8), (9, 9), (10, 10), (11, 11), (12, 12), (13, 13), (14, 14)] []) rfl ⟨rfl, rfl, rfl⟩
end Go.Proofs.YtolamdalijjlnaaGreatDoor
/-
  Arguments that are structs of numbers, and of rows of numbers.
-/
namespace Go.Proofs.YtolamdalijjlnaaGreatDoor

open Go Go.LX Go.RowKit Go.ChangeShapes Go.WideShapes

def intsB (P : Program) (t : TypeId) (m : Nat) : Bool :=
  match P.underlying t with
  | some (.struct fs) => P.cellsOf t == m && (List.range m).all fun j => (List.range fs.size).any fun i => match fs[i]? with
    | some f => match P.underlying f.type with
      | some (.int .i64) => f.offset == j && P.cellsOf f.type == 1
      | some (.array n e) => decide (f.offset ≤ j) && decide (j < f.offset + n) && P.cellsOf f.type == n && P.cellsOf e == 1 && CK.is (.i .i64) (P.underlying e)
      | _ => false
    | none => false
  | _ => false
section

variable {H : Type} {enc : TypeId × Value → H} {P : Program} {W : World}

theorem take_one {cs : List Value} {j : Nat} {v : Value} (h : (cs.drop j).take 1 = [v]) : cs[j]? = some v := by
  have e1 : ((cs.drop j).take 1)[0]? = some v := by rw [h]; rfl
  rw [List.getElem?_take, if_pos (by omega), List.getElem?_drop, Nat.add_zero] at e1
  exact e1
theorem ints_of : ∀ (cs : List Value), (∀ (j : Nat) (v : Value), cs[j]? = some v → ∃ n, v = .int .i64 n ∧ (Lit.int .i64 n).wf = true) → ∃ ns : List Int, cs = ns.map (fun n => Value.int .i64 n) ∧ ∀ n ∈ ns, (Lit.int .i64 n).wf = true
  | [], _ => ⟨[], rfl, fun n h => by cases h⟩
  | c :: cs, h => by
    obtain ⟨n, rfl, hw⟩ := h 0 c rfl
    obtain ⟨ns, rfl, hn⟩ := ints_of cs fun j v hj => h (j + 1) v (by simpa using hj)
    refine ⟨n :: ns, rfl, fun x hx => ?_⟩
    rcases List.mem_cons.1 hx with e | e
    · rw [e]; exact hw
    · exact hn x e
theorem ints_trod {t : TypeId} {m : Nat} {base fuel : Nat} {spare : Nat → Bool} {held : Bool} {cs : List Value} {x : DataW H × List MemPlace} (hk : intsB P t m = true) (h : DataW.trod enc P W base spare held fuel t cs = some x) :
    ∃ ns : List Int, ns.length = m ∧ cs = ns.map (fun n => Value.int .i64 n) ∧ ∀ n ∈ ns, (Lit.int .i64 n).wf = true := by
  unfold intsB at hk
  split at hk
  · rename_i fs hu
    simp only [Bool.and_eq_true, beq_iff_eq, List.all_eq_true, List.mem_range, List.any_eq_true] at hk
    obtain ⟨h1, h3⟩ := hk
    obtain ⟨xs, n, _, _, h4, h5, h6⟩ := DataW.trod_struct hu h
    obtain ⟨ns, e1, e2⟩ := ints_of cs fun j v hj => by
      have hlt := (List.getElem?_eq_some_iff.1 hj).1
      obtain ⟨i, hi, h7⟩ := h3 j (by omega)
      split at h7
      · rename_i f hf
        have h11 := h6 i f hf
        rw [List.getElem?_eq_getElem (by omega : i < xs.length)] at h11
        split at h7
        · rename_i hu2
          simp only [Bool.and_eq_true, beq_iff_eq] at h7
          rw [h7.1, h7.2] at h11
          obtain ⟨c, h12, _, h13⟩ := DataW.trod_int hu2 h11
          have := take_one h12
          rw [hj] at this
          exact ⟨c, Option.some.inj this, h13⟩
        · rename_i k e hu2
          simp only [Bool.and_eq_true, beq_iff_eq, decide_eq_true_eq] at h7
          obtain ⟨⟨⟨⟨g1, g2⟩, g3⟩, g4⟩, g5⟩ := h7
          obtain ⟨ys, m2, _, _, k1, k2, k3⟩ := DataW.trod_array hu2 h11
          have k4 := k3 (j - f.offset) (by omega)
          rw [List.getElem?_eq_getElem (by omega : j - f.offset < ys.length), g4, Nat.mul_one] at k4
          obtain ⟨c, h12, n, rfl, h13⟩ := ck_trod g5 k4
          have := take_one h12
          rw [List.getElem?_take, List.getElem?_drop] at this
          split at this
          · rw [show f.offset + (j - f.offset) = j by omega, hj] at this
            exact ⟨n, Option.some.inj this, h13⟩
          · cases this
        · cases h7
      · cases h7
    refine ⟨ns, ?_, e1, e2⟩
    rw [e1, List.length_map] at h4
    omega
  · cases hk
theorem open_nums {t : TypeId} {m : Nat} {base : Nat} {v : Value} {d : DataW H} {ps : List MemPlace} (hk : intsB P t m = true) (hval : Value.okWide P W .any base t v) (h : DataW.Trod enc P W 0 (fun _ => true) true t v d ps) :
    ∃ ns : List Int, ns.length = m ∧ v = .agg (ns.map (fun n => Value.int .i64 n)).toArray ∧ ∀ n ∈ ns, (Lit.int .i64 n).wf = true := by
  have hk2 := hk
  unfold intsB at hk2
  split at hk2
  · rename_i fs hu
    obtain ⟨cs, rfl, _⟩ := okWide_struct hu hval
    obtain ⟨fuel, hf⟩ := h
    obtain ⟨ns, h1, h2, h3⟩ := ints_trod hk hf
    refine ⟨ns, h1, ?_, h3⟩
    have : cs.toList = ns.map (fun n => Value.int .i64 n) := h2
    rw [← this]
  · cases hk2
end
theorem LR.nums {c : Ctx} {w : World} (ns : List Int) : LR c w (.agg (ns.map fun n => .p (.int .i64 (.sym n)))) (.agg (ns.map (fun n => Value.int .i64 n)).toArray) := by
  refine .agg _ _ (by simp) fun i u hu => ?_
  rw [List.getElem?_map] at hu
  cases e : ns[i]? with
  | none => rw [e] at hu; cases hu
  | some n =>
    rw [e] at hu
    cases hu
    rw [Array.getD_eq_getD_getElem?, List.getElem?_toArray, List.getElem?_map, e]
    exact LR.of_int _ _
end Go.Proofs.YtolamdalijjlnaaGreatDoor
