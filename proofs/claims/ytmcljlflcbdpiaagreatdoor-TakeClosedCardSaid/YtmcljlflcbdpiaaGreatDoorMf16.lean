/-
  Layer 16: TakeClosed.
-/
import Derived.Test.YtmcljlflcbdpiaaGreatDoorBh

namespace Go.Proofs.YtmcljlflcbdpiaaGreatDoor

open Go Go.LX
set_option maxRecDepth 100000
set_option linter.unusedVariables false
set_option linter.unusedSimpArgs false

set_option maxHeartbeats 32000000 in
theorem takeClosed_law (o : Unit → Obj) (ho : IsPow o) (held : List Int) (mh : Int) (HL : List PV) (hHL : HL = ipv held) (hmh : mh = held.length) (hhb : ∀ x ∈ held, -9223372036854775808 ≤ x ∧ x ≤ 9223372036854775807) (n w : Int) (hw : (-9223372036854775808 ≤ w ∧ w ≤ 9223372036854775807)) : CallF (fun _ => Tryz.prog) 7 [.p (.vsl (.sym mh) true HL), .p (.int .i64 (.sym n)), .p (.int .i64 (.sym w))] [(0, .fix 0 o)] 1 (fun r _ _ => r = .p (.bool true)) := by
  refine callF_of_body tok Tryz.func7 (by kernel_rfl) rfl rfl rfl ?_; conv => cbv
  refine CallF.re (args0 := [.p (.vsl (.sym 1) true [.int .i64 (.sym 3)]), .p (.int .i64 (.sym 1))]) (h' := [(0, .fix 0 o)]) (Re.at [(0, 0)] []) (callF_frame (made16_lx o ho [3] 1 1 [.int .i64 (.sym 3)] rfl rfl) [(0, 0)] rfl (by simp [hmapOk, nget, hget, renB, okB, renV, renVs, rn, okVs, okV]) rfl rfl (fun r h' n' hrr => ?_))
  obtain ⟨N, W, C, R, ws, vs, L, D, Q, z, P, B, V, Qr, M, CS, GS, chs, bufs, grs, nc, ng, e1, e2, e3, S, hB, hY, hcs, hgs, hnc, hng, hnm, hn1, hn4, hngo, hcnt, hR, hW⟩ := hrr
  subst e1 e2 e3
  conv => cbv
  refine callF_frame (awake16_lx o ho) [(0, 0)] rfl (by simp [hmapOk, nget, hget, renB, okB, renV, renVs, rn, okVs, okV]) rfl rfl (fun r h' n' ⟨e1, e2, e3⟩ => ?_)
  subst e1 e2 e3
  conv => cbv
  have hnc1 : nc = 1 := by omega
  obtain ⟨c, hcc⟩ := chA1 hnc hnc1
  have hc0 : chs[0]? = some c := by rw [hcc]; rfl
  obtain ⟨b, hb0, hBC⟩ := hB.ch 0 c 3 hc0 rfl
  have hMc := hBC.c
  rw [capS (by decide)] at hMc
  have hcl := S.c.len S.h.a hMc
  have hcw : atW (2 * c + 1) = c := atW_ptr c
  have hngb := ngor_bd 1
  obtain ⟨g, hg0⟩ : ∃ g, grs[0]? = some g := ⟨_, List.getElem?_eq_getElem (by omega)⟩
  have hMg := hB.gr 0 g hg0
  have hgl := S.c.len S.h.a hMg
  have hgw : atW (2 * g + 1) = g := atW_ptr g
  have hgn : ∀ F, M g ≠ some (1, F) := fun F q => by rw [hMg] at q; cases q
  have hMb : M b = some (2, [0, 0, 0]) := by
    rcases hBC.b with q | ⟨_, _, q⟩
    · rw [capS (by decide)] at q; omega
    · rw [capS (by decide)] at q; exact q
  have hcb : c ≠ b := fun q => by rw [q, hMb] at hMc; cases hMc
  have hgc : g ≠ c := fun q => by rw [q, hMc] at hMg; cases hMg
  have hgb : g ≠ b := fun q => by rw [q, hMb] at hMg; cases hMg
  have hh := S.h
  have hc := S.c
  have hmh0 : 0 ≤ mh := by omega
  refine Br.mk (fun gm => ?_) (fun gm => ?_)
  · have gm : (3 : Int) < mh := gm
    obtain ⟨k, hk⟩ : ∃ k : Int, k = 3 := ⟨_, rfl⟩
    have hk1 : 0 ≤ k ∧ k ≤ 3 ∧ k ≤ mh := by omega
    conv => cbv
    clear S hB hcc
    refine LoopF.mk (fun kk s => ∃ (i : Int) (ws : List Int) (D : List PV) (M : Hp) (X : List Int), s = ⟨.p (.vsl (.sym mh) true HL) :: .p (.int .i64 (.sym n)) :: .p (.int .i64 (.sym w)) :: (undefs 4 ++ .ptr 17 (.lit 0) :: .p (.int .i64 (.sym k)) :: .p (.int .i64 (.sym i)) :: undefs 178), [(2, .mix [.ptr 3 (.lit 0), .ptr 7 (.lit 0), .sl 8 3 1 (.lit 0) (.sym W), .p (.int .i64 (.sym 0)), .p (.int .i64 (.sym 0)), .p (.int .i64 (.sym 0))]), (3, .mix [.ptr 4 (.lit 0), .sl 6 3 1 (.lit 0) (.sym W)]), (4, .mix [.sl 5 201 2 (.lit 0) (.sym N)]), (5, .pure true L), (6, .pure true D), (7, .pure false [.str fun _ => z, .bool false]), (8, .pure true Q), (9, .mix [.ptr 10 (.lit 0), .sl 15 3 1 (.lit 0) (.sym W), .ptr 16 (.lit 0), .p (.int .i64 (.sym 0)), .p (.int .i64 (.sym 0)), .p (.int .i64 (.sym 0))]), (10, .mix [.ptr 11 (.lit 0), .sl 14 3 1 (.lit 0) (.sym W)]), (11, .mix [.sl 12 3 1 (.lit 0) (.sym N), .sl 13 189 8 (.lit 0) (.sym N)]), (12, .pure true P), (13, .pure true B), (14, .pure true V), (15, .pure true Qr), (16, .mix [.p (.vsl (.sym 0) true []), .p (.bool false)]), (0, .fix 0 o), (17, .mix [.ptr 2 (.lit 0), .ptr 9 (.lit 0), .sl 18 3 1 (.lit 0) (.sym nc), .sl 19 3 1 (.lit 0) (.sym ng)]), (18, .pure true CS), (19, .pure true GS), (0, .fix 0 o)], 20⟩ ∧ 0 ≤ i ∧ i ≤ k ∧ kk = (k - i).toNat ∧ HM R ws C [] N W L D Q z ∧ Cont R ws M ∧ Sys M (fun _ _ => []) ∧ M c = some (1, [3, 0, i, 0, b, -1, -1, -1, -1]) ∧ M b = some (2, X) ∧ (∀ F, M g ≠ some (1, F)) ∧ X.length = 3 ∧ ∀ j : Nat, (j : Int) < i → X[j]? = held[j]?) k.toNat _
      (Re.at [(0, 0), (2, 2), (3, 3), (4, 4), (5, 5), (6, 6), (7, 7), (8, 8), (9, 9), (10, 10), (11, 11), (12, 12), (13, 13), (14, 14), (15, 15), (16, 16), (17, 17), (18, 18), (19, 19)] []) ⟨0, ws, D, M, [0, 0, 0], rfl, by omega, by omega, by omega, hh, hc, hY, hMc, hMb, hgn, rfl, fun j hj => absurd hj (by omega)⟩ ?_
    clear hh hc hMc hMb hBC hY hgn hMg hk
    rintro kk s ⟨i, ws, D, M, X, rfl, hi0, hi1, hkk, hh, hc, hY, hMc, hMb, hgn, hX, hXh⟩
    conv => cbv
    refine Br.mk (fun gi => ?_) (fun gi => ?_)
    · have gi : i < k := gi
      obtain ⟨hx, hhx⟩ : ∃ a, held[i.toNat]? = some a := ⟨_, List.getElem?_eq_getElem (by omega)⟩
      have hcell : HL[i.toNat]? = some (.int .i64 (.sym hx)) := by rw [hHL]; exact ipv_get hhx
      have hhxb := hhb hx (List.mem_of_getElem? hhx)
      conv => cbv
      refine drawn_sound tok (by kernel_rfl) [(5, [11, 10, 9, 8, 3, 2, 1, 0]), (12, [])] [0, 1, 2, 3, 4, 8, 9, 10, 11, 5, 6, 7, 12, 13, 14, 15, 16, 17] (by kernel_rfl) ?_; conv => cbv
      refine Need.mk (show 0 ≤ i ∧ i < mh by omega) ?_
      conv => cbv
      refine Cell.at i _ hcell (by simp [I.val]) rfl ?_
      conv => cbv
      refine CallF.le (args0 := [.ptr 17 (.lit 0), .p (.int .i64 (.sym 0))]) (callF_frame (ch16_lx R ws vs C N W 0 0 0 L D Q z false P B V Qr [] 0 M nc ng CS GS o 0 chs hcs hnc (by omega) (by omega)) [(0, 2), (1, 3), (2, 4), (3, 5), (4, 6), (5, 7), (6, 8), (7, 9), (8, 10), (9, 11), (10, 12), (11, 13), (12, 14), (13, 15), (14, 16), (15, 0), (16, 17), (17, 18), (18, 19)] rfl (by simp [hmapOk, nget, hget, renB, okB, renV, renVs, rn, okVs, okV]) rfl rfl (fun r h' n' hrr => ?_)) (by simp [ales, ale, pvle, I.val])
      obtain ⟨⟨x1, e1, hx1⟩, e2, e3⟩ := hrr
      subst e1 e2 e3
      conv => cbv
      obtain rfl : c = x1 := (ix0 hx1 hc0).symm
      refine Fit.mk (by show (-9223372036854775808 : Int) ≤ 2 * c; omega) (by show 2 * c ≤ 9223372036854775807; omega) fun a1 ha1 => ?_
      have ha1 : a1 = 2 * c := ha1
      conv => cbv
      refine Fit.mk (by show (-9223372036854775808 : Int) ≤ a1 + 1; omega) (by show a1 + 1 ≤ 9223372036854775807; omega) fun w1 hw1 => ?_
      have hw1 : w1 = a1 + 1 := hw1
      conv => cbv
      have hat1 : atW w1 = c := by rw [show w1 = 2 * c + 1 by omega]; exact hcw
      refine CallF.le (args0 := [.ptr 2 (.lit 0), .p (.int .i64 (.sym w1)), .p (.int .i64 (.sym hx))]) (callF_frame (sendHeld_lx R ws C [] N W 0 0 0 L D Q z false hh M hc (fun _ _ => []) hY o ho rfl w1 hx (by omega) hhxb (by omega) c 3 0 i 0 b (-1) (-1) (-1) (-1) hat1 hMc rfl rfl hi0 (by decide) X hMb (by omega) (by omega)) [(0, 2), (1, 3), (2, 4), (3, 5), (4, 6), (5, 7), (6, 8), (7, 0)] rfl (by simp [hmapOk, nget, hget, renB, okB, renV, renVs, rn, okVs, okV]) rfl rfl (fun r h' n' hrr => ?_)) (by simp [ales, ale, pvle, I.val])
      obtain ⟨ws1, D1, e1, e2, e3, hh1, hc1⟩ := hrr
      subst e1 e2 e3
      conv => cbv
      have hix : (((0 : Int) % 3 + i) % 3).toNat = i.toNat := by omega
      rw [hix] at hc1
      have hcb : c ≠ b := fun q => by rw [q, hMb] at hMc; cases hMc
      have hgc : g ≠ c := fun q => by rw [q] at hgn; exact hgn _ hMc
      have hY1 := sysRing (X' := X.set i.toNat hx) hY hMc hMb (i + 1) 0
      refine Br.no (show ¬ (¬ ((1 : Int) = 1)) from fun q => q rfl) ?_
      conv => cbv
      refine Fit.mk (by show (-9223372036854775808 : Int) ≤ i + 1; omega) (by show i + 1 ≤ 9223372036854775807; omega) fun i2 hi2 => ?_
      have hi2 : i2 = i + 1 := hi2
      conv => cbv
      refine Again.mk (k - i2).toNat _ (by omega) (Re.at [(0, 0), (2, 2), (3, 3), (4, 4), (5, 5), (6, 6), (7, 7), (8, 8), (9, 9), (10, 10), (11, 11), (12, 12), (13, 13), (14, 14), (15, 15), (16, 16), (17, 17), (18, 18), (19, 19)] []) ⟨i2, ws1, D1, _, X.set i.toNat hx, rfl, by omega, by omega, rfl, hh1, hc1, hY1, by rw [upd_same, hi2], by rw [upd_ne hcb.symm, upd_same], fun F q => by
          rw [upd_ne hgc] at q
          by_cases e : g = b
          · rw [e, upd_same] at q; cases q
          · rw [upd_ne e] at q; exact hgn F q, by rw [List.length_set]; exact hX, fun j hj => by
          by_cases e : j = i.toNat
          · subst e; rw [List.getElem?_set_self (by omega), hhx]
          · rw [List.getElem?_set_ne (fun q => e q.symm)]; exact hXh j (by have hj : (j : Int) < i2 := hj; show (j : Int) < i; omega)⟩
    · have gi : ¬ i < k := gi
      obtain rfl : i = k := by omega
      conv => cbv
      refine read_sound tok (by kernel_rfl) [0, 2, 3, 4, 5, 6, 7, 8, 9, 10, 11, 12, 13, 14, 15, 16, 17, 18, 19] [5, 6] [(10, [9, 8, 7, 6, 5, 4, 3, 2, 1, 0]), (11, [9])] [0, 1, 2, 3, 4, 5, 6, 7, 8, 9, 10, 11, 12] (by kernel_rfl) ?_
      conv => cbv
      refine ReadF.mk (.p (.int .i64 (.sym c))) (fun h' n' hbR hnR => CallF.le (args0 := [.ptr 17 (.lit 0), .p (.int .i64 (.sym 0))]) (callF_read ((ch16_lx R ws vs C N W 0 0 0 L D Q z false P B V Qr [] 0 M nc ng CS GS o 0 chs hcs hnc (by omega) (by omega)).mono (fun r h n ⟨⟨x, e1, hx⟩, e2, e3⟩ => ⟨by rw [e1, ix0 hx hc0], e2, e3⟩)) [(0, 2), (1, 3), (2, 4), (3, 5), (4, 6), (5, 7), (6, 8), (7, 9), (8, 10), (9, 11), (10, 12), (11, 13), (12, 14), (13, 15), (14, 16), (15, 0), (16, 17), (17, 18), (18, 19)] (by simp [fok, nget, nback]; omega) (by simp [hmapOk, nget, hbR, hget, renB, okB, renV, renVs, rn, okVs, okV]) rfl rfl rfl rfl) (by simp [ales, ale, pvle, I.val])) ?_
      conv => cbv
      refine ReadF.mk (.tup [.agg [.p (.int .i64 (.sym 3)), .p (.int .i64 (.sym 0)), .p (.int .i64 (.sym i)), .p (.int .i64 (.sym 0)), .p (.int .i64 (.sym b)), .p (.int .i64 (.sym (-1))), .p (.int .i64 (.sym (-1))), .p (.int .i64 (.sym (-1))), .p (.int .i64 (.sym (-1)))], .p (.int .i64 (.sym 0))]) (fun h' n' hbR hnR => CallF.le (args0 := [.ptr 2 (.lit 0), .p (.int .i64 (.sym c))]) (callF_read ((chanM_lx R ws C [] N W 0 0 0 L D Q z false hh M hc c 3 0 i 0 b (-1) (-1) (-1) (-1) hMc).mono (fun r h n ⟨⟨e, e1, he⟩, e2, e3⟩ => ⟨by rw [e1, he], e2, e3⟩)) [(0, 2), (1, 3), (2, 4), (3, 5), (4, 6), (5, 7), (6, 8)] (by simp [fok, nget, nback]; omega) (by simp [hmapOk, nget, hbR, hget, renB, okB, renV, renVs, rn, okVs, okV]) rfl rfl rfl rfl) (by simp [ales, ale, pvle, I.val])) ?_
      conv => cbv
      refine drawn_sound tok (by kernel_rfl) [(5, [6, 3, 2, 1, 0]), (7, [])] [0, 1, 2, 3, 4, 6, 5, 7] (by kernel_rfl) ?_; conv => cbv
      refine CallF.le (args0 := [.ptr 17 (.lit 0), .p (.int .i64 (.sym 0))]) (callF_frame (ch16_lx R ws vs C N W 0 0 0 L D Q z false P B V Qr [] 0 M nc ng CS GS o 0 chs hcs hnc (by omega) (by omega)) [(0, 2), (1, 3), (2, 4), (3, 5), (4, 6), (5, 7), (6, 8), (7, 9), (8, 10), (9, 11), (10, 12), (11, 13), (12, 14), (13, 15), (14, 16), (15, 0), (16, 17), (17, 18), (18, 19)] rfl (by simp [hmapOk, nget, hget, renB, okB, renV, renVs, rn, okVs, okV]) rfl rfl (fun r h' n' hrr => ?_)) (by simp [ales, ale, pvle, I.val])
      obtain ⟨⟨x3, e1, hx3⟩, e2, e3⟩ := hrr
      subst e1 e2 e3
      conv => cbv
      obtain rfl : c = x3 := (ix0 hx3 hc0).symm
      obtain ⟨hp, hb⟩ := hc.chan hh.a hMc
      have hb' : ∀ q ∈ [3, 1, i, 0, b, -1, -1, -1, -1], b62 q := by
        simp only [List.forall_mem_cons] at hb ⊢
        obtain ⟨b0, b1, b2, b3, b4, b5, b6, b7, b8, _⟩ := hb
        exact ⟨b0, by unfold b62; omega, b2, b3, b4, b5, b6, b7, b8, fun q hq => by cases hq⟩
      refine CallF.le (args0 := [.ptr 2 (.lit 0), .p (.int .i64 (.sym c)), .agg [.p (.int .i64 (.sym 3)), .p (.int .i64 (.sym 1)), .p (.int .i64 (.sym i)), .p (.int .i64 (.sym 0)), .p (.int .i64 (.sym b)), .p (.int .i64 (.sym (-1))), .p (.int .i64 (.sym (-1))), .p (.int .i64 (.sym (-1))), .p (.int .i64 (.sym (-1)))]]) (callF_frame (putChanM_lx R ws C [] N W 0 0 0 L D Q z false hh M hc o ho rfl c 3 1 i 0 b (-1) (-1) (-1) (-1) [3, 0, i, 0, b, -1, -1, -1, -1] hMc rfl hb' hp) [(0, 2), (1, 3), (2, 4), (3, 5), (4, 6), (5, 7), (6, 8), (7, 0)] rfl (by simp [hmapOk, nget, hget, renB, okB, renV, renVs, rn, okVs, okV]) rfl rfl (fun r h' n' hrr => ?_)) (by simp [ales, ale, pvle, I.val])
      obtain ⟨e8, ws1, D1, e1, he8, e2, e3, hh1, hc1⟩ := hrr
      subst e1 e2 e3
      conv => cbv
      have hY1 := sysChan hY hMc 1 i 0
      have hcb : c ≠ b := fun q => by rw [q, hMb] at hMc; cases hMc
      have hgc : g ≠ c := fun q => by rw [q] at hgn; exact hgn _ hMc
      obtain ⟨M1, hM1⟩ : ∃ M1, M1 = upd M c (1, [3, 1, i, 0, b, -1, -1, -1, -1]) := ⟨_, rfl⟩
      rw [← hM1] at hc1 hY1
      have hMc1 : M1 c = some (1, [3, 1, i, 0, b, -1, -1, -1, -1]) := by rw [hM1]; exact upd_same _ _ _
      have hMb1 : M1 b = some (2, X) := by rw [hM1, upd_ne hcb.symm]; exact hMb
      have hgn1 : ∀ F, M1 g ≠ some (1, F) := fun F q => by rw [hM1, upd_ne hgc] at q; exact hgn F q
      refine LoopF.mk (fun kk s => ∃ (j cnt st : Int) (ws : List Int) (D : List PV) (M : Hp) (X : List Int), s = ⟨.p (.vsl (.sym mh) true HL) :: .p (.int .i64 (.sym n)) :: .p (.int .i64 (.sym w)) :: (undefs 4 ++ .ptr 17 (.lit 0) :: .p (.int .i64 (.sym i)) :: (undefs 5 ++ .p (.int .i64 (.sym j)) :: undefs 173)), [(2, .mix [.ptr 3 (.lit 0), .ptr 7 (.lit 0), .sl 8 3 1 (.lit 0) (.sym W), .p (.int .i64 (.sym 0)), .p (.int .i64 (.sym 0)), .p (.int .i64 (.sym 0))]), (3, .mix [.ptr 4 (.lit 0), .sl 6 3 1 (.lit 0) (.sym W)]), (4, .mix [.sl 5 201 2 (.lit 0) (.sym N)]), (5, .pure true L), (6, .pure true D), (7, .pure false [.str fun _ => z, .bool false]), (8, .pure true Q), (9, .mix [.ptr 10 (.lit 0), .sl 15 3 1 (.lit 0) (.sym W), .ptr 16 (.lit 0), .p (.int .i64 (.sym 0)), .p (.int .i64 (.sym 0)), .p (.int .i64 (.sym 0))]), (10, .mix [.ptr 11 (.lit 0), .sl 14 3 1 (.lit 0) (.sym W)]), (11, .mix [.sl 12 3 1 (.lit 0) (.sym N), .sl 13 189 8 (.lit 0) (.sym N)]), (12, .pure true P), (13, .pure true B), (14, .pure true V), (15, .pure true Qr), (16, .mix [.p (.vsl (.sym 0) true []), .p (.bool false)]), (0, .fix 0 o), (17, .mix [.ptr 2 (.lit 0), .ptr 9 (.lit 0), .sl 18 3 1 (.lit 0) (.sym nc), .sl 19 3 1 (.lit 0) (.sym ng)]), (18, .pure true CS), (19, .pure true GS), (0, .fix 0 o)], 20⟩ ∧ 0 ≤ j ∧ kk = (i + 4 - j).toNat ∧ HM R ws C [] N W L D Q z ∧ Cont R ws M ∧ Sys M (fun _ _ => []) ∧ M c = some (1, [3, 1, cnt, st, b, -1, -1, -1, -1]) ∧ M b = some (2, X) ∧ (∀ F, M g ≠ some (1, F)) ∧ X.length = 3 ∧ 0 ≤ st ∧ (j < i → cnt = i - j ∧ st = j) ∧ (¬ j < i → cnt = 0) ∧ ∀ q : Nat, j ≤ q → (q : Int) < i → X[q]? = held[q]?) (i + 4).toNat _
        (Re.at [(0, 0), (2, 2), (3, 3), (4, 4), (5, 5), (6, 6), (7, 7), (8, 8), (9, 9), (10, 10), (11, 11), (12, 12), (13, 13), (14, 14), (15, 15), (16, 16), (17, 17), (18, 18), (19, 19)] []) ⟨0, i, 0, ws1, D1, M1, X, rfl, by omega, by omega, hh1, hc1, hY1, hMc1, hMb1, hgn1, hX, by omega, fun _ => ⟨by omega, rfl⟩, fun h => by omega, fun q _ hq => hXh q hq⟩ ?_
      clear hh1 hc1 hY1 hMc1 hMb1 hgn1 hX hXh hh hc hY hMc hMb hgn hb' hp hb hM1 hcb hgc hkk gi he8
      rintro kk s ⟨j, cnt, st, ws, D, M, X, rfl, hj0, hkk, hh, hc, hY, hMc, hMb, hgn, hX, hst0, hlt, hge, hXh⟩
      have hkk : kk = (i + 4 - j).toNat := hkk
      conv => cbv
      refine Fit.wrap fun xn hxn => ?_
      have hxn : xn = IntKind.u64.wrap n := hxn
      have hyn : 0 ≤ xn := by rw [hxn]; simp [IntKind.wrap, IntKind.bits, IntKind.signed]; omega
      clear hxn
      conv => cbv
      refine Sum.mk fun tn htn => ?_
      have htn : tn = xn % 4 := (show tn = xn.tmod 4 from htn).trans (Int.tmod_eq_emod_of_nonneg hyn)
      conv => cbv
      refine Fit.mk (by show (-9223372036854775808 : Int) ≤ tn; omega) (by show tn ≤ 9223372036854775807; omega) fun u4 hu4 => ?_
      have hu4 : u4 = tn := hu4
      have hu40 : 0 ≤ u4 := by omega
      have hu41 : u4 < 4 := by omega
      clear hu4 htn hyn
      conv => cbv
      refine Fit.mk (by show (-9223372036854775808 : Int) ≤ i + u4; omega) (by show i + u4 ≤ 9223372036854775807; omega) fun bd hbd => ?_
      have hbd : bd = i + u4 := hbd
      conv => cbv
      have hcb : c ≠ b := fun q => by rw [q, hMb] at hMc; cases hMc
      have hgc : g ≠ c := fun q => by rw [q] at hgn; exact hgn _ hMc
      refine Br.mk (fun gj => ?_) (fun gj => ?_)
      · have gj : j < bd := gj
        conv => cbv
        refine drawn_sound tok (by kernel_rfl) [(5, [3, 2, 1, 0]), (8, [])] [0, 1, 2, 3, 4, 5, 6, 7, 8, 9, 10, 11, 12, 13, 14, 15] (by kernel_rfl) ?_; conv => cbv
        refine CallF.le (args0 := [.ptr 17 (.lit 0), .p (.int .i64 (.sym 0))]) (callF_frame (ch16_lx R ws vs C N W 0 0 0 L D Q z false P B V Qr [] 0 M nc ng CS GS o 0 chs hcs hnc (by omega) (by omega)) [(0, 2), (1, 3), (2, 4), (3, 5), (4, 6), (5, 7), (6, 8), (7, 9), (8, 10), (9, 11), (10, 12), (11, 13), (12, 14), (13, 15), (14, 16), (15, 0), (16, 17), (17, 18), (18, 19)] rfl (by simp [hmapOk, nget, hget, renB, okB, renV, renVs, rn, okVs, okV]) rfl rfl (fun r h' n' hrr => ?_)) (by simp [ales, ale, pvle, I.val])
        obtain ⟨⟨x5, e1, hx5⟩, e2, e3⟩ := hrr
        subst e1 e2 e3
        conv => cbv
        obtain rfl : c = x5 := (ix0 hx5 hc0).symm
        refine Fit.mk (by show (-9223372036854775808 : Int) ≤ 2 * c; omega) (by show 2 * c ≤ 9223372036854775807; omega) fun a5 ha5 => ?_
        have ha5 : a5 = 2 * c := ha5
        conv => cbv
        refine Fit.mk (by show (-9223372036854775808 : Int) ≤ a5 + 1; omega) (by show a5 + 1 ≤ 9223372036854775807; omega) fun w5 hw5 => ?_
        have hw5 : w5 = a5 + 1 := hw5
        conv => cbv
        have hat5 : atW w5 = c := by rw [show w5 = 2 * c + 1 by omega]; exact hcw
        by_cases gji : j < i
        · obtain ⟨hx, hhx⟩ : ∃ a, held[j.toNat]? = some a := ⟨_, List.getElem?_eq_getElem (by omega)⟩
          have hcell : HL[j.toNat]? = some (.int .i64 (.sym hx)) := by rw [hHL]; exact ipv_get hhx
          obtain ⟨hcn, hsj⟩ := hlt gji
          refine CallF.le (args0 := [.ptr 2 (.lit 0), .p (.int .i64 (.sym w5))]) (callF_frame (takeGot_lx R ws C [] N W 0 0 0 L D Q z false hh M hc (fun _ _ => []) hY o ho rfl w5 (by omega) (by omega) c 3 1 cnt st b (-1) (-1) (-1) (-1) hat5 hMc rfl hst0 X hMb (by omega) (by omega)) [(0, 2), (1, 3), (2, 4), (3, 5), (4, 6), (5, 7), (6, 8), (7, 0)] rfl (by simp [hmapOk, nget, hget, renB, okB, renV, renVs, rn, okVs, okV]) rfl rfl (fun r h' n' hrr => ?_)) (by simp [ales, ale, pvle, I.val])
          obtain ⟨v5, ws2, D2, e1, e2, e3, hh2, hv5, hc2⟩ := hrr
          subst e1 e2 e3
          conv => cbv
          have hv6 : v5 = hx := by
            rw [show (st % 3).toNat = j.toNat by omega, hXh j.toNat (by omega) (by omega), hhx] at hv5
            exact (Option.some.inj hv5).symm
          have hY2 := sysRing (X' := X.set (st % 3).toNat 0) hY hMc hMb (cnt - 1) ((st % 3 + 1) % 3)
          obtain ⟨M2, hM2⟩ : ∃ M2, M2 = upd (upd M b (2, X.set (st % 3).toNat 0)) c (1, [3, 1, cnt - 1, (st % 3 + 1) % 3, b, -1, -1, -1, -1]) := ⟨_, rfl⟩
          rw [← hM2] at hc2 hY2
          have hMc2 : M2 c = some (1, [3, 1, cnt - 1, (st % 3 + 1) % 3, b, -1, -1, -1, -1]) := by rw [hM2]; exact upd_same _ _ _
          have hMb2 : M2 b = some (2, X.set (st % 3).toNat 0) := by rw [hM2, upd_ne hcb.symm]; exact upd_same _ _ _
          have hgn2 : ∀ F, M2 g ≠ some (1, F) := fun F q => by
            rw [hM2, upd_ne hgc] at q
            by_cases e : g = b
            · rw [e, upd_same] at q; cases q
            · rw [upd_ne e] at q; exact hgn F q
          refine Br.yes (show j < i from gji) ?_
          conv => cbv
          refine Need.mk (show 0 ≤ j ∧ j < mh by omega) ?_
          conv => cbv
          refine Cell.at j _ hcell (by simp [I.val]) rfl ?_
          conv => cbv
          refine drawn_sound tok (by kernel_rfl) [(17, [15, 14, 13, 12]), (20, [])] [0, 1, 2, 3, 4, 5, 6, 7, 8, 9, 10, 11, 12, 13, 14, 15, 16, 17, 18, 19, 20, 21, 22] (by kernel_rfl) ?_; conv => cbv
          refine Br.no (show ¬ (¬ (v5 = hx)) from fun q => q hv6) ?_
          conv => cbv
          refine Br.no (show ¬ (¬ ((-1 : Int) = -1)) from fun q => q rfl) ?_
          conv => cbv
          refine Br.no (show ¬ (¬ ((1 : Int) = 1)) from fun q => q rfl) ?_
          conv => cbv
          refine CallF.le (args0 := [.ptr 17 (.lit 0), .p (.int .i64 (.sym 0))]) (callF_frame (ch16_lx R ws2 vs C N W 0 0 0 L D2 Q z false P B V Qr [] 0 M2 nc ng CS GS o 0 chs hcs hnc (by omega) (by omega)) [(0, 2), (1, 3), (2, 4), (3, 5), (4, 6), (5, 7), (6, 8), (7, 9), (8, 10), (9, 11), (10, 12), (11, 13), (12, 14), (13, 15), (14, 16), (15, 0), (16, 17), (17, 18), (18, 19)] rfl (by simp [hmapOk, nget, hget, renB, okB, renV, renVs, rn, okVs, okV]) rfl rfl (fun r h' n' hrr => ?_)) (by simp [ales, ale, pvle, I.val])
          obtain ⟨⟨x6, e1, hx6⟩, e2, e3⟩ := hrr
          subst e1 e2 e3
          conv => cbv
          obtain rfl : c = x6 := (ix0 hx6 hc0).symm
          refine Fit.mk (by show (-9223372036854775808 : Int) ≤ 2 * c; omega) (by show 2 * c ≤ 9223372036854775807; omega) fun a6 ha6 => ?_
          have ha6 : a6 = 2 * c := ha6
          conv => cbv
          refine Fit.mk (by show (-9223372036854775808 : Int) ≤ a6 + 1; omega) (by show a6 + 1 ≤ 9223372036854775807; omega) fun w6 hw6 => ?_
          have hw6 : w6 = a6 + 1 := hw6
          conv => cbv
          have hat6 : atW w6 = c := by rw [show w6 = 2 * c + 1 by omega]; exact hcw
          refine CallF.le (args0 := [.ptr 2 (.lit 0), .p (.int .i64 (.sym w6))]) (callF_frame (takeRClosed_lx R ws2 C [] N W 0 0 0 L D2 Q z false hh2 M2 hc2 o w6 (by omega) (by omega) c 3 1 (cnt - 1) ((st % 3 + 1) % 3) b (-1) (-1) (-1) (-1) hat6 hMc2 (by decide)) [(0, 2), (1, 3), (2, 4), (3, 5), (4, 6), (5, 7), (6, 8), (7, 0)] rfl (by simp [hmapOk, nget, hget, renB, okB, renV, renVs, rn, okVs, okV]) rfl rfl (fun r h' n' hrr => ?_)) (by simp [ales, ale, pvle, I.val])
          obtain ⟨e1, e2, e3⟩ := hrr
          subst e1 e2 e3
          conv => cbv
          refine Fit.mk (by show (-9223372036854775808 : Int) ≤ j + 1; omega) (by show j + 1 ≤ 9223372036854775807; omega) fun j2 hj2 => ?_
          have hj2 : j2 = j + 1 := hj2
          conv => cbv
          refine Again.mk (i + 4 - j2).toNat _ (by omega) (Re.at [(0, 0), (2, 2), (3, 3), (4, 4), (5, 5), (6, 6), (7, 7), (8, 8), (9, 9), (10, 10), (11, 11), (12, 12), (13, 13), (14, 14), (15, 15), (16, 16), (17, 17), (18, 18), (19, 19)] []) ⟨j2, cnt - 1, (st % 3 + 1) % 3, ws2, D2, M2, X.set (st % 3).toNat 0, rfl, by omega, rfl, hh2, hc2, hY2, hMc2, hMb2, hgn2, by rw [List.length_set]; exact hX, by omega, fun h => ⟨by have h : j2 < i := h; omega, by have h : j2 < i := h; omega⟩, fun h => by have h : ¬ j2 < i := h; omega, fun q h1 h2 => by
              have h1 : j2 ≤ (q : Int) := h1
              have h2 : (q : Int) < i := h2
              rw [List.getElem?_set_ne (by omega)]; exact hXh q (by show j ≤ (q : Int); omega) h2⟩
        · have hcn : cnt = 0 := hge gji
          refine CallF.le (args0 := [.ptr 2 (.lit 0), .p (.int .i64 (.sym w5))]) (callF_frame (takeOver_lx R ws C [] N W 0 0 0 L D Q z false hh M hc (fun _ _ => []) hY o ho rfl w5 (by omega) (by omega) c 3 1 cnt st b (-1) (-1) (-1) (-1) hat5 hMc rfl (by omega) (by decide)) [(0, 2), (1, 3), (2, 4), (3, 5), (4, 6), (5, 7), (6, 8), (7, 0)] rfl (by simp [hmapOk, nget, hget, renB, okB, renV, renVs, rn, okVs, okV]) rfl rfl (fun r h' n' hrr => ?_)) (by simp [ales, ale, pvle, I.val])
          obtain ⟨⟨v5, e1, hv5⟩, e2, e3⟩ := hrr
          subst e1 e2 e3
          conv => cbv
          refine Br.no (show ¬ (j < i) from gji) ?_
          conv => cbv
          refine drawn_sound tok (by kernel_rfl) [(17, [15, 14, 13, 12]), (20, [])] [0, 1, 2, 3, 4, 5, 6, 7, 8, 9, 10, 11, 12, 13, 14, 15, 16, 17, 18, 19, 20, 21, 22] (by kernel_rfl) ?_; conv => cbv
          refine Br.no (show ¬ (¬ (v5 = 0)) from fun q => q hv5) ?_
          conv => cbv
          refine Br.no (show ¬ (¬ ((-1 : Int) = -1)) from fun q => q rfl) ?_
          conv => cbv
          refine Br.no (show ¬ (¬ ((1 : Int) = 1)) from fun q => q rfl) ?_
          conv => cbv
          refine CallF.le (args0 := [.ptr 17 (.lit 0), .p (.int .i64 (.sym 0))]) (callF_frame (ch16_lx R ws vs C N W 0 0 0 L D Q z false P B V Qr [] 0 M nc ng CS GS o 0 chs hcs hnc (by omega) (by omega)) [(0, 2), (1, 3), (2, 4), (3, 5), (4, 6), (5, 7), (6, 8), (7, 9), (8, 10), (9, 11), (10, 12), (11, 13), (12, 14), (13, 15), (14, 16), (15, 0), (16, 17), (17, 18), (18, 19)] rfl (by simp [hmapOk, nget, hget, renB, okB, renV, renVs, rn, okVs, okV]) rfl rfl (fun r h' n' hrr => ?_)) (by simp [ales, ale, pvle, I.val])
          obtain ⟨⟨x6, e1, hx6⟩, e2, e3⟩ := hrr
          subst e1 e2 e3
          conv => cbv
          obtain rfl : c = x6 := (ix0 hx6 hc0).symm
          refine Fit.mk (by show (-9223372036854775808 : Int) ≤ 2 * c; omega) (by show 2 * c ≤ 9223372036854775807; omega) fun a6 ha6 => ?_
          have ha6 : a6 = 2 * c := ha6
          conv => cbv
          refine Fit.mk (by show (-9223372036854775808 : Int) ≤ a6 + 1; omega) (by show a6 + 1 ≤ 9223372036854775807; omega) fun w6 hw6 => ?_
          have hw6 : w6 = a6 + 1 := hw6
          conv => cbv
          have hat6 : atW w6 = c := by rw [show w6 = 2 * c + 1 by omega]; exact hcw
          refine CallF.le (args0 := [.ptr 2 (.lit 0), .p (.int .i64 (.sym w6))]) (callF_frame (takeRClosed_lx R ws C [] N W 0 0 0 L D Q z false hh M hc o w6 (by omega) (by omega) c 3 1 cnt st b (-1) (-1) (-1) (-1) hat6 hMc (by decide)) [(0, 2), (1, 3), (2, 4), (3, 5), (4, 6), (5, 7), (6, 8), (7, 0)] rfl (by simp [hmapOk, nget, hget, renB, okB, renV, renVs, rn, okVs, okV]) rfl rfl (fun r h' n' hrr => ?_)) (by simp [ales, ale, pvle, I.val])
          obtain ⟨e1, e2, e3⟩ := hrr
          subst e1 e2 e3
          conv => cbv
          refine Fit.mk (by show (-9223372036854775808 : Int) ≤ j + 1; omega) (by show j + 1 ≤ 9223372036854775807; omega) fun j2 hj2 => ?_
          have hj2 : j2 = j + 1 := hj2
          conv => cbv
          refine Again.mk (i + 4 - j2).toNat _ (by omega) (Re.at [(0, 0), (2, 2), (3, 3), (4, 4), (5, 5), (6, 6), (7, 7), (8, 8), (9, 9), (10, 10), (11, 11), (12, 12), (13, 13), (14, 14), (15, 15), (16, 16), (17, 17), (18, 18), (19, 19)] []) ⟨j2, cnt, st, ws, D, M, X, rfl, by omega, rfl, hh, hc, hY, hMc, hMb, hgn, hX, hst0, fun h => by have h : j2 < i := h; omega, fun _ => hcn, fun q h1 h2 => by
              have h1 : j2 ≤ (q : Int) := h1
              have h2 : (q : Int) < i := h2
              omega⟩
      · have gj : ¬ j < bd := gj
        conv => cbv
        refine CallF.le (args0 := [.ptr 2 (.lit 0), .p (.int .i64 (.sym 0))]) (callF_frame (takeZero_lx R ws C [] N W 0 0 0 L D Q z false hh M hc o 0 rfl) [(0, 2), (1, 3), (2, 4), (3, 5), (4, 6), (5, 7), (6, 8), (7, 0)] rfl (by simp [hmapOk, nget, hget, renB, okB, renV, renVs, rn, okVs, okV]) rfl rfl (fun r h' n' hrr => ?_)) (by simp [ales, ale, pvle, I.val])
        obtain ⟨⟨x7, e1, hx7⟩, e2, e3⟩ := hrr
        subst e1 e2 e3
        conv => cbv
        refine drawn_sound tok (by kernel_rfl) [(5, [3, 2, 1, 0]), (8, [])] [0, 1, 2, 3, 4, 5, 6, 7, 8, 9, 10, 11, 12, 13, 14, 15] (by kernel_rfl) ?_; conv => cbv
        refine CallF.le (args0 := [.ptr 17 (.lit 0), .p (.int .i64 (.sym 0))]) (callF_frame (gor16_lx R ws vs C N W 0 0 0 L D Q z false P B V Qr [] 0 M nc ng CS GS o 0 grs hgs hng (by omega) (by omega)) [(0, 2), (1, 3), (2, 4), (3, 5), (4, 6), (5, 7), (6, 8), (7, 9), (8, 10), (9, 11), (10, 12), (11, 13), (12, 14), (13, 15), (14, 16), (15, 0), (16, 17), (17, 18), (18, 19)] rfl (by simp [hmapOk, nget, hget, renB, okB, renV, renVs, rn, okVs, okV]) rfl rfl (fun r h' n' hrr => ?_)) (by simp [ales, ale, pvle, I.val])
        obtain ⟨⟨x8, e1, hx8⟩, e2, e3⟩ := hrr
        subst e1 e2 e3
        conv => cbv
        obtain rfl : g = x8 := (ix0 hx8 hg0).symm
        refine Fit.mk (by show (-9223372036854775808 : Int) ≤ 2 * g; omega) (by show 2 * g ≤ 9223372036854775807; omega) fun a8 ha8 => ?_
        have ha8 : a8 = 2 * g := ha8
        conv => cbv
        refine Fit.mk (by show (-9223372036854775808 : Int) ≤ a8 + 1; omega) (by show a8 + 1 ≤ 9223372036854775807; omega) fun w8 hw8 => ?_
        have hw8 : w8 = a8 + 1 := hw8
        conv => cbv
        refine CallF.le (args0 := [.ptr 2 (.lit 0), .p (.int .i64 (.sym w8))]) (callF_frame (takeStray_lx R ws C [] N W 0 0 0 L D Q z false hh M hc o w8 (by omega) (by omega) (by rw [show w8 = 2 * g + 1 by omega, hgw]; exact hgn)) [(0, 2), (1, 3), (2, 4), (3, 5), (4, 6), (5, 7), (6, 8), (7, 0)] rfl (by simp [hmapOk, nget, hget, renB, okB, renV, renVs, rn, okVs, okV]) rfl rfl (fun r h' n' hrr => ?_)) (by simp [ales, ale, pvle, I.val])
        obtain ⟨e1, e2, e3⟩ := hrr
        subst e1 e2 e3
        conv => cbv
        refine callF_frame (takeNil_lx (.sym w)) [] rfl trivial rfl rfl (fun r h' n' ⟨e1, e2, e3⟩ => ?_)
        subst e1 e2 e3
        conv => cbv
        refine Br.yes (show (0 : Int) = 0 from rfl) ?_
        conv => cbv
        refine Br.yes (show (6 : Int) = 6 from rfl) ?_
        conv => cbv
        refine Br.yes (show (-1 : Int) = -1 from rfl) ?_
        conv => cbv
        refine Br.yes (show (6 : Int) = 6 from rfl) ?_
        conv => cbv
        refine callF_frame (takeRNil_lx (.sym w)) [] rfl trivial rfl rfl (fun r h' n' ⟨e1, e2, e3⟩ => ?_)
        subst e1 e2 e3
        conv => cbv
        refine CallF.le (args0 := [.ptr 2 (.lit 0), .p (.int .i64 (.sym 0))]) (callF_frame (takeRZero_lx R ws C [] N W 0 0 0 L D Q z false hh M hc o 0 rfl) [(0, 2), (1, 3), (2, 4), (3, 5), (4, 6), (5, 7), (6, 8), (7, 0)] rfl (by simp [hmapOk, nget, hget, renB, okB, renV, renVs, rn, okVs, okV]) rfl rfl (fun r h' n' hrr => ?_)) (by simp [ales, ale, pvle, I.val])
        obtain ⟨e1, e2, e3⟩ := hrr
        subst e1 e2 e3
        conv => cbv
        refine RetF.mk [.p (.bool true)] [(0, .fix 0 o)] 1 (Re.at [(0, 0)] []) rfl rfl
  · have gm : ¬ (3 : Int) < mh := gm
    obtain ⟨k, hk⟩ : ∃ k : Int, k = mh := ⟨_, rfl⟩
    have hk1 : 0 ≤ k ∧ k ≤ 3 ∧ k ≤ mh := by omega
    conv => cbv
    clear S hB hcc
    refine LoopF.mk (fun kk s => ∃ (i : Int) (ws : List Int) (D : List PV) (M : Hp) (X : List Int), s = ⟨.p (.vsl (.sym mh) true HL) :: .p (.int .i64 (.sym n)) :: .p (.int .i64 (.sym w)) :: (undefs 4 ++ .ptr 17 (.lit 0) :: .p (.int .i64 (.sym k)) :: .p (.int .i64 (.sym i)) :: undefs 178), [(2, .mix [.ptr 3 (.lit 0), .ptr 7 (.lit 0), .sl 8 3 1 (.lit 0) (.sym W), .p (.int .i64 (.sym 0)), .p (.int .i64 (.sym 0)), .p (.int .i64 (.sym 0))]), (3, .mix [.ptr 4 (.lit 0), .sl 6 3 1 (.lit 0) (.sym W)]), (4, .mix [.sl 5 201 2 (.lit 0) (.sym N)]), (5, .pure true L), (6, .pure true D), (7, .pure false [.str fun _ => z, .bool false]), (8, .pure true Q), (9, .mix [.ptr 10 (.lit 0), .sl 15 3 1 (.lit 0) (.sym W), .ptr 16 (.lit 0), .p (.int .i64 (.sym 0)), .p (.int .i64 (.sym 0)), .p (.int .i64 (.sym 0))]), (10, .mix [.ptr 11 (.lit 0), .sl 14 3 1 (.lit 0) (.sym W)]), (11, .mix [.sl 12 3 1 (.lit 0) (.sym N), .sl 13 189 8 (.lit 0) (.sym N)]), (12, .pure true P), (13, .pure true B), (14, .pure true V), (15, .pure true Qr), (16, .mix [.p (.vsl (.sym 0) true []), .p (.bool false)]), (0, .fix 0 o), (17, .mix [.ptr 2 (.lit 0), .ptr 9 (.lit 0), .sl 18 3 1 (.lit 0) (.sym nc), .sl 19 3 1 (.lit 0) (.sym ng)]), (18, .pure true CS), (19, .pure true GS), (0, .fix 0 o)], 20⟩ ∧ 0 ≤ i ∧ i ≤ k ∧ kk = (k - i).toNat ∧ HM R ws C [] N W L D Q z ∧ Cont R ws M ∧ Sys M (fun _ _ => []) ∧ M c = some (1, [3, 0, i, 0, b, -1, -1, -1, -1]) ∧ M b = some (2, X) ∧ (∀ F, M g ≠ some (1, F)) ∧ X.length = 3 ∧ ∀ j : Nat, (j : Int) < i → X[j]? = held[j]?) k.toNat _
      (Re.at [(0, 0), (2, 2), (3, 3), (4, 4), (5, 5), (6, 6), (7, 7), (8, 8), (9, 9), (10, 10), (11, 11), (12, 12), (13, 13), (14, 14), (15, 15), (16, 16), (17, 17), (18, 18), (19, 19)] []) ⟨0, ws, D, M, [0, 0, 0], rfl, by omega, by omega, by omega, hh, hc, hY, hMc, hMb, hgn, rfl, fun j hj => absurd hj (by omega)⟩ ?_
    clear hh hc hMc hMb hBC hY hgn hMg hk
    rintro kk s ⟨i, ws, D, M, X, rfl, hi0, hi1, hkk, hh, hc, hY, hMc, hMb, hgn, hX, hXh⟩
    conv => cbv
    refine Br.mk (fun gi => ?_) (fun gi => ?_)
    · have gi : i < k := gi
      obtain ⟨hx, hhx⟩ : ∃ a, held[i.toNat]? = some a := ⟨_, List.getElem?_eq_getElem (by omega)⟩
      have hcell : HL[i.toNat]? = some (.int .i64 (.sym hx)) := by rw [hHL]; exact ipv_get hhx
      have hhxb := hhb hx (List.mem_of_getElem? hhx)
      conv => cbv
      refine drawn_sound tok (by kernel_rfl) [(5, [11, 10, 9, 8, 3, 2, 1, 0]), (12, [])] [0, 1, 2, 3, 4, 8, 9, 10, 11, 5, 6, 7, 12, 13, 14, 15, 16, 17] (by kernel_rfl) ?_; conv => cbv
      refine Need.mk (show 0 ≤ i ∧ i < mh by omega) ?_
      conv => cbv
      refine Cell.at i _ hcell (by simp [I.val]) rfl ?_
      conv => cbv
      refine CallF.le (args0 := [.ptr 17 (.lit 0), .p (.int .i64 (.sym 0))]) (callF_frame (ch16_lx R ws vs C N W 0 0 0 L D Q z false P B V Qr [] 0 M nc ng CS GS o 0 chs hcs hnc (by omega) (by omega)) [(0, 2), (1, 3), (2, 4), (3, 5), (4, 6), (5, 7), (6, 8), (7, 9), (8, 10), (9, 11), (10, 12), (11, 13), (12, 14), (13, 15), (14, 16), (15, 0), (16, 17), (17, 18), (18, 19)] rfl (by simp [hmapOk, nget, hget, renB, okB, renV, renVs, rn, okVs, okV]) rfl rfl (fun r h' n' hrr => ?_)) (by simp [ales, ale, pvle, I.val])
      obtain ⟨⟨x1, e1, hx1⟩, e2, e3⟩ := hrr
      subst e1 e2 e3
      conv => cbv
      obtain rfl : c = x1 := (ix0 hx1 hc0).symm
      refine Fit.mk (by show (-9223372036854775808 : Int) ≤ 2 * c; omega) (by show 2 * c ≤ 9223372036854775807; omega) fun a1 ha1 => ?_
      have ha1 : a1 = 2 * c := ha1
      conv => cbv
      refine Fit.mk (by show (-9223372036854775808 : Int) ≤ a1 + 1; omega) (by show a1 + 1 ≤ 9223372036854775807; omega) fun w1 hw1 => ?_
      have hw1 : w1 = a1 + 1 := hw1
      conv => cbv
      have hat1 : atW w1 = c := by rw [show w1 = 2 * c + 1 by omega]; exact hcw
      refine CallF.le (args0 := [.ptr 2 (.lit 0), .p (.int .i64 (.sym w1)), .p (.int .i64 (.sym hx))]) (callF_frame (sendHeld_lx R ws C [] N W 0 0 0 L D Q z false hh M hc (fun _ _ => []) hY o ho rfl w1 hx (by omega) hhxb (by omega) c 3 0 i 0 b (-1) (-1) (-1) (-1) hat1 hMc rfl rfl hi0 (by decide) X hMb (by omega) (by omega)) [(0, 2), (1, 3), (2, 4), (3, 5), (4, 6), (5, 7), (6, 8), (7, 0)] rfl (by simp [hmapOk, nget, hget, renB, okB, renV, renVs, rn, okVs, okV]) rfl rfl (fun r h' n' hrr => ?_)) (by simp [ales, ale, pvle, I.val])
      obtain ⟨ws1, D1, e1, e2, e3, hh1, hc1⟩ := hrr
      subst e1 e2 e3
      conv => cbv
      have hix : (((0 : Int) % 3 + i) % 3).toNat = i.toNat := by omega
      rw [hix] at hc1
      have hcb : c ≠ b := fun q => by rw [q, hMb] at hMc; cases hMc
      have hgc : g ≠ c := fun q => by rw [q] at hgn; exact hgn _ hMc
      have hY1 := sysRing (X' := X.set i.toNat hx) hY hMc hMb (i + 1) 0
      refine Br.no (show ¬ (¬ ((1 : Int) = 1)) from fun q => q rfl) ?_
      conv => cbv
      refine Fit.mk (by show (-9223372036854775808 : Int) ≤ i + 1; omega) (by show i + 1 ≤ 9223372036854775807; omega) fun i2 hi2 => ?_
      have hi2 : i2 = i + 1 := hi2
      conv => cbv
      refine Again.mk (k - i2).toNat _ (by omega) (Re.at [(0, 0), (2, 2), (3, 3), (4, 4), (5, 5), (6, 6), (7, 7), (8, 8), (9, 9), (10, 10), (11, 11), (12, 12), (13, 13), (14, 14), (15, 15), (16, 16), (17, 17), (18, 18), (19, 19)] []) ⟨i2, ws1, D1, _, X.set i.toNat hx, rfl, by omega, by omega, rfl, hh1, hc1, hY1, by rw [upd_same, hi2], by rw [upd_ne hcb.symm, upd_same], fun F q => by
          rw [upd_ne hgc] at q
          by_cases e : g = b
          · rw [e, upd_same] at q; cases q
          · rw [upd_ne e] at q; exact hgn F q, by rw [List.length_set]; exact hX, fun j hj => by
          by_cases e : j = i.toNat
          · subst e; rw [List.getElem?_set_self (by omega), hhx]
          · rw [List.getElem?_set_ne (fun q => e q.symm)]; exact hXh j (by have hj : (j : Int) < i2 := hj; show (j : Int) < i; omega)⟩
    · have gi : ¬ i < k := gi
      obtain rfl : i = k := by omega
      conv => cbv
      refine read_sound tok (by kernel_rfl) [0, 2, 3, 4, 5, 6, 7, 8, 9, 10, 11, 12, 13, 14, 15, 16, 17, 18, 19] [5, 6] [(10, [9, 8, 7, 6, 5, 4, 3, 2, 1, 0]), (11, [9])] [0, 1, 2, 3, 4, 5, 6, 7, 8, 9, 10, 11, 12] (by kernel_rfl) ?_
      conv => cbv
      refine ReadF.mk (.p (.int .i64 (.sym c))) (fun h' n' hbR hnR => CallF.le (args0 := [.ptr 17 (.lit 0), .p (.int .i64 (.sym 0))]) (callF_read ((ch16_lx R ws vs C N W 0 0 0 L D Q z false P B V Qr [] 0 M nc ng CS GS o 0 chs hcs hnc (by omega) (by omega)).mono (fun r h n ⟨⟨x, e1, hx⟩, e2, e3⟩ => ⟨by rw [e1, ix0 hx hc0], e2, e3⟩)) [(0, 2), (1, 3), (2, 4), (3, 5), (4, 6), (5, 7), (6, 8), (7, 9), (8, 10), (9, 11), (10, 12), (11, 13), (12, 14), (13, 15), (14, 16), (15, 0), (16, 17), (17, 18), (18, 19)] (by simp [fok, nget, nback]; omega) (by simp [hmapOk, nget, hbR, hget, renB, okB, renV, renVs, rn, okVs, okV]) rfl rfl rfl rfl) (by simp [ales, ale, pvle, I.val])) ?_
      conv => cbv
      refine ReadF.mk (.tup [.agg [.p (.int .i64 (.sym 3)), .p (.int .i64 (.sym 0)), .p (.int .i64 (.sym i)), .p (.int .i64 (.sym 0)), .p (.int .i64 (.sym b)), .p (.int .i64 (.sym (-1))), .p (.int .i64 (.sym (-1))), .p (.int .i64 (.sym (-1))), .p (.int .i64 (.sym (-1)))], .p (.int .i64 (.sym 0))]) (fun h' n' hbR hnR => CallF.le (args0 := [.ptr 2 (.lit 0), .p (.int .i64 (.sym c))]) (callF_read ((chanM_lx R ws C [] N W 0 0 0 L D Q z false hh M hc c 3 0 i 0 b (-1) (-1) (-1) (-1) hMc).mono (fun r h n ⟨⟨e, e1, he⟩, e2, e3⟩ => ⟨by rw [e1, he], e2, e3⟩)) [(0, 2), (1, 3), (2, 4), (3, 5), (4, 6), (5, 7), (6, 8)] (by simp [fok, nget, nback]; omega) (by simp [hmapOk, nget, hbR, hget, renB, okB, renV, renVs, rn, okVs, okV]) rfl rfl rfl rfl) (by simp [ales, ale, pvle, I.val])) ?_
      conv => cbv
      refine drawn_sound tok (by kernel_rfl) [(5, [6, 3, 2, 1, 0]), (7, [])] [0, 1, 2, 3, 4, 6, 5, 7] (by kernel_rfl) ?_; conv => cbv
      refine CallF.le (args0 := [.ptr 17 (.lit 0), .p (.int .i64 (.sym 0))]) (callF_frame (ch16_lx R ws vs C N W 0 0 0 L D Q z false P B V Qr [] 0 M nc ng CS GS o 0 chs hcs hnc (by omega) (by omega)) [(0, 2), (1, 3), (2, 4), (3, 5), (4, 6), (5, 7), (6, 8), (7, 9), (8, 10), (9, 11), (10, 12), (11, 13), (12, 14), (13, 15), (14, 16), (15, 0), (16, 17), (17, 18), (18, 19)] rfl (by simp [hmapOk, nget, hget, renB, okB, renV, renVs, rn, okVs, okV]) rfl rfl (fun r h' n' hrr => ?_)) (by simp [ales, ale, pvle, I.val])
      obtain ⟨⟨x3, e1, hx3⟩, e2, e3⟩ := hrr
      subst e1 e2 e3
      conv => cbv
      obtain rfl : c = x3 := (ix0 hx3 hc0).symm
      obtain ⟨hp, hb⟩ := hc.chan hh.a hMc
      have hb' : ∀ q ∈ [3, 1, i, 0, b, -1, -1, -1, -1], b62 q := by
        simp only [List.forall_mem_cons] at hb ⊢
        obtain ⟨b0, b1, b2, b3, b4, b5, b6, b7, b8, _⟩ := hb
        exact ⟨b0, by unfold b62; omega, b2, b3, b4, b5, b6, b7, b8, fun q hq => by cases hq⟩
      refine CallF.le (args0 := [.ptr 2 (.lit 0), .p (.int .i64 (.sym c)), .agg [.p (.int .i64 (.sym 3)), .p (.int .i64 (.sym 1)), .p (.int .i64 (.sym i)), .p (.int .i64 (.sym 0)), .p (.int .i64 (.sym b)), .p (.int .i64 (.sym (-1))), .p (.int .i64 (.sym (-1))), .p (.int .i64 (.sym (-1))), .p (.int .i64 (.sym (-1)))]]) (callF_frame (putChanM_lx R ws C [] N W 0 0 0 L D Q z false hh M hc o ho rfl c 3 1 i 0 b (-1) (-1) (-1) (-1) [3, 0, i, 0, b, -1, -1, -1, -1] hMc rfl hb' hp) [(0, 2), (1, 3), (2, 4), (3, 5), (4, 6), (5, 7), (6, 8), (7, 0)] rfl (by simp [hmapOk, nget, hget, renB, okB, renV, renVs, rn, okVs, okV]) rfl rfl (fun r h' n' hrr => ?_)) (by simp [ales, ale, pvle, I.val])
      obtain ⟨e8, ws1, D1, e1, he8, e2, e3, hh1, hc1⟩ := hrr
      subst e1 e2 e3
      conv => cbv
      have hY1 := sysChan hY hMc 1 i 0
      have hcb : c ≠ b := fun q => by rw [q, hMb] at hMc; cases hMc
      have hgc : g ≠ c := fun q => by rw [q] at hgn; exact hgn _ hMc
      obtain ⟨M1, hM1⟩ : ∃ M1, M1 = upd M c (1, [3, 1, i, 0, b, -1, -1, -1, -1]) := ⟨_, rfl⟩
      rw [← hM1] at hc1 hY1
      have hMc1 : M1 c = some (1, [3, 1, i, 0, b, -1, -1, -1, -1]) := by rw [hM1]; exact upd_same _ _ _
      have hMb1 : M1 b = some (2, X) := by rw [hM1, upd_ne hcb.symm]; exact hMb
      have hgn1 : ∀ F, M1 g ≠ some (1, F) := fun F q => by rw [hM1, upd_ne hgc] at q; exact hgn F q
      refine LoopF.mk (fun kk s => ∃ (j cnt st : Int) (ws : List Int) (D : List PV) (M : Hp) (X : List Int), s = ⟨.p (.vsl (.sym mh) true HL) :: .p (.int .i64 (.sym n)) :: .p (.int .i64 (.sym w)) :: (undefs 4 ++ .ptr 17 (.lit 0) :: .p (.int .i64 (.sym i)) :: (undefs 5 ++ .p (.int .i64 (.sym j)) :: undefs 173)), [(2, .mix [.ptr 3 (.lit 0), .ptr 7 (.lit 0), .sl 8 3 1 (.lit 0) (.sym W), .p (.int .i64 (.sym 0)), .p (.int .i64 (.sym 0)), .p (.int .i64 (.sym 0))]), (3, .mix [.ptr 4 (.lit 0), .sl 6 3 1 (.lit 0) (.sym W)]), (4, .mix [.sl 5 201 2 (.lit 0) (.sym N)]), (5, .pure true L), (6, .pure true D), (7, .pure false [.str fun _ => z, .bool false]), (8, .pure true Q), (9, .mix [.ptr 10 (.lit 0), .sl 15 3 1 (.lit 0) (.sym W), .ptr 16 (.lit 0), .p (.int .i64 (.sym 0)), .p (.int .i64 (.sym 0)), .p (.int .i64 (.sym 0))]), (10, .mix [.ptr 11 (.lit 0), .sl 14 3 1 (.lit 0) (.sym W)]), (11, .mix [.sl 12 3 1 (.lit 0) (.sym N), .sl 13 189 8 (.lit 0) (.sym N)]), (12, .pure true P), (13, .pure true B), (14, .pure true V), (15, .pure true Qr), (16, .mix [.p (.vsl (.sym 0) true []), .p (.bool false)]), (0, .fix 0 o), (17, .mix [.ptr 2 (.lit 0), .ptr 9 (.lit 0), .sl 18 3 1 (.lit 0) (.sym nc), .sl 19 3 1 (.lit 0) (.sym ng)]), (18, .pure true CS), (19, .pure true GS), (0, .fix 0 o)], 20⟩ ∧ 0 ≤ j ∧ kk = (i + 4 - j).toNat ∧ HM R ws C [] N W L D Q z ∧ Cont R ws M ∧ Sys M (fun _ _ => []) ∧ M c = some (1, [3, 1, cnt, st, b, -1, -1, -1, -1]) ∧ M b = some (2, X) ∧ (∀ F, M g ≠ some (1, F)) ∧ X.length = 3 ∧ 0 ≤ st ∧ (j < i → cnt = i - j ∧ st = j) ∧ (¬ j < i → cnt = 0) ∧ ∀ q : Nat, j ≤ q → (q : Int) < i → X[q]? = held[q]?) (i + 4).toNat _
        (Re.at [(0, 0), (2, 2), (3, 3), (4, 4), (5, 5), (6, 6), (7, 7), (8, 8), (9, 9), (10, 10), (11, 11), (12, 12), (13, 13), (14, 14), (15, 15), (16, 16), (17, 17), (18, 18), (19, 19)] []) ⟨0, i, 0, ws1, D1, M1, X, rfl, by omega, by omega, hh1, hc1, hY1, hMc1, hMb1, hgn1, hX, by omega, fun _ => ⟨by omega, rfl⟩, fun h => by omega, fun q _ hq => hXh q hq⟩ ?_
      clear hh1 hc1 hY1 hMc1 hMb1 hgn1 hX hXh hh hc hY hMc hMb hgn hb' hp hb hM1 hcb hgc hkk gi he8
      rintro kk s ⟨j, cnt, st, ws, D, M, X, rfl, hj0, hkk, hh, hc, hY, hMc, hMb, hgn, hX, hst0, hlt, hge, hXh⟩
      have hkk : kk = (i + 4 - j).toNat := hkk
      conv => cbv
      refine Fit.wrap fun xn hxn => ?_
      have hxn : xn = IntKind.u64.wrap n := hxn
      have hyn : 0 ≤ xn := by rw [hxn]; simp [IntKind.wrap, IntKind.bits, IntKind.signed]; omega
      clear hxn
      conv => cbv
      refine Sum.mk fun tn htn => ?_
      have htn : tn = xn % 4 := (show tn = xn.tmod 4 from htn).trans (Int.tmod_eq_emod_of_nonneg hyn)
      conv => cbv
      refine Fit.mk (by show (-9223372036854775808 : Int) ≤ tn; omega) (by show tn ≤ 9223372036854775807; omega) fun u4 hu4 => ?_
      have hu4 : u4 = tn := hu4
      have hu40 : 0 ≤ u4 := by omega
      have hu41 : u4 < 4 := by omega
      clear hu4 htn hyn
      conv => cbv
      refine Fit.mk (by show (-9223372036854775808 : Int) ≤ i + u4; omega) (by show i + u4 ≤ 9223372036854775807; omega) fun bd hbd => ?_
      have hbd : bd = i + u4 := hbd
      conv => cbv
      have hcb : c ≠ b := fun q => by rw [q, hMb] at hMc; cases hMc
      have hgc : g ≠ c := fun q => by rw [q] at hgn; exact hgn _ hMc
      refine Br.mk (fun gj => ?_) (fun gj => ?_)
      · have gj : j < bd := gj
        conv => cbv
        refine drawn_sound tok (by kernel_rfl) [(5, [3, 2, 1, 0]), (8, [])] [0, 1, 2, 3, 4, 5, 6, 7, 8, 9, 10, 11, 12, 13, 14, 15] (by kernel_rfl) ?_; conv => cbv
        refine CallF.le (args0 := [.ptr 17 (.lit 0), .p (.int .i64 (.sym 0))]) (callF_frame (ch16_lx R ws vs C N W 0 0 0 L D Q z false P B V Qr [] 0 M nc ng CS GS o 0 chs hcs hnc (by omega) (by omega)) [(0, 2), (1, 3), (2, 4), (3, 5), (4, 6), (5, 7), (6, 8), (7, 9), (8, 10), (9, 11), (10, 12), (11, 13), (12, 14), (13, 15), (14, 16), (15, 0), (16, 17), (17, 18), (18, 19)] rfl (by simp [hmapOk, nget, hget, renB, okB, renV, renVs, rn, okVs, okV]) rfl rfl (fun r h' n' hrr => ?_)) (by simp [ales, ale, pvle, I.val])
        obtain ⟨⟨x5, e1, hx5⟩, e2, e3⟩ := hrr
        subst e1 e2 e3
        conv => cbv
        obtain rfl : c = x5 := (ix0 hx5 hc0).symm
        refine Fit.mk (by show (-9223372036854775808 : Int) ≤ 2 * c; omega) (by show 2 * c ≤ 9223372036854775807; omega) fun a5 ha5 => ?_
        have ha5 : a5 = 2 * c := ha5
        conv => cbv
        refine Fit.mk (by show (-9223372036854775808 : Int) ≤ a5 + 1; omega) (by show a5 + 1 ≤ 9223372036854775807; omega) fun w5 hw5 => ?_
        have hw5 : w5 = a5 + 1 := hw5
        conv => cbv
        have hat5 : atW w5 = c := by rw [show w5 = 2 * c + 1 by omega]; exact hcw
        by_cases gji : j < i
        · obtain ⟨hx, hhx⟩ : ∃ a, held[j.toNat]? = some a := ⟨_, List.getElem?_eq_getElem (by omega)⟩
          have hcell : HL[j.toNat]? = some (.int .i64 (.sym hx)) := by rw [hHL]; exact ipv_get hhx
          obtain ⟨hcn, hsj⟩ := hlt gji
          refine CallF.le (args0 := [.ptr 2 (.lit 0), .p (.int .i64 (.sym w5))]) (callF_frame (takeGot_lx R ws C [] N W 0 0 0 L D Q z false hh M hc (fun _ _ => []) hY o ho rfl w5 (by omega) (by omega) c 3 1 cnt st b (-1) (-1) (-1) (-1) hat5 hMc rfl hst0 X hMb (by omega) (by omega)) [(0, 2), (1, 3), (2, 4), (3, 5), (4, 6), (5, 7), (6, 8), (7, 0)] rfl (by simp [hmapOk, nget, hget, renB, okB, renV, renVs, rn, okVs, okV]) rfl rfl (fun r h' n' hrr => ?_)) (by simp [ales, ale, pvle, I.val])
          obtain ⟨v5, ws2, D2, e1, e2, e3, hh2, hv5, hc2⟩ := hrr
          subst e1 e2 e3
          conv => cbv
          have hv6 : v5 = hx := by
            rw [show (st % 3).toNat = j.toNat by omega, hXh j.toNat (by omega) (by omega), hhx] at hv5
            exact (Option.some.inj hv5).symm
          have hY2 := sysRing (X' := X.set (st % 3).toNat 0) hY hMc hMb (cnt - 1) ((st % 3 + 1) % 3)
          obtain ⟨M2, hM2⟩ : ∃ M2, M2 = upd (upd M b (2, X.set (st % 3).toNat 0)) c (1, [3, 1, cnt - 1, (st % 3 + 1) % 3, b, -1, -1, -1, -1]) := ⟨_, rfl⟩
          rw [← hM2] at hc2 hY2
          have hMc2 : M2 c = some (1, [3, 1, cnt - 1, (st % 3 + 1) % 3, b, -1, -1, -1, -1]) := by rw [hM2]; exact upd_same _ _ _
          have hMb2 : M2 b = some (2, X.set (st % 3).toNat 0) := by rw [hM2, upd_ne hcb.symm]; exact upd_same _ _ _
          have hgn2 : ∀ F, M2 g ≠ some (1, F) := fun F q => by
            rw [hM2, upd_ne hgc] at q
            by_cases e : g = b
            · rw [e, upd_same] at q; cases q
            · rw [upd_ne e] at q; exact hgn F q
          refine Br.yes (show j < i from gji) ?_
          conv => cbv
          refine Need.mk (show 0 ≤ j ∧ j < mh by omega) ?_
          conv => cbv
          refine Cell.at j _ hcell (by simp [I.val]) rfl ?_
          conv => cbv
          refine drawn_sound tok (by kernel_rfl) [(17, [15, 14, 13, 12]), (20, [])] [0, 1, 2, 3, 4, 5, 6, 7, 8, 9, 10, 11, 12, 13, 14, 15, 16, 17, 18, 19, 20, 21, 22] (by kernel_rfl) ?_; conv => cbv
          refine Br.no (show ¬ (¬ (v5 = hx)) from fun q => q hv6) ?_
          conv => cbv
          refine Br.no (show ¬ (¬ ((-1 : Int) = -1)) from fun q => q rfl) ?_
          conv => cbv
          refine Br.no (show ¬ (¬ ((1 : Int) = 1)) from fun q => q rfl) ?_
          conv => cbv
          refine CallF.le (args0 := [.ptr 17 (.lit 0), .p (.int .i64 (.sym 0))]) (callF_frame (ch16_lx R ws2 vs C N W 0 0 0 L D2 Q z false P B V Qr [] 0 M2 nc ng CS GS o 0 chs hcs hnc (by omega) (by omega)) [(0, 2), (1, 3), (2, 4), (3, 5), (4, 6), (5, 7), (6, 8), (7, 9), (8, 10), (9, 11), (10, 12), (11, 13), (12, 14), (13, 15), (14, 16), (15, 0), (16, 17), (17, 18), (18, 19)] rfl (by simp [hmapOk, nget, hget, renB, okB, renV, renVs, rn, okVs, okV]) rfl rfl (fun r h' n' hrr => ?_)) (by simp [ales, ale, pvle, I.val])
          obtain ⟨⟨x6, e1, hx6⟩, e2, e3⟩ := hrr
          subst e1 e2 e3
          conv => cbv
          obtain rfl : c = x6 := (ix0 hx6 hc0).symm
          refine Fit.mk (by show (-9223372036854775808 : Int) ≤ 2 * c; omega) (by show 2 * c ≤ 9223372036854775807; omega) fun a6 ha6 => ?_
          have ha6 : a6 = 2 * c := ha6
          conv => cbv
          refine Fit.mk (by show (-9223372036854775808 : Int) ≤ a6 + 1; omega) (by show a6 + 1 ≤ 9223372036854775807; omega) fun w6 hw6 => ?_
          have hw6 : w6 = a6 + 1 := hw6
          conv => cbv
          have hat6 : atW w6 = c := by rw [show w6 = 2 * c + 1 by omega]; exact hcw
          refine CallF.le (args0 := [.ptr 2 (.lit 0), .p (.int .i64 (.sym w6))]) (callF_frame (takeRClosed_lx R ws2 C [] N W 0 0 0 L D2 Q z false hh2 M2 hc2 o w6 (by omega) (by omega) c 3 1 (cnt - 1) ((st % 3 + 1) % 3) b (-1) (-1) (-1) (-1) hat6 hMc2 (by decide)) [(0, 2), (1, 3), (2, 4), (3, 5), (4, 6), (5, 7), (6, 8), (7, 0)] rfl (by simp [hmapOk, nget, hget, renB, okB, renV, renVs, rn, okVs, okV]) rfl rfl (fun r h' n' hrr => ?_)) (by simp [ales, ale, pvle, I.val])
          obtain ⟨e1, e2, e3⟩ := hrr
          subst e1 e2 e3
          conv => cbv
          refine Fit.mk (by show (-9223372036854775808 : Int) ≤ j + 1; omega) (by show j + 1 ≤ 9223372036854775807; omega) fun j2 hj2 => ?_
          have hj2 : j2 = j + 1 := hj2
          conv => cbv
          refine Again.mk (i + 4 - j2).toNat _ (by omega) (Re.at [(0, 0), (2, 2), (3, 3), (4, 4), (5, 5), (6, 6), (7, 7), (8, 8), (9, 9), (10, 10), (11, 11), (12, 12), (13, 13), (14, 14), (15, 15), (16, 16), (17, 17), (18, 18), (19, 19)] []) ⟨j2, cnt - 1, (st % 3 + 1) % 3, ws2, D2, M2, X.set (st % 3).toNat 0, rfl, by omega, rfl, hh2, hc2, hY2, hMc2, hMb2, hgn2, by rw [List.length_set]; exact hX, by omega, fun h => ⟨by have h : j2 < i := h; omega, by have h : j2 < i := h; omega⟩, fun h => by have h : ¬ j2 < i := h; omega, fun q h1 h2 => by
              have h1 : j2 ≤ (q : Int) := h1
              have h2 : (q : Int) < i := h2
              rw [List.getElem?_set_ne (by omega)]; exact hXh q (by show j ≤ (q : Int); omega) h2⟩
        · have hcn : cnt = 0 := hge gji
          refine CallF.le (args0 := [.ptr 2 (.lit 0), .p (.int .i64 (.sym w5))]) (callF_frame (takeOver_lx R ws C [] N W 0 0 0 L D Q z false hh M hc (fun _ _ => []) hY o ho rfl w5 (by omega) (by omega) c 3 1 cnt st b (-1) (-1) (-1) (-1) hat5 hMc rfl (by omega) (by decide)) [(0, 2), (1, 3), (2, 4), (3, 5), (4, 6), (5, 7), (6, 8), (7, 0)] rfl (by simp [hmapOk, nget, hget, renB, okB, renV, renVs, rn, okVs, okV]) rfl rfl (fun r h' n' hrr => ?_)) (by simp [ales, ale, pvle, I.val])
          obtain ⟨⟨v5, e1, hv5⟩, e2, e3⟩ := hrr
          subst e1 e2 e3
          conv => cbv
          refine Br.no (show ¬ (j < i) from gji) ?_
          conv => cbv
          refine drawn_sound tok (by kernel_rfl) [(17, [15, 14, 13, 12]), (20, [])] [0, 1, 2, 3, 4, 5, 6, 7, 8, 9, 10, 11, 12, 13, 14, 15, 16, 17, 18, 19, 20, 21, 22] (by kernel_rfl) ?_; conv => cbv
          refine Br.no (show ¬ (¬ (v5 = 0)) from fun q => q hv5) ?_
          conv => cbv
          refine Br.no (show ¬ (¬ ((-1 : Int) = -1)) from fun q => q rfl) ?_
          conv => cbv
          refine Br.no (show ¬ (¬ ((1 : Int) = 1)) from fun q => q rfl) ?_
          conv => cbv
          refine CallF.le (args0 := [.ptr 17 (.lit 0), .p (.int .i64 (.sym 0))]) (callF_frame (ch16_lx R ws vs C N W 0 0 0 L D Q z false P B V Qr [] 0 M nc ng CS GS o 0 chs hcs hnc (by omega) (by omega)) [(0, 2), (1, 3), (2, 4), (3, 5), (4, 6), (5, 7), (6, 8), (7, 9), (8, 10), (9, 11), (10, 12), (11, 13), (12, 14), (13, 15), (14, 16), (15, 0), (16, 17), (17, 18), (18, 19)] rfl (by simp [hmapOk, nget, hget, renB, okB, renV, renVs, rn, okVs, okV]) rfl rfl (fun r h' n' hrr => ?_)) (by simp [ales, ale, pvle, I.val])
          obtain ⟨⟨x6, e1, hx6⟩, e2, e3⟩ := hrr
          subst e1 e2 e3
          conv => cbv
          obtain rfl : c = x6 := (ix0 hx6 hc0).symm
          refine Fit.mk (by show (-9223372036854775808 : Int) ≤ 2 * c; omega) (by show 2 * c ≤ 9223372036854775807; omega) fun a6 ha6 => ?_
          have ha6 : a6 = 2 * c := ha6
          conv => cbv
          refine Fit.mk (by show (-9223372036854775808 : Int) ≤ a6 + 1; omega) (by show a6 + 1 ≤ 9223372036854775807; omega) fun w6 hw6 => ?_
          have hw6 : w6 = a6 + 1 := hw6
          conv => cbv
          have hat6 : atW w6 = c := by rw [show w6 = 2 * c + 1 by omega]; exact hcw
          refine CallF.le (args0 := [.ptr 2 (.lit 0), .p (.int .i64 (.sym w6))]) (callF_frame (takeRClosed_lx R ws C [] N W 0 0 0 L D Q z false hh M hc o w6 (by omega) (by omega) c 3 1 cnt st b (-1) (-1) (-1) (-1) hat6 hMc (by decide)) [(0, 2), (1, 3), (2, 4), (3, 5), (4, 6), (5, 7), (6, 8), (7, 0)] rfl (by simp [hmapOk, nget, hget, renB, okB, renV, renVs, rn, okVs, okV]) rfl rfl (fun r h' n' hrr => ?_)) (by simp [ales, ale, pvle, I.val])
          obtain ⟨e1, e2, e3⟩ := hrr
          subst e1 e2 e3
          conv => cbv
          refine Fit.mk (by show (-9223372036854775808 : Int) ≤ j + 1; omega) (by show j + 1 ≤ 9223372036854775807; omega) fun j2 hj2 => ?_
          have hj2 : j2 = j + 1 := hj2
          conv => cbv
          refine Again.mk (i + 4 - j2).toNat _ (by omega) (Re.at [(0, 0), (2, 2), (3, 3), (4, 4), (5, 5), (6, 6), (7, 7), (8, 8), (9, 9), (10, 10), (11, 11), (12, 12), (13, 13), (14, 14), (15, 15), (16, 16), (17, 17), (18, 18), (19, 19)] []) ⟨j2, cnt, st, ws, D, M, X, rfl, by omega, rfl, hh, hc, hY, hMc, hMb, hgn, hX, hst0, fun h => by have h : j2 < i := h; omega, fun _ => hcn, fun q h1 h2 => by
              have h1 : j2 ≤ (q : Int) := h1
              have h2 : (q : Int) < i := h2
              omega⟩
      · have gj : ¬ j < bd := gj
        conv => cbv
        refine CallF.le (args0 := [.ptr 2 (.lit 0), .p (.int .i64 (.sym 0))]) (callF_frame (takeZero_lx R ws C [] N W 0 0 0 L D Q z false hh M hc o 0 rfl) [(0, 2), (1, 3), (2, 4), (3, 5), (4, 6), (5, 7), (6, 8), (7, 0)] rfl (by simp [hmapOk, nget, hget, renB, okB, renV, renVs, rn, okVs, okV]) rfl rfl (fun r h' n' hrr => ?_)) (by simp [ales, ale, pvle, I.val])
        obtain ⟨⟨x7, e1, hx7⟩, e2, e3⟩ := hrr
        subst e1 e2 e3
        conv => cbv
        refine drawn_sound tok (by kernel_rfl) [(5, [3, 2, 1, 0]), (8, [])] [0, 1, 2, 3, 4, 5, 6, 7, 8, 9, 10, 11, 12, 13, 14, 15] (by kernel_rfl) ?_; conv => cbv
        refine CallF.le (args0 := [.ptr 17 (.lit 0), .p (.int .i64 (.sym 0))]) (callF_frame (gor16_lx R ws vs C N W 0 0 0 L D Q z false P B V Qr [] 0 M nc ng CS GS o 0 grs hgs hng (by omega) (by omega)) [(0, 2), (1, 3), (2, 4), (3, 5), (4, 6), (5, 7), (6, 8), (7, 9), (8, 10), (9, 11), (10, 12), (11, 13), (12, 14), (13, 15), (14, 16), (15, 0), (16, 17), (17, 18), (18, 19)] rfl (by simp [hmapOk, nget, hget, renB, okB, renV, renVs, rn, okVs, okV]) rfl rfl (fun r h' n' hrr => ?_)) (by simp [ales, ale, pvle, I.val])
        obtain ⟨⟨x8, e1, hx8⟩, e2, e3⟩ := hrr
        subst e1 e2 e3
        conv => cbv
        obtain rfl : g = x8 := (ix0 hx8 hg0).symm
        refine Fit.mk (by show (-9223372036854775808 : Int) ≤ 2 * g; omega) (by show 2 * g ≤ 9223372036854775807; omega) fun a8 ha8 => ?_
        have ha8 : a8 = 2 * g := ha8
        conv => cbv
        refine Fit.mk (by show (-9223372036854775808 : Int) ≤ a8 + 1; omega) (by show a8 + 1 ≤ 9223372036854775807; omega) fun w8 hw8 => ?_
        have hw8 : w8 = a8 + 1 := hw8
        conv => cbv
        refine CallF.le (args0 := [.ptr 2 (.lit 0), .p (.int .i64 (.sym w8))]) (callF_frame (takeStray_lx R ws C [] N W 0 0 0 L D Q z false hh M hc o w8 (by omega) (by omega) (by rw [show w8 = 2 * g + 1 by omega, hgw]; exact hgn)) [(0, 2), (1, 3), (2, 4), (3, 5), (4, 6), (5, 7), (6, 8), (7, 0)] rfl (by simp [hmapOk, nget, hget, renB, okB, renV, renVs, rn, okVs, okV]) rfl rfl (fun r h' n' hrr => ?_)) (by simp [ales, ale, pvle, I.val])
        obtain ⟨e1, e2, e3⟩ := hrr
        subst e1 e2 e3
        conv => cbv
        refine callF_frame (takeNil_lx (.sym w)) [] rfl trivial rfl rfl (fun r h' n' ⟨e1, e2, e3⟩ => ?_)
        subst e1 e2 e3
        conv => cbv
        refine Br.yes (show (0 : Int) = 0 from rfl) ?_
        conv => cbv
        refine Br.yes (show (6 : Int) = 6 from rfl) ?_
        conv => cbv
        refine Br.yes (show (-1 : Int) = -1 from rfl) ?_
        conv => cbv
        refine Br.yes (show (6 : Int) = 6 from rfl) ?_
        conv => cbv
        refine callF_frame (takeRNil_lx (.sym w)) [] rfl trivial rfl rfl (fun r h' n' ⟨e1, e2, e3⟩ => ?_)
        subst e1 e2 e3
        conv => cbv
        refine CallF.le (args0 := [.ptr 2 (.lit 0), .p (.int .i64 (.sym 0))]) (callF_frame (takeRZero_lx R ws C [] N W 0 0 0 L D Q z false hh M hc o 0 rfl) [(0, 2), (1, 3), (2, 4), (3, 5), (4, 6), (5, 7), (6, 8), (7, 0)] rfl (by simp [hmapOk, nget, hget, renB, okB, renV, renVs, rn, okVs, okV]) rfl rfl (fun r h' n' hrr => ?_)) (by simp [ales, ale, pvle, I.val])
        obtain ⟨e1, e2, e3⟩ := hrr
        subst e1 e2 e3
        conv => cbv
        refine RetF.mk [.p (.bool true)] [(0, .fix 0 o)] 1 (Re.at [(0, 0)] []) rfl rfl
end Go.Proofs.YtmcljlflcbdpiaaGreatDoor
