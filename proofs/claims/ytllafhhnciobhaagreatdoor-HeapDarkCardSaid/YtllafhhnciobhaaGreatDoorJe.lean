/-
  Layer 9: one thing done to both heaps, the rule of colours kept.
-/
import Derived.Test.YtllafhhnciobhaaGreatDoorIe

import Derived.Test.YtllafhhnciobhaaGreatDoorDa

namespace Go.Proofs.YtllafhhnciobhaaGreatDoor

open Go Go.LX
set_option maxRecDepth 100000
set_option linter.unusedVariables false
set_option linter.unusedSimpArgs false

set_option maxHeartbeats 8000000 in
theorem playD_lx (R : List Rw) (ws vs C G : List Int) (N W ph sp cy : Int) (L D Q : List PV) (z : ByteArray) (ov : Bool) (P B V Qr la : List PV) (m : Int) (h : HM R ws C G N W L D Q z) (hr : RM R vs C G N W P B V Qr la m) (hS : Sim R ws vs) (o : Unit → Obj) (ho : IsPow o) (kd oo oa oi ow ot : Int) (hoo : -9223372036854775808 ≤ oo ∧ oo ≤ 9223372036854775807) (hoa : -9223372036854775808 ≤ oa ∧ oa ≤ 9223372036854775807) (hoi : -9223372036854775808 ≤ oi ∧ oi ≤ 9223372036854775807) (how : -9223372036854775808 ≤ ow ∧ ow ≤ 9223372036854775807) (hot : -9223372036854775808 ≤ ot ∧ ot ≤ 9223372036854775807) (hsp : 0 ≤ sp ∧ sp ≤ 1000) (hcy : 0 ≤ cy ∧ cy ≤ 1000000) : CallF (fun _ => Tryz.prog) 15 [.ptr 0 (.lit 0), .ptr 7 (.lit 0), .agg [.p (.int .i64 (.sym kd)), .p (.int .i64 (.sym oo)), .p (.int .i64 (.sym oa)), .p (.int .i64 (.sym oi)), .p (.int .i64 (.sym ow)), .p (.int .i64 (.sym ot))]] [(0, .mix [.ptr 1 (.lit 0), .ptr 5 (.lit 0), .sl 6 3 1 (.lit 0) (.sym W), .p (.int .i64 (.sym ph)), .p (.int .i64 (.sym sp)), .p (.int .i64 (.sym cy))]), (1, .mix [.ptr 2 (.lit 0), .sl 4 3 1 (.lit 0) (.sym W)]), (2, .mix [.sl 3 101 2 (.lit 0) (.sym N)]), (3, .pure true L), (4, .pure true D), (5, .pure false [.str fun _ => z, .bool ov]), (6, .pure true Q), (7, .mix [.ptr 8 (.lit 0), .sl 13 3 1 (.lit 0) (.sym W), .ptr 14 (.lit 0), .p (.int .i64 (.sym ph)), .p (.int .i64 (.sym sp)), .p (.int .i64 (.sym cy))]), (8, .mix [.ptr 9 (.lit 0), .sl 12 3 1 (.lit 0) (.sym W)]), (9, .mix [.sl 10 3 1 (.lit 0) (.sym N), .sl 11 120 8 (.lit 0) (.sym N)]), (10, .pure true P), (11, .pure true B), (12, .pure true V), (13, .pure true Qr), (14, .mix [.p (.vsl (.sym m) true la), .p (.bool ov)]), (15, .fix 0 o)] 16 (fun r h n => ∃ (R' : List Rw) (ws' vs' C' G' : List Int) (ph' sp' cy' : Int) (L' D' Q' : List PV) (z' : ByteArray) (ov' : Bool) (P' B' V' Qr' la' : List PV) (m' : Int), r = .p (.bool true) ∧ (h = [(0, .mix [.ptr 1 (.lit 0), .ptr 5 (.lit 0), .sl 6 3 1 (.lit 0) (.sym W), .p (.int .i64 (.sym ph')), .p (.int .i64 (.sym sp')), .p (.int .i64 (.sym cy'))]), (1, .mix [.ptr 2 (.lit 0), .sl 4 3 1 (.lit 0) (.sym W)]), (2, .mix [.sl 3 101 2 (.lit 0) (.sym N)]), (3, .pure true L'), (4, .pure true D'), (5, .pure false [.str fun _ => z', .bool ov']), (6, .pure true Q'), (7, .mix [.ptr 8 (.lit 0), .sl 13 3 1 (.lit 0) (.sym W), .ptr 14 (.lit 0), .p (.int .i64 (.sym ph')), .p (.int .i64 (.sym sp')), .p (.int .i64 (.sym cy'))]), (8, .mix [.ptr 9 (.lit 0), .sl 12 3 1 (.lit 0) (.sym W)]), (9, .mix [.sl 10 3 1 (.lit 0) (.sym N), .sl 11 120 8 (.lit 0) (.sym N)]), (10, .pure true P'), (11, .pure true B'), (12, .pure true V'), (13, .pure true Qr'), (14, .mix [.p (.vsl (.sym m') true la'), .p (.bool ov')]), (15, .fix 0 o)] ∧ n = 16 ∨ h = [(0, .mix [.ptr 1 (.lit 0), .ptr 16 (.lit 0), .sl 6 3 1 (.lit 0) (.sym W), .p (.int .i64 (.sym ph')), .p (.int .i64 (.sym sp')), .p (.int .i64 (.sym cy'))]), (1, .mix [.ptr 2 (.lit 0), .sl 4 3 1 (.lit 0) (.sym W)]), (2, .mix [.sl 3 101 2 (.lit 0) (.sym N)]), (3, .pure true L'), (4, .pure true D'), (16, .pure false [.str fun _ => z', .bool ov']), (6, .pure true Q'), (7, .mix [.ptr 8 (.lit 0), .sl 13 3 1 (.lit 0) (.sym W), .ptr 17 (.lit 0), .p (.int .i64 (.sym ph')), .p (.int .i64 (.sym sp')), .p (.int .i64 (.sym cy'))]), (8, .mix [.ptr 9 (.lit 0), .sl 12 3 1 (.lit 0) (.sym W)]), (9, .mix [.sl 10 3 1 (.lit 0) (.sym N), .sl 11 120 8 (.lit 0) (.sym N)]), (10, .pure true P'), (11, .pure true B'), (12, .pure true V'), (13, .pure true Qr'), (17, .mix [.p (.vsl (.sym m') true la'), .p (.bool ov')]), (15, .fix 0 o)] ∧ n = 18) ∧ HM R' ws' C' G' N W L' D' Q' z' ∧ RM R' vs' C' G' N W P' B' V' Qr' la' m' ∧ Sim R' ws' vs' ∧ 0 ≤ sp' ∧ sp' ≤ sp + 1 ∧ 0 ≤ cy' ∧ cy' ≤ cy + 1 ∧ ((ph = 1 → Dk R ws C) → ph' = 1 → Dk R' ws' C')) := by
  have hWn := h.w; have hNr := h.n; have hRr := h.r
  have hCl : (C.length : Int) = 32 * R.length := by have := h.c; omega
  have hg0 : ∀ x ∈ G, 0 ≤ x := fun x hx => (h.g x hx).1
  refine callF_of_body tok Tryz.func15 (by kernel_rfl) rfl rfl rfl ?_; conv => cbv
  refine Br.mk (fun q1 => ?_) (fun q1 => ?_)
  · have q1 : kd = 1 := q1
    conv => cbv
    refine drawn_sound tok (by kernel_rfl) [(7, [14, 13, 12, 11, 10, 9, 8]), (15, [])] [0, 1, 2, 3, 4, 5, 6, 8, 9, 10, 11, 12, 13, 14, 7, 15, 16, 17] (by kernel_rfl) ?_; conv => cbv
    refine callF_frame (store9_lx R ws C G N W ph sp cy L D Q z ov h o ho oa oi ow how) [(0, 0), (1, 1), (2, 2), (3, 3), (4, 4), (5, 5), (6, 6), (7, 15)] rfl (by simp [hmapOk, nget, hget, renB, okB, renV, renVs, rn, okVs, okV]) rfl rfl (fun r h' n' hrr => ?_)
    obtain ⟨e, ws', C1, G1, ov1, D', Q', z', e1, e2, e3, h2, hT, hC⟩ := hrr
    subst e1 e2 e3
    conv => cbv
    refine callF_frame (rstore9_lx R vs C G N W ph sp cy P B V Qr la m ov hr oa oi ow how) [(0, 7), (1, 8), (2, 9), (3, 10), (4, 11), (5, 12), (6, 13), (7, 14)] rfl (by simp [hmapOk, nget, hget, renB, okB, renV, renVs, rn, okVs, okV]) rfl rfl (fun r h' n' hrr => ?_)
    obtain ⟨e', vs', C2, G2, ov2, V', Qr', la', m', e1, e2, e3, h3, hT2, hC2⟩ := hrr
    subst e1 e2 e3
    conv => cbv
    have hss := hS.store how hT hT2
    have h3e := three_eq hC (hss.1 ▸ hC2)
    obtain ⟨q1, q2, q3⟩ := h3e
    subst q1 q2 q3
    refine Br.yes (show e = e' from hss.1) ?_
    conv => cbv
    refine RetF.mk [.p (.bool true)] [(0, .mix [.ptr 1 (.lit 0), .ptr 5 (.lit 0), .sl 6 3 1 (.lit 0) (.sym W), .p (.int .i64 (.sym ph)), .p (.int .i64 (.sym sp)), .p (.int .i64 (.sym cy))]), (1, .mix [.ptr 2 (.lit 0), .sl 4 3 1 (.lit 0) (.sym W)]), (2, .mix [.sl 3 101 2 (.lit 0) (.sym N)]), (3, .pure true L), (4, .pure true D'), (5, .pure false [.str fun _ => z', .bool ov1]), (6, .pure true Q'), (7, .mix [.ptr 8 (.lit 0), .sl 13 3 1 (.lit 0) (.sym W), .ptr 14 (.lit 0), .p (.int .i64 (.sym ph)), .p (.int .i64 (.sym sp)), .p (.int .i64 (.sym cy))]), (8, .mix [.ptr 9 (.lit 0), .sl 12 3 1 (.lit 0) (.sym W)]), (9, .mix [.sl 10 3 1 (.lit 0) (.sym N), .sl 11 120 8 (.lit 0) (.sym N)]), (10, .pure true P), (11, .pure true B), (12, .pure true V'), (13, .pure true Qr'), (14, .mix [.p (.vsl (.sym m') true la'), .p (.bool ov1)]), (15, .fix 0 o)] 16 (Re.at [(0, 0), (1, 1), (2, 2), (3, 3), (4, 4), (5, 5), (6, 6), (7, 7), (8, 8), (9, 9), (10, 10), (11, 11), (12, 12), (13, 13), (14, 14), (15, 15)] []) rfl ⟨R, ws', vs', C1, G1, ph, sp, cy, L, D', Q', z', ov1, P, B, V', Qr', la', m', rfl, .inl ⟨rfl, rfl⟩, h2, h3, hss.2, hsp.1, by omega, hcy.1, by omega, fun hd hp => by subst hp; exact (hd rfl).store h.a hT hC⟩
  · have q1 : ¬ kd = 1 := q1
    conv => cbv
    refine Br.mk (fun q2 => ?_) (fun q2 => ?_)
    · have q2 : kd = 2 := q2
      conv => cbv
      refine callF_frame (pick_lx R vs C G N W ph sp cy P B V Qr la m ov hr oa hoa) [(0, 7), (1, 8), (2, 9), (3, 10), (4, 11), (5, 12), (6, 13), (7, 14)] rfl (by simp [hmapOk, nget, hget, renB, okB, renV, renVs, rn, okVs, okV]) rfl rfl (fun r h' n' hrr => ?_)
      obtain ⟨pa, e1, e2, e3, hpa1, hpa2⟩ := hrr
      subst e1 e2 e3
      conv => cbv
      refine callF_frame (shade_lx R ws C G N W ph sp cy L D Q z ov h o ho pa) [(0, 0), (1, 1), (2, 2), (3, 3), (4, 4), (5, 5), (6, 6), (7, 15)] rfl (by simp [hmapOk, nget, hget, renB, okB, renV, renVs, rn, okVs, okV]) rfl rfl (fun r h' n' hrr => ?_)
      obtain ⟨C1, G1, ov1, Q', z', e1, e2, e3, h2, hC⟩ := hrr
      subst e1 e2 e3
      conv => cbv
      refine callF_frame (rshade_lx R vs C G N W ph sp cy P B V Qr la m ov hr pa) [(0, 7), (1, 8), (2, 9), (3, 10), (4, 11), (5, 12), (6, 13), (7, 14)] rfl (by simp [hmapOk, nget, hget, renB, okB, renV, renVs, rn, okVs, okV]) rfl rfl (fun r h' n' hrr => ?_)
      obtain ⟨C2, G2, ov2, Qr', la', m', e1, e2, e3, h3, hC2⟩ := hrr
      subst e1 e2 e3
      conv => cbv
      have h3e := three_eq hC hC2
      obtain ⟨q1, q2, q3⟩ := h3e
      subst q1 q2 q3
      refine RetF.mk [.p (.bool true)] [(0, .mix [.ptr 1 (.lit 0), .ptr 5 (.lit 0), .sl 6 3 1 (.lit 0) (.sym W), .p (.int .i64 (.sym ph)), .p (.int .i64 (.sym sp)), .p (.int .i64 (.sym cy))]), (1, .mix [.ptr 2 (.lit 0), .sl 4 3 1 (.lit 0) (.sym W)]), (2, .mix [.sl 3 101 2 (.lit 0) (.sym N)]), (3, .pure true L), (4, .pure true D), (5, .pure false [.str fun _ => z', .bool ov1]), (6, .pure true Q'), (7, .mix [.ptr 8 (.lit 0), .sl 13 3 1 (.lit 0) (.sym W), .ptr 14 (.lit 0), .p (.int .i64 (.sym ph)), .p (.int .i64 (.sym sp)), .p (.int .i64 (.sym cy))]), (8, .mix [.ptr 9 (.lit 0), .sl 12 3 1 (.lit 0) (.sym W)]), (9, .mix [.sl 10 3 1 (.lit 0) (.sym N), .sl 11 120 8 (.lit 0) (.sym N)]), (10, .pure true P), (11, .pure true B), (12, .pure true V), (13, .pure true Qr'), (14, .mix [.p (.vsl (.sym m') true la'), .p (.bool ov1)]), (15, .fix 0 o)] 16 (Re.at [(0, 0), (1, 1), (2, 2), (3, 3), (4, 4), (5, 5), (6, 6), (7, 7), (8, 8), (9, 9), (10, 10), (11, 11), (12, 12), (13, 13), (14, 14), (15, 15)] []) rfl ⟨R, ws, vs, C1, G1, ph, sp, cy, L, D, Q', z', ov1, P, B, V, Qr', la', m', rfl, .inl ⟨rfl, rfl⟩, h2, h3, hS, hsp.1, by omega, hcy.1, by omega, fun hd hp => by subst hp; exact (hd rfl).le (by rw [show C1 = _ from congrArg Prod.fst hC]; exact shade_le R 1 pa (C, G, ov))⟩
    · have q2 : ¬ kd = 2 := q2
      conv => cbv
      refine Br.mk (fun q3 => ?_) (fun q3 => ?_)
      · have q3 : kd = 3 := q3
        conv => cbv
        refine drawn_sound tok (by kernel_rfl) [(3, [9, 8, 6, 5, 4]), (7, [9, 8]), (10, [])] [0, 1, 2, 4, 5, 6, 8, 9, 3, 7, 10, 11] (by kernel_rfl) ?_; conv => cbv
        refine callF_frame (pick_lx R vs C G N W ph sp cy P B V Qr la m ov hr oa hoa) [(0, 7), (1, 8), (2, 9), (3, 10), (4, 11), (5, 12), (6, 13), (7, 14)] rfl (by simp [hmapOk, nget, hget, renB, okB, renV, renVs, rn, okVs, okV]) rfl rfl (fun r h' n' hrr => ?_)
        obtain ⟨pa, e1, e2, e3, hpa1, hpa2⟩ := hrr
        subst e1 e2 e3
        conv => cbv
        refine callF_frame (pick_lx R vs C G N W ph sp cy P B V Qr la m ov hr ot hot) [(0, 7), (1, 8), (2, 9), (3, 10), (4, 11), (5, 12), (6, 13), (7, 14)] rfl (by simp [hmapOk, nget, hget, renB, okB, renV, renVs, rn, okVs, okV]) rfl rfl (fun r h' n' hrr => ?_)
        obtain ⟨pt, e1, e2, e3, hpt1, hpt2⟩ := hrr
        subst e1 e2 e3
        conv => cbv
        by_cases hph : ph = 0
        · subst hph
          refine CallF.re (args0 := [.ptr 0 (.lit 0), .sl 17 3 1 (.lit 0) (.sym 3)]) (h' := [(0, .mix [.ptr 1 (.lit 0), .ptr 5 (.lit 0), .sl 6 3 1 (.lit 0) (.sym W), .p (.int .i64 (.sym 0)), .p (.int .i64 (.sym sp)), .p (.int .i64 (.sym cy))]), (1, .mix [.ptr 2 (.lit 0), .sl 4 3 1 (.lit 0) (.sym W)]), (2, .mix [.sl 3 101 2 (.lit 0) (.sym N)]), (3, .pure true L), (4, .pure true D), (5, .pure false [.str fun _ => z, .bool ov]), (6, .pure true Q), (7, .mix [.ptr 8 (.lit 0), .sl 13 3 1 (.lit 0) (.sym W), .ptr 14 (.lit 0), .p (.int .i64 (.sym 0)), .p (.int .i64 (.sym sp)), .p (.int .i64 (.sym cy))]), (8, .mix [.ptr 9 (.lit 0), .sl 12 3 1 (.lit 0) (.sym W)]), (9, .mix [.sl 10 3 1 (.lit 0) (.sym N), .sl 11 120 8 (.lit 0) (.sym N)]), (10, .pure true P), (11, .pure true B), (12, .pure true V), (13, .pure true Qr), (14, .mix [.p (.vsl (.sym m) true la), .p (.bool ov)]), (15, .fix 0 o), (16, .pure false [.int .i64 (.sym kd), .int .i64 (.sym oo), .int .i64 (.sym oa), .int .i64 (.sym oi), .int .i64 (.sym ow), .int .i64 (.sym ot)]), (17, .pure false [.int .i64 (.sym pa), .int .i64 (.sym pt), .int .i64 (.sym ow)])]) (Re.at [(0, 0), (1, 1), (2, 2), (3, 3), (4, 4), (5, 5), (6, 6), (7, 7), (8, 8), (9, 9), (10, 10), (11, 11), (12, 12), (13, 13), (14, 14), (15, 15), (16, 16), (17, 17)] []) (callF_frame (beginS_lx R ws C G N W 0 sp cy L D Q z ov h o ho [pa, pt, ow] 3 [.int .i64 (.sym pa), .int .i64 (.sym pt), .int .i64 (.sym ow)] rfl rfl (by simp) rfl) [(0, 0), (1, 1), (2, 2), (3, 3), (4, 4), (5, 5), (6, 6), (7, 15), (8, 17)] rfl (by simp [hmapOk, nget, hget, renB, okB, renV, renVs, rn, okVs, okV]) rfl rfl (fun r h' n' hrr => ?_))
          obtain ⟨C', G', ov', Q', z', e1, e2, e3, h2, hb1⟩ := hrr
          subst e1 e2 e3
          conv => cbv
          refine CallF.re (args0 := [.ptr 7 (.lit 0), .sl 17 3 1 (.lit 0) (.sym 3)]) (h' := [(0, .mix [.ptr 1 (.lit 0), .ptr 18 (.lit 0), .sl 6 3 1 (.lit 0) (.sym W), .p (.int .i64 (.sym 1)), .p (.int .i64 (.sym sp)), .p (.int .i64 (.sym cy))]), (1, .mix [.ptr 2 (.lit 0), .sl 4 3 1 (.lit 0) (.sym W)]), (2, .mix [.sl 3 101 2 (.lit 0) (.sym N)]), (3, .pure true L), (4, .pure true D), (18, .pure false [.str fun _ => z', .bool ov']), (6, .pure true Q'), (7, .mix [.ptr 8 (.lit 0), .sl 13 3 1 (.lit 0) (.sym W), .ptr 14 (.lit 0), .p (.int .i64 (.sym 0)), .p (.int .i64 (.sym sp)), .p (.int .i64 (.sym cy))]), (8, .mix [.ptr 9 (.lit 0), .sl 12 3 1 (.lit 0) (.sym W)]), (9, .mix [.sl 10 3 1 (.lit 0) (.sym N), .sl 11 120 8 (.lit 0) (.sym N)]), (10, .pure true P), (11, .pure true B), (12, .pure true V), (13, .pure true Qr), (14, .mix [.p (.vsl (.sym m) true la), .p (.bool ov)]), (15, .fix 0 o), (16, .pure false [.int .i64 (.sym kd), .int .i64 (.sym oo), .int .i64 (.sym oa), .int .i64 (.sym oi), .int .i64 (.sym ow), .int .i64 (.sym ot)]), (17, .pure false [.int .i64 (.sym pa), .int .i64 (.sym pt), .int .i64 (.sym ow)])]) (Re.at [(0, 0), (1, 1), (2, 2), (3, 3), (4, 4), (6, 6), (7, 7), (8, 8), (9, 9), (10, 10), (11, 11), (12, 12), (13, 13), (14, 14), (15, 15), (16, 16), (17, 17), (18, 18)] []) (callF_frame (rbeginS_lx R vs C G N W 0 sp cy P B V Qr la m ov hr [pa, pt, ow] 3 [.int .i64 (.sym pa), .int .i64 (.sym pt), .int .i64 (.sym ow)] rfl rfl (by simp) rfl) [(0, 7), (1, 8), (2, 9), (3, 10), (4, 11), (5, 12), (6, 13), (7, 14), (8, 17)] rfl (by simp [hmapOk, nget, hget, renB, okB, renV, renVs, rn, okVs, okV]) rfl rfl (fun r h' n' hrr => ?_))
          obtain ⟨C2, G2, ov2, Qr', la', m', e1, e2, e3, h3, hb2⟩ := hrr
          subst e1 e2 e3
          conv => cbv
          have h3e := three_eq hb1 hb2
          obtain ⟨q1, q2, q3⟩ := h3e
          subst q1 q2 q3
          refine RetF.mk [.p (.bool true)] [(0, .mix [.ptr 1 (.lit 0), .ptr 16 (.lit 0), .sl 6 3 1 (.lit 0) (.sym W), .p (.int .i64 (.sym 1)), .p (.int .i64 (.sym sp)), .p (.int .i64 (.sym cy))]), (1, .mix [.ptr 2 (.lit 0), .sl 4 3 1 (.lit 0) (.sym W)]), (2, .mix [.sl 3 101 2 (.lit 0) (.sym N)]), (3, .pure true L), (4, .pure true D), (16, .pure false [.str fun _ => z', .bool ov']), (6, .pure true Q'), (7, .mix [.ptr 8 (.lit 0), .sl 13 3 1 (.lit 0) (.sym W), .ptr 17 (.lit 0), .p (.int .i64 (.sym 1)), .p (.int .i64 (.sym sp)), .p (.int .i64 (.sym cy))]), (8, .mix [.ptr 9 (.lit 0), .sl 12 3 1 (.lit 0) (.sym W)]), (9, .mix [.sl 10 3 1 (.lit 0) (.sym N), .sl 11 120 8 (.lit 0) (.sym N)]), (10, .pure true P), (11, .pure true B), (12, .pure true V), (13, .pure true Qr'), (17, .mix [.p (.vsl (.sym m') true la'), .p (.bool ov')]), (15, .fix 0 o)] 18 (Re.at [(0, 0), (1, 1), (2, 2), (3, 3), (4, 4), (6, 6), (7, 7), (8, 8), (9, 9), (10, 10), (11, 11), (12, 12), (13, 13), (15, 15), (18, 16), (19, 17)] []) rfl ⟨R, ws, vs, C', G', 1, sp, cy, L, D, Q', z', ov', P, B, V, Qr', la', m', rfl, .inr ⟨rfl, rfl⟩, h2, h3, hS, hsp.1, by omega, hcy.1, by omega, fun _ _ => Dk.begin hb1⟩
        · refine CallF.re (args0 := [.ptr 0 (.lit 0), .undef]) (h' := [(0, .mix [.ptr 1 (.lit 0), .ptr 5 (.lit 0), .sl 6 3 1 (.lit 0) (.sym W), .p (.int .i64 (.sym ph)), .p (.int .i64 (.sym sp)), .p (.int .i64 (.sym cy))]), (1, .mix [.ptr 2 (.lit 0), .sl 4 3 1 (.lit 0) (.sym W)]), (2, .mix [.sl 3 101 2 (.lit 0) (.sym N)]), (3, .pure true L), (4, .pure true D), (5, .pure false [.str fun _ => z, .bool ov]), (6, .pure true Q), (7, .mix [.ptr 8 (.lit 0), .sl 13 3 1 (.lit 0) (.sym W), .ptr 14 (.lit 0), .p (.int .i64 (.sym ph)), .p (.int .i64 (.sym sp)), .p (.int .i64 (.sym cy))]), (8, .mix [.ptr 9 (.lit 0), .sl 12 3 1 (.lit 0) (.sym W)]), (9, .mix [.sl 10 3 1 (.lit 0) (.sym N), .sl 11 120 8 (.lit 0) (.sym N)]), (10, .pure true P), (11, .pure true B), (12, .pure true V), (13, .pure true Qr), (14, .mix [.p (.vsl (.sym m) true la), .p (.bool ov)]), (15, .fix 0 o), (16, .pure false [.int .i64 (.sym kd), .int .i64 (.sym oo), .int .i64 (.sym oa), .int .i64 (.sym oi), .int .i64 (.sym ow), .int .i64 (.sym ot)]), (17, .pure false [.int .i64 (.sym pa), .int .i64 (.sym pt), .int .i64 (.sym ow)])]) (Re.at [(0, 0), (1, 1), (2, 2), (3, 3), (4, 4), (5, 5), (6, 6), (7, 7), (8, 8), (9, 9), (10, 10), (11, 11), (12, 12), (13, 13), (14, 14), (15, 15), (16, 16), (17, 17)] []) (callF_frame (beginStateU_lx R ws C G N W ph sp cy L D Q z ov h hph) [(0, 0), (1, 1), (2, 2), (3, 3), (4, 4), (5, 5), (6, 6)] rfl (by simp [hmapOk, nget, hget, renB, okB, renV, renVs, rn, okVs, okV]) rfl rfl (fun r h' n' ⟨e1, e2, e3⟩ => ?_))
          subst e1 e2 e3
          conv => cbv
          refine CallF.re (args0 := [.ptr 7 (.lit 0), .undef]) (h' := [(0, .mix [.ptr 1 (.lit 0), .ptr 5 (.lit 0), .sl 6 3 1 (.lit 0) (.sym W), .p (.int .i64 (.sym ph)), .p (.int .i64 (.sym sp)), .p (.int .i64 (.sym cy))]), (1, .mix [.ptr 2 (.lit 0), .sl 4 3 1 (.lit 0) (.sym W)]), (2, .mix [.sl 3 101 2 (.lit 0) (.sym N)]), (3, .pure true L), (4, .pure true D), (5, .pure false [.str fun _ => z, .bool ov]), (6, .pure true Q), (7, .mix [.ptr 8 (.lit 0), .sl 13 3 1 (.lit 0) (.sym W), .ptr 14 (.lit 0), .p (.int .i64 (.sym ph)), .p (.int .i64 (.sym sp)), .p (.int .i64 (.sym cy))]), (8, .mix [.ptr 9 (.lit 0), .sl 12 3 1 (.lit 0) (.sym W)]), (9, .mix [.sl 10 3 1 (.lit 0) (.sym N), .sl 11 120 8 (.lit 0) (.sym N)]), (10, .pure true P), (11, .pure true B), (12, .pure true V), (13, .pure true Qr), (14, .mix [.p (.vsl (.sym m) true la), .p (.bool ov)]), (15, .fix 0 o), (16, .pure false [.int .i64 (.sym kd), .int .i64 (.sym oo), .int .i64 (.sym oa), .int .i64 (.sym oi), .int .i64 (.sym ow), .int .i64 (.sym ot)]), (17, .pure false [.int .i64 (.sym pa), .int .i64 (.sym pt), .int .i64 (.sym ow)])]) (Re.at [(0, 0), (1, 1), (2, 2), (3, 3), (4, 4), (5, 5), (6, 6), (7, 7), (8, 8), (9, 9), (10, 10), (11, 11), (12, 12), (13, 13), (14, 14), (15, 15), (16, 16), (17, 17)] []) (callF_frame (rbeginStateU_lx R vs C G N W ph sp cy P B V Qr la m ov hr hph) [(0, 7), (1, 8), (2, 9), (3, 10), (4, 11), (5, 12), (6, 13), (7, 14)] rfl (by simp [hmapOk, nget, hget, renB, okB, renV, renVs, rn, okVs, okV]) rfl rfl (fun r h' n' ⟨e1, e2, e3⟩ => ?_))
          subst e1 e2 e3
          conv => cbv
          refine RetF.mk [.p (.bool true)] [(0, .mix [.ptr 1 (.lit 0), .ptr 5 (.lit 0), .sl 6 3 1 (.lit 0) (.sym W), .p (.int .i64 (.sym ph)), .p (.int .i64 (.sym sp)), .p (.int .i64 (.sym cy))]), (1, .mix [.ptr 2 (.lit 0), .sl 4 3 1 (.lit 0) (.sym W)]), (2, .mix [.sl 3 101 2 (.lit 0) (.sym N)]), (3, .pure true L), (4, .pure true D), (5, .pure false [.str fun _ => z, .bool ov]), (6, .pure true Q), (7, .mix [.ptr 8 (.lit 0), .sl 13 3 1 (.lit 0) (.sym W), .ptr 14 (.lit 0), .p (.int .i64 (.sym ph)), .p (.int .i64 (.sym sp)), .p (.int .i64 (.sym cy))]), (8, .mix [.ptr 9 (.lit 0), .sl 12 3 1 (.lit 0) (.sym W)]), (9, .mix [.sl 10 3 1 (.lit 0) (.sym N), .sl 11 120 8 (.lit 0) (.sym N)]), (10, .pure true P), (11, .pure true B), (12, .pure true V), (13, .pure true Qr), (14, .mix [.p (.vsl (.sym m) true la), .p (.bool ov)]), (15, .fix 0 o)] 16 (Re.at [(0, 0), (1, 1), (2, 2), (3, 3), (4, 4), (5, 5), (6, 6), (7, 7), (8, 8), (9, 9), (10, 10), (11, 11), (12, 12), (13, 13), (14, 14), (15, 15)] []) rfl ⟨R, ws, vs, C, G, ph, sp, cy, L, D, Q, z, ov, P, B, V, Qr, la, m, rfl, .inl ⟨rfl, rfl⟩, h, hr, hS, hsp.1, by omega, hcy.1, by omega, fun hd hp => hd hp⟩
      · have q3 : ¬ kd = 3 := q3
        conv => cbv
        refine Br.mk (fun q4 => ?_) (fun q4 => ?_)
        · have q4 : kd = 4 := q4
          conv => cbv
          refine callF_frame (step_lx R ws C G N W ph sp cy L D Q z ov h o ho hsp ⟨hcy.1, by omega⟩) [(0, 0), (1, 1), (2, 2), (3, 3), (4, 4), (5, 5), (6, 6), (7, 15)] rfl (by simp [hmapOk, nget, hget, renB, okB, renV, renVs, rn, okVs, okV]) rfl rfl (fun r h' n' hrr => ?_)
          obtain ⟨out, k, ph', sp', cy', R', ws', C', G', ov', cells, L', D', Q', z', e1, e2, e3, h2, hcs, hk, hst⟩ := hrr
          subst e1 e2 e3
          conv => cbv
          refine callF_frame (rstep_lx R vs C G N W ph sp cy P B V Qr la m ov hr hsp ⟨hcy.1, by omega⟩) [(0, 7), (1, 8), (2, 9), (3, 10), (4, 11), (5, 12), (6, 13), (7, 14)] rfl (by simp [hmapOk, nget, hget, renB, okB, renV, renVs, rn, okVs, okV]) rfl rfl (fun r h' n' hrr => ?_)
          obtain ⟨out2, k2, ph2, sp2, cy2, R2, vs', C2, G2, ov2, cells2, P', B', V', Qr', la', m', e1, e2, e3, h3, hcs2, hk2, hst2⟩ := hrr
          subst e1 e2 e3
          conv => cbv
          have hall := step_sim hS hsp.1 hst hst2
          have hwd := stepd_words h.a hst
          have hnm := stepd_nums hsp.1 hcy.1 hst
          obtain ⟨q1, q2, q3, q4, q5, q6, q7, q8, hS2⟩ := hall
          subst q1 q2 q3 q4 q5 q6 q7 q8
          have hkk : k2 = k := hk2.trans hk.symm
          have hcc : cells2 = cells := hcs2.trans hcs.symm
          subst hkk hcc
          refine callF_val (R := fun r => r = .p (.bool true)) (sameGone_lx out k2 cells2 hk hcs hwd.1 hwd.2) (by simp [ales, ale, renVs, renV, pvle, I.val]) rfl (fun r hr => by subst hr; rfl) (fun r hr => ?_)
          subst hr
          conv => cbv
          refine RetF.mk [.p (.bool true)] [(0, .mix [.ptr 1 (.lit 0), .ptr 5 (.lit 0), .sl 6 3 1 (.lit 0) (.sym W), .p (.int .i64 (.sym ph')), .p (.int .i64 (.sym sp')), .p (.int .i64 (.sym cy'))]), (1, .mix [.ptr 2 (.lit 0), .sl 4 3 1 (.lit 0) (.sym W)]), (2, .mix [.sl 3 101 2 (.lit 0) (.sym N)]), (3, .pure true L'), (4, .pure true D'), (5, .pure false [.str fun _ => z', .bool ov']), (6, .pure true Q'), (7, .mix [.ptr 8 (.lit 0), .sl 13 3 1 (.lit 0) (.sym W), .ptr 14 (.lit 0), .p (.int .i64 (.sym ph')), .p (.int .i64 (.sym sp')), .p (.int .i64 (.sym cy'))]), (8, .mix [.ptr 9 (.lit 0), .sl 12 3 1 (.lit 0) (.sym W)]), (9, .mix [.sl 10 3 1 (.lit 0) (.sym N), .sl 11 120 8 (.lit 0) (.sym N)]), (10, .pure true P'), (11, .pure true B'), (12, .pure true V'), (13, .pure true Qr'), (14, .mix [.p (.vsl (.sym m') true la'), .p (.bool ov')]), (15, .fix 0 o)] 16 (Re.at [(0, 0), (1, 1), (2, 2), (3, 3), (4, 4), (5, 5), (6, 6), (7, 7), (8, 8), (9, 9), (10, 10), (11, 11), (12, 12), (13, 13), (14, 14), (15, 15)] []) rfl ⟨R', ws', vs', C', G', ph', sp', cy', L', D', Q', z', ov', P', B', V', Qr', la', m', rfl, .inl ⟨rfl, rfl⟩, h2, h3, hS2, hnm.1, hnm.2.1, hnm.2.2.1, hnm.2.2.2, fun hd hp => Dk.stepd h.a hg0 hCl hd hst hp⟩
        · have q4 : ¬ kd = 4 := q4
          conv => cbv
          refine Br.mk (fun q5 => ?_) (fun q5 => ?_)
          · have q5 : kd = 5 := q5
            conv => cbv
            refine drawn_sound tok (by kernel_rfl) [(3, [6, 5, 4]), (7, []), (8, [])] [0, 1, 2, 4, 5, 6, 3, 7, 8, 9, 10] (by kernel_rfl) ?_; conv => cbv
            refine callF_frame (pick_lx R vs C G N W ph sp cy P B V Qr la m ov hr oa hoa) [(0, 7), (1, 8), (2, 9), (3, 10), (4, 11), (5, 12), (6, 13), (7, 14)] rfl (by simp [hmapOk, nget, hget, renB, okB, renV, renVs, rn, okVs, okV]) rfl rfl (fun r h' n' hrr => ?_)
            obtain ⟨pa, e1, e2, e3, hpa1, hpa2⟩ := hrr
            subst e1 e2 e3
            conv => cbv
            refine callF_frame (pick_lx R vs C G N W ph sp cy P B V Qr la m ov hr ot hot) [(0, 7), (1, 8), (2, 9), (3, 10), (4, 11), (5, 12), (6, 13), (7, 14)] rfl (by simp [hmapOk, nget, hget, renB, okB, renV, renVs, rn, okVs, okV]) rfl rfl (fun r h' n' hrr => ?_)
            obtain ⟨pt, e1, e2, e3, hpt1, hpt2⟩ := hrr
            subst e1 e2 e3
            conv => cbv
            refine callF_frame (rPtr_lx pt ⟨by omega, by omega⟩) [] rfl trivial rfl rfl (fun r h' n' hrr => ?_)
            obtain ⟨v, e1, e2, e3, hv⟩ := hrr
            subst e1 e2 e3
            conv => cbv
            refine Br.no (show ¬ kd = 6 by omega) ?_
            conv => cbv
            refine Fit.wrap fun xa hxa => ?_
            have hxa : xa = IntKind.u64.wrap oi := hxa
            have hxa0 : 0 ≤ xa := by rw [hxa]; simp [IntKind.wrap, IntKind.bits, IntKind.signed]; omega
            clear hxa
            conv => cbv
            refine Sum.mk fun ya hya => ?_
            have hya : ya = xa % 10 := (show ya = xa.tmod 10 from hya).trans (Int.tmod_eq_emod_of_nonneg hxa0)
            conv => cbv
            refine Fit.mk (by show (-9223372036854775808 : Int) ≤ ya; omega) (by show ya ≤ 9223372036854775807; omega) fun ix hix => ?_
            have hix : ix = ya := hix
            have hvb : -9223372036854775808 ≤ v ∧ v ≤ 9223372036854775807 := ⟨by omega, by omega⟩
            conv => cbv
            refine callF_frame (store9_lx R ws C G N W ph sp cy L D Q z ov h o ho pa ix v hvb) [(0, 0), (1, 1), (2, 2), (3, 3), (4, 4), (5, 5), (6, 6), (7, 15)] rfl (by simp [hmapOk, nget, hget, renB, okB, renV, renVs, rn, okVs, okV]) rfl rfl (fun r h' n' hrr => ?_)
            obtain ⟨e, ws', C1, G1, ov1, D', Q', z', e1, e2, e3, h2, hT, hC⟩ := hrr
            subst e1 e2 e3
            conv => cbv
            refine callF_frame (rstore9_lx R vs C G N W ph sp cy P B V Qr la m ov hr pa ix v hvb) [(0, 7), (1, 8), (2, 9), (3, 10), (4, 11), (5, 12), (6, 13), (7, 14)] rfl (by simp [hmapOk, nget, hget, renB, okB, renV, renVs, rn, okVs, okV]) rfl rfl (fun r h' n' hrr => ?_)
            obtain ⟨e', vs', C2, G2, ov2, V', Qr', la', m', e1, e2, e3, h3, hT2, hC2⟩ := hrr
            subst e1 e2 e3
            conv => cbv
            have hss := hS.store hvb hT hT2
            have h3e := three_eq hC (hss.1 ▸ hC2)
            obtain ⟨q1, q2, q3⟩ := h3e
            subst q1 q2 q3
            refine Br.yes (show e = e' from hss.1) ?_
            conv => cbv
            refine RetF.mk [.p (.bool true)] [(0, .mix [.ptr 1 (.lit 0), .ptr 5 (.lit 0), .sl 6 3 1 (.lit 0) (.sym W), .p (.int .i64 (.sym ph)), .p (.int .i64 (.sym sp)), .p (.int .i64 (.sym cy))]), (1, .mix [.ptr 2 (.lit 0), .sl 4 3 1 (.lit 0) (.sym W)]), (2, .mix [.sl 3 101 2 (.lit 0) (.sym N)]), (3, .pure true L), (4, .pure true D'), (5, .pure false [.str fun _ => z', .bool ov1]), (6, .pure true Q'), (7, .mix [.ptr 8 (.lit 0), .sl 13 3 1 (.lit 0) (.sym W), .ptr 14 (.lit 0), .p (.int .i64 (.sym ph)), .p (.int .i64 (.sym sp)), .p (.int .i64 (.sym cy))]), (8, .mix [.ptr 9 (.lit 0), .sl 12 3 1 (.lit 0) (.sym W)]), (9, .mix [.sl 10 3 1 (.lit 0) (.sym N), .sl 11 120 8 (.lit 0) (.sym N)]), (10, .pure true P), (11, .pure true B), (12, .pure true V'), (13, .pure true Qr'), (14, .mix [.p (.vsl (.sym m') true la'), .p (.bool ov1)]), (15, .fix 0 o)] 16 (Re.at [(0, 0), (1, 1), (2, 2), (3, 3), (4, 4), (5, 5), (6, 6), (7, 7), (8, 8), (9, 9), (10, 10), (11, 11), (12, 12), (13, 13), (14, 14), (15, 15)] []) rfl ⟨R, ws', vs', C1, G1, ph, sp, cy, L, D', Q', z', ov1, P, B, V', Qr', la', m', rfl, .inl ⟨rfl, rfl⟩, h2, h3, hss.2, hsp.1, by omega, hcy.1, by omega, fun hd hp => by subst hp; exact (hd rfl).store h.a hT hC⟩
          · have q5 : ¬ kd = 5 := q5
            conv => cbv
            refine Br.mk (fun q6 => ?_) (fun q6 => ?_)
            · have q6 : kd = 6 := q6
              conv => cbv
              refine drawn_sound tok (by kernel_rfl) [(3, [6, 5, 4]), (7, []), (8, [])] [0, 1, 2, 4, 5, 6, 3, 7, 8, 9, 10] (by kernel_rfl) ?_; conv => cbv
              refine callF_frame (pick_lx R vs C G N W ph sp cy P B V Qr la m ov hr oa hoa) [(0, 7), (1, 8), (2, 9), (3, 10), (4, 11), (5, 12), (6, 13), (7, 14)] rfl (by simp [hmapOk, nget, hget, renB, okB, renV, renVs, rn, okVs, okV]) rfl rfl (fun r h' n' hrr => ?_)
              obtain ⟨pa, e1, e2, e3, hpa1, hpa2⟩ := hrr
              subst e1 e2 e3
              conv => cbv
              refine callF_frame (pick_lx R vs C G N W ph sp cy P B V Qr la m ov hr ot hot) [(0, 7), (1, 8), (2, 9), (3, 10), (4, 11), (5, 12), (6, 13), (7, 14)] rfl (by simp [hmapOk, nget, hget, renB, okB, renV, renVs, rn, okVs, okV]) rfl rfl (fun r h' n' hrr => ?_)
              obtain ⟨pt, e1, e2, e3, hpt1, hpt2⟩ := hrr
              subst e1 e2 e3
              conv => cbv
              refine callF_frame (rPtr_lx pt ⟨by omega, by omega⟩) [] rfl trivial rfl rfl (fun r h' n' hrr => ?_)
              obtain ⟨v, e1, e2, e3, hv⟩ := hrr
              subst e1 e2 e3
              conv => cbv
              refine Br.yes (show kd = 6 from q6) ?_
              conv => cbv
              refine Sum.mk fun wm hwm => ?_
              have hwm : wm = ow.tmod 1000 := hwm
              have hw1 : wm < 1000 := by rw [hwm]; exact Int.tmod_lt_of_pos _ (by decide)
              have hw2 : -1000 < wm := by rw [hwm]; exact Int.lt_tmod_of_pos _ (by decide)
              conv => cbv
              refine callF_frame (rInt_lx wm ⟨by omega, by omega⟩) [] rfl trivial rfl rfl (fun r h' n' hrr => ?_)
              obtain ⟨v, e1, e2, e3, hv⟩ := hrr
              subst e1 e2 e3
              conv => cbv
              refine Fit.wrap fun xa hxa => ?_
              have hxa : xa = IntKind.u64.wrap oi := hxa
              have hxa0 : 0 ≤ xa := by rw [hxa]; simp [IntKind.wrap, IntKind.bits, IntKind.signed]; omega
              clear hxa
              conv => cbv
              refine Sum.mk fun ya hya => ?_
              have hya : ya = xa % 10 := (show ya = xa.tmod 10 from hya).trans (Int.tmod_eq_emod_of_nonneg hxa0)
              conv => cbv
              refine Fit.mk (by show (-9223372036854775808 : Int) ≤ ya; omega) (by show ya ≤ 9223372036854775807; omega) fun ix hix => ?_
              have hix : ix = ya := hix
              have hvb : -9223372036854775808 ≤ v ∧ v ≤ 9223372036854775807 := ⟨by omega, by omega⟩
              conv => cbv
              refine callF_frame (store9_lx R ws C G N W ph sp cy L D Q z ov h o ho pa ix v hvb) [(0, 0), (1, 1), (2, 2), (3, 3), (4, 4), (5, 5), (6, 6), (7, 15)] rfl (by simp [hmapOk, nget, hget, renB, okB, renV, renVs, rn, okVs, okV]) rfl rfl (fun r h' n' hrr => ?_)
              obtain ⟨e, ws', C1, G1, ov1, D', Q', z', e1, e2, e3, h2, hT, hC⟩ := hrr
              subst e1 e2 e3
              conv => cbv
              refine callF_frame (rstore9_lx R vs C G N W ph sp cy P B V Qr la m ov hr pa ix v hvb) [(0, 7), (1, 8), (2, 9), (3, 10), (4, 11), (5, 12), (6, 13), (7, 14)] rfl (by simp [hmapOk, nget, hget, renB, okB, renV, renVs, rn, okVs, okV]) rfl rfl (fun r h' n' hrr => ?_)
              obtain ⟨e', vs', C2, G2, ov2, V', Qr', la', m', e1, e2, e3, h3, hT2, hC2⟩ := hrr
              subst e1 e2 e3
              conv => cbv
              have hss := hS.store hvb hT hT2
              have h3e := three_eq hC (hss.1 ▸ hC2)
              obtain ⟨q1, q2, q3⟩ := h3e
              subst q1 q2 q3
              refine Br.yes (show e = e' from hss.1) ?_
              conv => cbv
              refine RetF.mk [.p (.bool true)] [(0, .mix [.ptr 1 (.lit 0), .ptr 5 (.lit 0), .sl 6 3 1 (.lit 0) (.sym W), .p (.int .i64 (.sym ph)), .p (.int .i64 (.sym sp)), .p (.int .i64 (.sym cy))]), (1, .mix [.ptr 2 (.lit 0), .sl 4 3 1 (.lit 0) (.sym W)]), (2, .mix [.sl 3 101 2 (.lit 0) (.sym N)]), (3, .pure true L), (4, .pure true D'), (5, .pure false [.str fun _ => z', .bool ov1]), (6, .pure true Q'), (7, .mix [.ptr 8 (.lit 0), .sl 13 3 1 (.lit 0) (.sym W), .ptr 14 (.lit 0), .p (.int .i64 (.sym ph)), .p (.int .i64 (.sym sp)), .p (.int .i64 (.sym cy))]), (8, .mix [.ptr 9 (.lit 0), .sl 12 3 1 (.lit 0) (.sym W)]), (9, .mix [.sl 10 3 1 (.lit 0) (.sym N), .sl 11 120 8 (.lit 0) (.sym N)]), (10, .pure true P), (11, .pure true B), (12, .pure true V'), (13, .pure true Qr'), (14, .mix [.p (.vsl (.sym m') true la'), .p (.bool ov1)]), (15, .fix 0 o)] 16 (Re.at [(0, 0), (1, 1), (2, 2), (3, 3), (4, 4), (5, 5), (6, 6), (7, 7), (8, 8), (9, 9), (10, 10), (11, 11), (12, 12), (13, 13), (14, 14), (15, 15)] []) rfl ⟨R, ws', vs', C1, G1, ph, sp, cy, L, D', Q', z', ov1, P, B, V', Qr', la', m', rfl, .inl ⟨rfl, rfl⟩, h2, h3, hss.2, hsp.1, by omega, hcy.1, by omega, fun hd hp => by subst hp; exact (hd rfl).store h.a hT hC⟩
            · have q6 : ¬ kd = 6 := q6
              conv => cbv
              refine Fit.wrap fun xa hxa => ?_
              have hxa : xa = IntKind.u64.wrap oo := hxa
              have hxa0 : 0 ≤ xa := by rw [hxa]; simp [IntKind.wrap, IntKind.bits, IntKind.signed]; omega
              clear hxa
              conv => cbv
              refine Sum.mk fun ya hya => ?_
              have hya : ya = xa % 6 := (show ya = xa.tmod 6 from hya).trans (Int.tmod_eq_emod_of_nonneg hxa0)
              conv => cbv
              refine Fit.mk (by show (-9223372036854775808 : Int) ≤ ya; omega) (by show ya ≤ 9223372036854775807; omega) fun za hza => ?_
              have hza : za = ya := hza
              conv => cbv
              refine Fit.mk (by show (-9223372036854775808 : Int) ≤ 1 + za; omega) (by show 1 + za ≤ 9223372036854775807; omega) fun kk hkk => ?_
              have hkk : kk = 1 + za := hkk
              conv => cbv
              refine callF_frame (sizes_lx kk (by omega) (by omega)) [] rfl trivial rfl rfl (fun r h' n' hrr => ?_)
              obtain ⟨s1, e1, e2, e3, hs1⟩ := hrr
              subst e1 e2 e3
              conv => cbv
              refine callF_frame (alloc9_lx R ws C G N W ph sp cy L D Q z ov h kk s1) [(0, 0), (1, 1), (2, 2), (3, 3), (4, 4), (5, 5), (6, 6)] rfl (by simp [hmapOk, nget, hget, renB, okB, renV, renVs, rn, okVs, okV]) rfl rfl (fun r h' n' hrr => ?_)
              obtain ⟨a, e, R', ws', C', L', D', Q', e1, e2, e3, h2, hT, hC⟩ := hrr
              subst e1 e2 e3
              conv => cbv
              refine callF_frame (sizes_lx kk (by omega) (by omega)) [] rfl trivial rfl rfl (fun r h' n' hrr => ?_)
              obtain ⟨s2, e1, e2, e3, hs2⟩ := hrr
              subst e1 e2 e3
              conv => cbv
              refine callF_frame (ralloc9_lx R vs C G N W ph sp cy P B V Qr la m ov hr kk s2) [(0, 7), (1, 8), (2, 9), (3, 10), (4, 11), (5, 12), (6, 13), (7, 14)] rfl (by simp [hmapOk, nget, hget, renB, okB, renV, renVs, rn, okVs, okV]) rfl rfl (fun r h' n' hrr => ?_)
              obtain ⟨a2, f, R2, vs', C2, P', B', V', Qr', e1, e2, e3, h3, hT2, hC2⟩ := hrr
              subst e1 e2 e3
              conv => cbv
              have hss : s2 = s1 := hs2.trans hs1.symm
              subst hss
              have hal := hS.alloc hT hT2
              obtain ⟨q1, q2, q3, hS2, _⟩ := hal
              subst q1 q2 q3
              have hCC : C2 = C' := hC2.trans hC.symm
              subst hCC
              refine Br.yes (show a = a from rfl) ?_
              conv => cbv
              refine Br.yes (show e = e from rfl) ?_
              conv => cbv
              refine RetF.mk [.p (.bool true)] [(0, .mix [.ptr 1 (.lit 0), .ptr 5 (.lit 0), .sl 6 3 1 (.lit 0) (.sym W), .p (.int .i64 (.sym ph)), .p (.int .i64 (.sym sp)), .p (.int .i64 (.sym cy))]), (1, .mix [.ptr 2 (.lit 0), .sl 4 3 1 (.lit 0) (.sym W)]), (2, .mix [.sl 3 101 2 (.lit 0) (.sym N)]), (3, .pure true L'), (4, .pure true D'), (5, .pure false [.str fun _ => z, .bool ov]), (6, .pure true Q'), (7, .mix [.ptr 8 (.lit 0), .sl 13 3 1 (.lit 0) (.sym W), .ptr 14 (.lit 0), .p (.int .i64 (.sym ph)), .p (.int .i64 (.sym sp)), .p (.int .i64 (.sym cy))]), (8, .mix [.ptr 9 (.lit 0), .sl 12 3 1 (.lit 0) (.sym W)]), (9, .mix [.sl 10 3 1 (.lit 0) (.sym N), .sl 11 120 8 (.lit 0) (.sym N)]), (10, .pure true P'), (11, .pure true B'), (12, .pure true V'), (13, .pure true Qr'), (14, .mix [.p (.vsl (.sym m) true la), .p (.bool ov)]), (15, .fix 0 o)] 16 (Re.at [(0, 0), (1, 1), (2, 2), (3, 3), (4, 4), (5, 5), (6, 6), (7, 7), (8, 8), (9, 9), (10, 10), (11, 11), (12, 12), (13, 13), (14, 14), (15, 15)] []) rfl ⟨R', ws', vs', C2, G, ph, sp, cy, L', D', Q', z, ov, P', B', V', Qr', la, m, rfl, .inl ⟨rfl, rfl⟩, h2, h3, hS2, hsp.1, by omega, hcy.1, by omega, fun hd hp => (hd hp).alloc h.a hCl hT hp hC⟩
end Go.Proofs.YtllafhhnciobhaaGreatDoor
