/-
  The ground of the proof, part 8: the calculus and what is proved with it.
-/
import Derived.Test.YtmcljlflcbdpiaaGreatDoorBg
import Derived.Test.YtmcljlflcbdpiaaGreatDoorBc
/-
  Layer 16: awake.
-/
namespace Go.Proofs.YtmcljlflcbdpiaaGreatDoor

open Go Go.LX
set_option maxRecDepth 100000
set_option linter.unusedVariables false
set_option linter.unusedSimpArgs false

set_option maxHeartbeats 8000000 in
theorem awake16_lx (o : Unit → Obj) (ho : IsPow o) : CallF (fun _ => Tryz.prog) 30 [] [(0, .fix 0 o)] 1 (fun r h n => r = .p (.bool true) ∧ h = [(0, .fix 0 o)] ∧ n = 1) := by
  refine callF_of_body tok Tryz.func30 (by kernel_rfl) rfl rfl rfl ?_; conv => cbv
  refine CallF.re (args0 := [.p (.vsl (.sym 1) true [.int .i64 (.sym 1)]), .p (.int .i64 (.sym 1))]) (h' := [(0, .fix 0 o)]) (Re.at [(0, 0)] []) (callF_frame (made16_lx o ho [1] 1 1 [.int .i64 (.sym 1)] rfl rfl) [(0, 0)] rfl (by simp [hmapOk, nget, hget, renB, okB, renV, renVs, rn, okVs, okV]) rfl rfl (fun r h' n' hrr => ?_))
  obtain ⟨N, W, C, R, ws, vs, L, D, Q, z, P, B, V, Qr, M, CS, GS, chs, bufs, grs, nc, ng, e1, e2, e3, S, hB, hY, hcs, hgs, hnc, hng, hnm, hn1, hn4, hngo, hcnt, hR, hW⟩ := hrr
  subst e1 e2 e3
  conv => cbv
  have hnc1 : nc = 1 := by omega
  obtain ⟨c, hcc⟩ := chA1 hnc hnc1
  have hc0 : chs[0]? = some c := by rw [hcc]; rfl
  obtain ⟨b, hb0, hBC⟩ := hB.ch 0 c 1 hc0 rfl
  have hMc := hBC.c
  rw [capS (by decide)] at hMc
  have hcl := S.c.len S.h.a hMc
  have hcw : atW (2 * c + 1) = c := atW_ptr c
  have hngb := ngor_bd 1
  have hMb : M b = some (2, [0]) := by
    rcases hBC.b with q | ⟨_, _, q⟩
    · rw [capS (by decide)] at q; omega
    · rw [capS (by decide)] at q; exact q
  have hcb : c ≠ b := fun q => by rw [q, hMb] at hMc; cases hMc
  have hh := S.h
  have hc := S.c
  refine drawn_sound tok (by kernel_rfl) [(5, [3, 2, 1, 0]), (8, [])] [0, 1, 2, 3, 4, 5, 6, 7, 8, 9, 10, 11, 12, 13] (by kernel_rfl) ?_; conv => cbv
  refine CallF.le (args0 := [.ptr 17 (.lit 0), .p (.int .i64 (.sym 0))]) (callF_frame (ch16_lx R ws vs C N W 0 0 0 L D Q z false P B V Qr [] 0 M nc ng CS GS o 0 chs hcs hnc (by omega) (by omega)) [(0, 2), (1, 3), (2, 4), (3, 5), (4, 6), (5, 7), (6, 8), (7, 9), (8, 10), (9, 11), (10, 12), (11, 13), (12, 14), (13, 15), (14, 16), (15, 0), (16, 17), (17, 18), (18, 19)] rfl (by simp [hmapOk, nget, hget, renB, okB, renV, renVs, rn, okVs, okV]) rfl rfl (fun r h' n' hrr => ?_)) (by simp [ales, ale, pvle, I.val])
  obtain ⟨⟨x1, e1, hx1⟩, e2, e3⟩ := hrr
  subst e1 e2 e3
  conv => cbv
  obtain rfl : c = x1 := (ix0 hx1 hc0).symm
  refine Fit.mk (by show (-9223372036854775808 : Int) ≤ 2 * c; omega) (by show 2 * c ≤ 9223372036854775807; omega) fun a1 ha1 => ?_
  have ha1 : a1 = 2 * c := ha1
  conv => cbv
  refine Fit.mk (by show (-9223372036854775808 : Int) ≤ a1 + 1; omega) (by show a1 + 1 ≤ 9223372036854775807; omega) fun w1 hw1 => ?_
  have hw1 : w1 = a1 + 1 := hw1
  conv => cbv
  have hat1 : atW w1 = c := by rw [show w1 = 2 * c + 1 by omega]; exact hcw
  refine CallF.le (args0 := [.ptr 2 (.lit 0), .p (.int .i64 (.sym w1)), .p (.int .i64 (.sym 6))]) (callF_frame (sendHeld_lx R ws C [] N W 0 0 0 L D Q z false hh M hc (fun _ _ => []) hY o ho rfl w1 6 (by omega) (by decide) (by omega) c 1 0 0 0 b (-1) (-1) (-1) (-1) hat1 hMc rfl rfl (by decide) (by decide) [0] hMb rfl (by decide)) [(0, 2), (1, 3), (2, 4), (3, 5), (4, 6), (5, 7), (6, 8), (7, 0)] rfl (by simp [hmapOk, nget, hget, renB, okB, renV, renVs, rn, okVs, okV]) rfl rfl (fun r h' n' hrr => ?_)) (by simp [ales, ale, pvle, I.val])
  obtain ⟨ws1, D1, e1, e2, e3, hh1, hc1⟩ := hrr
  subst e1 e2 e3
  conv => cbv
  have hY1 := sysRing (X' := List.set [0] (((0 : Int) % 1 + 0) % 1).toNat 6) hY hMc hMb (0 + 1) 0
  generalize hM1 : upd (upd M b (2, List.set [0] (((0 : Int) % 1 + 0) % 1).toNat 6)) c (1, [1, 0, 0 + 1, 0, b, -1, -1, -1, -1]) = M1 at hc1 hY1
  have hMc1 : M1 c = some (1, [1, 0, 1, 0, b, -1, -1, -1, -1]) := by rw [← hM1]; exact upd_same _ _ _
  have hMb1 : M1 b = some (2, [6]) := by rw [← hM1, upd_ne hcb.symm]; exact upd_same _ _ _
  refine drawn_sound tok (by kernel_rfl) [(5, [3, 2, 1, 0]), (8, [])] [0, 1, 2, 3, 4, 5, 6, 7, 8, 9, 10, 11, 12, 13, 14, 15] (by kernel_rfl) ?_; conv => cbv
  refine CallF.le (args0 := [.ptr 17 (.lit 0), .p (.int .i64 (.sym 0))]) (callF_frame (ch16_lx R ws1 vs C N W 0 0 0 L D1 Q z false P B V Qr [] 0 M nc ng CS GS o 0 chs hcs hnc (by omega) (by omega)) [(0, 2), (1, 3), (2, 4), (3, 5), (4, 6), (5, 7), (6, 8), (7, 9), (8, 10), (9, 11), (10, 12), (11, 13), (12, 14), (13, 15), (14, 16), (15, 0), (16, 17), (17, 18), (18, 19)] rfl (by simp [hmapOk, nget, hget, renB, okB, renV, renVs, rn, okVs, okV]) rfl rfl (fun r h' n' hrr => ?_)) (by simp [ales, ale, pvle, I.val])
  obtain ⟨⟨x2, e1, hx2⟩, e2, e3⟩ := hrr
  subst e1 e2 e3
  conv => cbv
  obtain rfl : c = x2 := (ix0 hx2 hc0).symm
  refine Fit.mk (by show (-9223372036854775808 : Int) ≤ 2 * c; omega) (by show 2 * c ≤ 9223372036854775807; omega) fun a2 ha2 => ?_
  have ha2 : a2 = 2 * c := ha2
  conv => cbv
  refine Fit.mk (by show (-9223372036854775808 : Int) ≤ a2 + 1; omega) (by show a2 + 1 ≤ 9223372036854775807; omega) fun w2 hw2 => ?_
  have hw2 : w2 = a2 + 1 := hw2
  conv => cbv
  have hat2 : atW w2 = c := by rw [show w2 = 2 * c + 1 by omega]; exact hcw
  refine CallF.le (args0 := [.ptr 2 (.lit 0), .p (.int .i64 (.sym w2))]) (callF_frame (takeGot_lx R ws1 C [] N W 0 0 0 L D1 Q z false hh1 M1 hc1 (fun _ _ => []) hY1 o ho rfl w2 (by omega) (by omega) c 1 0 1 0 b (-1) (-1) (-1) (-1) hat2 hMc1 rfl (by decide) [6] hMb1 rfl (by decide)) [(0, 2), (1, 3), (2, 4), (3, 5), (4, 6), (5, 7), (6, 8), (7, 0)] rfl (by simp [hmapOk, nget, hget, renB, okB, renV, renVs, rn, okVs, okV]) rfl rfl (fun r h' n' hrr => ?_)) (by simp [ales, ale, pvle, I.val])
  obtain ⟨v2, ws2, D2, e1, e2, e3, hh2, hv2, hc2⟩ := hrr
  subst e1 e2 e3
  conv => cbv
  have hv6 : v2 = 6 := (Option.some.inj hv2).symm
  refine Br.yes (show (1 : Int) = 1 from rfl) ?_
  conv => cbv
  refine Br.yes (show v2 = 6 from hv6) ?_
  conv => cbv
  refine Br.yes (show (-1 : Int) = -1 from rfl) ?_
  conv => cbv
  refine Br.yes (show (1 : Int) = 1 from rfl) ?_
  conv => cbv
  refine CallF.le (args0 := [.ptr 2 (.lit 0), .p (.int .i64 (.sym 0))]) (callF_frame (takeRZero_lx R ws2 C [] N W 0 0 0 L D2 Q z false hh2 _ hc2 o 0 rfl) [(0, 2), (1, 3), (2, 4), (3, 5), (4, 6), (5, 7), (6, 8), (7, 0)] rfl (by simp [hmapOk, nget, hget, renB, okB, renV, renVs, rn, okVs, okV]) rfl rfl (fun r h' n' hrr => ?_)) (by simp [ales, ale, pvle, I.val])
  obtain ⟨e1, e2, e3⟩ := hrr
  subst e1 e2 e3
  conv => cbv
  refine RetF.mk [.p (.bool true)] [(0, .fix 0 o)] 1 (Re.at [(0, 0)] []) rfl ⟨rfl, rfl, rfl⟩
end Go.Proofs.YtmcljlflcbdpiaaGreatDoor
