/-
  The ground of the proof, part 7: the calculus and what is proved with it.
-/
import Derived.Test.YtjgbhpclmlcbbaaGreatDoorBf
import Derived.Test.YtjgbhpclmlcbbaaGreatDoorBc
import Derived.Test.YtjgbhpclmlcbbaaGreatDoorBe
namespace Go.Proofs.YtjgbhpclmlcbbaaGreatDoor
open Go Go.LX
set_option maxRecDepth 100000
set_option linter.unusedVariables false
set_option linter.unusedSimpArgs false
set_option maxHeartbeats 32000000
theorem rPutChan_lx (R : List Rw) (vs C G : List Int) (N W ph sp cy : Int) (P B V Q la : List PV) (m : Int) (ov : Bool) (h : RM R vs C G N W P B V Q la m) (a x0 x1 x2 x3 x4 x5 x6 x7 x8 : Int) (hb : ∀ x ∈ [x0, x1, x2, x3, x4, x5, x6, x7, x8], b62 x) : CallF (fun _ => Tryz.prog) 54 [.ptr 0 (.lit 0), i6 a, .agg [i6 x0, i6 x1, i6 x2, i6 x3, i6 x4, i6 x5, i6 x6, i6 x7, i6 x8]] [hpR 0 1 6 3 W 7 ph sp cy, hpB 1 2 5 3 W, hpD 2 3 3 1 N 4 209 8 N, hpP 3 P, hpP 4 B, hpP 5 V, hpP 6 Q, (7, .mix [.p (.vsl (.sym m) true la), .p (.bool ov)])] 8
  (fun r h n => ∃ (e : Int) (vs' C' G' : List Int) (ov' : Bool) (V' Q' la' : List PV) (m' : Int), r = .p (.int .i64 (.sym e)) ∧ h = [hpR 0 1 6 3 W 7 ph sp cy, hpB 1 2 5 3 W, hpD 2 3 3 1 N 4 209 8 N, hpP 3 P, hpP 4 B, hpP 5 V', hpP 6 Q', (7, .mix [.p (.vsl (.sym m') true la'), .p (.bool ov')])] ∧ n = 8 ∧ RM R vs' C' G' N W P B V' Q' la' m' ∧ PT 1 9 (chanWs [x0, x1, x2, x3, x4, x5, x6, x7, x8]) R ph a (vs, C, G, ov) e (vs', C', G', ov')) := by
 have hbd := chanWs_bd x0 x1 x2 x3 x4 x5 x6 x7 x8 hb
 simp only [List.forall_mem_cons] at hb
 obtain ⟨b0, b1, b2, b3, b4, b5, b6, b7, b8, _⟩ := hb
 refine callF_of_body tok Tryz.func54 (by kernel_rfl) rfl rfl rfl ?_; conv => cbv
 refine drawn_sound tok (by kernel_rfl) [(4, [27, 26, 24, 23, 21, 20, 18, 17, 15, 14, 12, 11, 9, 8, 6, 5, 1, 0]), (7, [27, 26, 24, 23, 21, 20, 18, 17, 15, 14, 12, 11, 9, 8, 1, 0]), (10, [27, 26, 24, 23, 21, 20, 18, 17, 15, 14, 12, 11, 1, 0]), (13, [27, 26, 24, 23, 21, 20, 18, 17, 15, 14, 1, 0]), (16, [27, 26, 24, 23, 21, 20, 18, 17, 1, 0]), (19, [27, 26, 24, 23, 21, 20, 1, 0]), (22, [27, 26, 24, 23, 1, 0]), (25, [27, 26, 1, 0]), (28, [1, 0]), (29, [1, 0]), (30, [])] [0, 1, 2, 3, 5, 6, 8, 9, 11, 12, 14, 15, 17, 18, 20, 21, 23, 24, 26, 27, 4, 7, 10, 13, 16, 19, 22, 25, 28, 29, 30, 31] (by kernel_rfl) ?_; conv => cbv
 refine callF_frame (rInt62_lx x0 b0) [] rfl trivial rfl rfl (fun r h' n' hrr => ?_)
 obtain ⟨⟨v0, e1, hv0⟩, e2, e3⟩ := hrr
 subst e1 e2 e3
 conv => cbv
 refine callF_frame (rInt62_lx x1 b1) [] rfl trivial rfl rfl (fun r h' n' hrr => ?_)
 obtain ⟨⟨v1, e1, hv1⟩, e2, e3⟩ := hrr
 subst e1 e2 e3
 conv => cbv
 refine callF_frame (rInt62_lx x2 b2) [] rfl trivial rfl rfl (fun r h' n' hrr => ?_)
 obtain ⟨⟨v2, e1, hv2⟩, e2, e3⟩ := hrr
 subst e1 e2 e3
 conv => cbv
 refine callF_frame (rInt62_lx x3 b3) [] rfl trivial rfl rfl (fun r h' n' hrr => ?_)
 obtain ⟨⟨v3, e1, hv3⟩, e2, e3⟩ := hrr
 subst e1 e2 e3
 conv => cbv
 refine callF_frame (rptr_lx x4 b4) [] rfl trivial rfl rfl (fun r h' n' hrr => ?_)
 obtain ⟨⟨v4, e1, hv4⟩, e2, e3⟩ := hrr
 subst e1 e2 e3
 conv => cbv
 refine callF_frame (rptr_lx x5 b5) [] rfl trivial rfl rfl (fun r h' n' hrr => ?_)
 obtain ⟨⟨v5, e1, hv5⟩, e2, e3⟩ := hrr
 subst e1 e2 e3
 conv => cbv
 refine callF_frame (rptr_lx x6 b6) [] rfl trivial rfl rfl (fun r h' n' hrr => ?_)
 obtain ⟨⟨v6, e1, hv6⟩, e2, e3⟩ := hrr
 subst e1 e2 e3
 conv => cbv
 refine callF_frame (rptr_lx x7 b7) [] rfl trivial rfl rfl (fun r h' n' hrr => ?_)
 obtain ⟨⟨v7, e1, hv7⟩, e2, e3⟩ := hrr
 subst e1 e2 e3
 conv => cbv
 refine callF_frame (rptr_lx x8 b8) [] rfl trivial rfl rfl (fun r h' n' hrr => ?_)
 obtain ⟨⟨v8, e1, hv8⟩, e2, e3⟩ := hrr
 subst e1 e2 e3
 conv => cbv
 have hv : [v0, v1, v2, v3, v4, v5, v6, v7, v8] = chanWs [x0, x1, x2, x3, x4, x5, x6, x7, x8] := by simp only [chanWs, hv0, hv1, hv2, hv3, hv4, hv5, hv6, hv7, hv8]
 refine CallF.re (args0 := [.ptr 0 (.lit 0), i6 a, .p (.int .i64 (.lit 1)), .p (.vsl (.sym 9) true [.int .i64 (.sym v0), .int .i64 (.sym v1), .int .i64 (.sym v2), .int .i64 (.sym v3), .int .i64 (.sym v4), .int .i64 (.sym v5), .int .i64 (.sym v6), .int .i64 (.sym v7), .int .i64 (.sym v8)])]) (h' := [hpR 0 1 6 3 W 7 ph sp cy, hpB 1 2 5 3 W, hpD 2 3 3 1 N 4 209 8 N, hpP 3 P, hpP 4 B, hpP 5 V, hpP 6 Q, (7, .mix [.p (.vsl (.sym m) true la), .p (.bool ov)])]) (Re.at [(0, 0), (1, 1), (2, 2), (3, 3), (4, 4), (5, 5), (6, 6), (7, 7)] []) (cfr (rPutW1_lx R vs C G N W ph sp cy P B V Q la m ov h a [v0, v1, v2, v3, v4, v5, v6, v7, v8] [.int .i64 (.sym v0), .int .i64 (.sym v1), .int .i64 (.sym v2), .int .i64 (.sym v3), .int .i64 (.sym v4), .int .i64 (.sym v5), .int .i64 (.sym v6), .int .i64 (.sym v7), .int .i64 (.sym v8)] rfl rfl (by rw [hv]; exact hbd)) [(0, 0), (1, 1), (2, 2), (3, 3), (4, 4), (5, 5), (6, 6), (7, 7)] (fun r h' n' hrr => ?_))
 obtain ⟨e, vs', C', G', ov', V', Q', la', m', e1, e2, e3, h', hP⟩ := hrr
 subst e1 e2 e3
 rw [hv] at hP
 conv => cbv
 refine RetF.mk [i6 e] [hpR 0 1 6 3 W 7 ph sp cy, hpB 1 2 5 3 W, hpD 2 3 3 1 N 4 209 8 N, hpP 3 P, hpP 4 B, hpP 5 V', hpP 6 Q', (7, .mix [.p (.vsl (.sym m') true la'), .p (.bool ov')])] 8 (Re.at [(0, 0), (1, 1), (2, 2), (3, 3), (4, 4), (5, 5), (6, 6), (7, 7)] []) rfl ⟨e, vs', C', G', ov', V', Q', la', m', rfl, rfl, rfl, h', hP⟩
theorem rPutSudog_lx (R : List Rw) (vs C G : List Int) (N W ph sp cy : Int) (P B V Q la : List PV) (m : Int) (ov : Bool) (h : RM R vs C G N W P B V Q la m) (a x0 x1 x2 x3 x4 x5 x6 : Int) (hb : ∀ x ∈ [x0, x1, x3, x4, x5, x6], b62 x) (hw : ∀ x ∈ [x2], -9223372036854775808 ≤ x ∧ x ≤ 9223372036854775807) : CallF (fun _ => Tryz.prog) 60 [.ptr 0 (.lit 0), i6 a, .agg [i6 x0, i6 x1, i6 x2, i6 x3, i6 x4, i6 x5, i6 x6]] [hpR 0 1 6 3 W 7 ph sp cy, hpB 1 2 5 3 W, hpD 2 3 3 1 N 4 209 8 N, hpP 3 P, hpP 4 B, hpP 5 V, hpP 6 Q, (7, .mix [.p (.vsl (.sym m) true la), .p (.bool ov)])] 8
  (fun r h n => ∃ (e : Int) (vs' C' G' : List Int) (ov' : Bool) (V' Q' la' : List PV) (m' : Int), r = .p (.int .i64 (.sym e)) ∧ h = [hpR 0 1 6 3 W 7 ph sp cy, hpB 1 2 5 3 W, hpD 2 3 3 1 N 4 209 8 N, hpP 3 P, hpP 4 B, hpP 5 V', hpP 6 Q', (7, .mix [.p (.vsl (.sym m') true la'), .p (.bool ov')])] ∧ n = 8 ∧ RM R vs' C' G' N W P B V' Q' la' m' ∧ PT 3 7 (sudogWs [x0, x1, x2, x3, x4, x5, x6]) R ph a (vs, C, G, ov) e (vs', C', G', ov')) := by
 have hbd := sudogWs_bd x0 x1 x2 x3 x4 x5 x6 hb hw
 simp only [List.forall_mem_cons] at hb
 obtain ⟨b0, b1, b3, b4, b5, b6, _⟩ := hb
 refine callF_of_body tok Tryz.func60 (by kernel_rfl) rfl rfl rfl ?_; conv => cbv
 refine drawn_sound tok (by kernel_rfl) [(4, [20, 19, 17, 16, 14, 13, 11, 10, 9, 8, 6, 5, 1, 0]), (7, [20, 19, 17, 16, 14, 13, 11, 10, 9, 8, 1, 0]), (12, [20, 19, 17, 16, 14, 13, 9, 8, 1, 0]), (15, [20, 19, 17, 16, 9, 8, 1, 0]), (18, [20, 19, 9, 8, 1, 0]), (21, [9, 8, 1, 0]), (22, [1, 0]), (23, [])] [0, 1, 2, 3, 5, 6, 8, 9, 10, 11, 13, 14, 16, 17, 19, 20, 4, 7, 12, 15, 18, 21, 22, 23, 24] (by kernel_rfl) ?_; conv => cbv
 refine callF_frame (rptr_lx x0 b0) [] rfl trivial rfl rfl (fun r h' n' hrr => ?_)
 obtain ⟨⟨v0, e1, hv0⟩, e2, e3⟩ := hrr
 subst e1 e2 e3
 conv => cbv
 refine callF_frame (rptr_lx x1 b1) [] rfl trivial rfl rfl (fun r h' n' hrr => ?_)
 obtain ⟨⟨v1, e1, hv1⟩, e2, e3⟩ := hrr
 subst e1 e2 e3
 conv => cbv
 refine callF_frame (rptr_lx x3 b3) [] rfl trivial rfl rfl (fun r h' n' hrr => ?_)
 obtain ⟨⟨v3, e1, hv3⟩, e2, e3⟩ := hrr
 subst e1 e2 e3
 conv => cbv
 refine callF_frame (rInt62_lx x4 b4) [] rfl trivial rfl rfl (fun r h' n' hrr => ?_)
 obtain ⟨⟨v4, e1, hv4⟩, e2, e3⟩ := hrr
 subst e1 e2 e3
 conv => cbv
 refine callF_frame (rInt62_lx x5 b5) [] rfl trivial rfl rfl (fun r h' n' hrr => ?_)
 obtain ⟨⟨v5, e1, hv5⟩, e2, e3⟩ := hrr
 subst e1 e2 e3
 conv => cbv
 refine callF_frame (rptr_lx x6 b6) [] rfl trivial rfl rfl (fun r h' n' hrr => ?_)
 obtain ⟨⟨v6, e1, hv6⟩, e2, e3⟩ := hrr
 subst e1 e2 e3
 conv => cbv
 have hv : [v0, v1, x2, v3, v4, v5, v6] = sudogWs [x0, x1, x2, x3, x4, x5, x6] := by simp only [sudogWs, hv0, hv1, hv3, hv4, hv5, hv6]
 refine CallF.re (args0 := [.ptr 0 (.lit 0), i6 a, .p (.int .i64 (.lit 3)), .p (.vsl (.sym 7) true [.int .i64 (.sym v0), .int .i64 (.sym v1), .int .i64 (.sym x2), .int .i64 (.sym v3), .int .i64 (.sym v4), .int .i64 (.sym v5), .int .i64 (.sym v6)])]) (h' := [hpR 0 1 6 3 W 7 ph sp cy, hpB 1 2 5 3 W, hpD 2 3 3 1 N 4 209 8 N, hpP 3 P, hpP 4 B, hpP 5 V, hpP 6 Q, (7, .mix [.p (.vsl (.sym m) true la), .p (.bool ov)])]) (Re.at [(0, 0), (1, 1), (2, 2), (3, 3), (4, 4), (5, 5), (6, 6), (7, 7)] []) (cfr (rPutW3_lx R vs C G N W ph sp cy P B V Q la m ov h a [v0, v1, x2, v3, v4, v5, v6] [.int .i64 (.sym v0), .int .i64 (.sym v1), .int .i64 (.sym x2), .int .i64 (.sym v3), .int .i64 (.sym v4), .int .i64 (.sym v5), .int .i64 (.sym v6)] rfl rfl (by rw [hv]; exact hbd)) [(0, 0), (1, 1), (2, 2), (3, 3), (4, 4), (5, 5), (6, 6), (7, 7)] (fun r h' n' hrr => ?_))
 obtain ⟨e, vs', C', G', ov', V', Q', la', m', e1, e2, e3, h', hP⟩ := hrr
 subst e1 e2 e3
 rw [hv] at hP
 conv => cbv
 refine RetF.mk [i6 e] [hpR 0 1 6 3 W 7 ph sp cy, hpB 1 2 5 3 W, hpD 2 3 3 1 N 4 209 8 N, hpP 3 P, hpP 4 B, hpP 5 V', hpP 6 Q', (7, .mix [.p (.vsl (.sym m') true la'), .p (.bool ov')])] 8 (Re.at [(0, 0), (1, 1), (2, 2), (3, 3), (4, 4), (5, 5), (6, 6), (7, 7)] []) rfl ⟨e, vs', C', G', ov', V', Q', la', m', rfl, rfl, rfl, h', hP⟩
theorem rPutGor_lx (R : List Rw) (vs C G : List Int) (N W ph sp cy : Int) (P B V Q la : List PV) (m : Int) (ov : Bool) (h : RM R vs C G N W P B V Q la m) (a x0 x1 x2 x3 x4 x5 x6 x7 x8 x9 : Int) (hb : ∀ x ∈ [x0, x1, x2, x9], b62 x) (hw : ∀ x ∈ [x3, x4, x5, x6, x7, x8], -9223372036854775808 ≤ x ∧ x ≤ 9223372036854775807) : CallF (fun _ => Tryz.prog) 56 [.ptr 0 (.lit 0), i6 a, .agg [i6 x0, i6 x1, i6 x2, i6 x3, i6 x4, i6 x5, i6 x6, i6 x7, i6 x8, i6 x9]] [hpR 0 1 6 3 W 7 ph sp cy, hpB 1 2 5 3 W, hpD 2 3 3 1 N 4 209 8 N, hpP 3 P, hpP 4 B, hpP 5 V, hpP 6 Q, (7, .mix [.p (.vsl (.sym m) true la), .p (.bool ov)])] 8
  (fun r h n => ∃ (e : Int) (vs' C' G' : List Int) (ov' : Bool) (V' Q' la' : List PV) (m' : Int), r = .p (.int .i64 (.sym e)) ∧ h = [hpR 0 1 6 3 W 7 ph sp cy, hpB 1 2 5 3 W, hpD 2 3 3 1 N 4 209 8 N, hpP 3 P, hpP 4 B, hpP 5 V', hpP 6 Q', (7, .mix [.p (.vsl (.sym m') true la'), .p (.bool ov')])] ∧ n = 8 ∧ RM R vs' C' G' N W P B V' Q' la' m' ∧ PT 4 10 (gorWs [x0, x1, x2, x3, x4, x5, x6, x7, x8, x9]) R ph a (vs, C, G, ov) e (vs', C', G', ov')) := by
 have hbd := gorWs_bd x0 x1 x2 x3 x4 x5 x6 x7 x8 x9 hb hw
 simp only [List.forall_mem_cons] at hb
 obtain ⟨b0, b1, b2, b9, _⟩ := hb
 refine callF_of_body tok Tryz.func56 (by kernel_rfl) rfl rfl rfl ?_; conv => cbv
 refine drawn_sound tok (by kernel_rfl) [(2, [7, 6, 4, 3]), (5, [7, 6]), (8, []), (9, [])] [0, 1, 3, 4, 6, 7, 2, 5, 8, 9, 10] (by kernel_rfl) ?_; conv => cbv
 refine callF_frame (rInt62_lx x0 b0) [] rfl trivial rfl rfl (fun r h' n' hrr => ?_)
 obtain ⟨⟨v0, e1, hv0⟩, e2, e3⟩ := hrr
 subst e1 e2 e3
 conv => cbv
 refine callF_frame (rInt62_lx x1 b1) [] rfl trivial rfl rfl (fun r h' n' hrr => ?_)
 obtain ⟨⟨v1, e1, hv1⟩, e2, e3⟩ := hrr
 subst e1 e2 e3
 conv => cbv
 refine callF_frame (rInt62_lx x2 b2) [] rfl trivial rfl rfl (fun r h' n' hrr => ?_)
 obtain ⟨⟨v2, e1, hv2⟩, e2, e3⟩ := hrr
 subst e1 e2 e3
 conv => cbv
 refine LoopF.rounds 7 ?_
 conv => cbv
 refine Need.mk (by simp [I.val]) ?_
 conv => cbv
 refine Room.new rfl ?_
 conv => cbv
 refine Room.new ⟨rfl, by simp [I.val], by simp [I.val]⟩ ?_
 conv => cbv
 refine Need.mk (by simp [I.val]) ?_
 conv => cbv
 refine Room.new rfl ?_
 conv => cbv
 refine Room.new ⟨rfl, by simp [I.val], by simp [I.val]⟩ ?_
 conv => cbv
 refine Need.mk (by simp [I.val]) ?_
 conv => cbv
 refine Room.new rfl ?_
 conv => cbv
 refine Room.new ⟨rfl, by simp [I.val], by simp [I.val]⟩ ?_
 conv => cbv
 refine Need.mk (by simp [I.val]) ?_
 conv => cbv
 refine Room.new rfl ?_
 conv => cbv
 refine Room.new ⟨rfl, by simp [I.val], by simp [I.val]⟩ ?_
 conv => cbv
 refine Need.mk (by simp [I.val]) ?_
 conv => cbv
 refine Room.new rfl ?_
 conv => cbv
 refine Room.new ⟨rfl, by simp [I.val], by simp [I.val]⟩ ?_
 conv => cbv
 refine Need.mk (by simp [I.val]) ?_
 conv => cbv
 refine Room.new rfl ?_
 conv => cbv
 refine Room.new ⟨rfl, by simp [I.val], by simp [I.val]⟩ ?_
 conv => cbv
 refine callF_frame (rptr_lx x9 b9) [] rfl trivial rfl rfl (fun r h' n' hrr => ?_)
 obtain ⟨⟨v9, e1, hv9⟩, e2, e3⟩ := hrr
 subst e1 e2 e3
 conv => cbv
 refine Room.new rfl ?_
 conv => cbv
 refine Room.new ⟨rfl, by simp [I.val], by simp [I.val]⟩ ?_
 conv => cbv
 have hv : [v0, v1, v2, x3, x4, x5, x6, x7, x8, v9] = gorWs [x0, x1, x2, x3, x4, x5, x6, x7, x8, x9] := by simp only [gorWs, hv0, hv1, hv2, hv9]
 refine CallF.re (args0 := [.ptr 0 (.lit 0), i6 a, .p (.int .i64 (.lit 4)), .p (.vsl (.sym 10) true [.int .i64 (.sym v0), .int .i64 (.sym v1), .int .i64 (.sym v2), .int .i64 (.sym x3), .int .i64 (.sym x4), .int .i64 (.sym x5), .int .i64 (.sym x6), .int .i64 (.sym x7), .int .i64 (.sym x8), .int .i64 (.sym v9)])]) (h' := [hpR 0 1 6 3 W 7 ph sp cy, hpB 1 2 5 3 W, hpD 2 3 3 1 N 4 209 8 N, hpP 3 P, hpP 4 B, hpP 5 V, hpP 6 Q, (7, .mix [.p (.vsl (.sym m) true la), .p (.bool ov)])]) (Re.at [(0, 0), (1, 1), (2, 2), (3, 3), (4, 4), (5, 5), (6, 6), (7, 7)] []) (cfr (rPutW4_lx R vs C G N W ph sp cy P B V Q la m ov h a [v0, v1, v2, x3, x4, x5, x6, x7, x8, v9] [.int .i64 (.sym v0), .int .i64 (.sym v1), .int .i64 (.sym v2), .int .i64 (.sym x3), .int .i64 (.sym x4), .int .i64 (.sym x5), .int .i64 (.sym x6), .int .i64 (.sym x7), .int .i64 (.sym x8), .int .i64 (.sym v9)] rfl rfl (by rw [hv]; exact hbd)) [(0, 0), (1, 1), (2, 2), (3, 3), (4, 4), (5, 5), (6, 6), (7, 7)] (fun r h' n' hrr => ?_))
 obtain ⟨e, vs', C', G', ov', V', Q', la', m', e1, e2, e3, h', hP⟩ := hrr
 subst e1 e2 e3
 rw [hv] at hP
 conv => cbv
 refine RetF.mk [i6 e] [hpR 0 1 6 3 W 7 ph sp cy, hpB 1 2 5 3 W, hpD 2 3 3 1 N 4 209 8 N, hpP 3 P, hpP 4 B, hpP 5 V', hpP 6 Q', (7, .mix [.p (.vsl (.sym m') true la'), .p (.bool ov')])] 8 (Re.at [(0, 0), (1, 1), (2, 2), (3, 3), (4, 4), (5, 5), (6, 6), (7, 7)] []) rfl ⟨e, vs', C', G', ov', V', Q', la', m', rfl, rfl, rfl, h', hP⟩
theorem rnewH_lx (N W : Int) (h2 : 2 ≤ N) (h8 : N ≤ 128) (hW : W = 32 * N) : CallF (fun _ => Tryz.prog) 51 [i6 N] [] 0 (fun r h n => ∃ P B V Q : List PV, r = .tup [.ptr 0 (.lit 0), .p (.int .i64 (.lit 0))] ∧ h = [hpR 0 1 6 3 W 7 0 0 0, hpB 1 2 5 3 W, hpD 2 3 3 1 N 4 209 8 N, hpP 3 P, hpP 4 B, hpP 5 V, hpP 6 Q, (7, .mix [.p (.vsl (.sym 0) true []), .p (.bool false)])] ∧ n = 8 ∧ RM (List.replicate N.toNat (0, [])) (List.replicate W.toNat 0) (List.replicate W.toNat 0) [] N W P B V Q [] 0) := by
 refine callF_of_body tok Tryz.func51 (by kernel_rfl) rfl rfl rfl ?_; conv => cbv
 refine callF_frame (rnewA_lx N W h2 h8 hW) [] rfl trivial rfl rfl (fun r h' n' hrr => ?_)
 obtain ⟨P, B, V, e1, e2, e3, hP, hB, hV⟩ := hrr
 subst e1 e2 e3
 conv => cbv
 refine Need.mk ⟨by show 0 ≤ W; omega, Int.le_refl _, by show W * 8 ≤ 140737488355328; omega, by show W ≤ 9223372036854775807; omega⟩ ?_
 conv => cbv
 obtain ⟨Q, hQ⟩ : ∃ Q, Q = ipv (List.replicate W.toNat 0) := ⟨_, rfl⟩
 refine Upd.mk fun Q0 hQ0 => ?_
 have hle : pvles Q0 Q := by
  have hQ0 : Q0 = repsP [.int .i64 (.lit 0)] W.toNat := hQ0
  rw [hQ0, hQ]; exact zero_ipv _
 unfold pvles at hle
 clear hQ0
 conv => cbv
 refine RetF.mk [.ptr 0 (.lit 0), .p (.int .i64 (.lit 0))] [hpR 0 1 6 3 W 7 0 0 0, hpB 1 2 5 3 W, hpD 2 3 3 1 N 4 209 8 N, hpP 3 P, hpP 4 B, hpP 5 V, hpP 6 Q, (7, .mix [.p (.vsl (.sym 0) true []), .p (.bool false)])] 8 (Re.at [(7, 0), (0, 1), (1, 2), (2, 3), (3, 4), (4, 5), (5, 6), (6, 7)] []) rfl ⟨P, B, V, Q, rfl, rfl, rfl, ⟨by rw [show W.toNat = 32 * N.toNat by omega]; exact AOk.new _, by rw [List.length_replicate]; omega, by rw [List.length_replicate]; omega, hW, hP, hB, hV, hQ, by rw [List.length_replicate]; omega, rfl, rfl, fun x hx => (by cases hx), Nat.zero_le _⟩⟩
theorem allocC_white {n : Nat} (a : Int) : allocC 0 a 0 (List.replicate n 0) = List.replicate n 0 := by
 unfold allocC
 rw [if_pos rfl, if_pos rfl, List.set_replicate_self]
structure PutF (R : List Rw) (a kd m : Int) (i : Nat) (l : List Int) (s s' : List Int) : Prop where
 ok : AOk R s'
 kept : Kept R s' a kd m
 up : ∀ b k n, Kept R s b k n → Kept R s' b k n
 down : ∀ b k n, Kept R s' b k n → Kept R s b k n
 oth : ∀ b j y, b ≠ a → Loaded R s b j y 0 → Loaded R s' b j y 0
 out : ∀ j : Int, 0 ≤ j → (j < i ∨ (i : Int) + l.length ≤ j) → s'[(a + 1 + j).toNat]? = s[(a + 1 + j).toNat]?
 in_ : ∀ (q : Nat) (x : Int), l[q]? = some x → s'[(a + 1 + (i + q : Nat)).toNat]? = some x
theorem putS_fact {R : List Rw} {ph a kd m : Int} : ∀ (l : List Int) (i : Nat) (s : St4), AOk R s.1 → Kept R s.1 a kd m → (i : Int) + l.length ≤ m → (∀ x ∈ l, -9223372036854775808 ≤ x ∧ x ≤ 9223372036854775807) → PutF R a kd m i l s.1 (putS R ph a i l s).1
 | [], i, s, hA, hK, _, _ => ⟨hA, hK, fun _ _ _ h => h, fun _ _ _ h => h, fun _ _ _ _ h => h, fun _ _ _ => rfl, fun q x h => by simp at h⟩
 | w :: l, i, s, hA, hK, hm, hb => by
  have hbd := hK.bounds hA
  have hlen := hA.len
  rw [List.length_cons] at hm
  rw [putS]
  by_cases hc : s.1[(a + 1 + (i : Int)).toNat]? = some w
  ·rw [if_pos hc]
   have f := putS_fact (ph := ph) l (i + 1) s hA hK (by omega) fun x hx => hb x (List.mem_cons_of_mem _ hx)
   refine ⟨f.ok, f.kept, f.up, f.down, f.oth, fun j hj0 hj => ?_, fun q x hq => ?_⟩
   ·by_cases e : j = i
    ·subst e; exact f.out _ hj0 (.inl (by omega))
    ·rw [List.length_cons] at hj
     exact f.out j hj0 (by omega)
   ·cases q with
    | zero => simp at hq; rw [← hq, ← hc]; rw [show (i + 0 : Nat) = i from rfl]; exact f.out i (by omega) (.inl (by omega))
    | succ q => have := f.in_ q x (by simpa using hq); rw [show i + (q + 1) = i + 1 + q by omega]; exact this
  ·rw [if_neg hc]
   have hS : Stored R s.1 a i w 0 (s.1.set (a + 1 + (i : Int)).toNat w) := .ok kd m hK ⟨by omega, by omega⟩
   obtain ⟨g1, g2⟩ := stored_to hA hS
   have f := putS_fact (ph := ph) l (i + 1) (s.1.set (a + 1 + (i : Int)).toNat w, shadeW R ph w s.2) (hA.set hK ⟨by omega, by omega⟩ (hb w (List.mem_cons_self ..))) (g1 _ _ _ hK) (by omega) fun x hx => hb x (List.mem_cons_of_mem _ hx)
   refine ⟨f.ok, f.kept, fun b k n h => f.up b k n (g1 b k n h), fun b k n h => stored_kept hA hS b k n (f.down b k n h), fun b j y hn h => f.oth b j y hn (g2 b j y hn h), fun j hj0 hj => ?_, fun q x hq => ?_⟩
   ·rw [List.length_cons] at hj
    rw [f.out j hj0 (by omega)]
    exact List.getElem?_set_ne (by omega)
   ·cases q with
    | zero =>
     simp at hq
     rw [← hq, show (i + 0 : Nat) = i from rfl, f.out i (by omega) (.inl (by omega))]
     exact List.getElem?_set_self (by omega)
    | succ q => have := f.in_ q x (by simpa using hq); rw [show i + (q + 1) = i + 1 + q by omega]; exact this
theorem atW_plW {a : Int} (h : -1 ≤ a) : atW (plW a) = a := by unfold atW plW; split <;> split <;> omega
theorem numW_two (v : Int) : numW (v * 2) = v := by unfold numW; rw [if_neg (by omega)]; omega
theorem PT.two {kd ln : Int} {W : List Int} {R : List Rw} {ph a e : Int} {s s' : St4} (h : PT kd ln W R ph a s e s') : (e = 0 ∧ Kept R s.1 a kd ln ∧ s' = putS R ph a 0 W s) ∨ (e = 10 ∧ ¬ Kept R s.1 a kd ln ∧ s' = s) := by
 cases h with
 | ok h => exact .inl ⟨rfl, h, rfl⟩
 | no h => exact .inr ⟨rfl, h, rfl⟩
theorem chan_back (x0 x1 x2 x3 x4 x5 x6 x7 x8 : Int) (hp : ∀ x ∈ [x4, x5, x6, x7, x8], -1 ≤ x) : chanFs (chanWs [x0, x1, x2, x3, x4, x5, x6, x7, x8]) = [x0, x1, x2, x3, x4, x5, x6, x7, x8] := by
 simp only [List.forall_mem_cons] at hp
 obtain ⟨p4, p5, p6, p7, p8, _⟩ := hp
 simp only [chanFs, chanWs, numW_two, atW_plW p4, atW_plW p5, atW_plW p6, atW_plW p7, atW_plW p8]
theorem sudog_back (x0 x1 x2 x3 x4 x5 x6 : Int) (hp : ∀ x ∈ [x0, x1, x3, x6], -1 ≤ x) : sudogFs (sudogWs [x0, x1, x2, x3, x4, x5, x6]) = [x0, x1, x2, x3, x4, x5, x6] := by
 simp only [List.forall_mem_cons] at hp
 obtain ⟨p0, p1, p3, p6, _⟩ := hp
 simp only [sudogFs, sudogWs, numW_two, atW_plW p0, atW_plW p1, atW_plW p3, atW_plW p6]
theorem gor_back (x0 x1 x2 x3 x4 x5 x6 x7 x8 x9 : Int) (hp : ∀ x ∈ [x9], -1 ≤ x) : gorFs (gorWs [x0, x1, x2, x3, x4, x5, x6, x7, x8, x9]) = [x0, x1, x2, x3, x4, x5, x6, x7, x8, x9] := by
 simp only [List.forall_mem_cons] at hp
 obtain ⟨p9, _⟩ := hp
 simp only [gorFs, gorWs, numW_two, atW_plW p9]
theorem Sim.back {R : List Rw} {ws vs : List Int} (hS : Sim R ws vs) {a k l : Int} (h : Kept R vs a k l) : Kept R ws a k l := by
 obtain ⟨k2, l2, hk⟩ := Kept.of hS.a h.obj6
 have := (hS.hdr _ _ _ hk).det9 h
 rw [this.1, this.2] at hk
 exact hk
def cnt (f : Rw → Nat) (R : List Rw) : Nat := (R.map f).sum
theorem nodup_le {l m : List Int} (h : l.Nodup) (hs : ∀ x ∈ l, x ∈ m) : l.length ≤ m.length := by
 induction l generalizing m with
 | nil => exact Nat.zero_le _
 | cons x l ih =>
  have hx := hs x (List.mem_cons_self ..)
  have hn := List.nodup_cons.1 h
  have := ih (m := m.erase x) hn.2 (fun y hy => (List.mem_erase_of_ne (show y ≠ x from fun e => hn.1 (e ▸ hy))).2 (hs y (List.mem_cons_of_mem _ hy)))
  have hl := List.length_erase_of_mem hx
  have hp : 0 < m.length := List.length_pos_of_mem hx
  simp only [List.length_cons]
  omega
def Hld (R : List Rw) (ws : List Int) (a kd ln : Int) (Wl : List Int) : Prop := Kept R ws a kd ln ∧ (Wl.length : Int) = ln ∧ ∀ (q : Nat) (x : Int), Wl[q]? = some x → ws[(a + 1 + (q : Int)).toNat]? = some x
theorem PT.hld {kd ln : Int} {Wl : List Int} {R : List Rw} {ph a e : Int} {s s' : St4} (hA : AOk R s.1) (hK : Kept R s.1 a kd ln) (hl : (Wl.length : Int) = ln) (hb : ∀ x ∈ Wl, -9223372036854775808 ≤ x ∧ x ≤ 9223372036854775807) (hP : PT kd ln Wl R ph a s e s') : e = 0 ∧ Hld R s'.1 a kd ln Wl ∧ (∀ b k n V, b ≠ a → Hld R s.1 b k n V → Hld R s'.1 b k n V) ∧ (∀ b k n, Kept R s.1 b k n → Kept R s'.1 b k n) := by
 rcases hP.two with ⟨e1, k1, q1⟩ | ⟨e1, k1, q1⟩
 ·have hF := putS_fact (ph := ph) Wl 0 s hA hK (by omega) hb
  rw [← q1] at hF
  refine ⟨e1, ⟨hF.kept, hl, fun q x hq => ?_⟩, fun b k n V hn ⟨h1, h2, h3⟩ => ⟨hF.up _ _ _ h1, h2, fun q x hq => ?_⟩, hF.up⟩
  ·have := hF.in_ q x hq
   rwa [show (0 + q : Nat) = q by omega] at this
  ·have hql : q < V.length := by
    rcases Nat.lt_or_ge q V.length with h | h
    ·exact h
    ·rw [List.getElem?_eq_none h] at hq; cases hq
   exact (loaded_of (hF.up _ _ _ h1) ⟨by omega, by omega⟩ (hF.oth b q x hn (.ok k n x h1 ⟨by omega, by omega⟩ (h3 q x hq)))).2
 ·exact absurd hK k1
theorem TR.hld {kd ln : Int} {fs : List Int → List Int} {Wl : List Int} {R : List Rw} {ws : List Int} {a f : Int} {y : List Int} (hH : Hld R ws a kd ln Wl) (hT : TR kd ln fs R ws a f y) : f = 0 ∧ y = fs Wl := by
 obtain ⟨hK, hl, hw⟩ := hH
 cases hT with
 | no h => exact absurd hK h
 | ok X h hX =>
  refine ⟨rfl, ?_⟩
  have hXl : (X.length : Int) = ln := lenR_of6 hK hX.1
  have : X = Wl := by
   apply List.ext_getElem?
   intro j
   by_cases hj : j < Wl.length
   ·obtain ⟨x, hx⟩ : ∃ x, X[j]? = some x := ⟨_, List.getElem?_eq_getElem (by omega)⟩
    have h1 := (loaded_of hK ⟨by omega, by omega⟩ (hX.2 j x hx)).2
    have h2 := hw j _ (List.getElem?_eq_getElem hj)
    rw [h1] at h2
    rw [hx, List.getElem?_eq_getElem hj, Option.some.inj h2]
   ·rw [List.getElem?_eq_none (by omega), List.getElem?_eq_none (by omega)]
  rw [this]
inductive Look (R : List Rw) (ws : List Int) (x0 x2 x3 x4 : Int) : LV → Prop
 | none (h : ¬ (0 < x0 ∧ Kept R ws x4 2 x0)) : Look R ws x0 x2 x3 x4 (.iface 200 (.agg []))
 | row (s k : Int) (h0 : 0 < x0) (h : Kept R ws x4 2 x0) (hs : s = (max x3 0) % x0) (hk : k = max x2 0) : Look R ws x0 x2 x3 x4 (.iface 173 (.agg [i6 x4, i6 x0, i6 s, i6 k]))
theorem ringLook_lx (R : List Rw) (ws C G : List Int) (N W ph sp cy : Int) (L D Q : List PV) (z : ByteArray) (ov : Bool) (h : HM R ws C G N W L D Q z) (x0 x1 x2 x3 x4 x5 x6 x7 x8 : Int) : CallF (fun _ => Tryz.prog) 136 [.ptr 0 (.lit 0), .agg [i6 x0, i6 x1, i6 x2, i6 x3, i6 x4, i6 x5, i6 x6, i6 x7, i6 x8]] [hpA 0 1 5 6 3 W ph sp cy, hpB 1 2 4 3 W, hpC 2 3 214 2 N, hpP 3 L, hpP 4 D, hpF 5 z ov, hpP 6 Q] 7 (fun r h n => Look R ws x0 x2 x3 x4 r ∧ h = [hpA 0 1 5 6 3 W ph sp cy, hpB 1 2 4 3 W, hpC 2 3 214 2 N, hpP 3 L, hpP 4 D, hpF 5 z ov, hpP 6 Q] ∧ n = 7) := by
 refine callF_of_body tok Tryz.func136 (by kernel_rfl) rfl rfl rfl ?_; conv => cbv
 refine drawn_sound tok (by kernel_rfl) [(5, [7, 6]), (8, []), (13, [18, 17, 15, 14]), (16, [18, 17])] [0, 1, 2, 3, 4, 6, 7, 5, 8, 9, 10, 11, 12, 14, 15, 17, 18, 13, 16, 19, 20] (by kernel_rfl) ?_; conv => cbv
 refine Br.mk (fun g0 => ?_) (fun g0 => ?_)
 ·have g0 : x0 ≤ 0 := g0
  conv => cbv
  refine RetF.mk [.iface 200 (.agg [])] [hpA 0 1 5 6 3 W ph sp cy, hpB 1 2 4 3 W, hpC 2 3 214 2 N, hpP 3 L, hpP 4 D, hpF 5 z ov, hpP 6 Q] 7 (Re.at [(0, 0), (1, 1), (2, 2), (3, 3), (4, 4), (5, 5), (6, 6)] []) rfl ⟨.none (fun ⟨q1, q2⟩ => absurd q1 (by omega)), rfl, rfl⟩
 ·have g0 : ¬ x0 ≤ 0 := g0
  conv => cbv
  refine cfr (arena_lx R ws C G N W ph sp cy L D Q z ov) [(0, 0), (1, 1), (2, 2), (3, 3), (4, 4), (5, 5), (6, 6)] (fun r h' n' ⟨e1, e2, e3⟩ => ?_)
  subst e1 e2 e3
  conv => cbv
  refine cfr (kind_lx R ws N x4 W L D h.l h.d h.n h.r h.a h.w) [(0, 1), (1, 2), (2, 3), (3, 4)] (fun r h' n' hrr => ?_)
  obtain ⟨v, e1, e2, e3, hv⟩ := hrr
  subst e1 e2 e3
  conv => cbv
  refine Br.mk (fun g1 => ?_) (fun g1 => ?_)
  ·have g1 : ¬ v = 2 := g1
   conv => cbv
   refine RetF.mk [.iface 200 (.agg [])] [hpA 0 1 5 6 3 W ph sp cy, hpB 1 2 4 3 W, hpC 2 3 214 2 N, hpP 3 L, hpP 4 D, hpF 5 z ov, hpP 6 Q] 7 (Re.at [(0, 0), (1, 1), (2, 2), (3, 3), (4, 4), (5, 5), (6, 6)] []) rfl ⟨.none (fun ⟨q1, q2⟩ => g1 (kindR_of6 q2 hv)), rfl, rfl⟩
  ·have g1 : ¬ ¬ v = 2 := g1
   have g1 : v = 2 := Classical.not_not.1 g1
   conv => cbv
   refine cfr (arena_lx R ws C G N W ph sp cy L D Q z ov) [(0, 0), (1, 1), (2, 2), (3, 3), (4, 4), (5, 5), (6, 6)] (fun r h' n' ⟨e1, e2, e3⟩ => ?_)
   subst e1 e2 e3
   conv => cbv
   refine cfr (len_lx R ws N x4 W L D h.l h.d h.n h.r h.a h.w) [(0, 1), (1, 2), (2, 3), (3, 4)] (fun r h' n' hrr => ?_)
   obtain ⟨l, e1, e2, e3, hl⟩ := hrr
   subst e1 e2 e3
   conv => cbv
   refine Br.mk (fun g2 => ?_) (fun g2 => ?_)
   ·have g2 : ¬ l = x0 := g2
    conv => cbv
    refine RetF.mk [.iface 200 (.agg [])] [hpA 0 1 5 6 3 W ph sp cy, hpB 1 2 4 3 W, hpC 2 3 214 2 N, hpP 3 L, hpP 4 D, hpF 5 z ov, hpP 6 Q] 7 (Re.at [(0, 0), (1, 1), (2, 2), (3, 3), (4, 4), (5, 5), (6, 6)] []) rfl ⟨.none (fun ⟨q1, q2⟩ => g2 (lenR_of6 q2 hl)), rfl, rfl⟩
   ·have g2 : ¬ ¬ l = x0 := g2
    have g2 : l = x0 := Classical.not_not.1 g2
    conv => cbv
    have hK : Kept R ws x4 2 x0 := by
     cases hv with
     | no hn => exact absurd g1 (by decide)
     | is k l2 hK2 =>
      have := lenR_of6 hK2 hl
      rw [← g1, ← g2, this]
      exact hK2
    refine drawn_sound tok (by kernel_rfl) [] [0, 1, 2, 3, 4, 5, 6, 7, 8, 9, 10, 11, 12, 13, 14, 15] (by kernel_rfl) ?_; conv => cbv
    refine Br.mk (fun gA => ?_) (fun gA => ?_)
    ·have gA : x3 < 0 := gA
     conv => cbv
     refine Need.mk (show x0 ≠ 0 by omega) ?_
     conv => cbv
     refine Sum.mk fun sv hsv => ?_
     have hs : sv = (max x3 0) % x0 := (show sv = (0 : Int).tmod x0 from hsv).trans (by rw [Int.tmod_eq_emod_of_nonneg (by omega), show max x3 0 = (0 : Int) by omega])
     clear hsv
     conv => cbv
     refine Br.mk (fun gB => ?_) (fun gB => ?_)
     ·have gB : x2 < 0 := gB
      have hk : max x2 0 = (0 : Int) := by omega
      conv => cbv
      refine RetF.mk [.iface 173 (.agg [i6 x4, i6 x0, i6 sv, i6 (0 : Int)])] [hpA 0 1 5 6 3 W ph sp cy, hpB 1 2 4 3 W, hpC 2 3 214 2 N, hpP 3 L, hpP 4 D, hpF 5 z ov, hpP 6 Q] 7 (Re.at [(0, 0), (1, 1), (2, 2), (3, 3), (4, 4), (5, 5), (6, 6)] []) rfl ⟨.row sv (0 : Int) (by omega) hK hs hk.symm, rfl, rfl⟩
     ·have gB : ¬ x2 < 0 := gB
      have hk : max x2 0 = x2 := by omega
      conv => cbv
      refine RetF.mk [.iface 173 (.agg [i6 x4, i6 x0, i6 sv, i6 x2])] [hpA 0 1 5 6 3 W ph sp cy, hpB 1 2 4 3 W, hpC 2 3 214 2 N, hpP 3 L, hpP 4 D, hpF 5 z ov, hpP 6 Q] 7 (Re.at [(0, 0), (1, 1), (2, 2), (3, 3), (4, 4), (5, 5), (6, 6)] []) rfl ⟨.row sv x2 (by omega) hK hs hk.symm, rfl, rfl⟩
    ·have gA : ¬ x3 < 0 := gA
     conv => cbv
     refine Need.mk (show x0 ≠ 0 by omega) ?_
     conv => cbv
     refine Sum.mk fun sv hsv => ?_
     have hs : sv = (max x3 0) % x0 := (show sv = x3.tmod x0 from hsv).trans (by rw [Int.tmod_eq_emod_of_nonneg (by omega), show max x3 0 = x3 by omega])
     clear hsv
     conv => cbv
     refine Br.mk (fun gB => ?_) (fun gB => ?_)
     ·have gB : x2 < 0 := gB
      have hk : max x2 0 = (0 : Int) := by omega
      conv => cbv
      refine RetF.mk [.iface 173 (.agg [i6 x4, i6 x0, i6 sv, i6 (0 : Int)])] [hpA 0 1 5 6 3 W ph sp cy, hpB 1 2 4 3 W, hpC 2 3 214 2 N, hpP 3 L, hpP 4 D, hpF 5 z ov, hpP 6 Q] 7 (Re.at [(0, 0), (1, 1), (2, 2), (3, 3), (4, 4), (5, 5), (6, 6)] []) rfl ⟨.row sv (0 : Int) (by omega) hK hs hk.symm, rfl, rfl⟩
     ·have gB : ¬ x2 < 0 := gB
      have hk : max x2 0 = x2 := by omega
      conv => cbv
      refine RetF.mk [.iface 173 (.agg [i6 x4, i6 x0, i6 sv, i6 x2])] [hpA 0 1 5 6 3 W ph sp cy, hpB 1 2 4 3 W, hpC 2 3 214 2 N, hpP 3 L, hpP 4 D, hpF 5 z ov, hpP 6 Q] 7 (Re.at [(0, 0), (1, 1), (2, 2), (3, 3), (4, 4), (5, 5), (6, 6)] []) rfl ⟨.row sv x2 (by omega) hK hs hk.symm, rfl, rfl⟩
theorem ringPlace_lx (b n s k i : Int) (hn : 0 < n) (hs : 0 ≤ s ∧ s ≤ 1000000) (hi : 0 ≤ i ∧ i ≤ 4611686018427387903) : CallF (fun _ => Tryz.prog) 137 [.agg [i6 b, i6 n, i6 s, i6 k], i6 i] [] 0 (fun r h n' => (∃ v : Int, r = .p (.int .i64 (.sym v)) ∧ v = (s + i) % n) ∧ h = [] ∧ n' = 0) := by
 refine callF_of_body tok Tryz.func137 (by kernel_rfl) rfl rfl rfl ?_; conv => cbv
 refine Fit.mk (by show (-9223372036854775808 : Int) ≤ s + i; omega) (by show s + i ≤ 9223372036854775807; omega) fun u hu => ?_
 have hu : u = s + i := hu
 conv => cbv
 refine Need.mk (show n ≠ 0 by omega) ?_
 conv => cbv
 refine Sum.mk fun v hv => ?_
 have hv : v = (s + i) % n := (show v = u.tmod n from hv).trans (by rw [hu, Int.tmod_eq_emod_of_nonneg (by omega)])
 conv => cbv
 refine RetF.mk [i6 v] [] 0 (Re.at [] []) rfl ⟨⟨v, rfl, hv⟩, rfl, rfl⟩
theorem chanFs_b62 : ∀ {X : List Int} {y0 y1 y2 y3 y4 y5 y6 y7 y8 : Int}, chanFs X = [y0, y1, y2, y3, y4, y5, y6, y7, y8] → (∀ x ∈ X, -9223372036854775808 ≤ x ∧ x ≤ 9223372036854775807) → ∀ x ∈ [y0, y1, y2, y3, y4, y5, y6, y7, y8], b62 x := by
 intro X y0 y1 y2 y3 y4 y5 y6 y7 y8 h hb
 match X, h with
 | [x0, x1, x2, x3, x4, x5, x6, x7, x8], h =>
  simp only [chanFs, List.cons.injEq, and_true] at h
  obtain ⟨rfl, rfl, rfl, rfl, rfl, rfl, rfl, rfl, rfl⟩ := h
  simp only [List.forall_mem_cons] at hb ⊢
  obtain ⟨q0, q1, q2, q3, q4, q5, q6, q7, q8, _⟩ := hb
  exact ⟨b62_num q0, b62_num q1, b62_num q2, b62_num q3, b62_at q4, b62_at q5, b62_at q6, b62_at q7, b62_at q8, fun x hx => by cases hx⟩
inductive RPut (R : List Rw) (ph a w : Int) (s : St4) : Int → St4 → Prop
 | no (h : ¬ Kept R s.1 a 1 9) : RPut R ph a w s 10 s
 | full (X : List Int) (y0 y1 y2 y3 y4 y5 y6 y7 y8 : Int) (h : Kept R s.1 a 1 9) (hX : Wrds R s.1 a X) (hy : [y0, y1, y2, y3, y4, y5, y6, y7, y8] = chanFs X) (hf : ¬ ((0 < y0 ∧ Kept R s.1 y4 2 y0) ∧ max y2 0 < y0)) : RPut R ph a w s 9 s
 | ok (X : List Int) (y0 y1 y2 y3 y4 y5 y6 y7 y8 : Int) (h : Kept R s.1 a 1 9) (hX : Wrds R s.1 a X) (hy : [y0, y1, y2, y3, y4, y5, y6, y7, y8] = chanFs X) (h0 : 0 < y0) (hK : Kept R s.1 y4 2 y0) (hf : max y2 0 < y0) (f e : Int) (ws1 : List Int) (c1 : List Int × List Int × Bool) (s' : St4) (hst : Stored R s.1 y4 ((max y3 0 % y0 + max y2 0) % y0) w f ws1) (hc : c1 = storeS R ph f w s.2) (hP : PT 1 9 (chanWs [y0, y1, max y2 0 + 1, y3, y4, y5, y6, y7, y8]) R ph a (ws1, c1) e s') : RPut R ph a w s e s'
theorem ringPut_lx (R : List Rw) (ws C G : List Int) (N W ph sp cy : Int) (L D Q : List PV) (z : ByteArray) (ov : Bool) (h : HM R ws C G N W L D Q z) (o : Unit → Obj) (ho : IsPow o) (a w : Int) (hw : -9223372036854775808 ≤ w ∧ w ≤ 9223372036854775807) : CallF (fun _ => Tryz.prog) 84 [.ptr 0 (.lit 0), i6 a, i6 w] [hpA 0 1 5 6 3 W ph sp cy, hpB 1 2 4 3 W, hpC 2 3 214 2 N, hpP 3 L, hpP 4 D, hpF 5 z ov, hpP 6 Q, (7, .fix 0 o)] 8 (fun r h n => ∃ (e : Int) (ws' C' G' : List Int) (ov' : Bool) (D' Q' : List PV) (z' : ByteArray), r = .p (.int .i64 (.sym e)) ∧ h = [hpA 0 1 5 6 3 W ph sp cy, hpB 1 2 4 3 W, hpC 2 3 214 2 N, hpP 3 L, hpP 4 D', hpF 5 z' ov', hpP 6 Q', (7, .fix 0 o)] ∧ n = 8 ∧ HM R ws' C' G' N W L D' Q' z' ∧ RPut R ph a w (ws, C, G, ov) e (ws', C', G', ov')) := by
 refine callF_of_body tok Tryz.func84 (by kernel_rfl) rfl rfl rfl ?_; conv => cbv
 refine cfr (chan_lx R ws C G N W ph sp cy L D Q z ov h a) [(0, 0), (1, 1), (2, 2), (3, 3), (4, 4), (5, 5), (6, 6)] (fun r h' n' hrr => ?_)
 obtain ⟨⟨y0, y1, y2, y3, y4, y5, y6, y7, y8, e, e1, hT⟩, e2, e3⟩ := hrr
 subst e1 e2 e3
 conv => cbv
 refine Br.mk (fun ge => ?_) (fun ge => ?_)
 ·have ge : ¬ e = 0 := ge
  have hno : ¬ Kept R ws a 1 9 ∧ e = 10 := by
   rcases hT.two with ⟨q1, _⟩ | ⟨q1, q2⟩
   ·exact absurd q1 ge
   ·exact ⟨q2, q1⟩
  obtain ⟨hno, he⟩ := hno
  have hR : RPut R ph a w (ws, C, G, ov) e (ws, C, G, ov) := by rw [he]; exact .no hno
  conv => cbv
  refine RetF.mk [i6 e] [hpA 0 1 5 6 3 W ph sp cy, hpB 1 2 4 3 W, hpC 2 3 214 2 N, hpP 3 L, hpP 4 D, hpF 5 z ov, hpP 6 Q, (7, .fix 0 o)] 8 (Re.at [(0, 0), (1, 1), (2, 2), (3, 3), (4, 4), (5, 5), (6, 6), (7, 7)] []) rfl ⟨e, ws, C, G, ov, D, Q, z, rfl, rfl, rfl, h, hR⟩
 ·have ge : ¬ ¬ e = 0 := ge
  have ge : e = 0 := Classical.not_not.1 ge
  obtain ⟨X, hKa, hX, hy⟩ : ∃ X, Kept R ws a 1 9 ∧ Wrds R ws a X ∧ [y0, y1, y2, y3, y4, y5, y6, y7, y8] = chanFs X := by
   generalize hyy : [y0, y1, y2, y3, y4, y5, y6, y7, y8] = yy at hT
   cases hT with
   | ok X h hX => exact ⟨X, h, hX, rfl⟩
   | no h => exact absurd ge (by decide)
  clear hT
  have hyb := chanFs_b62 hy.symm (hX.bd h.a)
  conv => cbv
  refine cfr (ringLook_lx R ws C G N W ph sp cy L D Q z ov h y0 y1 y2 y3 y4 y5 y6 y7 y8) [(0, 0), (1, 1), (2, 2), (3, 3), (4, 4), (5, 5), (6, 6)] (fun r h' n' hrr => ?_)
  obtain ⟨hL, e2, e3⟩ := hrr
  subst e2 e3
  cases hL with
  | none hn =>
   have hR : RPut R ph a w (ws, C, G, ov) 9 (ws, C, G, ov) := .full X y0 y1 y2 y3 y4 y5 y6 y7 y8 hKa hX hy (fun q => hn q.1)
   conv => cbv
   refine RetF.mk [i6 9] [hpA 0 1 5 6 3 W ph sp cy, hpB 1 2 4 3 W, hpC 2 3 214 2 N, hpP 3 L, hpP 4 D, hpF 5 z ov, hpP 6 Q, (7, .fix 0 o)] 8 (Re.at [(0, 0), (1, 1), (2, 2), (3, 3), (4, 4), (5, 5), (6, 6), (7, 7)] []) rfl ⟨9, ws, C, G, ov, D, Q, z, rfl, rfl, rfl, h, hR⟩
  | row s k h0 hK hs hk =>
   have hbd := hK.bounds h.a
   have hs0 : 0 ≤ s ∧ s ≤ 1000000 := by
    rw [hs]
    have q1 := Int.emod_nonneg (max y3 0) (show y0 ≠ 0 by omega)
    have q2 := Int.emod_lt_of_pos (max y3 0) h0
    omega
   have hk0 : 0 ≤ k := by omega
   conv => cbv
   refine Br.mk (fun gk => ?_) (fun gk => ?_)
   ·have gk : y0 ≤ k := gk
    have hR : RPut R ph a w (ws, C, G, ov) 9 (ws, C, G, ov) := .full X y0 y1 y2 y3 y4 y5 y6 y7 y8 hKa hX hy (fun q => by omega)
    conv => cbv
    refine RetF.mk [i6 9] [hpA 0 1 5 6 3 W ph sp cy, hpB 1 2 4 3 W, hpC 2 3 214 2 N, hpP 3 L, hpP 4 D, hpF 5 z ov, hpP 6 Q, (7, .fix 0 o)] 8 (Re.at [(0, 0), (1, 1), (2, 2), (3, 3), (4, 4), (5, 5), (6, 6), (7, 7)] []) rfl ⟨9, ws, C, G, ov, D, Q, z, rfl, rfl, rfl, h, hR⟩
   ·have gk : ¬ y0 ≤ k := gk
    conv => cbv
    refine drawn_sound tok (by kernel_rfl) [(6, [7, 2, 1, 0]), (8, [])] [0, 1, 2, 3, 4, 5, 7, 6, 8] (by kernel_rfl) ?_; conv => cbv
    refine callF_frame (ringPlace_lx y4 y0 s k k h0 hs0 (by omega)) [] rfl trivial rfl rfl (fun r h' n' hrr => ?_)
    obtain ⟨⟨v, e1, hv⟩, e2, e3⟩ := hrr
    subst e1 e2 e3
    conv => cbv
    refine cfr (store9_lx R ws C G N W ph sp cy L D Q z ov h o ho y4 v w hw) [(0, 0), (1, 1), (2, 2), (3, 3), (4, 4), (5, 5), (6, 6), (7, 7)] (fun r h' n' hrr => ?_)
    obtain ⟨f, ws1, C1, G1, ov1, D1, Q1, z1, e1, e2, e3, h1, hst, hc⟩ := hrr
    subst e1 e2 e3
    conv => cbv
    refine Fit.mk (by show (-9223372036854775808 : Int) ≤ k + 1; omega) (by show k + 1 ≤ 9223372036854775807; omega) fun k1 hk1 => ?_
    have hk1 : k1 = k + 1 := hk1
    have hyb1 : ∀ x ∈ [y0, y1, k1, y3, y4, y5, y6, y7, y8], b62 x := by
     simp only [List.forall_mem_cons] at hyb ⊢
     obtain ⟨q0, q1, q2, q3, q4, q5, q6, q7, q8, _⟩ := hyb
     exact ⟨q0, q1, by unfold b62; omega, q3, q4, q5, q6, q7, q8, fun x hx => by cases hx⟩
    conv => cbv
    refine cfr (putChan_lx R ws1 C1 G1 N W ph sp cy L D1 Q1 z1 ov1 h1 o ho a y0 y1 k1 y3 y4 y5 y6 y7 y8 hyb1) [(0, 0), (1, 1), (2, 2), (3, 3), (4, 4), (5, 5), (6, 6), (7, 7)] (fun r h' n' hrr => ?_)
    obtain ⟨e', ws2, C2, G2, ov2, D2, Q2, z2, e1, e2, e3, h2, hP⟩ := hrr
    subst e1 e2 e3
    have hR : RPut R ph a w (ws, C, G, ov) e' (ws2, C2, G2, ov2) := by
     refine .ok X y0 y1 y2 y3 y4 y5 y6 y7 y8 hKa hX hy h0 hK (by omega) f e' ws1 (C1, G1, ov1) _ ?_ hc ?_
     ·rw [← hs, ← hk, ← hv]; exact hst
     ·rw [← hk, ← hk1]; exact hP
    conv => cbv
    refine RetF.mk [i6 e'] [hpA 0 1 5 6 3 W ph sp cy, hpB 1 2 4 3 W, hpC 2 3 214 2 N, hpP 3 L, hpP 4 D2, hpF 5 z2 ov2, hpP 6 Q2, (7, .fix 0 o)] 8 (Re.at [(0, 0), (1, 1), (2, 2), (3, 3), (4, 4), (5, 5), (6, 6), (7, 7)] []) rfl ⟨e', ws2, C2, G2, ov2, D2, Q2, z2, rfl, rfl, rfl, h2, hR⟩
def wdsK (k : Int) (F : List Int) : List Int := if k = 1 then chanWs F else if k = 3 then sudogWs F else if k = 4 then gorWs F else F
def fdsK (k : Int) (F : List Int) : List Int := if k = 1 then chanFs F else if k = 3 then sudogFs F else if k = 4 then gorFs F else F
structure FOk (k : Int) (F : List Int) : Prop where
 back : fdsK k (wdsK k F) = F
 len : (wdsK k F).length = F.length
abbrev Hp := Int → Option (Int × List Int)
def upd (M : Hp) (a : Int) (v : Int × List Int) : Hp := fun b => if b = a then some v else M b
theorem upd_same (M : Hp) (a : Int) (v : Int × List Int) : upd M a v a = some v := if_pos rfl
theorem upd_ne {M : Hp} {a b : Int} {v : Int × List Int} (h : b ≠ a) : upd M a v b = M b := if_neg h
structure Cont (R : List Rw) (ws : List Int) (M : Hp) : Prop where
 up : ∀ a k F, M a = some (k, F) → FOk k F ∧ Hld R ws a k F.length (wdsK k F)
 dn : ∀ a k l, Kept R ws a k l → ∃ F, M a = some (k, F)
theorem Cont.kept {R : List Rw} {ws : List Int} {M : Hp} (h : Cont R ws M) {a k : Int} {F : List Int} (hM : M a = some (k, F)) : Kept R ws a k F.length := (h.up a k F hM).2.1
theorem Cont.not {R : List Rw} {ws : List Int} {M : Hp} (h : Cont R ws M) {a k l : Int} (hM : ∀ F, M a ≠ some (k, F)) : ¬ Kept R ws a k l := fun hK => by
 obtain ⟨F, hF⟩ := h.dn a k l hK
 exact hM F hF
theorem Cont.put {kd ln : Int} {Wl F F' : List Int} {R : List Rw} {ph a e : Int} {s s' : St4} {M : Hp} (h : Cont R s.1 M) (hA : AOk R s.1) (hM : M a = some (kd, F)) (hln : (F.length : Int) = ln) (hW : Wl = wdsK kd F') (hF : FOk kd F') (hl : (F'.length : Int) = ln) (hb : ∀ x ∈ Wl, -9223372036854775808 ≤ x ∧ x ≤ 9223372036854775807) (hP : PT kd ln Wl R ph a s e s') : e = 0 ∧ Cont R s'.1 (upd M a (kd, F')) := by
 subst hW
 have hK := h.kept hM
 rw [hln] at hK
 obtain ⟨e1, h1, h2, h3⟩ := hP.hld hA hK (by rw [hF.len]; exact hl) hb
 refine ⟨e1, fun b k G hG => ?_, fun b k l hB => ?_⟩
 ·by_cases q : b = a
  ·subst q
   rw [upd_same] at hG
   cases hG
   exact ⟨hF, by rw [hl]; exact h1⟩
  ·rw [upd_ne q] at hG
   obtain ⟨g1, g2⟩ := h.up b k G hG
   exact ⟨g1, h2 b _ _ _ q g2⟩
 ·by_cases q : b = a
  ·subst q
   obtain ⟨rfl, rfl⟩ := hB.det9 h1.1
   exact ⟨F', upd_same _ _ _⟩
  ·rw [upd_ne q]
   rcases hP.two with ⟨_, _, q1⟩ | ⟨_, q1, _⟩
   ·have hF2 := putS_fact (ph := ph) (wdsK kd F') 0 s hA hK (by rw [hF.len]; omega) hb
    rw [← q1] at hF2
    by_cases hob : IsObj R b
    ·obtain ⟨k2, l2, hK2⟩ := Kept.of hA hob
     obtain ⟨rfl, rfl⟩ := hB.det9 (hF2.up _ _ _ hK2)
     exact h.dn b k l hK2
    ·exact absurd hB.obj6 hob
   ·exact absurd hK q1
theorem Cont.tr {kd ln f a : Int} {fs : List Int → List Int} {R : List Rw} {ws y F : List Int} {M : Hp} (h : Cont R ws M) (hM : M a = some (kd, F)) (hfs : fs (wdsK kd F) = fdsK kd (wdsK kd F)) (hln : (F.length : Int) = ln) (hT : TR kd ln fs R ws a f y) : f = 0 ∧ y = F := by
 obtain ⟨h1, h2⟩ := h.up a kd F hM
 rw [hln] at h2
 obtain ⟨e1, e2⟩ := hT.hld h2
 exact ⟨e1, by rw [e2, hfs, h1.back]⟩
theorem Cont.tr_no {kd ln f a : Int} {fs : List Int → List Int} {R : List Rw} {ws y : List Int} {M : Hp} (h : Cont R ws M) (hM : ∀ F, M a ≠ some (kd, F)) (hT : TR kd ln fs R ws a f y) : f = 10 ∧ y = List.replicate ln.toNat 0 := by
 cases hT with
 | ok X hK _ => exact absurd hK (h.not hM)
 | no _ => exact ⟨rfl, rfl⟩
def zerK (k : Int) (n : Nat) : List Int := if k = 1 then [0, 0, 0, 0, -1, -1, -1, -1, -1] else if k = 3 then [-1, -1, 0, -1, 0, 0, -1] else if k = 4 then [0, 0, 0, 0, 0, 0, 0, 0, 0, -1] else List.replicate n 0
def lenK (k : Int) (n : Nat) : Prop := (k = 1 → n = 9) ∧ (k = 3 → n = 7) ∧ (k = 4 → n = 10)
theorem zerK_wds {k : Int} {n : Nat} (h : lenK k n) : wdsK k (zerK k n) = List.replicate n 0 ∧ fdsK k (List.replicate n 0) = zerK k n ∧ (zerK k n).length = n := by
 obtain ⟨h1, h3, h4⟩ := h
 unfold wdsK fdsK zerK
 by_cases q1 : k = 1
 ·subst q1; rw [h1 rfl]; decide
 ·by_cases q3 : k = 3
  ·subst q3; rw [h3 rfl]; decide
  ·by_cases q4 : k = 4
   ·subst q4; rw [h4 rfl]; decide
   ·simp [q1, q3, q4]
theorem zerK_ok {k : Int} {n : Nat} (h : lenK k n) : FOk k (zerK k n) := by
 obtain ⟨h1, h2, h3⟩ := zerK_wds h
 exact ⟨by rw [h1, h2], by rw [h1, h3, List.length_replicate]⟩
theorem Cont.alloc {R R' : List Rw} {ws ws' : List Int} {kind n a e : Int} {M : Hp} (h : Cont R ws M) (hA : AOk R ws) (hr : objCount R < R.length) (hk : 0 ≤ n ∧ n ≤ 31 ∧ 1 ≤ kind ∧ kind ≤ 6) (hlen : lenK kind n.toNat) (hs : Alloct R ws kind n a e R' ws') : e = 0 ∧ Cont R' ws' (upd M a (kind, zerK kind n.toNat)) ∧ objCount R' = objCount R + 1 ∧ M a = none ∧ 0 ≤ a ∧ a < 32 * R.length ∧ R'.length = R.length := by
 have he : e = 0 := by have := alloct_err hA hs hr; rw [if_pos hk] at this; exact this
 obtain ⟨h1, h2, h3, h4, h5, h6, h7⟩ := alloct_ok hA hs he
 obtain ⟨hA', hlR⟩ := hA.alloct hs
 have hb := h1.bounds hA'
 obtain ⟨z1, z2, z3⟩ := zerK_wds hlen
 have hn : M a = Option.none := by
  cases q : M a with
  | none => rfl
  | some v => exact absurd (h.kept (k := v.1) (F := v.2) q).obj6 h2
 refine ⟨he, ⟨fun b k G hG => ?_, fun b k l hB => ?_⟩, h3, hn, hb.1, by omega, hlR⟩
 ·by_cases q : b = a
  ·subst q
   rw [upd_same] at hG
   cases hG
   refine ⟨zerK_ok hlen, ?_⟩
   rw [z1, z3]
   refine ⟨by rw [Int.toNat_of_nonneg hk.1]; exact h1, by rw [List.length_replicate], fun q x hq => ?_⟩
   obtain ⟨hq1, hq2⟩ := List.getElem?_eq_some_iff.1 hq
   rw [List.length_replicate] at hq1
   rw [List.getElem_replicate] at hq2
   rw [← hq2]
   exact h4 q (by omega) (by omega)
  ·rw [upd_ne q] at hG
   obtain ⟨g1, g2, g3, g4⟩ := h.up b k G hG
   refine ⟨g1, h5 _ _ _ g2, g3, fun j x hj => ?_⟩
   have hj1 : j < (wdsK k G).length := (List.getElem?_eq_some_iff.1 hj).1
   rw [h7 b k _ j g2 (by omega) (by omega)]
   exact g4 j x hj
 ·by_cases q : b = a
  ·subst q
   obtain ⟨rfl, _⟩ := hB.det9 h1
   exact ⟨_, upd_same _ _ _⟩
  ·rw [upd_ne q]
   rcases h6 b hB.obj6 with q1 | q1
   ·exact absurd q1 q
   ·obtain ⟨k2, l2, hK2⟩ := Kept.of hA q1
    obtain ⟨rfl, rfl⟩ := hB.det9 (h5 b k2 l2 hK2)
    exact h.dn b k l hK2
theorem Cont.new (n m : Nat) : Cont (List.replicate n ((0, []) : Rw)) (List.replicate m 0) (fun _ => Option.none) :=
 ⟨fun a k F hF => (by cases hF), fun a k l hK => absurd hK.obj6 (new_none n a)⟩
theorem Cont.store {R : List Rw} {ws ws' : List Int} {a i x e k : Int} {F : List Int} {M : Hp} (h : Cont R ws M) (hA : AOk R ws) (hM : M a = some (k, F)) (hk : k ≠ 1 ∧ k ≠ 3 ∧ k ≠ 4) (hi : 0 ≤ i ∧ i < F.length) (hx : -9223372036854775808 ≤ x ∧ x ≤ 9223372036854775807) (hS : Stored R ws a i x e ws') : e = 0 ∧ Cont R ws' (upd M a (k, F.set i.toNat x)) := by
 have hK := h.kept hM
 have hw : ∀ G, wdsK k G = G := fun G => by unfold wdsK; rw [if_neg hk.1, if_neg hk.2.1, if_neg hk.2.2]
 have hf : ∀ G, fdsK k G = G := fun G => by unfold fdsK; rw [if_neg hk.1, if_neg hk.2.1, if_neg hk.2.2]
 have hbd := hK.bounds hA
 have hlw := hA.len
 obtain ⟨e0, hdef⟩ : e = 0 ∧ ws' = ws.set (a + 1 + i).toNat x := by
  cases hS with
  | none hn => exact absurd hK.obj6 hn
  | arg k2 l2 hK2 hi2 => obtain ⟨rfl, rfl⟩ := hK2.det9 hK; exact absurd hi hi2
  | ok k2 l2 hK2 hi2 => exact ⟨rfl, rfl⟩
 have hSt : Stored R ws a i x 0 ws' := by rw [hdef]; exact .ok k _ hK hi
 have hS2 := putS_fact (ph := 0) [x] i.toNat (ws, [], [], false) hA hK (by simp; omega) (by intro y hy; rw [List.mem_singleton.1 hy]; exact hx)
 have hpw : (putS R 0 a i.toNat [x] (ws, [], [], false)).1 = ws' := by
  rw [hdef]
  show (if ws[(a + 1 + (i.toNat : Nat)).toNat]? = some x then _ else _ : List Int × (List Int × List Int × Bool)).1 = _
  rw [show (a + 1 + ((i.toNat : Nat) : Int)) = a + 1 + i by omega]
  split
  ·rename_i q
   show ws = _
   obtain ⟨q1, q2⟩ := List.getElem?_eq_some_iff.1 q
   rw [← q2]
   exact (List.set_getElem_self q1).symm
  ·rfl
 rw [hpw] at hS2
 refine ⟨e0, fun b k' G hG => ?_, fun b k' l hB => ?_⟩
 ·by_cases q : b = a
  ·subst q
   rw [upd_same] at hG
   cases hG
   refine ⟨⟨by rw [hw, hf], by rw [hw]⟩, by rw [List.length_set]; exact hS2.up _ _ _ hK, by rw [hw], fun j y hj => ?_⟩
   rw [hw] at hj
   have hj1 := (List.getElem?_eq_some_iff.1 hj).1
   rw [List.length_set] at hj1
   obtain ⟨_, _, _, h4⟩ := h.up b k F hM
   rw [hw] at h4
   rw [hdef]
   by_cases qj : j = i.toNat
   ·subst qj
    rw [List.getElem?_set_self (by omega)] at hj
    rw [show (b + 1 + ((i.toNat : Nat) : Int)) = b + 1 + i by omega, List.getElem?_set_self (by omega)]
    exact hj
   ·rw [List.getElem?_set_ne (fun q => qj q.symm)] at hj
    rw [List.getElem?_set_ne (by omega)]
    exact h4 j y hj
  ·rw [upd_ne q] at hG
   obtain ⟨g1, g2, g3, g4⟩ := h.up b k' G hG
   refine ⟨g1, hS2.up _ _ _ g2, g3, fun j y hj => ?_⟩
   have hj1 : j < (wdsK k' G).length := (List.getElem?_eq_some_iff.1 hj).1
   exact (loaded_of (hS2.up _ _ _ g2) ⟨by omega, by omega⟩ (hS2.oth b j y q (.ok k' _ y g2 ⟨by omega, by omega⟩ (g4 j y hj)))).2
 ·have hob : IsObj R b := hB.obj6
  obtain ⟨k2, l2, hK2⟩ := Kept.of hA hob
  obtain ⟨rfl, rfl⟩ := hB.det9 (hS2.up _ _ _ hK2)
  by_cases q : b = a
  ·subst q
   obtain ⟨rfl, _⟩ := hK2.det9 hK
   exact ⟨_, upd_same _ _ _⟩
  ·rw [upd_ne q]
   exact h.dn b _ _ hK2
theorem Cont.sim {R : List Rw} {ws vs : List Int} {M : Hp} (hS : Sim R ws vs) (h : Cont R ws M) : Cont R vs M := by
 refine ⟨fun a k F hF => ?_, fun a k l hK => h.dn a k l (hS.back hK)⟩
 obtain ⟨g1, g2, g3, g4⟩ := h.up a k F hF
 refine ⟨g1, hS.hdr _ _ _ g2, g3, fun q x hq => ?_⟩
 have hq1 : q < (wdsK k F).length := (List.getElem?_eq_some_iff.1 hq).1
 rw [hS.in_ a k _ q g2 (by omega) (by omega)]
 exact g4 q x hq
theorem Cont.len {R : List Rw} {ws : List Int} {M : Hp} (hA : AOk R ws) (h : Cont R ws M) {a k : Int} {F : List Int} (hM : M a = some (k, F)) : F.length < 32 ∧ 0 ≤ a ∧ a + 1 + F.length ≤ 32 * R.length := by
 have := (h.kept hM).bounds hA
 omega
theorem Cont.bd {R : List Rw} {ws : List Int} {M : Hp} (hA : AOk R ws) (h : Cont R ws M) {a k : Int} {F : List Int} (hM : M a = some (k, F)) : ∀ x ∈ wdsK k F, -9223372036854775808 ≤ x ∧ x ≤ 9223372036854775807 := fun x hx => by
 obtain ⟨_, _, _, g4⟩ := h.up a k F hM
 obtain ⟨q, hq⟩ := List.getElem?_of_mem hx
 exact hA.bd x (List.mem_of_getElem? (g4 q x hq))
theorem Cont.toSim {R : List Rw} {ws vs : List Int} {M : Hp} (ha : AOk R ws) (hb : AOk R vs) (h : Cont R ws M) (h' : Cont R vs M) : Sim R ws vs := by
 refine ⟨ha, hb, fun x k l hK => ?_, fun x k l i hK hi0 hi1 => ?_⟩
 ·obtain ⟨F, hF⟩ := h.dn x k l hK
  obtain ⟨_, q⟩ := hK.det9 (h.kept hF)
  rw [q]; exact h'.kept hF
 ·obtain ⟨F, hF⟩ := h.dn x k l hK
  obtain ⟨_, q⟩ := hK.det9 (h.kept hF)
  obtain ⟨g0, _, g1, g2⟩ := h.up x k F hF
  obtain ⟨_, _, _, g3⟩ := h'.up x k F hF
  obtain ⟨y, hy⟩ : ∃ y, (wdsK k F)[i.toNat]? = some y := ⟨_, List.getElem?_eq_getElem (by rw [g0.len]; omega)⟩
  have e1 := g2 _ _ hy
  have e2 := g3 _ _ hy
  rw [show ((i.toNat : Nat) : Int) = i by omega] at e1 e2
  rw [e1, e2]
theorem FOk.chan {x0 x1 x2 x3 x4 x5 x6 x7 x8 : Int} (h : ∀ x ∈ [x4, x5, x6, x7, x8], -1 ≤ x) : FOk 1 [x0, x1, x2, x3, x4, x5, x6, x7, x8] := ⟨chan_back x0 x1 x2 x3 x4 x5 x6 x7 x8 h, rfl⟩
theorem FOk.sudog {x0 x1 x2 x3 x4 x5 x6 : Int} (h : ∀ x ∈ [x0, x1, x3, x6], -1 ≤ x) : FOk 3 [x0, x1, x2, x3, x4, x5, x6] := ⟨sudog_back x0 x1 x2 x3 x4 x5 x6 h, rfl⟩
theorem FOk.gor {x0 x1 x2 x3 x4 x5 x6 x7 x8 x9 : Int} (h : ∀ x ∈ [x9], -1 ≤ x) : FOk 4 [x0, x1, x2, x3, x4, x5, x6, x7, x8, x9] := ⟨gor_back x0 x1 x2 x3 x4 x5 x6 x7 x8 x9 h, rfl⟩
theorem shadeW_idle {R : List Rw} {ph w : Int} (h : ph = 0) (s : List Int × List Int × Bool) : shadeW R ph w s = s := by
 unfold shadeW shade
 split
 ·rw [if_neg (fun q => by have := q.1; omega)]
 ·rfl
theorem putS_idle {R : List Rw} {ph a : Int} (h : ph = 0) : ∀ (l : List Int) (i : Nat) (s : St4), (putS R ph a i l s).2 = s.2
 | [], _, _ => rfl
 | w :: l, i, s => by
  show (putS R ph a (i + 1) l _).2 = s.2
  rw [putS_idle h l]
  split
  ·rfl
  ·exact shadeW_idle h s.2
theorem PT.idle {kd ln : Int} {W : List Int} {R : List Rw} {ph a e : Int} {s s' : St4} (hp : ph = 0) (h : PT kd ln W R ph a s e s') : s'.2 = s.2 := by
 rcases h.two with ⟨_, _, q⟩ | ⟨_, _, q⟩
 ·rw [q, putS_idle hp]
 ·rw [q]
theorem storeS_idle {R : List Rw} {ph e w : Int} (h : ph = 0) (s : List Int × List Int × Bool) : storeS R ph e w s = s := by
 unfold storeS
 split
 ·exact shadeW_idle h s
 ·rfl
theorem HM.still {R R' : List Rw} {ws ws' C C' G G' : List Int} {N W : Int} {L L' D D' Q Q' : List PV} {z z' : ByteArray} {ov ov' : Bool} (h : HM R ws C G N W L D Q z) (h' : HM R' ws' C' G' N W L' D' Q' z') (e : (C', G', ov') = (C, G, ov)) : C' = C ∧ G' = G ∧ ov' = ov ∧ Q' = Q ∧ z' = z := by
 simp only [Prod.mk.injEq] at e
 obtain ⟨e1, e2, e3⟩ := e
 exact ⟨e1, e2, e3, by rw [h'.q, h.q, e1], by rw [h'.z, h.z, e2]⟩
theorem RM.still {R R' : List Rw} {vs vs' C C' G G' : List Int} {N W : Int} {P B V Q la P' B' V' Q' la' : List PV} {m m' : Int} {ov ov' : Bool} (h : RM R vs C G N W P B V Q la m) (h' : RM R' vs' C' G' N W P' B' V' Q' la' m') (e : (C', G', ov') = (C, G, ov)) : C' = C ∧ G' = G ∧ ov' = ov ∧ Q' = Q ∧ la' = la ∧ m' = m := by
 simp only [Prod.mk.injEq] at e
 obtain ⟨e1, e2, e3⟩ := e
 exact ⟨e1, e2, e3, by rw [h'.q, h.q, e1], by rw [h'.l, h.l, e2], by rw [h'.m, h.m, e2]⟩
theorem place_ge {a : Int} (h : atW (plW a) = a) : -1 ≤ a := by
 unfold atW plW at h
 split at h <;> split at h <;> omega
theorem place_b62 {a : Int} (h : -9223372036854775808 ≤ plW a ∧ plW a ≤ 9223372036854775807) (h1 : -1 ≤ a) : b62 a := by
 unfold plW at h
 unfold b62
 split at h <;> omega
theorem Cont.chan {R : List Rw} {ws : List Int} {M : Hp} (hA : AOk R ws) (h : Cont R ws M) {a y0 y1 y2 y3 y4 y5 y6 y7 y8 : Int} (hM : M a = some (1, [y0, y1, y2, y3, y4, y5, y6, y7, y8])) : (∀ x ∈ [y4, y5, y6, y7, y8], -1 ≤ x) ∧ (∀ x ∈ [y0, y1, y2, y3, y4, y5, y6, y7, y8], b62 x) := by
 obtain ⟨hF, _⟩ := h.up a _ _ hM
 have hb : ∀ x ∈ chanWs [y0, y1, y2, y3, y4, y5, y6, y7, y8], -9223372036854775808 ≤ x ∧ x ≤ 9223372036854775807 := h.bd hA hM
 have e : chanFs (chanWs [y0, y1, y2, y3, y4, y5, y6, y7, y8]) = [y0, y1, y2, y3, y4, y5, y6, y7, y8] := hF.back
 simp only [chanWs, chanFs, List.cons.injEq, and_true] at e hb
 simp only [List.forall_mem_cons] at hb
 obtain ⟨e0, e1, e2, e3, e4, e5, e6, e7, e8⟩ := e
 obtain ⟨b0, b1, b2, b3, b4, b5, b6, b7, b8, _⟩ := hb
 have p4 := place_ge e4
 have p5 := place_ge e5
 have p6 := place_ge e6
 have p7 := place_ge e7
 have p8 := place_ge e8
 have c0 : b62 y0 := by unfold b62; omega
 have c1 : b62 y1 := by unfold b62; omega
 have c2 : b62 y2 := by unfold b62; omega
 have c3 : b62 y3 := by unfold b62; omega
 have c4 : b62 y4 := place_b62 b4 p4
 have c5 : b62 y5 := place_b62 b5 p5
 have c6 : b62 y6 := place_b62 b6 p6
 have c7 : b62 y7 := place_b62 b7 p7
 have c8 : b62 y8 := place_b62 b8 p8
 simp only [List.forall_mem_cons]
 exact ⟨⟨p4, p5, p6, p7, p8, fun x hx => by cases hx⟩, ⟨c0, c1, c2, c3, c4, c5, c6, c7, c8, fun x hx => by cases hx⟩⟩
theorem Cont.sudog {R : List Rw} {ws : List Int} {M : Hp} (hA : AOk R ws) (h : Cont R ws M) {a y0 y1 y2 y3 y4 y5 y6 : Int} (hM : M a = some (3, [y0, y1, y2, y3, y4, y5, y6])) : (∀ x ∈ [y0, y1, y3, y6], -1 ≤ x) ∧ (∀ x ∈ [y0, y1, y3, y4, y5, y6], b62 x) ∧ (∀ x ∈ [y2], -9223372036854775808 ≤ x ∧ x ≤ 9223372036854775807) := by
 obtain ⟨hF, _⟩ := h.up a _ _ hM
 have hb : ∀ x ∈ sudogWs [y0, y1, y2, y3, y4, y5, y6], -9223372036854775808 ≤ x ∧ x ≤ 9223372036854775807 := h.bd hA hM
 have e : sudogFs (sudogWs [y0, y1, y2, y3, y4, y5, y6]) = [y0, y1, y2, y3, y4, y5, y6] := hF.back
 simp only [sudogWs, sudogFs, List.cons.injEq, and_true] at e hb
 simp only [List.forall_mem_cons] at hb
 obtain ⟨e0, e1, e2, e3, e4, e5, e6⟩ := e
 obtain ⟨b0, b1, b2, b3, b4, b5, b6, _⟩ := hb
 have p0 := place_ge e0
 have p1 := place_ge e1
 have p3 := place_ge e3
 have p6 := place_ge e6
 have c0 : b62 y0 := place_b62 b0 p0
 have c1 : b62 y1 := place_b62 b1 p1
 have c3 : b62 y3 := place_b62 b3 p3
 have c4 : b62 y4 := by unfold b62; omega
 have c5 : b62 y5 := by unfold b62; omega
 have c6 : b62 y6 := place_b62 b6 p6
 simp only [List.forall_mem_cons]
 exact ⟨⟨p0, p1, p3, p6, fun x hx => by cases hx⟩, ⟨c0, c1, c3, c4, c5, c6, fun x hx => by cases hx⟩, ⟨b2, fun x hx => by cases hx⟩⟩
theorem Cont.gor {R : List Rw} {ws : List Int} {M : Hp} (hA : AOk R ws) (h : Cont R ws M) {a y0 y1 y2 y3 y4 y5 y6 y7 y8 y9 : Int} (hM : M a = some (4, [y0, y1, y2, y3, y4, y5, y6, y7, y8, y9])) : (∀ x ∈ [y9], -1 ≤ x) ∧ (∀ x ∈ [y0, y1, y2, y9], b62 x) ∧ (∀ x ∈ [y3, y4, y5, y6, y7, y8], -9223372036854775808 ≤ x ∧ x ≤ 9223372036854775807) := by
 obtain ⟨hF, _⟩ := h.up a _ _ hM
 have hb : ∀ x ∈ gorWs [y0, y1, y2, y3, y4, y5, y6, y7, y8, y9], -9223372036854775808 ≤ x ∧ x ≤ 9223372036854775807 := h.bd hA hM
 have e : gorFs (gorWs [y0, y1, y2, y3, y4, y5, y6, y7, y8, y9]) = [y0, y1, y2, y3, y4, y5, y6, y7, y8, y9] := hF.back
 simp only [gorWs, gorFs, List.cons.injEq, and_true] at e hb
 simp only [List.forall_mem_cons] at hb
 obtain ⟨e0, e1, e2, e3, e4, e5, e6, e7, e8, e9⟩ := e
 obtain ⟨b0, b1, b2, b3, b4, b5, b6, b7, b8, b9, _⟩ := hb
 have p9 := place_ge e9
 have c0 : b62 y0 := by unfold b62; omega
 have c1 : b62 y1 := by unfold b62; omega
 have c2 : b62 y2 := by unfold b62; omega
 have c9 : b62 y9 := place_b62 b9 p9
 simp only [List.forall_mem_cons]
 exact ⟨⟨p9, fun x hx => by cases hx⟩, ⟨c0, c1, c2, c9, fun x hx => by cases hx⟩, ⟨b3, b4, b5, b6, b7, b8, fun x hx => by cases hx⟩⟩
theorem chanM_lx (R : List Rw) (ws C G : List Int) (N W ph sp cy : Int) (L D Q : List PV) (z : ByteArray) (ov : Bool) (h : HM R ws C G N W L D Q z) (M : Hp) (hM : Cont R ws M) (a y0 y1 y2 y3 y4 y5 y6 y7 y8 : Int) (hMa : M a = some (1, [y0, y1, y2, y3, y4, y5, y6, y7, y8])) : CallF (fun _ => Tryz.prog) 17 [.ptr 0 (.lit 0), i6 a] [hpA 0 1 5 6 3 W ph sp cy, hpB 1 2 4 3 W, hpC 2 3 214 2 N, hpP 3 L, hpP 4 D, hpF 5 z ov, hpP 6 Q] 7 (fun r h n => (∃ e : Int, r = .tup [.agg [i6 y0, i6 y1, i6 y2, i6 y3, i6 y4, i6 y5, i6 y6, i6 y7, i6 y8], i6 e] ∧ e = 0) ∧ h = [hpA 0 1 5 6 3 W ph sp cy, hpB 1 2 4 3 W, hpC 2 3 214 2 N, hpP 3 L, hpP 4 D, hpF 5 z ov, hpP 6 Q] ∧ n = 7) :=
 (chan_lx R ws C G N W ph sp cy L D Q z ov h a).mono fun r h' n hrr => by
  obtain ⟨⟨x0, x1, x2, x3, x4, x5, x6, x7, x8, e, e1, hT⟩, e2, e3⟩ := hrr
  obtain ⟨he, hy⟩ := hM.tr hMa rfl rfl hT
  simp only [List.cons.injEq, and_true] at hy
  obtain ⟨rfl, rfl, rfl, rfl, rfl, rfl, rfl, rfl, rfl⟩ := hy
  exact ⟨⟨e, e1, he⟩, e2, e3⟩
theorem chanNoM_lx (R : List Rw) (ws C G : List Int) (N W ph sp cy : Int) (L D Q : List PV) (z : ByteArray) (ov : Bool) (h : HM R ws C G N W L D Q z) (M : Hp) (hM : Cont R ws M) (a : Int) (hMa : ∀ F, M a ≠ some (1, F)) : CallF (fun _ => Tryz.prog) 17 [.ptr 0 (.lit 0), i6 a] [hpA 0 1 5 6 3 W ph sp cy, hpB 1 2 4 3 W, hpC 2 3 214 2 N, hpP 3 L, hpP 4 D, hpF 5 z ov, hpP 6 Q] 7 (fun r h n => (∃ y0 y1 y2 y3 y4 y5 y6 y7 y8 e : Int, r = .tup [.agg [i6 y0, i6 y1, i6 y2, i6 y3, i6 y4, i6 y5, i6 y6, i6 y7, i6 y8], i6 e] ∧ e = 10 ∧ y0 = 0 ∧ y1 = 0 ∧ y2 = 0 ∧ y3 = 0 ∧ y4 = 0 ∧ y5 = 0 ∧ y6 = 0 ∧ y7 = 0 ∧ y8 = 0) ∧ h = [hpA 0 1 5 6 3 W ph sp cy, hpB 1 2 4 3 W, hpC 2 3 214 2 N, hpP 3 L, hpP 4 D, hpF 5 z ov, hpP 6 Q] ∧ n = 7) :=
 (chan_lx R ws C G N W ph sp cy L D Q z ov h a).mono fun r h' n hrr => by
  obtain ⟨⟨x0, x1, x2, x3, x4, x5, x6, x7, x8, e, e1, hT⟩, e2, e3⟩ := hrr
  obtain ⟨he, hy⟩ := hM.tr_no hMa hT
  have hy : [x0, x1, x2, x3, x4, x5, x6, x7, x8] = [0, 0, 0, 0, 0, 0, 0, 0, 0] := hy
  simp only [List.cons.injEq, and_true] at hy
  exact ⟨⟨x0, x1, x2, x3, x4, x5, x6, x7, x8, e, e1, he, hy⟩, e2, e3⟩
theorem putChanM_lx (R : List Rw) (ws C G : List Int) (N W ph sp cy : Int) (L D Q : List PV) (z : ByteArray) (ov : Bool) (h : HM R ws C G N W L D Q z) (M : Hp) (hM : Cont R ws M) (o : Unit → Obj) (ho : IsPow o) (hph : ph = 0) (a x0 x1 x2 x3 x4 x5 x6 x7 x8 : Int) (F : List Int) (hMa : M a = some (1, F)) (hF : F.length = 9) (hb : ∀ x ∈ [x0, x1, x2, x3, x4, x5, x6, x7, x8], b62 x) (hp : ∀ x ∈ [x4, x5, x6, x7, x8], -1 ≤ x) : CallF (fun _ => Tryz.prog) 48 [.ptr 0 (.lit 0), i6 a, .agg [i6 x0, i6 x1, i6 x2, i6 x3, i6 x4, i6 x5, i6 x6, i6 x7, i6 x8]] [hpA 0 1 5 6 3 W ph sp cy, hpB 1 2 4 3 W, hpC 2 3 214 2 N, hpP 3 L, hpP 4 D, hpF 5 z ov, hpP 6 Q, (7, .fix 0 o)] 8 (fun r h n => ∃ (e : Int) (ws' : List Int) (D' : List PV), r = .p (.int .i64 (.sym e)) ∧ e = 0 ∧ h = [hpA 0 1 5 6 3 W ph sp cy, hpB 1 2 4 3 W, hpC 2 3 214 2 N, hpP 3 L, hpP 4 D', hpF 5 z ov, hpP 6 Q, (7, .fix 0 o)] ∧ n = 8 ∧ HM R ws' C G N W L D' Q z ∧ Cont R ws' (upd M a (1, [x0, x1, x2, x3, x4, x5, x6, x7, x8]))) :=
 (putChan_lx R ws C G N W ph sp cy L D Q z ov h o ho a x0 x1 x2 x3 x4 x5 x6 x7 x8 hb).mono fun r h' n hrr => by
  obtain ⟨e, ws', C', G', ov', D', Q', z', e1, e2, e3, h1, hP⟩ := hrr
  obtain ⟨he, hM'⟩ := hM.put (F' := [x0, x1, x2, x3, x4, x5, x6, x7, x8]) h.a hMa (by rw [hF]; rfl) rfl (FOk.chan hp) rfl (chanWs_bd x0 x1 x2 x3 x4 x5 x6 x7 x8 hb) hP
  obtain ⟨q1, q2, q3, q4, q5⟩ := h.still h1 (hP.idle hph)
  rw [q3, q4, q5] at e2
  rw [q1, q2, q4, q5] at h1
  exact ⟨e, ws', D', e1, he, e2, e3, h1, hM'⟩
theorem rchanM_lx (R : List Rw) (vs C G : List Int) (N W ph sp cy : Int) (P B V Q la : List PV) (m : Int) (ov : Bool) (h : RM R vs C G N W P B V Q la m) (M : Hp) (hM : Cont R vs M) (a y0 y1 y2 y3 y4 y5 y6 y7 y8 : Int) (hMa : M a = some (1, [y0, y1, y2, y3, y4, y5, y6, y7, y8])) : CallF (fun _ => Tryz.prog) 46 [.ptr 0 (.lit 0), i6 a] [hpR 0 1 6 3 W 7 ph sp cy, hpB 1 2 5 3 W, hpD 2 3 3 1 N 4 209 8 N, hpP 3 P, hpP 4 B, hpP 5 V, hpP 6 Q, (7, .mix [.p (.vsl (.sym m) true la), .p (.bool ov)])] 8 (fun r h n => (∃ e : Int, r = .tup [.agg [i6 y0, i6 y1, i6 y2, i6 y3, i6 y4, i6 y5, i6 y6, i6 y7, i6 y8], i6 e] ∧ e = 0) ∧ h = [hpR 0 1 6 3 W 7 ph sp cy, hpB 1 2 5 3 W, hpD 2 3 3 1 N 4 209 8 N, hpP 3 P, hpP 4 B, hpP 5 V, hpP 6 Q, (7, .mix [.p (.vsl (.sym m) true la), .p (.bool ov)])] ∧ n = 8) :=
 (rchan_lx R vs C G N W ph sp cy P B V Q la m ov h a).mono fun r h' n hrr => by
  obtain ⟨⟨x0, x1, x2, x3, x4, x5, x6, x7, x8, e, e1, hT⟩, e2, e3⟩ := hrr
  obtain ⟨he, hy⟩ := hM.tr hMa rfl rfl hT
  simp only [List.cons.injEq, and_true] at hy
  obtain ⟨rfl, rfl, rfl, rfl, rfl, rfl, rfl, rfl, rfl⟩ := hy
  exact ⟨⟨e, e1, he⟩, e2, e3⟩
theorem rPutChanM_lx (R : List Rw) (vs C G : List Int) (N W ph sp cy : Int) (P B V Q la : List PV) (m : Int) (ov : Bool) (h : RM R vs C G N W P B V Q la m) (M : Hp) (hM : Cont R vs M) (hph : ph = 0) (a x0 x1 x2 x3 x4 x5 x6 x7 x8 : Int) (F : List Int) (hMa : M a = some (1, F)) (hF : F.length = 9) (hb : ∀ x ∈ [x0, x1, x2, x3, x4, x5, x6, x7, x8], b62 x) (hp : ∀ x ∈ [x4, x5, x6, x7, x8], -1 ≤ x) : CallF (fun _ => Tryz.prog) 54 [.ptr 0 (.lit 0), i6 a, .agg [i6 x0, i6 x1, i6 x2, i6 x3, i6 x4, i6 x5, i6 x6, i6 x7, i6 x8]] [hpR 0 1 6 3 W 7 ph sp cy, hpB 1 2 5 3 W, hpD 2 3 3 1 N 4 209 8 N, hpP 3 P, hpP 4 B, hpP 5 V, hpP 6 Q, (7, .mix [.p (.vsl (.sym m) true la), .p (.bool ov)])] 8 (fun r h n => ∃ (e : Int) (vs' : List Int) (V' : List PV), r = .p (.int .i64 (.sym e)) ∧ e = 0 ∧ h = [hpR 0 1 6 3 W 7 ph sp cy, hpB 1 2 5 3 W, hpD 2 3 3 1 N 4 209 8 N, hpP 3 P, hpP 4 B, hpP 5 V', hpP 6 Q, (7, .mix [.p (.vsl (.sym m) true la), .p (.bool ov)])] ∧ n = 8 ∧ RM R vs' C G N W P B V' Q la m ∧ Cont R vs' (upd M a (1, [x0, x1, x2, x3, x4, x5, x6, x7, x8]))) :=
 (rPutChan_lx R vs C G N W ph sp cy P B V Q la m ov h a x0 x1 x2 x3 x4 x5 x6 x7 x8 hb).mono fun r h' n hrr => by
  obtain ⟨e, vs', C', G', ov', V', Q', la', m', e1, e2, e3, h1, hP⟩ := hrr
  obtain ⟨he, hM'⟩ := hM.put (F' := [x0, x1, x2, x3, x4, x5, x6, x7, x8]) h.a hMa (by rw [hF]; rfl) rfl (FOk.chan hp) rfl (chanWs_bd x0 x1 x2 x3 x4 x5 x6 x7 x8 hb) hP
  obtain ⟨q1, q2, q3, q4, q5, q6⟩ := h.still h1 (hP.idle hph)
  rw [q3, q4, q5, q6] at e2
  rw [q1, q2, q4, q5, q6] at h1
  exact ⟨e, vs', V', e1, he, e2, e3, h1, hM'⟩
theorem sudogM_lx (R : List Rw) (ws C G : List Int) (N W ph sp cy : Int) (L D Q : List PV) (z : ByteArray) (ov : Bool) (h : HM R ws C G N W L D Q z) (M : Hp) (hM : Cont R ws M) (a y0 y1 y2 y3 y4 y5 y6 : Int) (hMa : M a = some (3, [y0, y1, y2, y3, y4, y5, y6])) : CallF (fun _ => Tryz.prog) 18 [.ptr 0 (.lit 0), i6 a] [hpA 0 1 5 6 3 W ph sp cy, hpB 1 2 4 3 W, hpC 2 3 214 2 N, hpP 3 L, hpP 4 D, hpF 5 z ov, hpP 6 Q] 7 (fun r h n => (∃ e : Int, r = .tup [.agg [i6 y0, i6 y1, i6 y2, i6 y3, i6 y4, i6 y5, i6 y6], i6 e] ∧ e = 0) ∧ h = [hpA 0 1 5 6 3 W ph sp cy, hpB 1 2 4 3 W, hpC 2 3 214 2 N, hpP 3 L, hpP 4 D, hpF 5 z ov, hpP 6 Q] ∧ n = 7) :=
 (sudog_lx R ws C G N W ph sp cy L D Q z ov h a).mono fun r h' n hrr => by
  obtain ⟨⟨x0, x1, x2, x3, x4, x5, x6, e, e1, hT⟩, e2, e3⟩ := hrr
  obtain ⟨he, hy⟩ := hM.tr hMa rfl rfl hT
  simp only [List.cons.injEq, and_true] at hy
  obtain ⟨rfl, rfl, rfl, rfl, rfl, rfl, rfl⟩ := hy
  exact ⟨⟨e, e1, he⟩, e2, e3⟩
theorem sudogNoM_lx (R : List Rw) (ws C G : List Int) (N W ph sp cy : Int) (L D Q : List PV) (z : ByteArray) (ov : Bool) (h : HM R ws C G N W L D Q z) (M : Hp) (hM : Cont R ws M) (a : Int) (hMa : ∀ F, M a ≠ some (3, F)) : CallF (fun _ => Tryz.prog) 18 [.ptr 0 (.lit 0), i6 a] [hpA 0 1 5 6 3 W ph sp cy, hpB 1 2 4 3 W, hpC 2 3 214 2 N, hpP 3 L, hpP 4 D, hpF 5 z ov, hpP 6 Q] 7 (fun r h n => (∃ y0 y1 y2 y3 y4 y5 y6 e : Int, r = .tup [.agg [i6 y0, i6 y1, i6 y2, i6 y3, i6 y4, i6 y5, i6 y6], i6 e] ∧ e = 10 ∧ y0 = 0 ∧ y1 = 0 ∧ y2 = 0 ∧ y3 = 0 ∧ y4 = 0 ∧ y5 = 0 ∧ y6 = 0) ∧ h = [hpA 0 1 5 6 3 W ph sp cy, hpB 1 2 4 3 W, hpC 2 3 214 2 N, hpP 3 L, hpP 4 D, hpF 5 z ov, hpP 6 Q] ∧ n = 7) :=
 (sudog_lx R ws C G N W ph sp cy L D Q z ov h a).mono fun r h' n hrr => by
  obtain ⟨⟨x0, x1, x2, x3, x4, x5, x6, e, e1, hT⟩, e2, e3⟩ := hrr
  obtain ⟨he, hy⟩ := hM.tr_no hMa hT
  have hy : [x0, x1, x2, x3, x4, x5, x6] = [0, 0, 0, 0, 0, 0, 0] := hy
  simp only [List.cons.injEq, and_true] at hy
  exact ⟨⟨x0, x1, x2, x3, x4, x5, x6, e, e1, he, hy⟩, e2, e3⟩
theorem putSudogM_lx (R : List Rw) (ws C G : List Int) (N W ph sp cy : Int) (L D Q : List PV) (z : ByteArray) (ov : Bool) (h : HM R ws C G N W L D Q z) (M : Hp) (hM : Cont R ws M) (o : Unit → Obj) (ho : IsPow o) (hph : ph = 0) (a x0 x1 x2 x3 x4 x5 x6 : Int) (F : List Int) (hMa : M a = some (3, F)) (hF : F.length = 7) (hb : ∀ x ∈ [x0, x1, x3, x4, x5, x6], b62 x) (hw : ∀ x ∈ [x2], -9223372036854775808 ≤ x ∧ x ≤ 9223372036854775807) (hp : ∀ x ∈ [x0, x1, x3, x6], -1 ≤ x) : CallF (fun _ => Tryz.prog) 22 [.ptr 0 (.lit 0), i6 a, .agg [i6 x0, i6 x1, i6 x2, i6 x3, i6 x4, i6 x5, i6 x6]] [hpA 0 1 5 6 3 W ph sp cy, hpB 1 2 4 3 W, hpC 2 3 214 2 N, hpP 3 L, hpP 4 D, hpF 5 z ov, hpP 6 Q, (7, .fix 0 o)] 8 (fun r h n => ∃ (e : Int) (ws' : List Int) (D' : List PV), r = .p (.int .i64 (.sym e)) ∧ e = 0 ∧ h = [hpA 0 1 5 6 3 W ph sp cy, hpB 1 2 4 3 W, hpC 2 3 214 2 N, hpP 3 L, hpP 4 D', hpF 5 z ov, hpP 6 Q, (7, .fix 0 o)] ∧ n = 8 ∧ HM R ws' C G N W L D' Q z ∧ Cont R ws' (upd M a (3, [x0, x1, x2, x3, x4, x5, x6]))) :=
 (putSudog_lx R ws C G N W ph sp cy L D Q z ov h o ho a x0 x1 x2 x3 x4 x5 x6 hb hw).mono fun r h' n hrr => by
  obtain ⟨e, ws', C', G', ov', D', Q', z', e1, e2, e3, h1, hP⟩ := hrr
  obtain ⟨he, hM'⟩ := hM.put (F' := [x0, x1, x2, x3, x4, x5, x6]) h.a hMa (by rw [hF]; rfl) rfl (FOk.sudog hp) rfl (sudogWs_bd x0 x1 x2 x3 x4 x5 x6 hb hw) hP
  obtain ⟨q1, q2, q3, q4, q5⟩ := h.still h1 (hP.idle hph)
  rw [q3, q4, q5] at e2
  rw [q1, q2, q4, q5] at h1
  exact ⟨e, ws', D', e1, he, e2, e3, h1, hM'⟩
theorem rsudogM_lx (R : List Rw) (vs C G : List Int) (N W ph sp cy : Int) (P B V Q la : List PV) (m : Int) (ov : Bool) (h : RM R vs C G N W P B V Q la m) (M : Hp) (hM : Cont R vs M) (a y0 y1 y2 y3 y4 y5 y6 : Int) (hMa : M a = some (3, [y0, y1, y2, y3, y4, y5, y6])) : CallF (fun _ => Tryz.prog) 130 [.ptr 0 (.lit 0), i6 a] [hpR 0 1 6 3 W 7 ph sp cy, hpB 1 2 5 3 W, hpD 2 3 3 1 N 4 209 8 N, hpP 3 P, hpP 4 B, hpP 5 V, hpP 6 Q, (7, .mix [.p (.vsl (.sym m) true la), .p (.bool ov)])] 8 (fun r h n => (∃ e : Int, r = .tup [.agg [i6 y0, i6 y1, i6 y2, i6 y3, i6 y4, i6 y5, i6 y6], i6 e] ∧ e = 0) ∧ h = [hpR 0 1 6 3 W 7 ph sp cy, hpB 1 2 5 3 W, hpD 2 3 3 1 N 4 209 8 N, hpP 3 P, hpP 4 B, hpP 5 V, hpP 6 Q, (7, .mix [.p (.vsl (.sym m) true la), .p (.bool ov)])] ∧ n = 8) :=
 (rsudog_lx R vs C G N W ph sp cy P B V Q la m ov h a).mono fun r h' n hrr => by
  obtain ⟨⟨x0, x1, x2, x3, x4, x5, x6, e, e1, hT⟩, e2, e3⟩ := hrr
  obtain ⟨he, hy⟩ := hM.tr hMa rfl rfl hT
  simp only [List.cons.injEq, and_true] at hy
  obtain ⟨rfl, rfl, rfl, rfl, rfl, rfl, rfl⟩ := hy
  exact ⟨⟨e, e1, he⟩, e2, e3⟩
theorem rsudogNoM_lx (R : List Rw) (vs C G : List Int) (N W ph sp cy : Int) (P B V Q la : List PV) (m : Int) (ov : Bool) (h : RM R vs C G N W P B V Q la m) (M : Hp) (hM : Cont R vs M) (a : Int) (hMa : ∀ F, M a ≠ some (3, F)) : CallF (fun _ => Tryz.prog) 130 [.ptr 0 (.lit 0), i6 a] [hpR 0 1 6 3 W 7 ph sp cy, hpB 1 2 5 3 W, hpD 2 3 3 1 N 4 209 8 N, hpP 3 P, hpP 4 B, hpP 5 V, hpP 6 Q, (7, .mix [.p (.vsl (.sym m) true la), .p (.bool ov)])] 8 (fun r h n => (∃ y0 y1 y2 y3 y4 y5 y6 e : Int, r = .tup [.agg [i6 y0, i6 y1, i6 y2, i6 y3, i6 y4, i6 y5, i6 y6], i6 e] ∧ e = 10 ∧ y0 = 0 ∧ y1 = 0 ∧ y2 = 0 ∧ y3 = 0 ∧ y4 = 0 ∧ y5 = 0 ∧ y6 = 0) ∧ h = [hpR 0 1 6 3 W 7 ph sp cy, hpB 1 2 5 3 W, hpD 2 3 3 1 N 4 209 8 N, hpP 3 P, hpP 4 B, hpP 5 V, hpP 6 Q, (7, .mix [.p (.vsl (.sym m) true la), .p (.bool ov)])] ∧ n = 8) :=
 (rsudog_lx R vs C G N W ph sp cy P B V Q la m ov h a).mono fun r h' n hrr => by
  obtain ⟨⟨x0, x1, x2, x3, x4, x5, x6, e, e1, hT⟩, e2, e3⟩ := hrr
  obtain ⟨he, hy⟩ := hM.tr_no hMa hT
  have hy : [x0, x1, x2, x3, x4, x5, x6] = [0, 0, 0, 0, 0, 0, 0] := hy
  simp only [List.cons.injEq, and_true] at hy
  exact ⟨⟨x0, x1, x2, x3, x4, x5, x6, e, e1, he, hy⟩, e2, e3⟩
theorem rPutSudogM_lx (R : List Rw) (vs C G : List Int) (N W ph sp cy : Int) (P B V Q la : List PV) (m : Int) (ov : Bool) (h : RM R vs C G N W P B V Q la m) (M : Hp) (hM : Cont R vs M) (hph : ph = 0) (a x0 x1 x2 x3 x4 x5 x6 : Int) (F : List Int) (hMa : M a = some (3, F)) (hF : F.length = 7) (hb : ∀ x ∈ [x0, x1, x3, x4, x5, x6], b62 x) (hw : ∀ x ∈ [x2], -9223372036854775808 ≤ x ∧ x ≤ 9223372036854775807) (hp : ∀ x ∈ [x0, x1, x3, x6], -1 ≤ x) : CallF (fun _ => Tryz.prog) 60 [.ptr 0 (.lit 0), i6 a, .agg [i6 x0, i6 x1, i6 x2, i6 x3, i6 x4, i6 x5, i6 x6]] [hpR 0 1 6 3 W 7 ph sp cy, hpB 1 2 5 3 W, hpD 2 3 3 1 N 4 209 8 N, hpP 3 P, hpP 4 B, hpP 5 V, hpP 6 Q, (7, .mix [.p (.vsl (.sym m) true la), .p (.bool ov)])] 8 (fun r h n => ∃ (e : Int) (vs' : List Int) (V' : List PV), r = .p (.int .i64 (.sym e)) ∧ e = 0 ∧ h = [hpR 0 1 6 3 W 7 ph sp cy, hpB 1 2 5 3 W, hpD 2 3 3 1 N 4 209 8 N, hpP 3 P, hpP 4 B, hpP 5 V', hpP 6 Q, (7, .mix [.p (.vsl (.sym m) true la), .p (.bool ov)])] ∧ n = 8 ∧ RM R vs' C G N W P B V' Q la m ∧ Cont R vs' (upd M a (3, [x0, x1, x2, x3, x4, x5, x6]))) :=
 (rPutSudog_lx R vs C G N W ph sp cy P B V Q la m ov h a x0 x1 x2 x3 x4 x5 x6 hb hw).mono fun r h' n hrr => by
  obtain ⟨e, vs', C', G', ov', V', Q', la', m', e1, e2, e3, h1, hP⟩ := hrr
  obtain ⟨he, hM'⟩ := hM.put (F' := [x0, x1, x2, x3, x4, x5, x6]) h.a hMa (by rw [hF]; rfl) rfl (FOk.sudog hp) rfl (sudogWs_bd x0 x1 x2 x3 x4 x5 x6 hb hw) hP
  obtain ⟨q1, q2, q3, q4, q5, q6⟩ := h.still h1 (hP.idle hph)
  rw [q3, q4, q5, q6] at e2
  rw [q1, q2, q4, q5, q6] at h1
  exact ⟨e, vs', V', e1, he, e2, e3, h1, hM'⟩
theorem gorM_lx (R : List Rw) (ws C G : List Int) (N W ph sp cy : Int) (L D Q : List PV) (z : ByteArray) (ov : Bool) (h : HM R ws C G N W L D Q z) (M : Hp) (hM : Cont R ws M) (a y0 y1 y2 y3 y4 y5 y6 y7 y8 y9 : Int) (hMa : M a = some (4, [y0, y1, y2, y3, y4, y5, y6, y7, y8, y9])) : CallF (fun _ => Tryz.prog) 25 [.ptr 0 (.lit 0), i6 a] [hpA 0 1 5 6 3 W ph sp cy, hpB 1 2 4 3 W, hpC 2 3 214 2 N, hpP 3 L, hpP 4 D, hpF 5 z ov, hpP 6 Q] 7 (fun r h n => (∃ e : Int, r = .tup [.agg [i6 y0, i6 y1, i6 y2, i6 y3, i6 y4, i6 y5, i6 y6, i6 y7, i6 y8, i6 y9], i6 e] ∧ e = 0) ∧ h = [hpA 0 1 5 6 3 W ph sp cy, hpB 1 2 4 3 W, hpC 2 3 214 2 N, hpP 3 L, hpP 4 D, hpF 5 z ov, hpP 6 Q] ∧ n = 7) :=
 (gor_lx R ws C G N W ph sp cy L D Q z ov h a).mono fun r h' n hrr => by
  obtain ⟨⟨x0, x1, x2, x3, x4, x5, x6, x7, x8, x9, e, e1, hT⟩, e2, e3⟩ := hrr
  obtain ⟨he, hy⟩ := hM.tr hMa rfl rfl hT
  simp only [List.cons.injEq, and_true] at hy
  obtain ⟨rfl, rfl, rfl, rfl, rfl, rfl, rfl, rfl, rfl, rfl⟩ := hy
  exact ⟨⟨e, e1, he⟩, e2, e3⟩
theorem putGorM_lx (R : List Rw) (ws C G : List Int) (N W ph sp cy : Int) (L D Q : List PV) (z : ByteArray) (ov : Bool) (h : HM R ws C G N W L D Q z) (M : Hp) (hM : Cont R ws M) (o : Unit → Obj) (ho : IsPow o) (hph : ph = 0) (a x0 x1 x2 x3 x4 x5 x6 x7 x8 x9 : Int) (F : List Int) (hMa : M a = some (4, F)) (hF : F.length = 10) (hb : ∀ x ∈ [x0, x1, x2, x9], b62 x) (hw : ∀ x ∈ [x3, x4, x5, x6, x7, x8], -9223372036854775808 ≤ x ∧ x ≤ 9223372036854775807) (hp : ∀ x ∈ [x9], -1 ≤ x) : CallF (fun _ => Tryz.prog) 55 [.ptr 0 (.lit 0), i6 a, .agg [i6 x0, i6 x1, i6 x2, i6 x3, i6 x4, i6 x5, i6 x6, i6 x7, i6 x8, i6 x9]] [hpA 0 1 5 6 3 W ph sp cy, hpB 1 2 4 3 W, hpC 2 3 214 2 N, hpP 3 L, hpP 4 D, hpF 5 z ov, hpP 6 Q, (7, .fix 0 o)] 8 (fun r h n => ∃ (e : Int) (ws' : List Int) (D' : List PV), r = .p (.int .i64 (.sym e)) ∧ e = 0 ∧ h = [hpA 0 1 5 6 3 W ph sp cy, hpB 1 2 4 3 W, hpC 2 3 214 2 N, hpP 3 L, hpP 4 D', hpF 5 z ov, hpP 6 Q, (7, .fix 0 o)] ∧ n = 8 ∧ HM R ws' C G N W L D' Q z ∧ Cont R ws' (upd M a (4, [x0, x1, x2, x3, x4, x5, x6, x7, x8, x9]))) :=
 (putGor_lx R ws C G N W ph sp cy L D Q z ov h o ho a x0 x1 x2 x3 x4 x5 x6 x7 x8 x9 hb hw).mono fun r h' n hrr => by
  obtain ⟨e, ws', C', G', ov', D', Q', z', e1, e2, e3, h1, hP⟩ := hrr
  obtain ⟨he, hM'⟩ := hM.put (F' := [x0, x1, x2, x3, x4, x5, x6, x7, x8, x9]) h.a hMa (by rw [hF]; rfl) rfl (FOk.gor hp) rfl (gorWs_bd x0 x1 x2 x3 x4 x5 x6 x7 x8 x9 hb hw) hP
  obtain ⟨q1, q2, q3, q4, q5⟩ := h.still h1 (hP.idle hph)
  rw [q3, q4, q5] at e2
  rw [q1, q2, q4, q5] at h1
  exact ⟨e, ws', D', e1, he, e2, e3, h1, hM'⟩
theorem rgorM_lx (R : List Rw) (vs C G : List Int) (N W ph sp cy : Int) (P B V Q la : List PV) (m : Int) (ov : Bool) (h : RM R vs C G N W P B V Q la m) (M : Hp) (hM : Cont R vs M) (a y0 y1 y2 y3 y4 y5 y6 y7 y8 y9 : Int) (hMa : M a = some (4, [y0, y1, y2, y3, y4, y5, y6, y7, y8, y9])) : CallF (fun _ => Tryz.prog) 78 [.ptr 0 (.lit 0), i6 a] [hpR 0 1 6 3 W 7 ph sp cy, hpB 1 2 5 3 W, hpD 2 3 3 1 N 4 209 8 N, hpP 3 P, hpP 4 B, hpP 5 V, hpP 6 Q, (7, .mix [.p (.vsl (.sym m) true la), .p (.bool ov)])] 8 (fun r h n => (∃ e : Int, r = .tup [.agg [i6 y0, i6 y1, i6 y2, i6 y3, i6 y4, i6 y5, i6 y6, i6 y7, i6 y8, i6 y9], i6 e] ∧ e = 0) ∧ h = [hpR 0 1 6 3 W 7 ph sp cy, hpB 1 2 5 3 W, hpD 2 3 3 1 N 4 209 8 N, hpP 3 P, hpP 4 B, hpP 5 V, hpP 6 Q, (7, .mix [.p (.vsl (.sym m) true la), .p (.bool ov)])] ∧ n = 8) :=
 (rgor_lx R vs C G N W ph sp cy P B V Q la m ov h a).mono fun r h' n hrr => by
  obtain ⟨⟨x0, x1, x2, x3, x4, x5, x6, x7, x8, x9, e, e1, hT⟩, e2, e3⟩ := hrr
  obtain ⟨he, hy⟩ := hM.tr hMa rfl rfl hT
  simp only [List.cons.injEq, and_true] at hy
  obtain ⟨rfl, rfl, rfl, rfl, rfl, rfl, rfl, rfl, rfl, rfl⟩ := hy
  exact ⟨⟨e, e1, he⟩, e2, e3⟩
theorem rPutGorM_lx (R : List Rw) (vs C G : List Int) (N W ph sp cy : Int) (P B V Q la : List PV) (m : Int) (ov : Bool) (h : RM R vs C G N W P B V Q la m) (M : Hp) (hM : Cont R vs M) (hph : ph = 0) (a x0 x1 x2 x3 x4 x5 x6 x7 x8 x9 : Int) (F : List Int) (hMa : M a = some (4, F)) (hF : F.length = 10) (hb : ∀ x ∈ [x0, x1, x2, x9], b62 x) (hw : ∀ x ∈ [x3, x4, x5, x6, x7, x8], -9223372036854775808 ≤ x ∧ x ≤ 9223372036854775807) (hp : ∀ x ∈ [x9], -1 ≤ x) : CallF (fun _ => Tryz.prog) 56 [.ptr 0 (.lit 0), i6 a, .agg [i6 x0, i6 x1, i6 x2, i6 x3, i6 x4, i6 x5, i6 x6, i6 x7, i6 x8, i6 x9]] [hpR 0 1 6 3 W 7 ph sp cy, hpB 1 2 5 3 W, hpD 2 3 3 1 N 4 209 8 N, hpP 3 P, hpP 4 B, hpP 5 V, hpP 6 Q, (7, .mix [.p (.vsl (.sym m) true la), .p (.bool ov)])] 8 (fun r h n => ∃ (e : Int) (vs' : List Int) (V' : List PV), r = .p (.int .i64 (.sym e)) ∧ e = 0 ∧ h = [hpR 0 1 6 3 W 7 ph sp cy, hpB 1 2 5 3 W, hpD 2 3 3 1 N 4 209 8 N, hpP 3 P, hpP 4 B, hpP 5 V', hpP 6 Q, (7, .mix [.p (.vsl (.sym m) true la), .p (.bool ov)])] ∧ n = 8 ∧ RM R vs' C G N W P B V' Q la m ∧ Cont R vs' (upd M a (4, [x0, x1, x2, x3, x4, x5, x6, x7, x8, x9]))) :=
 (rPutGor_lx R vs C G N W ph sp cy P B V Q la m ov h a x0 x1 x2 x3 x4 x5 x6 x7 x8 x9 hb hw).mono fun r h' n hrr => by
  obtain ⟨e, vs', C', G', ov', V', Q', la', m', e1, e2, e3, h1, hP⟩ := hrr
  obtain ⟨he, hM'⟩ := hM.put (F' := [x0, x1, x2, x3, x4, x5, x6, x7, x8, x9]) h.a hMa (by rw [hF]; rfl) rfl (FOk.gor hp) rfl (gorWs_bd x0 x1 x2 x3 x4 x5 x6 x7 x8 x9 hb hw) hP
  obtain ⟨q1, q2, q3, q4, q5, q6⟩ := h.still h1 (hP.idle hph)
  rw [q3, q4, q5, q6] at e2
  rw [q1, q2, q4, q5, q6] at h1
  exact ⟨e, vs', V', e1, he, e2, e3, h1, hM'⟩
def hdQ (l : List Int) : Int := l.head?.getD (-1)
def ltQ (l : List Int) : Int := l.getLast?.getD (-1)
def sucL : List Int → Int → Int
 | x :: y :: l, a => if a = x then y else sucL (y :: l) a
 | _, _ => -1
abbrev Qs := Int → Bool → List Int
def nxtQ (q : Qs) (c a : Int) : Int := if a ∈ q c false then sucL (q c false) a else sucL (q c true) a
def lnk (q : Qs) (a : Int) (v : Int × List Int) : Int × List Int :=
 if v.1 = 1 then (match v.2 with
  | [a0, a1, a2, a3, a4, _, _, _, _] => (1, [a0, a1, a2, a3, a4, hdQ (q a false), ltQ (q a false), hdQ (q a true), ltQ (q a true)])
  | F => (1, F))
 else if v.1 = 3 then (match v.2 with
  | [g, c, w, _, p, r, m] => (3, [g, c, w, nxtQ q c a, p, r, m])
  | F => (3, F))
 else v
theorem lnk_chan (q : Qs) (a a0 a1 a2 a3 a4 a5 a6 a7 a8 : Int) : lnk q a (1, [a0, a1, a2, a3, a4, a5, a6, a7, a8]) = (1, [a0, a1, a2, a3, a4, hdQ (q a false), ltQ (q a false), hdQ (q a true), ltQ (q a true)]) := rfl
theorem lnk_sudog (q : Qs) (a g c w n p r m : Int) : lnk q a (3, [g, c, w, n, p, r, m]) = (3, [g, c, w, nxtQ q c a, p, r, m]) := rfl
theorem lnk_other (q : Qs) (a : Int) (v : Int × List Int) (h : v.1 ≠ 1 ∧ v.1 ≠ 3) : lnk q a v = v := by unfold lnk; rw [if_neg h.1, if_neg h.2]
theorem lnk_len (q : Qs) (a k : Int) (F : List Int) : (lnk q a (k, F)).1 = k ∧ (lnk q a (k, F)).2.length = F.length := by
 unfold lnk
 by_cases h1 : k = 1
 ·subst h1
  rw [if_pos rfl]
  dsimp only
  split
  ·exact ⟨rfl, rfl⟩
  ·exact ⟨rfl, rfl⟩
 ·rw [if_neg h1]
  by_cases h3 : k = 3
  ·subst h3
   rw [if_pos rfl]
   dsimp only
   split
   ·exact ⟨rfl, rfl⟩
   ·exact ⟨rfl, rfl⟩
  ·rw [if_neg h3]
   exact ⟨rfl, rfl⟩
theorem lnk_lnk (q q' : Qs) (a : Int) (v : Int × List Int) : lnk q a (lnk q' a v) = lnk q a v := by
 obtain ⟨k, F⟩ := v
 by_cases h1 : k = 1
 ·subst h1
  match F with
  | [a0, a1, a2, a3, a4, a5, a6, a7, a8] => rfl
  | [] => rfl
  | [_] => rfl
  | [_, _] => rfl
  | [_, _, _] => rfl
  | [_, _, _, _] => rfl
  | [_, _, _, _, _] => rfl
  | [_, _, _, _, _, _] => rfl
  | [_, _, _, _, _, _, _] => rfl
  | [_, _, _, _, _, _, _, _] => rfl
  | _ :: _ :: _ :: _ :: _ :: _ :: _ :: _ :: _ :: _ :: _ => rfl
 ·by_cases h3 : k = 3
  ·subst h3
   match F with
   | [g, c, w, n, p, r, m] => rfl
   | [] => rfl
   | [_] => rfl
   | [_, _] => rfl
   | [_, _, _] => rfl
   | [_, _, _, _] => rfl
   | [_, _, _, _, _] => rfl
   | [_, _, _, _, _, _] => rfl
   | _ :: _ :: _ :: _ :: _ :: _ :: _ :: _ :: _ => rfl
  ·rw [lnk_other q' a (k, F) ⟨h1, h3⟩]
def relink (M : Hp) (q : Qs) : Hp := fun a => (M a).map (lnk q a)
def updQ (q : Qs) (c : Int) (d : Bool) (l : List Int) : Qs := fun c' d' => if c' = c ∧ d' = d then l else q c' d'
theorem updQ_same (q : Qs) (c : Int) (d : Bool) (l : List Int) : updQ q c d l c d = l := if_pos ⟨rfl, rfl⟩
theorem updQ_ne {q : Qs} {c c' : Int} {d d' : Bool} {l : List Int} (h : ¬ (c' = c ∧ d' = d)) : updQ q c d l c' d' = q c' d' := if_neg h
theorem relink_relink (M : Hp) (q q' : Qs) : relink (relink M q) q' = relink M q' := by
 funext a
 unfold relink
 cases M a with
 | none => rfl
 | some v => simp [lnk_lnk]
theorem relink_upd (M : Hp) (q : Qs) (a : Int) (v : Int × List Int) : relink (upd M a v) q = upd (relink M q) a (lnk q a v) := by
 funext b
 unfold relink upd
 by_cases h : b = a
 ·rw [if_pos h, if_pos h, h]; rfl
 ·rw [if_neg h, if_neg h]
structure Sys (M : Hp) (q : Qs) : Prop where
 ch : ∀ c d s, s ∈ q c d → ∃ F, M c = some (1, F)
 sg : ∀ c d s, s ∈ q c d → ∃ g w n p r m, M s = some (3, [g, c, w, n, p, r, m])
 nd : ∀ c d, (q c d).Nodup
 dj : ∀ c s, s ∈ q c false → s ∉ q c true
 ln : relink M q = M
 sc : ∀ a F, M a = some (1, F) → F.length = 9
 ss : ∀ a F, M a = some (3, F) → F.length = 7
theorem Sys.lnk {M : Hp} {q : Qs} (h : Sys M q) {a : Int} {v : Int × List Int} (hv : M a = some v) : lnk q a v = v := by
 have := congrFun h.ln a
 unfold relink at this
 rw [hv] at this
 exact Option.some.inj this
theorem Sys.new {M : Hp} (h1 : ∀ a F, M a = some (1, F) → ∃ a0 a1 a2 a3 a4, F = [a0, a1, a2, a3, a4, -1, -1, -1, -1]) (h3 : ∀ a F, M a = some (3, F) → ∃ g c w p r m, F = [g, c, w, -1, p, r, m]) : Sys M (fun _ _ => []) := by
 refine ⟨fun c d s hs => (by cases hs), fun c d s hs => (by cases hs), fun c d => List.nodup_nil, fun c s hs => (by cases hs), ?_, fun a F e => (by obtain ⟨a0, a1, a2, a3, a4, q⟩ := h1 a F e; rw [q]; rfl), fun a F e => (by obtain ⟨g, c, w, p, r, m, q⟩ := h3 a F e; rw [q]; rfl)⟩
 funext a
 unfold relink
 cases hv : M a with
 | none => rfl
 | some v =>
  obtain ⟨k, F⟩ := v
  show some _ = some _
  congr 1
  by_cases e1 : k = 1
  ·subst e1
   obtain ⟨a0, a1, a2, a3, a4, rfl⟩ := h1 a F hv
   rfl
  ·by_cases e3 : k = 3
   ·subst e3
    obtain ⟨g, c, w, p, r, m, rfl⟩ := h3 a F hv
    rfl
   ·exact lnk_other _ _ _ ⟨e1, e3⟩
theorem sucL_get : ∀ {l : List Int} (i : Nat) (x : Int), l.Nodup → l[i]? = some x → sucL l x = (l[i + 1]?).getD (-1)
 | [], i, x, _, h => by simp at h
 | [a], 0, x, _, h => rfl
 | [a], i + 1, x, _, h => by simp at h
 | a :: b :: l, 0, x, _, h => by
  simp at h
  subst h
  simp [sucL]
 | a :: b :: l, i + 1, x, hn, h => by
  have hx : x ∈ b :: l := List.mem_of_getElem? (by simpa using h)
  have hne : x ≠ a := fun e => by
   subst e
   exact (List.nodup_cons.1 hn).1 hx
  show (if x = a then b else sucL (b :: l) x) = _
  rw [if_neg hne, sucL_get i x (List.nodup_cons.1 hn).2 (by simpa using h)]
  simp
theorem sucL_not : ∀ {l : List Int} {x : Int}, x ∉ l → sucL l x = -1
 | [], _, _ => rfl
 | [a], _, _ => rfl
 | a :: b :: l, x, h => by
  show (if x = a then b else sucL (b :: l) x) = _
  rw [if_neg (fun e : x = a => h (by rw [e]; exact List.mem_cons_self)), sucL_not (fun q => h (List.mem_cons_of_mem _ q))]
theorem sucL_app : ∀ {l : List Int} {s x : Int}, x ∈ l → x ≠ ltQ l → sucL (l ++ [s]) x = sucL l x
 | [], _, _, h, _ => by cases h
 | [a], s, x, h, hn => by
  simp at h
  subst h
  exact absurd rfl hn
 | a :: b :: l, s, x, h, hn => by
  show (if x = a then b else sucL (b :: l ++ [s]) x) = (if x = a then b else sucL (b :: l) x)
  split
  ·rfl
  ·rename_i e
   refine sucL_app ?_ ?_
   ·rcases List.mem_cons.1 h with q | q
    ·exact absurd q e
    ·exact q
   ·intro q
    apply hn
    rw [q]
    unfold ltQ
    simp [List.getLast?_cons_cons]
theorem sucL_app_last : ∀ {l : List Int} {s x : Int}, l.Nodup → l.getLast? = some x → sucL (l ++ [s]) x = s
 | [], _, _, _, h => by simp at h
 | [a], s, x, _, h => by
  simp at h
  subst h
  show (if a = a then s else _) = s
  rw [if_pos rfl]
 | a :: b :: l, s, x, hn, h => by
  rw [List.getLast?_cons_cons] at h
  have hx : x ∈ b :: l := List.mem_of_getLast? h
  have hne : x ≠ a := fun e => by
   subst e
   exact (List.nodup_cons.1 hn).1 hx
  show (if x = a then b else sucL (b :: l ++ [s]) x) = s
  rw [if_neg hne]
  exact sucL_app_last (List.nodup_cons.1 hn).2 h
theorem sucL_last : ∀ {l : List Int} {x : Int}, l.Nodup → l.getLast? = some x → sucL l x = -1
 | [], _, _, h => by simp at h
 | [a], _, _, _ => rfl
 | a :: b :: l, x, hn, h => by
  rw [List.getLast?_cons_cons] at h
  have hx : x ∈ b :: l := List.mem_of_getLast? h
  have hne : x ≠ a := fun e => by
   subst e
   exact (List.nodup_cons.1 hn).1 hx
  show (if x = a then b else sucL (b :: l) x) = -1
  rw [if_neg hne]
  exact sucL_last (List.nodup_cons.1 hn).2 h
theorem sucL_tail {a : Int} : ∀ {l : List Int} {x : Int}, x ≠ a → sucL (a :: l) x = sucL l x
 | [], _, _ => rfl
 | b :: l, x, h => by
  show (if x = a then b else sucL (b :: l) x) = _
  rw [if_neg h]
theorem sucL_mid : ∀ {A B : List Int} {p s x : Int}, (A ++ p :: s :: B).Nodup → x ≠ s → sucL (A ++ p :: B) x = if x = p then hdQ B else sucL (A ++ p :: s :: B) x
 | [], [], p, s, x, hn, hx => by
  show (-1 : Int) = if x = p then hdQ [] else (if x = p then s else sucL [s] x)
  split <;> rfl
 | [], b :: B, p, s, x, hn, hx => by
  show (if x = p then b else sucL (b :: B) x) = if x = p then hdQ (b :: B) else (if x = p then s else (if x = s then b else sucL (b :: B) x))
  split
  ·rfl
  ·first | rfl | rw [if_neg hx]
 | [a], B, p, s, x, hn, hx => by
  show (if x = a then p else sucL (p :: B) x) = if x = p then hdQ B else (if x = a then p else sucL (p :: s :: B) x)
  have hap : a ≠ p := fun e => by
   subst e; exact (List.nodup_cons.1 hn).1 (List.mem_cons_self)
  have := sucL_mid (A := []) (B := B) (p := p) (s := s) (x := x) (List.nodup_cons.1 hn).2 hx
  simp only [List.nil_append] at this
  split
  ·rename_i e
   subst e
   rw [if_neg hap]
  ·exact this
 | a :: a' :: A, B, p, s, x, hn, hx => by
  show (if x = a then a' else sucL (a' :: A ++ p :: B) x) = if x = p then hdQ B else (if x = a then a' else sucL (a' :: A ++ p :: s :: B) x)
  have hap : a ≠ p := fun e => by
   subst e; exact (List.nodup_cons.1 hn).1 (by simp)
  have := sucL_mid (A := a' :: A) (B := B) (p := p) (s := s) (x := x) (List.nodup_cons.1 hn).2 hx
  split
  ·rename_i e
   subst e
   rw [if_neg hap]
  ·exact this
theorem hdQ_app {l : List Int} {s : Int} : hdQ (l ++ [s]) = if l = [] then s else hdQ l := by
 cases l with
 | nil => rfl
 | cons a l => rfl
theorem ltQ_app {l : List Int} {s : Int} : ltQ (l ++ [s]) = s := by unfold ltQ; simp
theorem ltQ_tail {a : Int} {t : List Int} : ltQ t = if t = [] then -1 else ltQ (a :: t) := by
 cases t with
 | nil => rfl
 | cons b t => rw [if_neg (by simp)]; unfold ltQ; rw [List.getLast?_cons_cons]
theorem ltQ_mem {l : List Int} (h : l ≠ []) : ltQ l ∈ l := by
 unfold ltQ
 cases hq : l.getLast? with
 | none => rw [List.getLast?_eq_none_iff] at hq; exact absurd hq h
 | some x => exact List.mem_of_getLast? hq
theorem Sys.nxt {M : Hp} {q : Qs} (h : Sys M q) {c s : Int} {d : Bool} (hs : s ∈ q c d) : nxtQ q c s = sucL (q c d) s := by
 unfold nxtQ
 cases d with
 | false => rw [if_pos hs]
 | true => rw [if_neg (fun k => h.dj c s k hs)]
theorem nxtQ_not {q : Qs} {c s : Int} (h : ∀ d, s ∉ q c d) : nxtQ q c s = -1 := by
 unfold nxtQ
 rw [if_neg (h false), sucL_not (h true)]
theorem relink_get {M : Hp} {q : Qs} {a : Int} {v : Int × List Int} (h : M a = some v) : relink M q a = some (lnk q a v) := by unfold relink; rw [h]; rfl
theorem relink_fix {M : Hp} {q q' : Qs} (h : Sys M q) {a : Int} (hc : ∀ v, M a = some v → Go.Proofs.YtjgbhpclmlcbbaaGreatDoor.lnk q' a v = Go.Proofs.YtjgbhpclmlcbbaaGreatDoor.lnk q a v) : relink M q' a = M a := by
 unfold relink
 cases hv : M a with
 | none => rfl
 | some v => show some _ = some _; rw [hc v hv, h.lnk hv]
theorem Sys.relink {M : Hp} {q q' : Qs} (h : Sys M q) (hs : ∀ c d s, s ∈ q' c d → (∃ F, M c = some (1, F)) ∧ ∃ g w n p r m, M s = some (3, [g, c, w, n, p, r, m])) (hn : ∀ c d, (q' c d).Nodup) (hd : ∀ c s, s ∈ q' c false → s ∉ q' c true) : Sys (relink M q') q' := by
 have hlen : ∀ a k F, Go.Proofs.YtjgbhpclmlcbbaaGreatDoor.relink M q' a = some (k, F) → ∃ G, M a = some (k, G) ∧ F.length = G.length := fun a k F e => by
  unfold Go.Proofs.YtjgbhpclmlcbbaaGreatDoor.relink at e
  cases hv : M a with
  | none => rw [hv] at e; cases e
  | some v =>
   rw [hv] at e
   have e : Go.Proofs.YtjgbhpclmlcbbaaGreatDoor.lnk q' a v = (k, F) := Option.some.inj e
   obtain ⟨k0, G⟩ := v
   obtain ⟨l1, l2⟩ := lnk_len q' a k0 G
   rw [e] at l1 l2
   have l1 : k = k0 := l1
   exact ⟨G, by rw [l1], l2⟩
 refine ⟨fun c d s k => ?_, fun c d s k => ?_, hn, hd, relink_relink M q' q', fun a F e => ?_, fun a F e => ?_⟩
 ·obtain ⟨⟨F, hF⟩, _⟩ := hs c d s k
  refine ⟨(Go.Proofs.YtjgbhpclmlcbbaaGreatDoor.lnk q' c (1, F)).2, ?_⟩
  rw [relink_get hF]
  congr 1
  unfold Go.Proofs.YtjgbhpclmlcbbaaGreatDoor.lnk
  rw [if_pos rfl]
  split <;> rfl
 ·obtain ⟨_, g, w, n, p, r, m, hF⟩ := hs c d s k
  exact ⟨g, w, _, p, r, m, by rw [relink_get hF, lnk_sudog]⟩
 ·obtain ⟨G, h1, h2⟩ := hlen a 1 F e; rw [h2]; exact h.sc a G h1
 ·obtain ⟨G, h1, h2⟩ := hlen a 3 F e; rw [h2]; exact h.ss a G h1
theorem Sys.updv {M : Hp} {q : Qs} {a : Int} {v : Int × List Int} (h : Sys M q) (hv : Go.Proofs.YtjgbhpclmlcbbaaGreatDoor.lnk q a v = v) (hk : ∀ F, M a = some (1, F) → v.1 = 1) (hs : ∀ c d, a ∈ q c d → ∃ g w n p r m, v = (3, [g, c, w, n, p, r, m])) (hl : (v.1 = 1 → v.2.length = 9) ∧ (v.1 = 3 → v.2.length = 7)) : Sys (upd M a v) q := by
 refine ⟨fun c d s k => ?_, fun c d s k => ?_, h.nd, h.dj, ?_, fun b F e => ?_, fun b F e => ?_⟩
 ·obtain ⟨F, hF⟩ := h.ch c d s k
  by_cases e : c = a
  ·subst e
   exact ⟨v.2, by rw [upd_same, ← hk F hF]⟩
  ·exact ⟨F, by rw [upd_ne e]; exact hF⟩
 ·by_cases e : s = a
  ·subst e
   obtain ⟨g, w, n, p, r, m, hv2⟩ := hs c d k
   exact ⟨g, w, n, p, r, m, by rw [upd_same, hv2]⟩
  ·rw [upd_ne e]; exact h.sg c d s k
 ·rw [relink_upd, h.ln, hv]
 ·by_cases q : b = a
  ·subst q; rw [upd_same] at e; cases e; exact hl.1 rfl
  ·rw [upd_ne q] at e; exact h.sc b F e
 ·by_cases q : b = a
  ·subst q; rw [upd_same] at e; cases e; exact hl.2 rfl
  ·rw [upd_ne q] at e; exact h.ss b F e
theorem Sys.fresh {M : Hp} {q : Qs} {a k : Int} {n : Nat} (h : Sys M q) (hM : M a = none) : Sys (upd M a (k, zerK k n)) q := by
 have hna : ∀ c d, a ∉ q c d := fun c d hs => by obtain ⟨g, w, n, p, r, m, e⟩ := h.sg c d a hs; rw [hM] at e; cases e
 have hqa : ∀ d, q a d = [] := fun d => by
  cases hq : q a d with
  | nil => rfl
  | cons x l => obtain ⟨F, e⟩ := h.ch a d x (by rw [hq]; exact List.mem_cons_self); rw [hM] at e; cases e
 refine h.updv ?_ (fun F e => by rw [hM] at e; cases e) (fun c d e => absurd e (hna c d)) ⟨fun e => by have e : k = 1 := e; subst e; rfl, fun e => by have e : k = 3 := e; subst e; rfl⟩
 by_cases e1 : k = 1
 ·subst e1
  show Go.Proofs.YtjgbhpclmlcbbaaGreatDoor.lnk q a (1, [0, 0, 0, 0, -1, -1, -1, -1, -1]) = _
  rw [lnk_chan, hqa, hqa]; rfl
 ·by_cases e3 : k = 3
  ·subst e3
   show Go.Proofs.YtjgbhpclmlcbbaaGreatDoor.lnk q a (3, [-1, -1, 0, -1, 0, 0, -1]) = _
   rw [lnk_sudog, nxtQ_not (fun d => hna _ d)]; rfl
  ·exact lnk_other _ _ _ ⟨e1, e3⟩
theorem Sys.none {M : Hp} {q : Qs} {a : Int} (h : Sys M q) (hM : ∀ F, M a ≠ some (1, F)) (d : Bool) : q a d = [] := by
 cases hq : q a d with
 | nil => rfl
 | cons x l => obtain ⟨F, e⟩ := h.ch a d x (by rw [hq]; exact List.mem_cons_self); exact absurd e (hM F)
theorem lnk_congr {q q' : Qs} {a : Int} {v : Int × List Int} (h1 : v.1 = 1 → ∀ d, q' a d = q a d) (h3 : ∀ g c w n p r m, v = (3, [g, c, w, n, p, r, m]) → nxtQ q' c a = nxtQ q c a) : lnk q' a v = lnk q a v := by
 obtain ⟨k, F⟩ := v
 by_cases e1 : k = 1
 ·subst e1
  have hf := h1 rfl false; have ht := h1 rfl true
  unfold lnk
  rw [if_pos rfl, if_pos rfl]
  simp only [hf, ht]
 ·by_cases e3 : k = 3
  ·subst e3
   match F with
   | [g, c, w, n, p, r, m] => rw [lnk_sudog, lnk_sudog, h3 g c w n p r m rfl]
   | [] => rfl
   | [_] => rfl
   | [_, _] => rfl
   | [_, _, _] => rfl
   | [_, _, _, _] => rfl
   | [_, _, _, _, _] => rfl
   | [_, _, _, _, _, _] => rfl
   | _ :: _ :: _ :: _ :: _ :: _ :: _ :: _ :: _ => rfl
  ·rw [lnk_other _ _ _ ⟨e1, e3⟩, lnk_other _ _ _ ⟨e1, e3⟩]
theorem nxtQ_upd {q : Qs} {c a : Int} {d : Bool} {l : List Int} (hm : a ∈ l ↔ a ∈ q c d) (hs : sucL l a = sucL (q c d) a) : nxtQ (updQ q c d l) c a = nxtQ q c a := by
 unfold nxtQ
 cases d with
 | false =>
  rw [updQ_same, updQ_ne (c' := c) (d' := true) (fun h => by cases h.2), hs]
  by_cases h : a ∈ l
  ·rw [if_pos h, if_pos (hm.1 h)]
  ·rw [if_neg h, if_neg (fun k => h (hm.2 k))]
 | true => rw [updQ_same, updQ_ne (c' := c) (d' := false) (fun h => by cases h.2), hs]
theorem nxtQ_updne {q : Qs} {c c' a : Int} {d : Bool} {l : List Int} (h : c' ≠ c) : nxtQ (updQ q c d l) c' a = nxtQ q c' a := by
 unfold nxtQ
 rw [updQ_ne (fun k => h k.1), updQ_ne (fun k => h k.1)]
def endF (d : Bool) (h t t0 t1 s0 s1 : Int) : List Int := if d then [t0, t1, h, t] else [h, t, s0, s1]
theorem lnk_ends {q : Qs} {c a0 a1 a2 a3 a4 t0 t1 s0 s1 : Int} {d : Bool} {l : List Int} (h : lnk q c (1, [a0, a1, a2, a3, a4, t0, t1, s0, s1]) = (1, [a0, a1, a2, a3, a4, t0, t1, s0, s1])) : lnk (updQ q c d l) c (1, [a0, a1, a2, a3, a4, t0, t1, s0, s1]) = (1, [a0, a1, a2, a3, a4] ++ endF d (hdQ l) (ltQ l) t0 t1 s0 s1) := by
 rw [lnk_chan] at h ⊢
 simp only [Prod.mk.injEq, List.cons.injEq, true_and, and_true] at h
 obtain ⟨h1, h2, h3, h4⟩ := h
 cases d with
 | false => rw [updQ_same, updQ_ne (c' := c) (d' := true) (fun k => by cases k.2), h3, h4]; rfl
 | true => rw [updQ_same, updQ_ne (c' := c) (d' := false) (fun k => by cases k.2), h1, h2]; rfl
theorem fix_else {M : Hp} {q : Qs} (h : Sys M q) {c a : Int} {d : Bool} {l : List Int} (hc : a ≠ c) (hm : a ∈ l ↔ a ∈ q c d) (hs : sucL l a = sucL (q c d) a) : relink M (updQ q c d l) a = M a :=
 relink_fix h fun v hv => lnk_congr (fun h1 d' => updQ_ne fun k => hc k.1) fun g c' w n p r m e => by
  by_cases hcc : c' = c
  ·subst hcc; exact nxtQ_upd hm hs
  ·exact nxtQ_updne hcc
theorem Sys.chan_ne {M : Hp} {c s a0 : Int} {F G : List Int} (hc : M c = some (1, F)) (hs : M s = some (3, G)) : s ≠ c := fun e => by
 rw [e, hc] at hs; cases hs
theorem Sys.push {M : Hp} {q : Qs} (h : Sys M q) {c s a0 a1 a2 a3 a4 t0 t1 s0 s1 g w n p r m : Int} {d : Bool} (hc : M c = some (1, [a0, a1, a2, a3, a4, t0, t1, s0, s1])) (hs : M s = some (3, [g, c, w, n, p, r, m])) (hn : ∀ d, s ∉ q c d) :
  Sys (Go.Proofs.YtjgbhpclmlcbbaaGreatDoor.relink M (updQ q c d (q c d ++ [s]))) (updQ q c d (q c d ++ [s])) ∧
  (q c d = [] → Go.Proofs.YtjgbhpclmlcbbaaGreatDoor.relink M (updQ q c d (q c d ++ [s])) = upd (upd M c (1, [a0, a1, a2, a3, a4] ++ endF d s s t0 t1 s0 s1)) s (3, [g, c, w, -1, p, r, m])) ∧
  (q c d ≠ [] → ∃ gx wx nx px rx mx, M (ltQ (q c d)) = some (3, [gx, c, wx, nx, px, rx, mx]) ∧ ltQ (q c d) ≠ s ∧ Go.Proofs.YtjgbhpclmlcbbaaGreatDoor.relink M (updQ q c d (q c d ++ [s])) = upd (upd (upd M (ltQ (q c d)) (3, [gx, c, wx, s, px, rx, mx])) c (1, [a0, a1, a2, a3, a4] ++ endF d (if d then s0 else t0) s t0 t1 s0 s1)) s (3, [g, c, w, -1, p, r, m])) := by
 have hsc : s ≠ c := Sys.chan_ne (a0 := 0) hc hs
 have hnd := h.nd c d
 have hnd' : (q c d ++ [s]).Nodup := by
  rw [List.nodup_append]
  exact ⟨hnd, by simp, fun a ha b hb => by simp at hb; subst hb; exact fun e => hn d (e ▸ ha)⟩
 have hlc := h.lnk hc
 refine ⟨?_, fun he => ?_, fun he => ?_⟩
 ·refine h.relink (fun c' d' s' hs' => ?_) (fun c' d' => ?_) (fun c' s' h1 h2 => ?_)
  ·by_cases e : c' = c ∧ d' = d
   ·obtain ⟨rfl, rfl⟩ := e
    rw [updQ_same] at hs'
    rcases List.mem_append.1 hs' with k | k
    ·exact ⟨h.ch _ _ _ k, h.sg _ _ _ k⟩
    ·rw [List.mem_singleton.1 k]
     exact ⟨⟨_, hc⟩, g, w, n, p, r, m, hs⟩
   ·rw [updQ_ne e] at hs'
    exact ⟨h.ch _ _ _ hs', h.sg _ _ _ hs'⟩
  ·by_cases e : c' = c ∧ d' = d
   ·obtain ⟨rfl, rfl⟩ := e; rw [updQ_same]; exact hnd'
   ·rw [updQ_ne e]; exact h.nd _ _
  ·by_cases ec : c' = c
   ·subst ec
    cases d with
    | false =>
     rw [updQ_same] at h1
     rw [updQ_ne (fun k => by cases k.2)] at h2
     rcases List.mem_append.1 h1 with k | k
     ·exact h.dj _ _ k h2
     ·rw [List.mem_singleton.1 k] at h2; exact hn true h2
    | true =>
     rw [updQ_same] at h2
     rw [updQ_ne (fun k => by cases k.2)] at h1
     rcases List.mem_append.1 h2 with k | k
     ·exact h.dj _ _ h1 k
     ·rw [List.mem_singleton.1 k] at h1; exact hn false h1
   ·rw [updQ_ne (fun k => ec k.1)] at h1 h2
    exact h.dj _ _ h1 h2
 ·funext a
  by_cases e1 : a = s
  ·subst e1
   rw [upd_same, relink_get hs, lnk_sudog]
   have : nxtQ (updQ q c d (q c d ++ [a])) c a = -1 := by
    unfold nxtQ
    rw [he]
    cases d with
    | false => rw [updQ_same, if_pos (by simp)]; rfl
    | true => rw [updQ_same, updQ_ne (fun k => by cases k.2), if_neg (hn false)]; rfl
   rw [this]
  ·rw [upd_ne e1]
   by_cases e2 : a = c
   ·subst e2
    rw [upd_same, relink_get hc, lnk_ends hlc, he]
    rfl
   ·rw [upd_ne e2]
    exact fix_else h e2 (by rw [he]; simp [e1]) (by rw [he]; rfl)
 ·obtain ⟨x, hx⟩ : ∃ x, x = ltQ (q c d) := ⟨_, rfl⟩
  have hxm : x ∈ q c d := hx ▸ ltQ_mem he
  have hxl : (q c d).getLast? = some x := by
   rw [hx]; unfold ltQ
   cases hq : (q c d).getLast? with
   | none => rw [List.getLast?_eq_none_iff] at hq; exact absurd hq he
   | some y => rfl
  obtain ⟨gx, wx, nx, px, rx, mx, hMx⟩ := h.sg c d x hxm
  have hxs : x ≠ s := fun e => hn d (e ▸ hxm)
  have hxc : x ≠ c := Sys.chan_ne (a0 := 0) hc hMx
  rw [← hx]
  refine ⟨gx, wx, nx, px, rx, mx, hMx, hxs, ?_⟩
  funext a
  by_cases e1 : a = s
  ·subst e1
   rw [upd_same, relink_get hs, lnk_sudog]
   have : nxtQ (updQ q c d (q c d ++ [a])) c a = -1 := by
    unfold nxtQ
    have hl : (q c d ++ [a]).getLast? = some a := by simp
    cases d with
    | false => rw [updQ_same, if_pos (by simp)]; exact sucL_last hnd' hl
    | true => rw [updQ_same, updQ_ne (fun k => by cases k.2), if_neg (hn false)]; exact sucL_last hnd' hl
   rw [this]
  ·rw [upd_ne e1]
   by_cases e2 : a = c
   ·subst e2
    rw [upd_same, relink_get hc, lnk_ends hlc, hdQ_app, if_neg he, ltQ_app]
    rw [lnk_chan] at hlc
    simp only [Prod.mk.injEq, List.cons.injEq, true_and, and_true] at hlc
    obtain ⟨h1, h2, h3, h4⟩ := hlc
    cases d with
    | false => rw [h1]; rfl
    | true => rw [h3]; rfl
   ·rw [upd_ne e2]
    by_cases e3 : a = x
    ·subst e3
     rw [upd_same, relink_get hMx, lnk_sudog]
     have : nxtQ (updQ q c d (q c d ++ [s])) c a = s := by
      unfold nxtQ
      cases d with
      | false => rw [updQ_same, if_pos (List.mem_append_left _ hxm)]; exact sucL_app_last hnd hxl
      | true => rw [updQ_same, updQ_ne (fun k => by cases k.2), if_neg (fun k => h.dj _ _ k hxm)]; exact sucL_app_last hnd hxl
     rw [this]
    ·rw [upd_ne e3]
     refine fix_else h e2 (by simp [e1]) ?_
     by_cases em : a ∈ q c d
     ·exact sucL_app em (hx ▸ e3)
     ·rw [sucL_not em, sucL_not (by simp [em, e1])]
theorem Sys.take {M : Hp} {q : Qs} (h : Sys M q) {c s : Int} {d : Bool} {A B : List Int} (hq : q c d = A ++ s :: B) : Sys (Go.Proofs.YtjgbhpclmlcbbaaGreatDoor.relink M (updQ q c d (A ++ B))) (updQ q c d (A ++ B)) := by
 have hnd := h.nd c d
 rw [hq] at hnd
 have hsub : ∀ x, x ∈ A ++ B → x ∈ q c d := fun x hx => by rw [hq]; rcases List.mem_append.1 hx with k | k <;> simp [k]
 refine h.relink (fun c' d' s' hs' => ?_) (fun c' d' => ?_) (fun c' s' h1 h2 => ?_)
 ·by_cases e : c' = c ∧ d' = d
  ·obtain ⟨rfl, rfl⟩ := e
   rw [updQ_same] at hs'
   exact ⟨h.ch _ _ _ (hsub _ hs'), h.sg _ _ _ (hsub _ hs')⟩
  ·rw [updQ_ne e] at hs'
   exact ⟨h.ch _ _ _ hs', h.sg _ _ _ hs'⟩
 ·by_cases e : c' = c ∧ d' = d
  ·obtain ⟨rfl, rfl⟩ := e; rw [updQ_same]
   exact (List.Sublist.append_left (List.sublist_cons_self s B) A).nodup hnd
  ·rw [updQ_ne e]; exact h.nd _ _
 ·by_cases ec : c' = c
  ·subst ec
   cases d with
   | false =>
    rw [updQ_same] at h1
    rw [updQ_ne (fun k => by cases k.2)] at h2
    exact h.dj _ _ (hsub _ h1) h2
   | true =>
    rw [updQ_same] at h2
    rw [updQ_ne (fun k => by cases k.2)] at h1
    exact h.dj _ _ h1 (hsub _ h2)
  ·rw [updQ_ne (fun k => ec k.1)] at h1 h2
   exact h.dj _ _ h1 h2
theorem Sys.out {M : Hp} {q : Qs} (h : Sys M q) {c s : Int} {d : Bool} {A B : List Int} (hq : q c d = A ++ s :: B) {d' : Bool} : s ∉ updQ q c d (A ++ B) c d' := by
 have hnd := h.nd c d
 rw [hq] at hnd
 have hsm : s ∈ q c d := by rw [hq]; simp
 by_cases e : d' = d
 ·subst e
  rw [updQ_same]
  intro k
  have := (List.nodup_append.1 hnd)
  rcases List.mem_append.1 k with k | k
  ·exact this.2.2 s k s (by simp) rfl
  ·exact (List.nodup_cons.1 this.2.1).1 k
 ·rw [updQ_ne (fun k => e k.2)]
  intro k
  cases d with
  | false => cases d' with
   | false => exact e rfl
   | true => exact h.dj _ _ hsm k
  | true => cases d' with
   | true => exact e rfl
   | false => exact h.dj _ _ k hsm
theorem Sys.pop {M : Hp} {q : Qs} (h : Sys M q) {c s a0 a1 a2 a3 a4 t0 t1 s0 s1 g w n p r m : Int} {d : Bool} {B : List Int} (hq : q c d = s :: B) (hc : M c = some (1, [a0, a1, a2, a3, a4, t0, t1, s0, s1])) (hs : M s = some (3, [g, c, w, n, p, r, m])) :
  n = hdQ B ∧ Go.Proofs.YtjgbhpclmlcbbaaGreatDoor.relink M (updQ q c d B) = upd (upd M c (1, [a0, a1, a2, a3, a4] ++ endF d (hdQ B) (ltQ B) t0 t1 s0 s1)) s (3, [g, c, w, -1, p, r, m]) := by
 have hsc : s ≠ c := Sys.chan_ne (a0 := 0) hc hs
 have hnd := h.nd c d
 have hsm : s ∈ q c d := by rw [hq]; simp
 have ho := fun d' => h.out (A := []) (B := B) (s := s) (d := d) (by simpa using hq) (d' := d')
 simp only [List.nil_append] at ho
 have hn : n = hdQ B := by
  have := h.lnk hs
  rw [lnk_sudog, h.nxt hsm, hq] at this
  simp only [Prod.mk.injEq, List.cons.injEq, true_and, and_true] at this
  rw [← this]
  cases B with
  | nil => rfl
  | cons b B => show (if s = s then b else _) = _; rw [if_pos rfl]; rfl
 refine ⟨hn, ?_⟩
 funext a
 by_cases e1 : a = s
 ·subst e1
  rw [upd_same, relink_get hs, lnk_sudog, nxtQ_not ho]
 ·rw [upd_ne e1]
  by_cases e2 : a = c
  ·subst e2
   rw [upd_same, relink_get hc, lnk_ends (h.lnk hc)]
  ·rw [upd_ne e2]
   refine fix_else h e2 ?_ ?_
   ·rw [hq]; simp [e1]
   ·rw [hq, sucL_tail e1]
theorem Sys.rem {M : Hp} {q : Qs} (h : Sys M q) {c s x a0 a1 a2 a3 a4 t0 t1 s0 s1 g w n p r m gx wx nx px rx mx : Int} {d : Bool} {A B : List Int} (hq : q c d = A ++ x :: s :: B) (hc : M c = some (1, [a0, a1, a2, a3, a4, t0, t1, s0, s1])) (hs : M s = some (3, [g, c, w, n, p, r, m])) (hx : M x = some (3, [gx, c, wx, nx, px, rx, mx])) :
  n = hdQ B ∧ x ≠ s ∧ Go.Proofs.YtjgbhpclmlcbbaaGreatDoor.relink M (updQ q c d (A ++ x :: B)) = upd (upd (upd M x (3, [gx, c, wx, hdQ B, px, rx, mx])) c (1, [a0, a1, a2, a3, a4] ++ endF d (if d then s0 else t0) (if B = [] then x else (if d then s1 else t1)) t0 t1 s0 s1)) s (3, [g, c, w, -1, p, r, m]) := by
 have hsc : s ≠ c := Sys.chan_ne (a0 := 0) hc hs
 have hxc : x ≠ c := Sys.chan_ne (a0 := 0) hc hx
 have hnd := h.nd c d
 have hnd' := hnd
 rw [hq] at hnd'
 have hsm : s ∈ q c d := by rw [hq]; simp
 have hxm : x ∈ q c d := by rw [hq]; simp
 have hq' : q c d = (A ++ [x]) ++ s :: B := by rw [hq]; simp
 have ho := fun d' => h.out (A := A ++ [x]) (B := B) (s := s) (d := d) hq' (d' := d')
 simp only [List.append_assoc, List.singleton_append] at ho
 have hi : (q c d)[A.length + 1]? = some s := by rw [hq]; simp
 have hxi : (q c d)[A.length]? = some x := by rw [hq]; simp
 have hn : n = hdQ B := by
  have := h.lnk hs
  rw [lnk_sudog, h.nxt hsm, sucL_get _ _ hnd hi, hq] at this
  simp only [Prod.mk.injEq, List.cons.injEq, true_and, and_true] at this
  rw [← this, List.getElem?_append_right (by omega)]
  cases B with
  | nil => simp [hdQ, show A.length + 1 + 1 - A.length = 2 by omega]
  | cons b B => simp [hdQ, show A.length + 1 + 1 - A.length = 2 by omega]
 have hxs : x ≠ s := fun e => by
  subst e
  have := (List.nodup_append.1 hnd').2.1
  exact (List.nodup_cons.1 this).1 (by simp)
 refine ⟨hn, hxs, ?_⟩
 funext a
 by_cases e1 : a = s
 ·subst e1
  rw [upd_same, relink_get hs, lnk_sudog, nxtQ_not ho]
 ·rw [upd_ne e1]
  by_cases e2 : a = c
  ·subst e2
   have hlc := h.lnk hc
   rw [upd_same, relink_get hc, lnk_ends hlc]
   rw [lnk_chan] at hlc
   simp only [Prod.mk.injEq, List.cons.injEq, true_and, and_true] at hlc
   obtain ⟨h1, h2, h3, h4⟩ := hlc
   have hh : hdQ (A ++ x :: B) = hdQ (q a d) := by rw [hq]; cases A <;> rfl
   have ht : ltQ (A ++ x :: B) = if B = [] then x else ltQ (q a d) := by
    rw [hq]
    cases B with
    | nil => rw [if_pos rfl]; unfold ltQ; simp
    | cons b B => rw [if_neg (by simp)]; unfold ltQ; simp
   rw [hh, ht]
   cases d with
   | false => rw [h1, h2]; rfl
   | true => rw [h3, h4]; rfl
  ·rw [upd_ne e2]
   have hmid := fun (y : Int) (hy : y ≠ s) => sucL_mid (A := A) (B := B) (p := x) (s := s) (x := y) hnd' hy
   by_cases e3 : a = x
   ·subst e3
    rw [upd_same, relink_get hx, lnk_sudog]
    have hne : nxtQ (updQ q c d (A ++ a :: B)) c a = hdQ B := by
     unfold nxtQ
     cases d with
     | false => rw [updQ_same, if_pos (by simp), hmid a e1, if_pos rfl]
     | true => rw [updQ_same, updQ_ne (fun k => by cases k.2), if_neg (fun k => h.dj _ _ k hxm), hmid a e1, if_pos rfl]
    rw [hne]
   ·rw [upd_ne e3]
    refine fix_else h e2 ?_ ?_
    ·rw [hq]; simp [e1]
    ·rw [hq, hmid a e1, if_neg e3]
structure Bst (R : List Rw) (ws vs C : List Int) (N W ph : Int) (L D Q : List PV) (z : ByteArray) (P B V Qr la : List PV) (m : Int) (M : Hp) : Prop where
 h : HM R ws C [] N W L D Q z
 r : RM R vs C [] N W P B V Qr la m
 c : Cont R ws M
 d : Cont R vs M
 ph : ph = 0
 w : C = List.replicate W.toNat 0
theorem Bst.colour {R R' : List Rw} {ws vs ws' vs' C C' DC : List Int} {N W ph : Int} {L D Q L' D' Q' : List PV} {z : ByteArray} {P B V Qr la P' B' V' Qr' : List PV} {m : Int} {M : Hp} {x e : Int} (S : Bst R ws vs C N W ph L D Q z P B V Qr la m M) (he : e = 0) (h1 : HM R' ws' C' [] N W L' D' Q' z) (g1 : RM R' vs' DC [] N W P' B' V' Qr' la m) (hC : C' = allocC ph x e C) (hD : DC = allocC ph x e C) : C = C' ∧ C = DC ∧ Q = Q' ∧ Qr = Qr' := by
 have : allocC ph x e C = C := by rw [S.ph, he, S.w]; exact allocC_white x
 rw [this] at hC hD
 exact ⟨hC.symm, hD.symm, by rw [h1.q, S.h.q, hC], by rw [g1.q, S.r.q, hD]⟩
structure BCh (M : Hp) (c b cap : Int) : Prop where
 c : M c = some (1, [cap, 0, 0, 0, b, -1, -1, -1, -1])
 b : (cap = 0 ∧ b = -1) ∨ (0 < cap ∧ cap < 4 ∧ M b = some (2, List.replicate cap.toNat 0))
def capW (x : Int) : Int := IntKind.u64.wrap x % 4
theorem capW_bd (x : Int) : 0 ≤ capW x ∧ capW x < 4 := by unfold capW; omega
def ngor (n : Int) : Int := 1 + IntKind.u64.wrap n % 6
theorem ngor_bd (n : Int) : 1 ≤ ngor n ∧ ngor n ≤ 6 := by unfold ngor; omega
structure Bn (caps : List Int) (M : Hp) (chs bufs gs : List Int) : Prop where
 len : bufs.length = chs.length
 lec : chs.length ≤ caps.length
 ch : ∀ (j : Nat) (c x : Int), chs[j]? = some c → caps[j]? = some x → ∃ b, bufs[j]? = some b ∧ BCh M c b (capW x)
 nd : chs.Nodup
 bnd : ∀ (i j : Nat) (b : Int), bufs[i]? = some b → bufs[j]? = some b → 0 ≤ b → i = j
 gnd : gs.Nodup
 gr : ∀ (j : Nat) (g : Int), gs[j]? = some g → M g = some (4, [(j : Int), 0, 0, 0, 0, 0, 0, 0, 0, -1])
theorem Bn.new (caps : List Int) (M : Hp) : Bn caps M [] [] [] := ⟨rfl, Nat.zero_le _, fun j c x h => by simp at h, List.nodup_nil, fun i j b h => by simp at h, List.nodup_nil, fun j g h => by simp at h⟩
theorem Bn.chAt {caps : List Int} {M : Hp} {chs bufs gs : List Int} (h : Bn caps M chs bufs gs) {c : Int} (hc : c ∈ chs) : ∃ (j : Nat) (b x : Int), chs[j]? = some c ∧ caps[j]? = some x ∧ bufs[j]? = some b ∧ BCh M c b (capW x) := by
 obtain ⟨j, hj⟩ := List.getElem?_of_mem hc
 have hl := (List.getElem?_eq_some_iff.1 hj).1
 obtain ⟨x, hx⟩ : ∃ x, caps[j]? = some x := ⟨_, List.getElem?_eq_getElem (by have := h.lec; omega)⟩
 obtain ⟨b, hb, hB⟩ := h.ch j c x hj hx
 exact ⟨j, b, x, hj, hx, hb, hB⟩
theorem Bn.bufAt {caps : List Int} {M : Hp} {chs bufs gs : List Int} (h : Bn caps M chs bufs gs) {b : Int} (hb : b ∈ bufs) : b = -1 ∨ ∃ F, M b = some (2, F) := by
 obtain ⟨j, hj⟩ := List.getElem?_of_mem hb
 have hl := (List.getElem?_eq_some_iff.1 hj).1
 obtain ⟨c, hc⟩ : ∃ c, chs[j]? = some c := ⟨_, List.getElem?_eq_getElem (by have := h.len; omega)⟩
 obtain ⟨x, hx⟩ : ∃ x, caps[j]? = some x := ⟨_, List.getElem?_eq_getElem (by have := h.lec; have := h.len; omega)⟩
 obtain ⟨b', hb', hB⟩ := h.ch j c x hc hx
 obtain rfl : b = b' := Option.some.inj (hj.symm.trans hb')
 rcases hB.b with q | q
 ·exact .inl q.2
 ·exact .inr ⟨_, q.2.2⟩
theorem Bn.weaken {caps : List Int} {M M' : Hp} {chs bufs gs : List Int} (h : Bn caps M chs bufs gs) (hM : ∀ a v, M a = some v → M' a = some v) : Bn caps M' chs bufs gs := by
 refine ⟨h.len, h.lec, fun j c x hc hx => ?_, h.nd, h.bnd, h.gnd, fun j g hg => hM _ _ (h.gr j g hg)⟩
 obtain ⟨b, hb, hB⟩ := h.ch j c x hc hx
 refine ⟨b, hb, hM _ _ hB.c, ?_⟩
 rcases hB.b with q | ⟨q1, q2, q3⟩
 ·exact .inl q
 ·exact .inr ⟨q1, q2, hM _ _ q3⟩
theorem Bn.chan0 {caps : List Int} {M : Hp} {chs bufs : List Int} (h : Bn caps M chs bufs []) {c x : Int} (hx : caps[chs.length]? = some x) (h0 : capW x = 0) (hc : M c = none) (G : Int × List Int) : Bn caps (upd (upd M c G) c (1, [capW x, 0, 0, 0, -1, -1, -1, -1, -1])) (chs ++ [c]) (bufs ++ [-1]) [] := by
 have hlx := (List.getElem?_eq_some_iff.1 hx).1
 have hnc : c ∉ chs := fun q => by
  obtain ⟨_, _, _, _, _, _, hB⟩ := h.chAt q
  have := hB.c; rw [hc] at this; cases this
 have hw := h.weaken (M' := upd (upd M c G) c (1, [capW x, 0, 0, 0, -1, -1, -1, -1, -1])) fun a v ha => by
  have : a ≠ c := fun q => by rw [q, hc] at ha; cases ha
  rw [upd_ne this, upd_ne this]; exact ha
 refine ⟨by simp [h.len], by simp; omega, fun j c' x' hj hx' => ?_, ?_, fun i j b hi hj hb => ?_, List.nodup_nil, fun j g hg => by simp at hg⟩
 ·rw [List.getElem?_append] at hj
  split at hj
  ·obtain ⟨b, hb, hB⟩ := hw.ch j c' x' hj hx'
   exact ⟨b, by rw [List.getElem?_append_left (by rw [h.len]; assumption)]; exact hb, hB⟩
  ·rename_i q
   have hj0 : j = chs.length := by have := (List.getElem?_eq_some_iff.1 hj).1; simp at this; omega
   subst hj0
   simp at hj
   subst hj
   obtain rfl : x = x' := Option.some.inj (hx.symm.trans hx')
   exact ⟨-1, by rw [← h.len]; simp, upd_same _ _ _, .inl ⟨h0, rfl⟩⟩
 ·rw [List.nodup_append]
  exact ⟨h.nd, by simp, fun a ha b hb => by simp at hb; subst hb; exact fun e => hnc (e ▸ ha)⟩
 ·rw [List.getElem?_append] at hi hj
  split at hi <;> split at hj
  ·exact h.bnd i j b hi hj hb
  ·have := (List.getElem?_eq_some_iff.1 hj).1; simp at this; simp [this] at hj; omega
  ·have := (List.getElem?_eq_some_iff.1 hi).1; simp at this; simp [this] at hi; omega
  ·have := (List.getElem?_eq_some_iff.1 hi).1; simp at this; simp [this] at hi; omega
theorem Bn.chan1 {caps : List Int} {M : Hp} {chs bufs : List Int} (h : Bn caps M chs bufs []) {c b x : Int} (hx : caps[chs.length]? = some x) (h0 : 0 < capW x) (hc : M c = none) (G : Int × List Int) (hb : upd M c G b = none) : Bn caps (upd (upd (upd M c G) b (2, List.replicate (capW x).toNat 0)) c (1, [capW x, 0, 0, 0, b, -1, -1, -1, -1])) (chs ++ [c]) (bufs ++ [b]) [] := by
 have hlx := (List.getElem?_eq_some_iff.1 hx).1
 have hbc : b ≠ c := fun q => by rw [q, upd_same] at hb; cases hb
 rw [upd_ne hbc] at hb
 have hnc : c ∉ chs := fun q => by
  obtain ⟨_, _, _, _, _, _, hB⟩ := h.chAt q
  have := hB.c; rw [hc] at this; cases this
 have hnb : b ∈ bufs → b = -1 := fun q => by
  rcases h.bufAt q with q | ⟨F, q⟩
  ·exact q
  ·rw [hb] at q; cases q
 have hw := h.weaken (M' := upd (upd (upd M c G) b (2, List.replicate (capW x).toNat 0)) c (1, [capW x, 0, 0, 0, b, -1, -1, -1, -1])) fun a v ha => by
  have q1 : a ≠ c := fun q => by rw [q, hc] at ha; cases ha
  have q2 : a ≠ b := fun q => by rw [q, hb] at ha; cases ha
  rw [upd_ne q1, upd_ne q2, upd_ne q1]; exact ha
 refine ⟨by simp [h.len], by simp; omega, fun j c' x' hj hx' => ?_, ?_, fun i j b' hi hj hb' => ?_, List.nodup_nil, fun j g hg => by simp at hg⟩
 ·rw [List.getElem?_append] at hj
  split at hj
  ·obtain ⟨b, hb, hB⟩ := hw.ch j c' x' hj hx'
   exact ⟨b, by rw [List.getElem?_append_left (by rw [h.len]; assumption)]; exact hb, hB⟩
  ·rename_i q
   have hj0 : j = chs.length := by have := (List.getElem?_eq_some_iff.1 hj).1; simp at this; omega
   subst hj0
   simp at hj
   subst hj
   obtain rfl : x = x' := Option.some.inj (hx.symm.trans hx')
   exact ⟨b, by rw [← h.len]; simp, upd_same _ _ _, .inr ⟨h0, (capW_bd x).2, by rw [upd_ne hbc, upd_same]⟩⟩
 ·rw [List.nodup_append]
  exact ⟨h.nd, by simp, fun a ha b hb => by simp at hb; subst hb; exact fun e => hnc (e ▸ ha)⟩
 ·rw [List.getElem?_append] at hi hj
  split at hi <;> split at hj
  ·exact h.bnd i j b' hi hj hb'
  ·have := (List.getElem?_eq_some_iff.1 hj).1; simp at this; simp [this] at hj; subst hj
   have := hnb (List.mem_of_getElem? hi); omega
  ·have := (List.getElem?_eq_some_iff.1 hi).1; simp at this; simp [this] at hi; subst hi
   have := hnb (List.mem_of_getElem? hj); omega
  ·have q1 := (List.getElem?_eq_some_iff.1 hi).1; have q2 := (List.getElem?_eq_some_iff.1 hj).1; simp at q1 q2; omega
theorem Bn.gor {caps : List Int} {M : Hp} {chs bufs gs : List Int} (h : Bn caps M chs bufs gs) {g j : Int} (hj : j = gs.length) (hg : M g = none) (G : Int × List Int) : Bn caps (upd (upd M g G) g (4, [j, 0, 0, 0, 0, 0, 0, 0, 0, -1])) chs bufs (gs ++ [g]) := by
 have hng : g ∉ gs := fun q => by
  obtain ⟨j, hj⟩ := List.getElem?_of_mem q
  rw [h.gr j g hj] at hg; cases hg
 have hw := h.weaken (M' := upd (upd M g G) g (4, [j, 0, 0, 0, 0, 0, 0, 0, 0, -1])) fun a v ha => by
  have : a ≠ g := fun q => by rw [q, hg] at ha; cases ha
  rw [upd_ne this, upd_ne this]; exact ha
 refine ⟨h.len, h.lec, hw.ch, h.nd, h.bnd, ?_, fun k x hk => ?_⟩
 ·rw [List.nodup_append]
  exact ⟨h.gnd, by simp, fun a ha b hb => by simp at hb; subst hb; exact fun e => hng (e ▸ ha)⟩
 ·rw [List.getElem?_append] at hk
  split at hk
  ·exact hw.gr k x hk
  ·have := (List.getElem?_eq_some_iff.1 hk).1; simp at this
   have hk0 : k = gs.length := by omega
   subst hk0
   simp at hk
   subst hk
   rw [upd_same, hj]
theorem alloc15_lx (R : List Rw) (ws vs C : List Int) (N W ph sp cy : Int) (L D Q : List PV) (z : ByteArray) (ov : Bool) (P B V Qr la : List PV) (m : Int) (M : Hp) (nc ng : Int) (cs gs : List PV) (o : Unit → Obj) (S : Bst R ws vs C N W ph L D Q z P B V Qr la m M) (kd n : Int) (hk : 0 ≤ n ∧ n ≤ 31 ∧ 1 ≤ kd ∧ kd ≤ 6) (hlen : lenK kd n.toNat) (hroom : objCount R < R.length) : CallF (fun _ => Tryz.prog) 76 [.ptr 16 (.lit 0), i6 kd, i6 n] [hpA 0 1 5 6 3 W ph sp cy, hpB 1 2 4 3 W, hpC 2 3 214 2 N, hpP 3 L, hpP 4 D, hpF 5 z ov, hpP 6 Q, hpR 7 8 13 3 W 14 ph sp cy, hpB 8 9 12 3 W, hpD 9 10 3 1 N 11 209 8 N, hpP 10 P, hpP 11 B, hpP 12 V, hpP 13 Qr, (14, .mix [.p (.vsl (.sym m) true la), .p (.bool ov)]), (15, .fix 0 o), (16, .mix [.ptr 0 (.lit 0), .ptr 7 (.lit 0), .sl 17 3 1 (.lit 0) (.sym nc), .sl 18 3 1 (.lit 0) (.sym ng)]), hpP 17 cs, hpP 18 gs] 19 (fun r h n' => ∃ (x : Int) (R' : List Rw) (ws' vs' : List Int) (L' D' P' B' V' : List PV), r = .p (.int .i64 (.sym x)) ∧ h = [hpA 0 1 5 6 3 W ph sp cy, hpB 1 2 4 3 W, hpC 2 3 214 2 N, hpP 3 L', hpP 4 D', hpF 5 z ov, hpP 6 Q, hpR 7 8 13 3 W 14 ph sp cy, hpB 8 9 12 3 W, hpD 9 10 3 1 N 11 209 8 N, hpP 10 P', hpP 11 B', hpP 12 V', hpP 13 Qr, (14, .mix [.p (.vsl (.sym m) true la), .p (.bool ov)]), (15, .fix 0 o), (16, .mix [.ptr 0 (.lit 0), .ptr 7 (.lit 0), .sl 17 3 1 (.lit 0) (.sym nc), .sl 18 3 1 (.lit 0) (.sym ng)]), hpP 17 cs, hpP 18 gs] ∧ n' = 19 ∧ Bst R' ws' vs' C N W ph L' D' Q z P' B' V' Qr la m (upd M x (kd, zerK kd n.toNat)) ∧ objCount R' = objCount R + 1 ∧ M x = Option.none ∧ 0 ≤ x ∧ x < W ∧ R'.length = R.length) := by
 refine callF_of_body tok Tryz.func76 (by kernel_rfl) rfl rfl rfl ?_; conv => cbv
 refine cfr (alloc9_lx R ws C [] N W ph sp cy L D Q z ov S.h kd n) [(0, 0), (1, 1), (2, 2), (3, 3), (4, 4), (5, 5), (6, 6)] (fun r h' n' hrr => ?_)
 obtain ⟨x, e, R', ws', C', L', D', Q', e1, e2, e3, h1, hT, hC⟩ := hrr
 subst e1 e2 e3
 conv => cbv
 refine cfr (ralloc9_lx R vs C [] N W ph sp cy P B V Qr la m ov S.r kd n) [(0, 7), (1, 8), (2, 9), (3, 10), (4, 11), (5, 12), (6, 13), (7, 14)] (fun r h' n' hrr => ?_)
 obtain ⟨y, f, Y, vs', DC, P', B', V', Qr', e1, e2, e3, g1, hU, hD⟩ := hrr
 subst e1 e2 e3
 obtain ⟨q1, q2, q3, hS1, hl1⟩ := (S.c.toSim S.h.a S.r.a S.d).alloc hT hU
 subst q1 q2 q3
 obtain ⟨he, hM1, hc1, hx0, hx1, hx2, hx3⟩ := S.c.alloc S.h.a hroom hk hlen hT
 obtain ⟨q4, q5, q6, q7⟩ := Bst.colour S he h1 g1 hC hD
 subst q4 q5 q6 q7
 conv => cbv
 refine Br.no (show ¬ ¬ (x = x) from fun q => q rfl) ?_
 conv => cbv
 refine Br.no (show ¬ ¬ (e = 0) from fun q => q he) ?_
 conv => cbv
 refine Br.no (show ¬ ¬ (e = 0) from fun q => q he) ?_
 conv => cbv
 refine RetF.mk [i6 x] [hpA 0 1 5 6 3 W ph sp cy, hpB 1 2 4 3 W, hpC 2 3 214 2 N, hpP 3 L', hpP 4 D', hpF 5 z ov, hpP 6 Q, hpR 7 8 13 3 W 14 ph sp cy, hpB 8 9 12 3 W, hpD 9 10 3 1 N 11 209 8 N, hpP 10 P', hpP 11 B', hpP 12 V', hpP 13 Qr, (14, .mix [.p (.vsl (.sym m) true la), .p (.bool ov)]), (15, .fix 0 o), (16, .mix [.ptr 0 (.lit 0), .ptr 7 (.lit 0), .sl 17 3 1 (.lit 0) (.sym nc), .sl 18 3 1 (.lit 0) (.sym ng)]), hpP 17 cs, hpP 18 gs] 19 (Re.at [(0, 0), (1, 1), (2, 2), (3, 3), (4, 4), (5, 5), (6, 6), (7, 7), (8, 8), (9, 9), (10, 10), (11, 11), (12, 12), (13, 13), (14, 14), (15, 15), (16, 16), (17, 17), (18, 18)] []) rfl ⟨x, R', ws', vs', L', D', P', B', V', rfl, rfl, rfl, ⟨h1, g1, hM1, hM1.sim hS1, S.ph, S.w⟩, hc1, hx0, hx1, by rw [S.h.w, S.h.n]; exact hx2, hx3⟩
theorem made15_lx (o : Unit → Obj) (ho : IsPow o) (caps : List Int) (mc n : Int) (CL : List PV) (hCL : CL = ipv caps) (hmc : mc = caps.length) : CallF (fun _ => Tryz.prog) 28 [.p (.vsl (.sym mc) true CL), i6 n] [(0, .fix 0 o)] 1 (fun r h n' => ∃ (N W : Int) (C : List Int) (R : List Rw) (ws vs : List Int) (L D Q : List PV) (z : ByteArray) (P B V Qr : List PV) (M : Hp) (CS GS : List PV) (chs bufs grs : List Int) (nc ng : Int), r = .ptr 16 (.lit 0) ∧ h = [hpA 1 2 6 7 3 W 0 0 0, hpB 2 3 5 3 W, hpC 3 4 214 2 N, hpP 4 L, hpP 5 D, hpF 6 z false, hpP 7 Q, hpR 8 9 14 3 W 15 0 0 0, hpB 9 10 13 3 W, hpD 10 11 3 1 N 12 209 8 N, hpP 11 P, hpP 12 B, hpP 13 V, hpP 14 Qr, (15, .mix [.p (.vsl (.sym 0) true []), .p (.bool false)]), (0, .fix 0 o), (16, .mix [.ptr 1 (.lit 0), .ptr 8 (.lit 0), .sl 17 3 1 (.lit 0) (.sym nc), .sl 18 3 1 (.lit 0) (.sym ng)]), hpP 17 CS, hpP 18 GS] ∧ n' = 19 ∧ Bst R ws vs C N W 0 L D Q z P B V Qr [] 0 M ∧ Bn caps M chs bufs grs ∧ Sys M (fun _ _ => []) ∧ CS = ipv chs ∧ GS = ipv grs ∧ nc = (chs.length : Int) ∧ ng = (grs.length : Int) ∧ (nc = mc ∨ nc = 4) ∧ nc ≤ mc ∧ nc ≤ 4 ∧ ng = ngor n ∧ (objCount R : Int) ≤ 2 * nc + ng ∧ R.length = 60 ∧ W = 1920) := by
 refine callF_of_bodyB tok Tryz.func28 (by kernel_rfl) rfl rfl rfl [6] ?_; conv => cbv
 obtain ⟨N, hN⟩ : ∃ N : Int, N = 60 := ⟨_, rfl⟩
 obtain ⟨W, hW⟩ : ∃ W, W = 32 * N := ⟨_, rfl⟩
 obtain ⟨Rz, hRz⟩ : ∃ Rz, Rz = List.replicate N.toNat ((0, []) : Rw) := ⟨_, rfl⟩
 obtain ⟨wz, hwz⟩ : ∃ wz, wz = List.replicate W.toNat (0 : Int) := ⟨_, rfl⟩
 obtain ⟨L0, hL0⟩ : ∃ L0, L0 = rpv Rz := ⟨_, rfl⟩
 obtain ⟨D0, hD0⟩ : ∃ D0, D0 = ipv wz := ⟨_, rfl⟩
 obtain ⟨z0, hz0⟩ : ∃ z0 : ByteArray, z0 = ⟨(enc []).toArray⟩ := ⟨_, rfl⟩
 have h0 : HM Rz wz wz [] N W L0 D0 D0 z0 := by rw [hRz, hwz] at *; exact HM.new (by omega) (by omega) hW hL0 hD0 hD0 hz0
 refine CallF.le (args0 := [i6 N]) (callF_frame (newH_lx N W (by omega) (by omega) hW L0 D0 D0 z0 (by rw [hL0, hRz]) (by rw [hD0, hwz]) (by rw [hD0, hwz]) hz0) [] rfl trivial rfl rfl (fun r h' n' ⟨e1, e2, e3⟩ => ?_)) (by simp [ales, ale, pvle, I.val, hN])
 subst e1 e2 e3
 conv => cbv
 refine CallF.le (args0 := [i6 N]) (callF_frame (rnewH_lx N W (by omega) (by omega) hW) [] rfl trivial rfl rfl (fun r h' n' hrr => ?_)) (by simp [ales, ale, pvle, I.val, hN])
 obtain ⟨P0, B0, V0, Qr0, e1, e2, e3, g0⟩ := hrr
 subst e1 e2 e3
 rw [← hRz, ← hwz] at g0
 have hC0 : Cont Rz wz (fun _ => Option.none) := by rw [hRz, hwz]; exact Cont.new _ _
 have hlz : Rz.length = 60 := by rw [hRz, List.length_replicate]; omega
 have hcz : objCount Rz = 0 := by rw [hRz]; exact new_count _
 have hwz' : wz = List.replicate W.toNat 0 := hwz
 conv => cbv
 refine cfr (arena_lx Rz wz wz [] N W 0 0 0 L0 D0 D0 z0 false) [(0, 1), (1, 2), (2, 3), (3, 4), (4, 5), (5, 6), (6, 7)] (fun r h' n' ⟨e1, e2, e3⟩ => ?_)
 subst e1 e2 e3
 conv => cbv
 refine JoinF.mk (fun s => ∃ (i : Int) (R : List Rw) (ws vs : List Int) (L D P B V : List PV) (M : Hp) (CS : List PV) (chs bufs : List Int), s = ⟨.p (.vsl (.sym mc) true CL) :: .p (.int .i64 (.sym n)) :: (undefs 3 ++ .ptr 1 (.lit 0) :: .undef :: .ptr 8 (.lit 0) :: .undef :: .ptr 16 (.lit 0) :: .undef :: undefs 108), [hpA 1 2 6 7 3 W 0 0 0, hpB 2 3 5 3 W, hpC 3 4 214 2 N, hpP 4 L, hpP 5 D, hpF 6 z0 false, hpP 7 D0, hpR 8 9 14 3 W 15 0 0 0, hpB 9 10 13 3 W, hpD 10 11 3 1 N 12 209 8 N, hpP 11 P, hpP 12 B, hpP 13 V, hpP 14 Qr0, (15, .mix [.p (.vsl (.sym 0) true []), .p (.bool false)]), (0, .fix 0 o), (16, .mix [.ptr 1 (.lit 0), .ptr 8 (.lit 0), .sl 17 3 1 (.lit 0) (.sym i), .sl 18 3 1 (.lit 0) (.sym 0)]), hpP 17 CS, (18, .pure true [])], 19⟩ ∧ 0 ≤ i ∧ (i = mc ∨ i = 4) ∧ i ≤ mc ∧ i ≤ 4 ∧ Bst R ws vs wz N W 0 L D D0 z0 P B V Qr0 [] 0 M ∧ Bn caps M chs bufs [] ∧ Sys M (fun _ _ => []) ∧ CS = ipv chs ∧ i = chs.length ∧ objCount R ≤ 2 * i ∧ R.length = 60) ?_ ?_
 ·refine LoopF.mk (fun kk s => ∃ (i : Int) (R : List Rw) (ws vs : List Int) (L D P B V : List PV) (M : Hp) (CS : List PV) (chs bufs : List Int), s = ⟨.p (.vsl (.sym mc) true CL) :: .p (.int .i64 (.sym n)) :: (undefs 3 ++ .ptr 1 (.lit 0) :: .undef :: .ptr 8 (.lit 0) :: .undef :: .ptr 16 (.lit 0) :: .p (.int .i64 (.sym i)) :: undefs 108), [hpA 1 2 6 7 3 W 0 0 0, hpB 2 3 5 3 W, hpC 3 4 214 2 N, hpP 4 L, hpP 5 D, hpF 6 z0 false, hpP 7 D0, hpR 8 9 14 3 W 15 0 0 0, hpB 9 10 13 3 W, hpD 10 11 3 1 N 12 209 8 N, hpP 11 P, hpP 12 B, hpP 13 V, hpP 14 Qr0, (15, .mix [.p (.vsl (.sym 0) true []), .p (.bool false)]), (0, .fix 0 o), (16, .mix [.ptr 1 (.lit 0), .ptr 8 (.lit 0), .sl 17 3 1 (.lit 0) (.sym i), .sl 18 3 1 (.lit 0) (.sym 0)]), hpP 17 CS, (18, .pure true [])], 19⟩ ∧ 0 ≤ i ∧ i ≤ mc ∧ i ≤ 4 ∧ kk = (4 - i).toNat ∧ Bst R ws vs wz N W 0 L D D0 z0 P B V Qr0 [] 0 M ∧ Bn caps M chs bufs [] ∧ Sys M (fun _ _ => []) ∧ CS = ipv chs ∧ i = chs.length ∧ objCount R ≤ 2 * i ∧ R.length = 60) 4 _
   (Re.at [(0, 0), (1, 1), (2, 2), (3, 3), (4, 4), (5, 5), (6, 6), (7, 7), (8, 8), (9, 9), (10, 10), (11, 11), (12, 12), (13, 13), (14, 14), (15, 15), (16, 16)] [17, 18]) ⟨0, Rz, wz, wz, L0, D0, P0, B0, V0, (fun _ => Option.none), [], [], [], rfl, by omega, by omega, by omega, by omega, ⟨h0, g0, hC0, hC0, rfl, hwz'⟩, Bn.new _ _, Sys.new (fun a F e => by cases e) (fun a F e => by cases e), rfl, rfl, by omega, hlz⟩ ?_
  rintro kk s ⟨i, R, ws, vs, L, D, P, B, V, M, CS, chs, bufs, rfl, hi0, hi1, hi2, hkk, S, hB, hY, hcs, hil, hcnt, hR⟩
  have hil : i = (chs.length : Int) := hil
  have hcnt : (objCount R : Int) ≤ 2 * i := hcnt
  conv => cbv
  refine Br.mk (fun gi => ?_) (fun gi => ?_)
  ·have gi : i < mc := gi
   conv => cbv
   refine Br.mk (fun g4 => ?_) (fun g4 => ?_)
   ·have g4 : i < 4 := g4
    obtain ⟨cx, hcx⟩ : ∃ a, caps[i.toNat]? = some a := ⟨_, List.getElem?_eq_getElem (by omega)⟩
    have hcell : CL[i.toNat]? = some (.int .i64 (.sym cx)) := by rw [hCL]; exact ipv_get hcx
    conv => cbv
    refine Need.mk (show 0 ≤ i ∧ i < mc from ⟨hi0, gi⟩) ?_
    conv => cbv
    refine Cell.at i _ hcell (by simp [I.val]) rfl ?_
    conv => cbv
    refine Fit.wrap fun xn hxn => ?_
    have hxn : xn = IntKind.u64.wrap cx := hxn
    have hyn : 0 ≤ xn := by rw [hxn]; simp [IntKind.wrap, IntKind.bits, IntKind.signed]; omega
    conv => cbv
    refine Sum.mk fun tn htn => ?_
    have htn : tn = xn % 4 := (show tn = xn.tmod 4 from htn).trans (Int.tmod_eq_emod_of_nonneg hyn)
    conv => cbv
    refine Fit.mk (by show (-9223372036854775808 : Int) ≤ tn; omega) (by show tn ≤ 9223372036854775807; omega) fun cp hcp => ?_
    have hcp : cp = capW cx := by unfold capW; rw [← hxn, ← htn]; exact hcp
    have hcb := capW_bd cx
    clear htn hyn
    conv => cbv
    refine CallF.le (args0 := [.ptr 16 (.lit 0), i6 1, i6 9]) (cfr (alloc15_lx R ws vs wz N W 0 0 0 L D D0 z0 false P B V Qr0 [] 0 M i 0 CS [] o S 1 9 (by decide) ⟨fun _ => rfl, fun q => absurd q (by decide), fun q => absurd q (by decide)⟩ (by rw [hR]; omega)) [(0, 1), (1, 2), (2, 3), (3, 4), (4, 5), (5, 6), (6, 7), (7, 8), (8, 9), (9, 10), (10, 11), (11, 12), (12, 13), (13, 14), (14, 15), (15, 0), (16, 16), (17, 17), (18, 18)] (fun r h' n' hrr => ?_)) (by simp [ales, ale, pvle, I.val])
    obtain ⟨at_, R1, ws1, vs1, L1, D1, P1, B1, V1, e1, e2, e3, S1, hk1, hx1, hp1, hq1, hl1⟩ := hrr
    subst e1 e2 e3
    have hR1 : R1.length = 60 := hl1.trans hR
    conv => cbv
    refine Br.mk (fun g0 => ?_) (fun g0 => ?_)
    ·have g0 : 0 < cp := g0
     conv => cbv
     refine CallF.le (args0 := [.ptr 16 (.lit 0), i6 2, i6 cp]) (cfr (alloc15_lx R1 ws1 vs1 wz N W 0 0 0 L1 D1 D0 z0 false P1 B1 V1 Qr0 [] 0 _ i 0 CS [] o S1 2 cp (by omega) ⟨fun q => absurd q (by decide), fun q => absurd q (by decide), fun q => absurd q (by decide)⟩ (by rw [hR1]; omega)) [(0, 1), (1, 2), (2, 3), (3, 4), (4, 5), (5, 6), (6, 7), (7, 8), (8, 9), (9, 10), (10, 11), (11, 12), (12, 13), (13, 14), (14, 15), (15, 0), (16, 16), (17, 17), (18, 18)] (fun r h' n' hrr => ?_)) (by simp [ales, ale, pvle, I.val])
     obtain ⟨bf, R2, ws2, vs2, L2, D2, P2, B2, V2, e1, e2, e3, S2, hk2, hx2, hp2, hq2, hl2⟩ := hrr
     subst e1 e2 e3
     have hR2 : R2.length = 60 := hl2.trans hR1
     conv => cbv
     have hab : at_ ≠ bf := fun q => by
      rw [← q, upd_same] at hx2
      cases hx2
     have hbfW : bf ≤ 5000 := by omega
     have hbb : ∀ x ∈ [cp, 0, 0, 0, bf, -1, -1, -1, -1], b62 x := by
      simp only [List.forall_mem_cons]
      unfold b62
      exact ⟨by omega, by omega, by omega, by omega, by omega, by omega, by omega, by omega, by omega, fun x hx => by cases hx⟩
     have hpp : ∀ x ∈ [bf, -1, -1, -1, -1], -1 ≤ x := by
      simp only [List.forall_mem_cons]
      exact ⟨by omega, by omega, by omega, by omega, by omega, fun x hx => by cases hx⟩
     refine drawn_sound tok (by kernel_rfl) [(3, [6, 5, 4]), (7, [])] [0, 1, 2, 4, 5, 6, 3, 7, 8] (by kernel_rfl) ?_; conv => cbv
     refine CallF.le (args0 := [.ptr 1 (.lit 0), i6 at_, .agg [i6 cp, i6 0, i6 0, i6 0, i6 bf, i6 (-1), i6 (-1), i6 (-1), i6 (-1)]]) (cfr (putChanM_lx R2 ws2 wz [] N W 0 0 0 L2 D2 D0 z0 false S2.h _ S2.c o ho rfl at_ cp 0 0 0 bf (-1) (-1) (-1) (-1) (zerK 1 9) ((upd_ne hab).trans (upd_same _ _ _)) rfl hbb hpp) [(0, 1), (1, 2), (2, 3), (3, 4), (4, 5), (5, 6), (6, 7), (7, 0)] (fun r h' n' hrr => ?_)) (by simp [ales, ale, pvle, I.val])
     obtain ⟨e8, ws8, D8, e1, he8, e2, e3, h8, c8⟩ := hrr
     subst e1 e2 e3
     conv => cbv
     refine CallF.le (args0 := [.ptr 8 (.lit 0), i6 at_, .agg [i6 cp, i6 0, i6 0, i6 0, i6 bf, i6 (-1), i6 (-1), i6 (-1), i6 (-1)]]) (cfr (rPutChanM_lx R2 vs2 wz [] N W 0 0 0 P2 B2 V2 Qr0 [] 0 false S2.r _ S2.d rfl at_ cp 0 0 0 bf (-1) (-1) (-1) (-1) (zerK 1 9) ((upd_ne hab).trans (upd_same _ _ _)) rfl hbb hpp) [(0, 8), (1, 9), (2, 10), (3, 11), (4, 12), (5, 13), (6, 14), (7, 15)] (fun r h' n' hrr => ?_)) (by simp [ales, ale, pvle, I.val])
     obtain ⟨e9, vs9, V9, e1, he9, e2, e3, h9, c9⟩ := hrr
     subst e1 e2 e3
     conv => cbv
     refine Br.no (show ¬ ¬ (e8 = e9) from fun q => q (he8.trans he9.symm)) ?_
     conv => cbv
     have hcl : CS.length = chs.length := by rw [hcs, ipv_length]
     refine Room.new rfl ?_
     conv => cbv
     refine Room.new ⟨?_, ?_, ?_⟩ ?_
     ·show (CS.length : Int) = i * 1; omega
     ·show (i + 1) * 8 ≤ 140737488355328; omega
     ·show i + 1 ≤ 9223372036854775807; omega
     conv => cbv
     refine Upd.mk fun cells2 hcs2 => ?_
     have hcs2 : cells2 = CS ++ [.int .i64 (.sym at_)] := hcs2
     have hcs3 : cells2 = ipv (chs ++ [at_]) := by rw [hcs2, hcs, ← ipv_app]; rfl
     conv => cbv
     refine Sum.mk fun j2 hj2 => ?_
     have hj2 : j2 = i + 1 := hj2
     conv => cbv
     refine Fit.mk (by show (-9223372036854775808 : Int) ≤ i + 1; omega) (by show i + 1 ≤ 9223372036854775807; omega) fun i2 hiq => ?_
     have hiq : i2 = i + 1 := hiq
     obtain rfl : j2 = i2 := hj2.trans hiq.symm
     conv => cbv
     refine Again.mk (4 - j2).toNat _ (by omega) (Re.at [(0, 0), (1, 1), (2, 2), (3, 3), (4, 4), (5, 5), (6, 6), (7, 7), (8, 8), (9, 9), (10, 10), (11, 11), (12, 12), (13, 13), (14, 14), (15, 15), (16, 16), (18, 18), (21, 17)] []) ⟨j2, R2, ws8, vs9, L2, D8, P2, B2, V9, _, cells2, chs ++ [at_], bufs ++ [_], rfl, by omega, by omega, by omega, rfl, ⟨h8, h9, c8, c9, rfl, hwz'⟩, by have := hB.chan1 (x := cx) (c := at_) (b := bf) (by rw [show chs.length = i.toNat by omega]; exact hcx) (by rw [← hcp]; exact g0) hx1 _ hx2; rw [← hcp] at this; exact this, ((hY.fresh hx1).fresh hx2).updv rfl (fun F _ => rfl) (fun c d h => (by cases h)) ⟨fun _ => rfl, fun q => absurd (show (1 : Int) = 3 from q) (by decide)⟩, hcs3, by rw [List.length_append]; show j2 = ((chs.length + 1 : Nat) : Int); omega, (show (objCount R2 : Int) ≤ 2 * j2 by omega), hR2⟩
    ·have g0 : ¬ 0 < cp := g0
     conv => cbv
     have hbb : ∀ x ∈ [cp, 0, 0, 0, (-1), -1, -1, -1, -1], b62 x := by
      simp only [List.forall_mem_cons]
      unfold b62
      exact ⟨by omega, by omega, by omega, by omega, by omega, by omega, by omega, by omega, by omega, fun x hx => by cases hx⟩
     have hpp : ∀ x ∈ [(-1), -1, -1, -1, -1], -1 ≤ x := by
      simp only [List.forall_mem_cons]
      exact ⟨by omega, by omega, by omega, by omega, by omega, fun x hx => by cases hx⟩
     refine drawn_sound tok (by kernel_rfl) [(3, [6, 5, 4]), (7, [])] [0, 1, 2, 4, 5, 6, 3, 7, 8] (by kernel_rfl) ?_; conv => cbv
     refine CallF.le (args0 := [.ptr 1 (.lit 0), i6 at_, .agg [i6 cp, i6 0, i6 0, i6 0, i6 (-1), i6 (-1), i6 (-1), i6 (-1), i6 (-1)]]) (cfr (putChanM_lx R1 ws1 wz [] N W 0 0 0 L1 D1 D0 z0 false S1.h _ S1.c o ho rfl at_ cp 0 0 0 (-1) (-1) (-1) (-1) (-1) (zerK 1 9) (upd_same _ _ _) rfl hbb hpp) [(0, 1), (1, 2), (2, 3), (3, 4), (4, 5), (5, 6), (6, 7), (7, 0)] (fun r h' n' hrr => ?_)) (by simp [ales, ale, pvle, I.val])
     obtain ⟨e8, ws8, D8, e1, he8, e2, e3, h8, c8⟩ := hrr
     subst e1 e2 e3
     conv => cbv
     refine CallF.le (args0 := [.ptr 8 (.lit 0), i6 at_, .agg [i6 cp, i6 0, i6 0, i6 0, i6 (-1), i6 (-1), i6 (-1), i6 (-1), i6 (-1)]]) (cfr (rPutChanM_lx R1 vs1 wz [] N W 0 0 0 P1 B1 V1 Qr0 [] 0 false S1.r _ S1.d rfl at_ cp 0 0 0 (-1) (-1) (-1) (-1) (-1) (zerK 1 9) (upd_same _ _ _) rfl hbb hpp) [(0, 8), (1, 9), (2, 10), (3, 11), (4, 12), (5, 13), (6, 14), (7, 15)] (fun r h' n' hrr => ?_)) (by simp [ales, ale, pvle, I.val])
     obtain ⟨e9, vs9, V9, e1, he9, e2, e3, h9, c9⟩ := hrr
     subst e1 e2 e3
     conv => cbv
     refine Br.no (show ¬ ¬ (e8 = e9) from fun q => q (he8.trans he9.symm)) ?_
     conv => cbv
     have hcl : CS.length = chs.length := by rw [hcs, ipv_length]
     refine Room.new rfl ?_
     conv => cbv
     refine Room.new ⟨?_, ?_, ?_⟩ ?_
     ·show (CS.length : Int) = i * 1; omega
     ·show (i + 1) * 8 ≤ 140737488355328; omega
     ·show i + 1 ≤ 9223372036854775807; omega
     conv => cbv
     refine Upd.mk fun cells2 hcs2 => ?_
     have hcs2 : cells2 = CS ++ [.int .i64 (.sym at_)] := hcs2
     have hcs3 : cells2 = ipv (chs ++ [at_]) := by rw [hcs2, hcs, ← ipv_app]; rfl
     conv => cbv
     refine Sum.mk fun j2 hj2 => ?_
     have hj2 : j2 = i + 1 := hj2
     conv => cbv
     refine Fit.mk (by show (-9223372036854775808 : Int) ≤ i + 1; omega) (by show i + 1 ≤ 9223372036854775807; omega) fun i2 hiq => ?_
     have hiq : i2 = i + 1 := hiq
     obtain rfl : j2 = i2 := hj2.trans hiq.symm
     conv => cbv
     refine Again.mk (4 - j2).toNat _ (by omega) (Re.at [(0, 0), (1, 1), (2, 2), (3, 3), (4, 4), (5, 5), (6, 6), (7, 7), (8, 8), (9, 9), (10, 10), (11, 11), (12, 12), (13, 13), (14, 14), (15, 15), (16, 16), (18, 18), (21, 17)] []) ⟨j2, R1, ws8, vs9, L1, D8, P1, B1, V9, _, cells2, chs ++ [at_], bufs ++ [_], rfl, by omega, by omega, by omega, rfl, ⟨h8, h9, c8, c9, rfl, hwz'⟩, by have := hB.chan0 (x := cx) (c := at_) (by rw [show chs.length = i.toNat by omega]; exact hcx) (by rw [← hcp]; omega) hx1 (1, zerK 1 (9 : Int).toNat); rw [← hcp] at this; exact this, (hY.fresh hx1).updv rfl (fun F _ => rfl) (fun c d h => (by cases h)) ⟨fun _ => rfl, fun q => absurd (show (1 : Int) = 3 from q) (by decide)⟩, hcs3, by rw [List.length_append]; show j2 = ((chs.length + 1 : Nat) : Int); omega, (show (objCount R1 : Int) ≤ 2 * j2 by omega), hR1⟩
   ·have g4 : ¬ i < 4 := g4
    conv => cbv
    refine Joined.mk _ (Re.at [(0, 0), (1, 1), (2, 2), (3, 3), (4, 4), (5, 5), (6, 6), (7, 7), (8, 8), (9, 9), (10, 10), (11, 11), (12, 12), (13, 13), (14, 14), (15, 15), (16, 16), (17, 17), (18, 18)] []) ⟨i, R, ws, vs, L, D, P, B, V, M, CS, chs, bufs, rfl, hi0, by omega, hi1, hi2, S, hB, hY, hcs, hil, hcnt, hR⟩
  ·have gi : ¬ i < mc := gi
   conv => cbv
   refine Joined.mk _ (Re.at [(0, 0), (1, 1), (2, 2), (3, 3), (4, 4), (5, 5), (6, 6), (7, 7), (8, 8), (9, 9), (10, 10), (11, 11), (12, 12), (13, 13), (14, 14), (15, 15), (16, 16), (17, 17), (18, 18)] []) ⟨i, R, ws, vs, L, D, P, B, V, M, CS, chs, bufs, rfl, hi0, by omega, hi1, hi2, S, hB, hY, hcs, hil, hcnt, hR⟩
 ·rintro s ⟨i, R, ws, vs, L, D, P, B, V, M, CS, chs, bufs, rfl, hi0, him, hi1, hi2, S, hB, hY, hcs, hil, hcnt, hR⟩
  have hil : i = (chs.length : Int) := hil
  have hcnt : (objCount R : Int) ≤ 2 * i := hcnt
  conv => cbv
  obtain ⟨ng, hng⟩ : ∃ ng, ng = ngor n := ⟨_, rfl⟩
  have hngb := ngor_bd n
  rw [← hng] at hngb
  refine LoopF.mk (fun kk s => ∃ (j : Int) (R : List Rw) (ws vs : List Int) (L D P B V : List PV) (M : Hp) (GS : List PV) (grs : List Int), s = ⟨.p (.vsl (.sym mc) true CL) :: .p (.int .i64 (.sym n)) :: (undefs 3 ++ .ptr 1 (.lit 0) :: .undef :: .ptr 8 (.lit 0) :: .undef :: .ptr 16 (.lit 0) :: (undefs 3 ++ .p (.int .i64 (.sym j)) :: undefs 105)), [hpA 1 2 6 7 3 W 0 0 0, hpB 2 3 5 3 W, hpC 3 4 214 2 N, hpP 4 L, hpP 5 D, hpF 6 z0 false, hpP 7 D0, hpR 8 9 14 3 W 15 0 0 0, hpB 9 10 13 3 W, hpD 10 11 3 1 N 12 209 8 N, hpP 11 P, hpP 12 B, hpP 13 V, hpP 14 Qr0, (15, .mix [.p (.vsl (.sym 0) true []), .p (.bool false)]), (0, .fix 0 o), (16, .mix [.ptr 1 (.lit 0), .ptr 8 (.lit 0), .sl 17 3 1 (.lit 0) (.sym i), .sl 18 3 1 (.lit 0) (.sym j)]), hpP 17 CS, hpP 18 GS], 19⟩ ∧ 0 ≤ j ∧ j ≤ ng ∧ kk = (ng - j).toNat ∧ Bst R ws vs wz N W 0 L D D0 z0 P B V Qr0 [] 0 M ∧ Bn caps M chs bufs grs ∧ Sys M (fun _ _ => []) ∧ GS = ipv grs ∧ j = grs.length ∧ objCount R ≤ 2 * i + j ∧ R.length = 60) ng.toNat _
   (Re.at [(0, 0), (1, 1), (2, 2), (3, 3), (4, 4), (5, 5), (6, 6), (7, 7), (8, 8), (9, 9), (10, 10), (11, 11), (12, 12), (13, 13), (14, 14), (15, 15), (16, 16), (17, 17), (18, 18)] []) ⟨0, R, ws, vs, L, D, P, B, V, M, [], [], rfl, by omega, by omega, by omega, S, hB, hY, rfl, rfl, (show (objCount R : Int) ≤ 2 * i + 0 by omega), hR⟩ ?_
  clear S hB hY hcnt hR
  rintro kk s ⟨j, R, ws, vs, L, D, P, B, V, M, GS, grs, rfl, hj0, hj1, hkk, S, hB, hY, hgs, hjl, hcnt, hR⟩
  have hjl : j = (grs.length : Int) := hjl
  have hcnt : (objCount R : Int) ≤ 2 * i + j := hcnt
  conv => cbv
  refine Fit.wrap fun xn hxn => ?_
  have hxn : xn = IntKind.u64.wrap n := hxn
  have hyn : 0 ≤ xn := by rw [hxn]; simp [IntKind.wrap, IntKind.bits, IntKind.signed]; omega
  conv => cbv
  refine Sum.mk fun tn htn => ?_
  have htn : tn = xn % 6 := (show tn = xn.tmod 6 from htn).trans (Int.tmod_eq_emod_of_nonneg hyn)
  conv => cbv
  refine Fit.mk (by show (-9223372036854775808 : Int) ≤ tn; omega) (by show tn ≤ 9223372036854775807; omega) fun un hun => ?_
  have hun : un = tn := hun
  conv => cbv
  refine Fit.mk (by show (-9223372036854775808 : Int) ≤ 1 + un; omega) (by show 1 + un ≤ 9223372036854775807; omega) fun ng2 hng2 => ?_
  have hng2 : ng2 = 1 + un := hng2
  obtain rfl : ng = ng2 := by rw [hng, hng2, hun, htn, hxn]; rfl
  clear hng2 hun htn hyn hxn
  conv => cbv
  refine Br.mk (fun gj => ?_) (fun gj => ?_)
  ·have gj : j < ng := gj
   conv => cbv
   refine CallF.le (args0 := [.ptr 16 (.lit 0), i6 4, i6 10]) (cfr (alloc15_lx R ws vs wz N W 0 0 0 L D D0 z0 false P B V Qr0 [] 0 M i j CS GS o S 4 10 (by decide) ⟨fun q => absurd q (by decide), fun q => absurd q (by decide), fun _ => rfl⟩ (by rw [hR]; omega)) [(0, 1), (1, 2), (2, 3), (3, 4), (4, 5), (5, 6), (6, 7), (7, 8), (8, 9), (9, 10), (10, 11), (11, 12), (12, 13), (13, 14), (14, 15), (15, 0), (16, 16), (17, 17), (18, 18)] (fun r h' n' hrr => ?_)) (by simp [ales, ale, pvle, I.val])
   obtain ⟨at_, R1, ws1, vs1, L1, D1, P1, B1, V1, e1, e2, e3, S1, hk1, hx1, hp1, hq1, hl1⟩ := hrr
   subst e1 e2 e3
   have hR1 : R1.length = 60 := hl1.trans hR
   conv => cbv
   have hbb : ∀ x ∈ [j, 0, 0, -1], b62 x := by
    simp only [List.forall_mem_cons]
    unfold b62
    exact ⟨by omega, by omega, by omega, by omega, fun x hx => by cases hx⟩
   have hw0 : ∀ x ∈ [0, 0, 0, 0, 0, (0 : Int)], -9223372036854775808 ≤ x ∧ x ≤ 9223372036854775807 := by decide
   have hpp : ∀ x ∈ [(-1 : Int)], -1 ≤ x := by decide
   refine drawn_sound tok (by kernel_rfl) [(3, [6, 5, 4]), (7, [])] [0, 1, 2, 4, 5, 6, 3, 7, 8] (by kernel_rfl) ?_; conv => cbv
   refine CallF.le (args0 := [.ptr 1 (.lit 0), i6 at_, .agg [i6 j, i6 0, i6 0, i6 0, i6 0, i6 0, i6 0, i6 0, i6 0, i6 (-1)]]) (cfr (putGorM_lx R1 ws1 wz [] N W 0 0 0 L1 D1 D0 z0 false S1.h _ S1.c o ho rfl at_ j 0 0 0 0 0 0 0 0 (-1) (zerK 4 10) (upd_same _ _ _) rfl hbb hw0 hpp) [(0, 1), (1, 2), (2, 3), (3, 4), (4, 5), (5, 6), (6, 7), (7, 0)] (fun r h' n' hrr => ?_)) (by simp [ales, ale, pvle, I.val])
   obtain ⟨e8, ws8, D8, e1, he8, e2, e3, h8, c8⟩ := hrr
   subst e1 e2 e3
   conv => cbv
   refine CallF.le (args0 := [.ptr 8 (.lit 0), i6 at_, .agg [i6 j, i6 0, i6 0, i6 0, i6 0, i6 0, i6 0, i6 0, i6 0, i6 (-1)]]) (cfr (rPutGorM_lx R1 vs1 wz [] N W 0 0 0 P1 B1 V1 Qr0 [] 0 false S1.r _ S1.d rfl at_ j 0 0 0 0 0 0 0 0 (-1) (zerK 4 10) (upd_same _ _ _) rfl hbb hw0 hpp) [(0, 8), (1, 9), (2, 10), (3, 11), (4, 12), (5, 13), (6, 14), (7, 15)] (fun r h' n' hrr => ?_)) (by simp [ales, ale, pvle, I.val])
   obtain ⟨e9, vs9, V9, e1, he9, e2, e3, h9, c9⟩ := hrr
   subst e1 e2 e3
   conv => cbv
   refine Br.no (show ¬ ¬ (e8 = e9) from fun q => q (he8.trans he9.symm)) ?_
   conv => cbv
   have hcl : GS.length = grs.length := by rw [hgs, ipv_length]
   refine Room.new rfl ?_
   conv => cbv
   refine Room.new ⟨?_, ?_, ?_⟩ ?_
   ·show (GS.length : Int) = j * 1; omega
   ·show (j + 1) * 8 ≤ 140737488355328; omega
   ·show j + 1 ≤ 9223372036854775807; omega
   conv => cbv
   refine Upd.mk fun cells2 hcs2 => ?_
   have hcs2 : cells2 = GS ++ [.int .i64 (.sym at_)] := hcs2
   have hcs3 : cells2 = ipv (grs ++ [at_]) := by rw [hcs2, hgs, ← ipv_app]; rfl
   conv => cbv
   refine Sum.mk fun j2 hj2 => ?_
   have hj2 : j2 = j + 1 := hj2
   conv => cbv
   refine Fit.mk (by show (-9223372036854775808 : Int) ≤ j + 1; omega) (by show j + 1 ≤ 9223372036854775807; omega) fun i2 hiq => ?_
   have hiq : i2 = j + 1 := hiq
   obtain rfl : j2 = i2 := hj2.trans hiq.symm
   conv => cbv
   refine Again.mk (ng - j2).toNat _ (by omega) (Re.at [(0, 0), (1, 1), (2, 2), (3, 3), (4, 4), (5, 5), (6, 6), (7, 7), (8, 8), (9, 9), (10, 10), (11, 11), (12, 12), (13, 13), (14, 14), (15, 15), (16, 16), (17, 17), (21, 18)] []) ⟨j2, R1, ws8, vs9, L1, D8, P1, B1, V9, _, cells2, grs ++ [at_], rfl, by omega, by omega, rfl, ⟨h8, h9, c8, c9, rfl, hwz'⟩, hB.gor hjl hx1 _, (hY.fresh hx1).updv rfl (fun F e => absurd (Option.some.inj ((upd_same _ _ _).symm.trans e)) (fun q => by cases q)) (fun c d h => (by cases h)) ⟨fun q => absurd (show (4 : Int) = 1 from q) (by decide), fun q => absurd (show (4 : Int) = 3 from q) (by decide)⟩, hcs3, by rw [List.length_append]; show j2 = ((grs.length + 1 : Nat) : Int); omega, (show (objCount R1 : Int) ≤ 2 * i + j2 by omega), hR1⟩
  ·have gj : ¬ j < ng := gj
   conv => cbv
   refine RetF.mk [.ptr 16 (.lit 0)] [hpA 1 2 6 7 3 W 0 0 0, hpB 2 3 5 3 W, hpC 3 4 214 2 N, hpP 4 L, hpP 5 D, hpF 6 z0 false, hpP 7 D0, hpR 8 9 14 3 W 15 0 0 0, hpB 9 10 13 3 W, hpD 10 11 3 1 N 12 209 8 N, hpP 11 P, hpP 12 B, hpP 13 V, hpP 14 Qr0, (15, .mix [.p (.vsl (.sym 0) true []), .p (.bool false)]), (0, .fix 0 o), (16, .mix [.ptr 1 (.lit 0), .ptr 8 (.lit 0), .sl 17 3 1 (.lit 0) (.sym i), .sl 18 3 1 (.lit 0) (.sym j)]), hpP 17 CS, hpP 18 GS] 19 (Re.at [(0, 0), (1, 1), (2, 2), (3, 3), (4, 4), (5, 5), (6, 6), (7, 7), (8, 8), (9, 9), (10, 10), (11, 11), (12, 12), (13, 13), (14, 14), (15, 15), (16, 16), (17, 17), (18, 18)] []) rfl ⟨N, W, wz, R, ws, vs, L, D, D0, z0, P, B, V, Qr0, M, CS, GS, chs, bufs, grs, i, j, rfl, rfl, rfl, S, hB, hY, hcs, hgs, hil, hjl, him, hi1, hi2, by omega, by omega, hR, by omega⟩
theorem ch15_lx (R : List Rw) (ws vs C : List Int) (N W ph sp cy : Int) (L D Q : List PV) (z : ByteArray) (ov : Bool) (P B V Qr la : List PV) (m : Int) (M : Hp) (nc ng : Int) (cs gs : List PV) (o : Unit → Obj) (n : Int) (l : List Int) (hl : cs = ipv l) (hn : nc = l.length) (h0 : 0 < nc) (hb : nc ≤ 100) : CallF (fun _ => Tryz.prog) 33 [.ptr 16 (.lit 0), i6 n] [hpA 0 1 5 6 3 W ph sp cy, hpB 1 2 4 3 W, hpC 2 3 214 2 N, hpP 3 L, hpP 4 D, hpF 5 z ov, hpP 6 Q, hpR 7 8 13 3 W 14 ph sp cy, hpB 8 9 12 3 W, hpD 9 10 3 1 N 11 209 8 N, hpP 10 P, hpP 11 B, hpP 12 V, hpP 13 Qr, (14, .mix [.p (.vsl (.sym m) true la), .p (.bool ov)]), (15, .fix 0 o), (16, .mix [.ptr 0 (.lit 0), .ptr 7 (.lit 0), .sl 17 3 1 (.lit 0) (.sym nc), .sl 18 3 1 (.lit 0) (.sym ng)]), hpP 17 cs, hpP 18 gs] 19 (fun r h n' => (∃ x : Int, r = .p (.int .i64 (.sym x)) ∧ l[(IntKind.u64.wrap n % nc).toNat]? = some x) ∧ h = [hpA 0 1 5 6 3 W ph sp cy, hpB 1 2 4 3 W, hpC 2 3 214 2 N, hpP 3 L, hpP 4 D, hpF 5 z ov, hpP 6 Q, hpR 7 8 13 3 W 14 ph sp cy, hpB 8 9 12 3 W, hpD 9 10 3 1 N 11 209 8 N, hpP 10 P, hpP 11 B, hpP 12 V, hpP 13 Qr, (14, .mix [.p (.vsl (.sym m) true la), .p (.bool ov)]), (15, .fix 0 o), (16, .mix [.ptr 0 (.lit 0), .ptr 7 (.lit 0), .sl 17 3 1 (.lit 0) (.sym nc), .sl 18 3 1 (.lit 0) (.sym ng)]), hpP 17 cs, hpP 18 gs] ∧ n' = 19) := by
 refine callF_of_body tok Tryz.func33 (by kernel_rfl) rfl rfl rfl ?_; conv => cbv
 refine Br.no (show ¬ nc = 0 by omega) ?_
 conv => cbv
 refine drawn_sound tok (by kernel_rfl) [] [0, 1, 2, 3, 4, 5, 6, 7, 8, 9, 10, 11, 12, 13, 14, 15, 16] (by kernel_rfl) ?_; conv => cbv
 refine Fit.wrap fun xn hxn => ?_
 have hxn : xn = IntKind.u64.wrap n := hxn
 have hyn : 0 ≤ xn := by rw [hxn]; simp [IntKind.wrap, IntKind.bits, IntKind.signed]; omega
 conv => cbv
 refine Fit.mk (by show (0 : Int) ≤ nc; omega) (by show nc ≤ 18446744073709551615; omega) fun c2 hc2 => ?_
 have hc2 : c2 = nc := hc2
 conv => cbv
 refine Need.mk (show ¬ c2 = 0 by omega) ?_
 conv => cbv
 refine Sum.mk fun tn htn => ?_
 have htn : tn = xn % nc := (show tn = xn.tmod c2 from htn).trans (by rw [hc2]; exact Int.tmod_eq_emod_of_nonneg hyn)
 have ht0 := Int.emod_nonneg xn (show nc ≠ 0 by omega)
 have ht1 := Int.emod_lt_of_pos xn h0
 conv => cbv
 refine Fit.mk (by show (-9223372036854775808 : Int) ≤ tn; omega) (by show tn ≤ 9223372036854775807; omega) fun i hi => ?_
 have hi : i = tn := hi
 obtain ⟨x, hx⟩ : ∃ x, l[i.toNat]? = some x := ⟨_, List.getElem?_eq_getElem (by omega)⟩
 have hcell : cs[i.toNat]? = some (.int .i64 (.sym x)) := by rw [hl]; exact ipv_get hx
 conv => cbv
 refine Need.mk (show 0 ≤ i ∧ i < nc by omega) ?_
 conv => cbv
 refine Cell.at i _ hcell (by simp [I.val]) rfl ?_
 conv => cbv
 refine RetF.mk [i6 x] [hpA 0 1 5 6 3 W ph sp cy, hpB 1 2 4 3 W, hpC 2 3 214 2 N, hpP 3 L, hpP 4 D, hpF 5 z ov, hpP 6 Q, hpR 7 8 13 3 W 14 ph sp cy, hpB 8 9 12 3 W, hpD 9 10 3 1 N 11 209 8 N, hpP 10 P, hpP 11 B, hpP 12 V, hpP 13 Qr, (14, .mix [.p (.vsl (.sym m) true la), .p (.bool ov)]), (15, .fix 0 o), (16, .mix [.ptr 0 (.lit 0), .ptr 7 (.lit 0), .sl 17 3 1 (.lit 0) (.sym nc), .sl 18 3 1 (.lit 0) (.sym ng)]), hpP 17 cs, hpP 18 gs] 19 (Re.at [(0, 0), (1, 1), (2, 2), (3, 3), (4, 4), (5, 5), (6, 6), (7, 7), (8, 8), (9, 9), (10, 10), (11, 11), (12, 12), (13, 13), (14, 14), (15, 15), (16, 16), (17, 17), (18, 18)] []) rfl ⟨⟨x, rfl, by rw [← hxn, ← htn, ← hi]; exact hx⟩, rfl, rfl⟩
theorem gor15_lx (R : List Rw) (ws vs C : List Int) (N W ph sp cy : Int) (L D Q : List PV) (z : ByteArray) (ov : Bool) (P B V Qr la : List PV) (m : Int) (M : Hp) (nc ng : Int) (cs gs : List PV) (o : Unit → Obj) (n : Int) (l : List Int) (hl : gs = ipv l) (hn : ng = l.length) (h0 : 0 < ng) (hb : ng ≤ 100) : CallF (fun _ => Tryz.prog) 31 [.ptr 16 (.lit 0), i6 n] [hpA 0 1 5 6 3 W ph sp cy, hpB 1 2 4 3 W, hpC 2 3 214 2 N, hpP 3 L, hpP 4 D, hpF 5 z ov, hpP 6 Q, hpR 7 8 13 3 W 14 ph sp cy, hpB 8 9 12 3 W, hpD 9 10 3 1 N 11 209 8 N, hpP 10 P, hpP 11 B, hpP 12 V, hpP 13 Qr, (14, .mix [.p (.vsl (.sym m) true la), .p (.bool ov)]), (15, .fix 0 o), (16, .mix [.ptr 0 (.lit 0), .ptr 7 (.lit 0), .sl 17 3 1 (.lit 0) (.sym nc), .sl 18 3 1 (.lit 0) (.sym ng)]), hpP 17 cs, hpP 18 gs] 19 (fun r h n' => (∃ x : Int, r = .p (.int .i64 (.sym x)) ∧ l[(IntKind.u64.wrap n % ng).toNat]? = some x) ∧ h = [hpA 0 1 5 6 3 W ph sp cy, hpB 1 2 4 3 W, hpC 2 3 214 2 N, hpP 3 L, hpP 4 D, hpF 5 z ov, hpP 6 Q, hpR 7 8 13 3 W 14 ph sp cy, hpB 8 9 12 3 W, hpD 9 10 3 1 N 11 209 8 N, hpP 10 P, hpP 11 B, hpP 12 V, hpP 13 Qr, (14, .mix [.p (.vsl (.sym m) true la), .p (.bool ov)]), (15, .fix 0 o), (16, .mix [.ptr 0 (.lit 0), .ptr 7 (.lit 0), .sl 17 3 1 (.lit 0) (.sym nc), .sl 18 3 1 (.lit 0) (.sym ng)]), hpP 17 cs, hpP 18 gs] ∧ n' = 19) := by
 refine callF_of_body tok Tryz.func31 (by kernel_rfl) rfl rfl rfl ?_; conv => cbv
 refine drawn_sound tok (by kernel_rfl) [] [0, 1, 2, 3, 4, 5, 6, 7, 8, 9, 10, 11, 12, 13, 14, 15, 16] (by kernel_rfl) ?_; conv => cbv
 refine Fit.wrap fun xn hxn => ?_
 have hxn : xn = IntKind.u64.wrap n := hxn
 have hyn : 0 ≤ xn := by rw [hxn]; simp [IntKind.wrap, IntKind.bits, IntKind.signed]; omega
 conv => cbv
 refine Fit.mk (by show (0 : Int) ≤ ng; omega) (by show ng ≤ 18446744073709551615; omega) fun c2 hc2 => ?_
 have hc2 : c2 = ng := hc2
 conv => cbv
 refine Need.mk (show ¬ c2 = 0 by omega) ?_
 conv => cbv
 refine Sum.mk fun tn htn => ?_
 have htn : tn = xn % ng := (show tn = xn.tmod c2 from htn).trans (by rw [hc2]; exact Int.tmod_eq_emod_of_nonneg hyn)
 have ht0 := Int.emod_nonneg xn (show ng ≠ 0 by omega)
 have ht1 := Int.emod_lt_of_pos xn h0
 conv => cbv
 refine Fit.mk (by show (-9223372036854775808 : Int) ≤ tn; omega) (by show tn ≤ 9223372036854775807; omega) fun i hi => ?_
 have hi : i = tn := hi
 obtain ⟨x, hx⟩ : ∃ x, l[i.toNat]? = some x := ⟨_, List.getElem?_eq_getElem (by omega)⟩
 have hcell : gs[i.toNat]? = some (.int .i64 (.sym x)) := by rw [hl]; exact ipv_get hx
 conv => cbv
 refine Need.mk (show 0 ≤ i ∧ i < ng by omega) ?_
 conv => cbv
 refine Cell.at i _ hcell (by simp [I.val]) rfl ?_
 conv => cbv
 refine RetF.mk [i6 x] [hpA 0 1 5 6 3 W ph sp cy, hpB 1 2 4 3 W, hpC 2 3 214 2 N, hpP 3 L, hpP 4 D, hpF 5 z ov, hpP 6 Q, hpR 7 8 13 3 W 14 ph sp cy, hpB 8 9 12 3 W, hpD 9 10 3 1 N 11 209 8 N, hpP 10 P, hpP 11 B, hpP 12 V, hpP 13 Qr, (14, .mix [.p (.vsl (.sym m) true la), .p (.bool ov)]), (15, .fix 0 o), (16, .mix [.ptr 0 (.lit 0), .ptr 7 (.lit 0), .sl 17 3 1 (.lit 0) (.sym nc), .sl 18 3 1 (.lit 0) (.sym ng)]), hpP 17 cs, hpP 18 gs] 19 (Re.at [(0, 0), (1, 1), (2, 2), (3, 3), (4, 4), (5, 5), (6, 6), (7, 7), (8, 8), (9, 9), (10, 10), (11, 11), (12, 12), (13, 13), (14, 14), (15, 15), (16, 16), (17, 17), (18, 18)] []) rfl ⟨⟨x, rfl, by rw [← hxn, ← htn, ← hi]; exact hx⟩, rfl, rfl⟩
end Go.Proofs.YtjgbhpclmlcbbaaGreatDoor
