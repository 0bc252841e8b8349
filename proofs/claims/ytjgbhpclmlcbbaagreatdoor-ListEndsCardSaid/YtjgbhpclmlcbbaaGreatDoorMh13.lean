/-
  Layer 13: ListEnds.
-/
import Derived.Test.YtjgbhpclmlcbbaaGreatDoorBh



import Derived.Test.YtjgbhpclmlcbbaaGreatDoorBf

namespace Go.Proofs.YtjgbhpclmlcbbaaGreatDoor

open Go Go.LX
set_option maxRecDepth 100000
set_option linter.unusedVariables false
set_option linter.unusedSimpArgs false

theorem listPushD_lx (R : List Rw) (ws C G : List Int) (N W ph sp cy : Int) (L D Q : List PV) (z : ByteArray) (ov : Bool) (h : HM R ws C G N W L D Q z) (M : Hp) (hM : Cont R ws M) (q : Qs) (hY : Sys M q) (o : Unit → Obj) (ho : IsPow o) (hph : ph = 0) (c s y0 y1 y2 y3 y4 y5 y6 y7 y8 g w n p r_ m_ : Int) (d : Bool) (hMc : M c = some (1, [y0, y1, y2, y3, y4, y5, y6, y7, y8])) (hMs : M s = some (3, [g, c, w, n, p, r_, m_])) (hns : ∀ d, s ∉ q c d) : CallF (fun _ => Tryz.prog) 16 [.ptr 0 (.lit 0), .p (.int .i64 (.sym c)), .p (.bool d), .p (.int .i64 (.sym s))] [(0, .mix [.ptr 1 (.lit 0), .ptr 5 (.lit 0), .sl 6 3 1 (.lit 0) (.sym W), .p (.int .i64 (.sym ph)), .p (.int .i64 (.sym sp)), .p (.int .i64 (.sym cy))]), (1, .mix [.ptr 2 (.lit 0), .sl 4 3 1 (.lit 0) (.sym W)]), (2, .mix [.sl 3 214 2 (.lit 0) (.sym N)]), (3, .pure true L), (4, .pure true D), (5, .pure false [.str fun _ => z, .bool ov]), (6, .pure true Q), (7, .fix 0 o)] 8 (fun r h n => ∃ (e : Int) (ws' : List Int) (D' : List PV), r = .p (.int .i64 (.sym e)) ∧ e = 0 ∧ h = [(0, .mix [.ptr 1 (.lit 0), .ptr 5 (.lit 0), .sl 6 3 1 (.lit 0) (.sym W), .p (.int .i64 (.sym ph)), .p (.int .i64 (.sym sp)), .p (.int .i64 (.sym cy))]), (1, .mix [.ptr 2 (.lit 0), .sl 4 3 1 (.lit 0) (.sym W)]), (2, .mix [.sl 3 214 2 (.lit 0) (.sym N)]), (3, .pure true L), (4, .pure true D'), (5, .pure false [.str fun _ => z, .bool ov]), (6, .pure true Q), (7, .fix 0 o)] ∧ n = 8 ∧ HM R ws' C G N W L D' Q z ∧ Cont R ws' (relink M (updQ q c d (q c d ++ [s])))) := by
  cases d with
  | false => exact listPush0_lx R ws C G N W ph sp cy L D Q z ov h M hM q hY o ho hph (hch9 hY) (hsu7 hY) c s y0 y1 y2 y3 y4 y5 y6 y7 y8 g w n p r_ m_ hMc hMs hns
  | true => exact listPush1_lx R ws C G N W ph sp cy L D Q z ov h M hM q hY o ho hph (hch9 hY) (hsu7 hY) c s y0 y1 y2 y3 y4 y5 y6 y7 y8 g w n p r_ m_ hMc hMs hns
set_option maxHeartbeats 32000000 in
theorem listEnds_law (o : Unit → Obj) (ho : IsPow o) (n : Int) (sd : Bool) : CallF (fun _ => Tryz.prog) 3 [.p (.int .i64 (.sym n)), .p (.bool sd)] [(0, .fix 0 o)] 1 (fun r _ _ => r = .p (.bool true)) := by
  refine callF_of_body tok Tryz.func3 (by kernel_rfl) rfl rfl rfl ?_; conv => cbv
  refine Fit.wrap fun xn hxn => ?_
  have hxn : xn = IntKind.u64.wrap n := hxn
  have hyn : 0 ≤ xn := by rw [hxn]; simp [IntKind.wrap, IntKind.bits, IntKind.signed]; omega
  clear hxn
  conv => cbv
  refine Sum.mk fun tn htn => ?_
  have htn : tn = xn % 10 := (show tn = xn.tmod 10 from htn).trans (Int.tmod_eq_emod_of_nonneg hyn)
  conv => cbv
  refine Fit.mk (by show (-9223372036854775808 : Int) ≤ tn; omega) (by show tn ≤ 9223372036854775807; omega) fun u hu => ?_
  have hu : u = tn := hu
  have hu0 : 0 ≤ u := by omega
  have hu1 : u < 10 := by omega
  clear hu htn hyn
  conv => cbv
  refine Fit.mk (by show (-9223372036854775808 : Int) ≤ 1 + u; omega) (by show 1 + u ≤ 9223372036854775807; omega) fun nn hnn => ?_
  have hnn : nn = 1 + u := hnn
  conv => cbv
  refine CallF.re (args0 := [.p (.vsl (.sym 1) true [.int .i64 (.sym 0)]), .p (.int .i64 (.sym 1))]) (h' := [(0, .fix 0 o)]) (Re.at [(0, 0)] []) (callF_frame (made13_lx o ho [0] 1 1 [.int .i64 (.sym 0)] rfl rfl) [(0, 0)] rfl (by simp [hmapOk, nget, hget, renB, okB, renV, renVs, rn, okVs, okV]) rfl rfl (fun r h' n' hrr => ?_))
  obtain ⟨N, W, C, R, ws, vs, L, D, Q, z, P, B, V, Qr, M, CS, GS, chs, bufs, grs, nc, ng, e1, e2, e3, S, hB, hY, hcs, hgs, hnc, hng, hnm, hn1, hn4, hngo, hcnt, hR, hW⟩ := hrr
  subst e1 e2 e3
  conv => cbv
  refine callF_frame (awake13_lx o ho) [(0, 0)] rfl (by simp [hmapOk, nget, hget, renB, okB, renV, renVs, rn, okVs, okV]) rfl rfl (fun r h' n' ⟨e1, e2, e3⟩ => ?_)
  subst e1 e2 e3
  conv => cbv
  have hnc1 : nc = 1 := by omega
  obtain ⟨c, hcc⟩ := chA1 hnc hnc1
  have hc0 : chs[0]? = some c := by rw [hcc]; rfl
  obtain ⟨b, hb0, hBC⟩ := hB.ch 0 c 0 hc0 rfl
  have hMc := hBC.c
  rw [capS (by decide)] at hMc
  have hcl := S.c.len S.h.a hMc
  have hcw : atW (2 * c + 1) = c := atW_ptr c
  have hngb := ngor_bd 1
  obtain ⟨g, hg0⟩ : ∃ g, grs[0]? = some g := ⟨_, List.getElem?_eq_getElem (by omega)⟩
  have hMg := hB.gr 0 g hg0
  have hgl := S.c.len S.h.a hMg
  have hgp : -1 ≤ g ∧ b62 g := ⟨by omega, by unfold b62; omega⟩
  have hcp : -1 ≤ c ∧ b62 c := ⟨by omega, by unfold b62; omega⟩
  have hbm : b = -1 := by
    rcases hBC.b with q | q
    · exact q.2
    · rw [capS (by decide)] at q; omega
  subst hbm
  obtain ⟨q0, hq0⟩ : ∃ q0 : Qs, q0 = fun _ _ => [] := ⟨_, rfl⟩
  rw [← hq0] at hY
  have hrl : relink M q0 = M := hY.ln
  have S2 : Bs2 R ws vs C N W 0 L D Q z P B V Qr [] 0 (relink M q0) M := by rw [hrl]; exact S.two
  have hY2 : Sys (relink M q0) q0 := by rw [hrl]; exact hY
  refine LoopF.mk (fun kk s => ∃ (i : Int) (R1 : List Rw) (ws1 vs1 : List Int) (L1 D1 P1 B1 V1 : List PV) (K K2 : Hp) (q : Qs) (xs : List Int) (LS : List PV), s = ⟨.p (.int .i64 (.sym nn)) :: .p (.bool sd) :: (undefs 3 ++ .ptr 17 (.lit 0) :: .sl 20 3 1 (.lit 0) (.sym i) :: .p (.int .i64 (.sym i)) :: undefs 113), [(2, .mix [.ptr 3 (.lit 0), .ptr 7 (.lit 0), .sl 8 3 1 (.lit 0) (.sym W), .p (.int .i64 (.sym 0)), .p (.int .i64 (.sym 0)), .p (.int .i64 (.sym 0))]), (3, .mix [.ptr 4 (.lit 0), .sl 6 3 1 (.lit 0) (.sym W)]), (4, .mix [.sl 5 214 2 (.lit 0) (.sym N)]), (5, .pure true L1), (6, .pure true D1), (7, .pure false [.str fun _ => z, .bool false]), (8, .pure true Q), (9, .mix [.ptr 10 (.lit 0), .sl 15 3 1 (.lit 0) (.sym W), .ptr 16 (.lit 0), .p (.int .i64 (.sym 0)), .p (.int .i64 (.sym 0)), .p (.int .i64 (.sym 0))]), (10, .mix [.ptr 11 (.lit 0), .sl 14 3 1 (.lit 0) (.sym W)]), (11, .mix [.sl 12 3 1 (.lit 0) (.sym N), .sl 13 209 8 (.lit 0) (.sym N)]), (12, .pure true P1), (13, .pure true B1), (14, .pure true V1), (15, .pure true Qr), (16, .mix [.p (.vsl (.sym 0) true []), .p (.bool false)]), (0, .fix 0 o), (17, .mix [.ptr 2 (.lit 0), .ptr 9 (.lit 0), .sl 18 3 1 (.lit 0) (.sym nc), .sl 19 3 1 (.lit 0) (.sym ng)]), (18, .pure true CS), (19, .pure true GS), (0, .fix 0 o), (20, .pure true LS)], 21⟩ ∧ 0 ≤ i ∧ i ≤ nn ∧ kk = (nn - i).toNat ∧ LS = ipv xs ∧ i = xs.length ∧ Bs2 R1 ws1 vs1 C N W 0 L1 D1 Q z P1 B1 V1 Qr [] 0 (relink K q) K2 ∧ Sys (relink K q) q ∧ q c sd = xs ∧ q c (!sd) = [] ∧ K c = some (1, [0, 0, 0, 0, -1, -1, -1, -1, -1]) ∧ K2 c = some (1, [0, 0, 0, 0, -1, -1, -1, -1, -1]) ∧ (objCount R1 : Int) ≤ 8 + i ∧ R1.length = 60 ∧ (∀ a, relink K q a = Option.none ↔ K2 a = Option.none)) nn.toNat _
    (Re.at [(0, 0), (2, 2), (3, 3), (4, 4), (5, 5), (6, 6), (7, 7), (8, 8), (9, 9), (10, 10), (11, 11), (12, 12), (13, 13), (14, 14), (15, 15), (16, 16), (17, 17), (18, 18), (19, 19)] [20]) ⟨0, R, ws, vs, L, D, P, B, V, M, M, q0, [], [], rfl, by omega, by omega, by omega, rfl, rfl, S2, hY2, by rw [hq0], by rw [hq0], hMc, hMc, (show (objCount R : Int) ≤ 8 + 0 by omega), hR, fun a => by rw [hrl]⟩ ?_
  rintro kk s ⟨i, R1, ws1, vs1, L1, D1, P1, B1, V1, K, K2, q, xs, LS, rfl, hi0, hi1, hkk, hLS, hil, S1, hY1, hqs, hqn, hKc, hK2c, hcnt, hR1, hnn2⟩
  clear S S2 hY hY2 hrl hq0 hB hMc hBC
  have hil : i = (xs.length : Int) := hil
  have hcnt : (objCount R1 : Int) ≤ 8 + i := hcnt
  have hkk : kk = (nn - i).toNat := hkk
  conv => cbv
  refine Br.mk (fun gi => ?_) (fun gi => ?_)
  · have gi : i < nn := gi
    conv => cbv
    refine CallF.le (args0 := [.ptr 17 (.lit 0), .p (.int .i64 (.sym 0))]) (callF_frame (ch13_lx R1 ws1 vs1 C N W 0 0 0 L1 D1 Q z false P1 B1 V1 Qr [] 0 K2 nc ng CS GS o 0 chs hcs hnc (by omega) (by omega)) [(0, 2), (1, 3), (2, 4), (3, 5), (4, 6), (5, 7), (6, 8), (7, 9), (8, 10), (9, 11), (10, 12), (11, 13), (12, 14), (13, 15), (14, 16), (15, 0), (16, 17), (17, 18), (18, 19)] rfl (by simp [hmapOk, nget, hget, renB, okB, renV, renVs, rn, okVs, okV]) rfl rfl (fun r h' n' hrr => ?_)) (by simp [ales, ale, pvle, I.val])
    obtain ⟨⟨x1, e1, hx1⟩, e2, e3⟩ := hrr
    subst e1 e2 e3
    conv => cbv
    obtain rfl : c = x1 := (ch0 hx1 hc0).symm
    refine callF_frame (sudogT13_lx R1 ws1 vs1 C N W 0 0 0 L1 D1 Q z false P1 B1 V1 Qr [] 0 (relink K q) K2 nc ng CS GS o S1 ho c g grs hgs hng ⟨by omega, by omega⟩ hg0 hgp hcp (by rw [hR1]; omega)) [(0, 2), (1, 3), (2, 4), (3, 5), (4, 6), (5, 7), (6, 8), (7, 9), (8, 10), (9, 11), (10, 12), (11, 13), (12, 14), (13, 15), (14, 16), (15, 0), (16, 17), (17, 18), (18, 19)] rfl (by simp [hmapOk, nget, hget, renB, okB, renV, renVs, rn, okVs, okV]) rfl rfl (fun r h' n' hrr => ?_)
    obtain ⟨x, R2, ws2, vs2, L2, D2, P2, B2, V2, e1, e2, e3, S2, hk2, hx2, hy2, hp2, hw2, hl2⟩ := hrr
    subst e1 e2 e3
    conv => cbv
    obtain ⟨hYa, hns⟩ := newSu2 (g := g) (c := c) (w := 0) (p := 0) (r := 0) (m := -1) hY1 hx2
    have hxc : c ≠ x := fun e => by rw [← e] at hy2; rw [hK2c] at hy2; cases hy2
    have hMx : upd (relink K q) x (3, [g, c, 0, -1, 0, 0, -1]) x = some (3, [g, c, 0, -1, 0, 0, -1]) := upd_same _ _ _
    have hMc2 : upd (relink K q) x (3, [g, c, 0, -1, 0, 0, -1]) c = some (1, [0, 0, 0, 0, -1, hdQ (q c false), ltQ (q c false), hdQ (q c true), ltQ (q c true)]) := by rw [upd_ne hxc]; exact relink_ch hKc
    refine drawn_sound tok (by kernel_rfl) [(5, [7, 6, 3, 2, 1, 0]), (8, [])] [0, 1, 2, 3, 4, 6, 7, 5, 8] (by kernel_rfl) ?_; conv => cbv
    refine CallF.le (args0 := [.ptr 17 (.lit 0), .p (.int .i64 (.sym 0))]) (callF_frame (ch13_lx R2 ws2 vs2 C N W 0 0 0 L2 D2 Q z false P2 B2 V2 Qr [] 0 K2 nc ng CS GS o 0 chs hcs hnc (by omega) (by omega)) [(0, 2), (1, 3), (2, 4), (3, 5), (4, 6), (5, 7), (6, 8), (7, 9), (8, 10), (9, 11), (10, 12), (11, 13), (12, 14), (13, 15), (14, 16), (15, 0), (16, 17), (17, 18), (18, 19)] rfl (by simp [hmapOk, nget, hget, renB, okB, renV, renVs, rn, okVs, okV]) rfl rfl (fun r h' n' hrr => ?_)) (by simp [ales, ale, pvle, I.val])
    obtain ⟨⟨x2, e1, hx2⟩, e2, e3⟩ := hrr
    subst e1 e2 e3
    conv => cbv
    obtain rfl : c = x2 := (ch0 hx2 hc0).symm
    refine callF_frame (listPushD_lx R2 ws2 C [] N W 0 0 0 L2 D2 Q z false S2.h _ S2.c q hYa o ho rfl c x 0 0 0 0 (-1) _ _ _ _ g 0 (-1) 0 0 (-1) sd hMc2 hMx (hns c)) [(0, 2), (1, 3), (2, 4), (3, 5), (4, 6), (5, 7), (6, 8), (7, 0)] rfl (by simp [hmapOk, nget, hget, renB, okB, renV, renVs, rn, okVs, okV]) rfl rfl (fun r h' n' hrr => ?_)
    obtain ⟨e8, ws3, D3, e1, he8, e2, e3, h3, c3⟩ := hrr
    subst e1 e2 e3
    conv => cbv
    have hYp := (hYa.push (d := sd) hMc2 hMx (hns c)).1
    rw [rl_upd] at hYp c3
    have hLl : LS.length = xs.length := by rw [hLS, ipv_length]
    refine Room.new rfl ?_
    conv => cbv
    refine Room.new ⟨?_, ?_, ?_⟩ ?_
    · show (LS.length : Int) = i * 1; omega
    · show (i + 1) * 8 ≤ 140737488355328; omega
    · show i + 1 ≤ 9223372036854775807; omega
    conv => cbv
    refine Upd.mk fun LS2 hLS2 => ?_
    have hLS2 : LS2 = LS ++ [.int .i64 (.sym x)] := hLS2
    have hLS3 : LS2 = ipv (xs ++ [x]) := by rw [hLS2, hLS, ← ipv_app]; rfl
    conv => cbv
    refine Sum.mk fun j2 hj2 => ?_
    have hj2 : j2 = i + 1 := hj2
    conv => cbv
    refine Fit.mk (by show (-9223372036854775808 : Int) ≤ i + 1; omega) (by show i + 1 ≤ 9223372036854775807; omega) fun j3 hj3 => ?_
    obtain rfl : j2 = j3 := hj2.trans (show j3 = i + 1 from hj3).symm
    conv => cbv
    refine Again.mk (nn - j2).toNat _ (by omega) (Re.at [(0, 0), (2, 2), (3, 3), (4, 4), (5, 5), (6, 6), (7, 7), (8, 8), (9, 9), (10, 10), (11, 11), (12, 12), (13, 13), (14, 14), (15, 15), (16, 16), (17, 17), (18, 18), (19, 19), (22, 20)] []) ⟨j2, R2, ws3, vs2, L2, D3, P2, B2, V2, upd K x (3, [g, c, 0, -1, 0, 0, -1]), upd K2 x (3, [g, c, 0, -1, 0, 0, -1]), updQ q c sd (q c sd ++ [x]), xs ++ [x], LS2, rfl, by omega, by omega, rfl, hLS3, by rw [List.length_append]; show j2 = ((xs.length + 1 : Nat) : Int); omega, ⟨h3, S2.r, c3, S2.d, rfl, S2.w⟩, hYp, by rw [updQ_same, hqs], by rw [updQ_ne (fun k => by cases sd <;> exact absurd k.2 (by decide))]; exact hqn, by rw [upd_ne hxc]; exact hKc, by rw [upd_ne hxc]; exact hK2c, (show (objCount R2 : Int) ≤ 8 + j2 by omega), hl2.trans hR1, fun a => by
        by_cases e : a = x
        · subst e
          rw [upd_same, relink_get (upd_same _ _ _)]
          exact ⟨fun h => (by cases h), fun h => (by cases h)⟩
        · rw [upd_ne e]
          have h1 := hnn2 a
          unfold relink at h1 ⊢
          rw [upd_ne e]
          rw [← h1]
          cases K a with
          | none => exact ⟨fun _ => rfl, fun _ => rfl⟩
          | some v => exact ⟨fun h => (by cases h), fun h => (by cases h)⟩⟩
  · have gi : ¬ i < nn := gi
    conv => cbv
    obtain ⟨t0, ht0⟩ : ∃ t0, t0 = hdQ (q c false) := ⟨_, rfl⟩
    obtain ⟨t1, ht1⟩ : ∃ t1, t1 = ltQ (q c false) := ⟨_, rfl⟩
    obtain ⟨s0, hs0⟩ : ∃ s0, s0 = hdQ (q c true) := ⟨_, rfl⟩
    obtain ⟨s1, hs1⟩ : ∃ s1, s1 = ltQ (q c true) := ⟨_, rfl⟩
    have hMc3 : relink K q c = some (1, [0, 0, 0, 0, -1, t0, t1, s0, s1]) := by rw [ht0, ht1, hs0, hs1]; exact relink_ch hKc
    have hil2 : i = nn := by omega
    refine read_sound tok (by kernel_rfl) [0, 2, 3, 4, 5, 6, 7, 8, 9, 10, 11, 12, 13, 14, 15, 16, 17, 18, 19, 20] [5, 6] [(10, [9, 8, 7, 6, 5, 4, 3, 2, 1, 0]), (11, [9])] [0, 1, 2, 3, 4, 5, 6, 7, 8, 9, 10, 11, 12] (by kernel_rfl) ?_
    conv => cbv
    refine ReadF.mk (.p (.int .i64 (.sym c))) (fun h' n' hbR hnR => CallF.le (args0 := [.ptr 17 (.lit 0), .p (.int .i64 (.sym 0))]) (callF_read ((ch13_lx R1 ws1 vs1 C N W 0 0 0 L1 D1 Q z false P1 B1 V1 Qr [] 0 K2 nc ng CS GS o 0 chs hcs hnc (by omega) (by omega)).mono (fun r h n ⟨⟨x, e1, hx⟩, e2, e3⟩ => ⟨by rw [e1, ch0 hx hc0], e2, e3⟩)) [(0, 2), (1, 3), (2, 4), (3, 5), (4, 6), (5, 7), (6, 8), (7, 9), (8, 10), (9, 11), (10, 12), (11, 13), (12, 14), (13, 15), (14, 16), (15, 0), (16, 17), (17, 18), (18, 19)] (by simp [fok, nget, nback]; omega) (by simp [hmapOk, nget, hbR, hget, renB, okB, renV, renVs, rn, okVs, okV]) rfl rfl rfl rfl) (by simp [ales, ale, pvle, I.val])) ?_
    conv => cbv
    refine ReadF.mk (.tup [.agg [.p (.int .i64 (.sym 0)), .p (.int .i64 (.sym 0)), .p (.int .i64 (.sym 0)), .p (.int .i64 (.sym 0)), .p (.int .i64 (.sym (-1))), .p (.int .i64 (.sym t0)), .p (.int .i64 (.sym t1)), .p (.int .i64 (.sym s0)), .p (.int .i64 (.sym s1))], .p (.int .i64 (.sym 0))]) (fun h' n' hbR hnR => CallF.le (args0 := [.ptr 2 (.lit 0), .p (.int .i64 (.sym c))]) (callF_read ((chanM_lx R1 ws1 C [] N W 0 0 0 L1 D1 Q z false S1.h (relink K q) S1.c c 0 0 0 0 (-1) t0 t1 s0 s1 hMc3).mono (fun r h n ⟨⟨e, e1, he⟩, e2, e3⟩ => ⟨by rw [e1, he], e2, e3⟩)) [(0, 2), (1, 3), (2, 4), (3, 5), (4, 6), (5, 7), (6, 8)] (by simp [fok, nget, nback]; omega) (by simp [hmapOk, nget, hbR, hget, renB, okB, renV, renVs, rn, okVs, okV]) rfl rfl rfl rfl) (by simp [ales, ale, pvle, I.val])) ?_
    conv => cbv
    refine drawn_sound tok (by kernel_rfl) [(9, [8, 7, 6, 5, 4, 3, 2, 1, 0]), (10, [])] [0, 1, 2, 3, 4, 5, 6, 7, 8, 9, 10] (by kernel_rfl) ?_; conv => cbv
    obtain ⟨x0, hx0⟩ : ∃ a, xs[0]? = some a := ⟨_, List.getElem?_eq_getElem (by omega)⟩
    obtain ⟨k1, hk1⟩ : ∃ k1, k1 = nn - 1 := ⟨_, rfl⟩
    obtain ⟨xl, hxl⟩ : ∃ a, xs[k1.toNat]? = some a := ⟨_, List.getElem?_eq_getElem (by omega)⟩
    have hcell0 : LS[(0 : Int).toNat]? = some (.int .i64 (.sym x0)) := by rw [hLS]; exact ipv_get hx0
    have hcelll : LS[k1.toNat]? = some (.int .i64 (.sym xl)) := by rw [hLS]; exact ipv_get hxl
    have hhd : hdQ xs = x0 := by unfold hdQ; rw [List.head?_eq_getElem?, hx0]; rfl
    have hlt : ltQ xs = xl := by unfold ltQ; rw [List.getLast?_eq_getElem?, show xs.length - 1 = k1.toNat by omega, hxl]; rfl
    refine Need.mk (show (0 : Int) ≤ 0 ∧ 0 < i by omega) ?_
    conv => cbv
    refine Cell.at 0 _ hcell0 (by simp [I.val]) rfl ?_
    conv => cbv
    refine Fit.mk (by show (-9223372036854775808 : Int) ≤ nn - 1; omega) (by show nn - 1 ≤ 9223372036854775807; omega) fun k2 hk2 => ?_
    obtain rfl : k1 = k2 := hk1.trans (show k2 = nn - 1 from hk2).symm
    conv => cbv
    refine Need.mk (show 0 ≤ k1 ∧ k1 < i by omega) ?_
    conv => cbv
    refine Cell.at k1 _ hcelll (by simp [I.val]) rfl ?_
    cases sd with
    | false =>
      conv => cbv
      refine LoopF.mk (fun kk s => ∃ (j : Int), s = ⟨.p (.int .i64 (.sym nn)) :: .p (.bool false) :: (undefs 3 ++ .ptr 17 (.lit 0) :: .sl 20 3 1 (.lit 0) (.sym i) :: (undefs 2 ++ .ptr 21 (.lit 0) :: .p (.int .i64 (.sym 0)) :: .ptr 22 (.lit 0) :: .p (.int .i64 (.sym j)) :: undefs 108)), [(2, .mix [.ptr 3 (.lit 0), .ptr 7 (.lit 0), .sl 8 3 1 (.lit 0) (.sym W), .p (.int .i64 (.sym 0)), .p (.int .i64 (.sym 0)), .p (.int .i64 (.sym 0))]), (3, .mix [.ptr 4 (.lit 0), .sl 6 3 1 (.lit 0) (.sym W)]), (4, .mix [.sl 5 214 2 (.lit 0) (.sym N)]), (5, .pure true L1), (6, .pure true D1), (7, .pure false [.str fun _ => z, .bool false]), (8, .pure true Q), (9, .mix [.ptr 10 (.lit 0), .sl 15 3 1 (.lit 0) (.sym W), .ptr 16 (.lit 0), .p (.int .i64 (.sym 0)), .p (.int .i64 (.sym 0)), .p (.int .i64 (.sym 0))]), (10, .mix [.ptr 11 (.lit 0), .sl 14 3 1 (.lit 0) (.sym W)]), (11, .mix [.sl 12 3 1 (.lit 0) (.sym N), .sl 13 209 8 (.lit 0) (.sym N)]), (12, .pure true P1), (13, .pure true B1), (14, .pure true V1), (15, .pure true Qr), (16, .mix [.p (.vsl (.sym 0) true []), .p (.bool false)]), (0, .fix 0 o), (17, .mix [.ptr 2 (.lit 0), .ptr 9 (.lit 0), .sl 18 3 1 (.lit 0) (.sym nc), .sl 19 3 1 (.lit 0) (.sym ng)]), (18, .pure true CS), (19, .pure true GS), (0, .fix 0 o), (20, .pure true LS), (21, .pure false [.int .i64 (.sym 0), .int .i64 (.sym 0), .int .i64 (.sym 0), .int .i64 (.sym 0), .int .i64 (.sym (-1)), .int .i64 (.sym t0), .int .i64 (.sym t1), .int .i64 (.sym s0), .int .i64 (.sym s1)]), (22, .pure false [.int .i64 (.lit 0), .int .i64 (.lit 0), .int .i64 (.lit 0), .int .i64 (.lit 0), .int .i64 (.lit (-1)), .int .i64 (.sym x0), .int .i64 (.sym xl), .int .i64 (.lit (-1)), .int .i64 (.lit (-1))])], 23⟩ ∧ 0 ≤ j ∧ j ≤ nn ∧ kk = (nn - j).toNat) nn.toNat _
        (Re.at [(0, 0), (2, 2), (3, 3), (4, 4), (5, 5), (6, 6), (7, 7), (8, 8), (9, 9), (10, 10), (11, 11), (12, 12), (13, 13), (14, 14), (15, 15), (16, 16), (17, 17), (18, 18), (19, 19), (20, 20), (21, 21), (22, 22)] []) ⟨0, rfl, by omega, by omega, by omega⟩ ?_
      clear hkk
      rintro kk s ⟨j, rfl, hj0, hj1, hkk⟩
      have hkk : kk = (nn - j).toNat := hkk
      conv => cbv
      refine Br.mk (fun gj => ?_) (fun gj => ?_)
      · have gj : j < nn := gj
        obtain ⟨y, hy⟩ : ∃ a, xs[j.toNat]? = some a := ⟨_, List.getElem?_eq_getElem (by omega)⟩
        have hcelly : LS[j.toNat]? = some (.int .i64 (.sym y)) := by rw [hLS]; exact ipv_get hy
        have hym : y ∈ q c false := by rw [hqs]; exact List.mem_of_getElem? hy
        obtain ⟨gy, wy, ny, py, ry, my, hMy⟩ := hY1.sg c false y hym
        have hny : ny = (xs[(j + 1).toNat]?).getD (-1) := by
          have h1 := hY1.lnk hMy
          rw [lnk_sudog, hY1.nxt hym, hqs, sucL_get _ _ (hqs ▸ hY1.nd c false) hy] at h1
          simp only [Prod.mk.injEq, List.cons.injEq, true_and, and_true] at h1
          rw [show (j + 1).toNat = j.toNat + 1 by omega]
          exact h1.symm
        conv => cbv
        refine read_sound tok (by kernel_rfl) [0, 2, 3, 4, 5, 6, 7, 8, 9, 10, 11, 12, 13, 14, 15, 16, 17, 18, 19, 20, 21, 22] [8] [(12, [11, 10, 9, 8, 7, 6, 5, 4, 3, 2, 1, 0]), (13, [11])] [0, 1, 2, 3, 4, 5, 6, 7, 8, 9, 10, 11, 12, 13, 14] (by kernel_rfl) ?_
        conv => cbv
        refine Need.mk (show 0 ≤ j ∧ j < i by omega) ?_
        conv => cbv
        refine Cell.at j _ hcelly (by simp [I.val]) rfl ?_
        conv => cbv
        refine ReadF.mk (.tup [.agg [.p (.int .i64 (.sym gy)), .p (.int .i64 (.sym c)), .p (.int .i64 (.sym wy)), .p (.int .i64 (.sym ny)), .p (.int .i64 (.sym py)), .p (.int .i64 (.sym ry)), .p (.int .i64 (.sym my))], .p (.int .i64 (.sym 0))]) (fun h' n' hbR hnR => CallF.le (args0 := [.ptr 2 (.lit 0), .p (.int .i64 (.sym y))]) (callF_read ((sudogM_lx R1 ws1 C [] N W 0 0 0 L1 D1 Q z false S1.h (relink K q) S1.c y gy c wy ny py ry my hMy).mono (fun r h n ⟨⟨e, e1, he⟩, e2, e3⟩ => ⟨by rw [e1, he], e2, e3⟩)) [(0, 2), (1, 3), (2, 4), (3, 5), (4, 6), (5, 7), (6, 8)] (by simp [fok, nget, nback]; omega) (by simp [hmapOk, nget, hbR, hget, renB, okB, renV, renVs, rn, okVs, okV]) rfl rfl rfl rfl) (by simp [ales, ale, pvle, I.val])) ?_
        conv => cbv
        refine Fit.mk (by show (-9223372036854775808 : Int) ≤ j + 1; omega) (by show j + 1 ≤ 9223372036854775807; omega) fun j2 hj2 => ?_
        have hj2 : j2 = j + 1 := hj2
        conv => cbv
        refine Br.mk (fun gk => ?_) (fun gk => ?_)
        · have gk : j2 < nn := gk
          obtain ⟨y2, hy2⟩ : ∃ a, xs[j2.toNat]? = some a := ⟨_, List.getElem?_eq_getElem (by omega)⟩
          have hcell2 : LS[j2.toNat]? = some (.int .i64 (.sym y2)) := by rw [hLS]; exact ipv_get hy2
          have hn2 : ny = y2 := by rw [hny, ← hj2, hy2]; rfl
          conv => cbv
          refine Fit.mk (by show (-9223372036854775808 : Int) ≤ j + 1; omega) (by show j + 1 ≤ 9223372036854775807; omega) fun j3 hj3 => ?_
          obtain rfl : j2 = j3 := hj2.trans (show j3 = j + 1 from hj3).symm
          conv => cbv
          refine Need.mk (show 0 ≤ j2 ∧ j2 < i by omega) ?_
          conv => cbv
          refine Cell.at j2 _ hcell2 (by simp [I.val]) rfl ?_
          conv => cbv
          refine Br.no (show ¬ ¬ ((0 : Int) = 0) from fun q => q rfl) ?_
          conv => cbv
          refine Br.no (show ¬ ¬ (ny = y2) from fun q => q hn2) ?_
          conv => cbv
          refine Fit.mk (by show (-9223372036854775808 : Int) ≤ j + 1; omega) (by show j + 1 ≤ 9223372036854775807; omega) fun j4 hj4 => ?_
          have hj4 : j4 = j + 1 := hj4
          conv => cbv
          refine Again.mk (nn - j4).toNat _ (by omega) (Re.at [(0, 0), (2, 2), (3, 3), (4, 4), (5, 5), (6, 6), (7, 7), (8, 8), (9, 9), (10, 10), (11, 11), (12, 12), (13, 13), (14, 14), (15, 15), (16, 16), (17, 17), (18, 18), (19, 19), (20, 20), (21, 21), (22, 22)] []) ⟨j4, rfl, by omega, by omega, rfl⟩
        · have gk : ¬ j2 < nn := gk
          have hn2 : ny = -1 := by rw [hny, ← hj2, List.getElem?_eq_none (by omega)]; rfl
          conv => cbv
          refine Br.no (show ¬ ¬ ((0 : Int) = 0) from fun q => q rfl) ?_
          conv => cbv
          refine Br.no (show ¬ ¬ (ny = -1) from fun q => q hn2) ?_
          conv => cbv
          refine Fit.mk (by show (-9223372036854775808 : Int) ≤ j + 1; omega) (by show j + 1 ≤ 9223372036854775807; omega) fun j4 hj4 => ?_
          have hj4 : j4 = j + 1 := hj4
          conv => cbv
          refine Again.mk (nn - j4).toNat _ (by omega) (Re.at [(0, 0), (2, 2), (3, 3), (4, 4), (5, 5), (6, 6), (7, 7), (8, 8), (9, 9), (10, 10), (11, 11), (12, 12), (13, 13), (14, 14), (15, 15), (16, 16), (17, 17), (18, 18), (19, 19), (20, 20), (21, 21), (22, 22)] []) ⟨j4, rfl, by omega, by omega, rfl⟩
      · have gj : ¬ j < nn := gj
        conv => cbv
        refine Br.yes (show (0 : Int) = 0 from rfl) ?_
        conv => cbv
        have ht : t0 = x0 ∧ t1 = xl ∧ s0 = (-1) ∧ s1 = (-1) := by
          have hA : q c false = xs := hqs
          have hB2 : q c true = [] := hqn
          rw [ht0, ht1, hs0, hs1, hA, hB2]
          exact ⟨hhd, hlt, rfl, rfl⟩
        obtain ⟨e5, e6, e7, e8⟩ := ht
        refine aggYes (by kernel_rfl) ?_ ?_
        · simp [eqLs, I.val, e5, e6, e7, e8]
        conv => cbv
        refine RetF.mk [.p (.bool true)] [(0, .fix 0 o)] 1 (Re.at [(0, 0)] []) rfl rfl
    | true =>
      conv => cbv
      refine drawn_sound tok (by kernel_rfl) [(9, [])] [0, 1, 2, 3, 4, 5, 6, 7, 8, 9] (by kernel_rfl) ?_; conv => cbv
      refine Need.mk (show (0 : Int) ≤ 0 ∧ 0 < i by omega) ?_
      conv => cbv
      refine Cell.at 0 _ hcell0 (by simp [I.val]) rfl ?_
      conv => cbv
      refine Fit.mk (by show (-9223372036854775808 : Int) ≤ nn - 1; omega) (by show nn - 1 ≤ 9223372036854775807; omega) fun k2 hk2 => ?_
      obtain rfl : k1 = k2 := hk1.trans (show k2 = nn - 1 from hk2).symm
      conv => cbv
      refine Need.mk (show 0 ≤ k1 ∧ k1 < i by omega) ?_
      conv => cbv
      refine Cell.at k1 _ hcelll (by simp [I.val]) rfl ?_
      conv => cbv
      refine LoopF.mk (fun kk s => ∃ (j : Int), s = ⟨.p (.int .i64 (.sym nn)) :: .p (.bool true) :: (undefs 3 ++ .ptr 17 (.lit 0) :: .sl 20 3 1 (.lit 0) (.sym i) :: (undefs 2 ++ .ptr 21 (.lit 0) :: .p (.int .i64 (.sym 0)) :: .ptr 22 (.lit 0) :: .p (.int .i64 (.sym j)) :: undefs 108)), [(2, .mix [.ptr 3 (.lit 0), .ptr 7 (.lit 0), .sl 8 3 1 (.lit 0) (.sym W), .p (.int .i64 (.sym 0)), .p (.int .i64 (.sym 0)), .p (.int .i64 (.sym 0))]), (3, .mix [.ptr 4 (.lit 0), .sl 6 3 1 (.lit 0) (.sym W)]), (4, .mix [.sl 5 214 2 (.lit 0) (.sym N)]), (5, .pure true L1), (6, .pure true D1), (7, .pure false [.str fun _ => z, .bool false]), (8, .pure true Q), (9, .mix [.ptr 10 (.lit 0), .sl 15 3 1 (.lit 0) (.sym W), .ptr 16 (.lit 0), .p (.int .i64 (.sym 0)), .p (.int .i64 (.sym 0)), .p (.int .i64 (.sym 0))]), (10, .mix [.ptr 11 (.lit 0), .sl 14 3 1 (.lit 0) (.sym W)]), (11, .mix [.sl 12 3 1 (.lit 0) (.sym N), .sl 13 209 8 (.lit 0) (.sym N)]), (12, .pure true P1), (13, .pure true B1), (14, .pure true V1), (15, .pure true Qr), (16, .mix [.p (.vsl (.sym 0) true []), .p (.bool false)]), (0, .fix 0 o), (17, .mix [.ptr 2 (.lit 0), .ptr 9 (.lit 0), .sl 18 3 1 (.lit 0) (.sym nc), .sl 19 3 1 (.lit 0) (.sym ng)]), (18, .pure true CS), (19, .pure true GS), (0, .fix 0 o), (20, .pure true LS), (21, .pure false [.int .i64 (.sym 0), .int .i64 (.sym 0), .int .i64 (.sym 0), .int .i64 (.sym 0), .int .i64 (.sym (-1)), .int .i64 (.sym t0), .int .i64 (.sym t1), .int .i64 (.sym s0), .int .i64 (.sym s1)]), (22, .pure false [.int .i64 (.lit 0), .int .i64 (.lit 0), .int .i64 (.lit 0), .int .i64 (.lit 0), .int .i64 (.lit (-1)), .int .i64 (.lit (-1)), .int .i64 (.lit (-1)), .int .i64 (.sym x0), .int .i64 (.sym xl)])], 23⟩ ∧ 0 ≤ j ∧ j ≤ nn ∧ kk = (nn - j).toNat) nn.toNat _
        (Re.at [(0, 0), (2, 2), (3, 3), (4, 4), (5, 5), (6, 6), (7, 7), (8, 8), (9, 9), (10, 10), (11, 11), (12, 12), (13, 13), (14, 14), (15, 15), (16, 16), (17, 17), (18, 18), (19, 19), (20, 20), (21, 21), (22, 22)] []) ⟨0, rfl, by omega, by omega, by omega⟩ ?_
      clear hkk
      rintro kk s ⟨j, rfl, hj0, hj1, hkk⟩
      have hkk : kk = (nn - j).toNat := hkk
      conv => cbv
      refine Br.mk (fun gj => ?_) (fun gj => ?_)
      · have gj : j < nn := gj
        obtain ⟨y, hy⟩ : ∃ a, xs[j.toNat]? = some a := ⟨_, List.getElem?_eq_getElem (by omega)⟩
        have hcelly : LS[j.toNat]? = some (.int .i64 (.sym y)) := by rw [hLS]; exact ipv_get hy
        have hym : y ∈ q c true := by rw [hqs]; exact List.mem_of_getElem? hy
        obtain ⟨gy, wy, ny, py, ry, my, hMy⟩ := hY1.sg c true y hym
        have hny : ny = (xs[(j + 1).toNat]?).getD (-1) := by
          have h1 := hY1.lnk hMy
          rw [lnk_sudog, hY1.nxt hym, hqs, sucL_get _ _ (hqs ▸ hY1.nd c true) hy] at h1
          simp only [Prod.mk.injEq, List.cons.injEq, true_and, and_true] at h1
          rw [show (j + 1).toNat = j.toNat + 1 by omega]
          exact h1.symm
        conv => cbv
        refine read_sound tok (by kernel_rfl) [0, 2, 3, 4, 5, 6, 7, 8, 9, 10, 11, 12, 13, 14, 15, 16, 17, 18, 19, 20, 21, 22] [8] [(12, [11, 10, 9, 8, 7, 6, 5, 4, 3, 2, 1, 0]), (13, [11])] [0, 1, 2, 3, 4, 5, 6, 7, 8, 9, 10, 11, 12, 13, 14] (by kernel_rfl) ?_
        conv => cbv
        refine Need.mk (show 0 ≤ j ∧ j < i by omega) ?_
        conv => cbv
        refine Cell.at j _ hcelly (by simp [I.val]) rfl ?_
        conv => cbv
        refine ReadF.mk (.tup [.agg [.p (.int .i64 (.sym gy)), .p (.int .i64 (.sym c)), .p (.int .i64 (.sym wy)), .p (.int .i64 (.sym ny)), .p (.int .i64 (.sym py)), .p (.int .i64 (.sym ry)), .p (.int .i64 (.sym my))], .p (.int .i64 (.sym 0))]) (fun h' n' hbR hnR => CallF.le (args0 := [.ptr 2 (.lit 0), .p (.int .i64 (.sym y))]) (callF_read ((sudogM_lx R1 ws1 C [] N W 0 0 0 L1 D1 Q z false S1.h (relink K q) S1.c y gy c wy ny py ry my hMy).mono (fun r h n ⟨⟨e, e1, he⟩, e2, e3⟩ => ⟨by rw [e1, he], e2, e3⟩)) [(0, 2), (1, 3), (2, 4), (3, 5), (4, 6), (5, 7), (6, 8)] (by simp [fok, nget, nback]; omega) (by simp [hmapOk, nget, hbR, hget, renB, okB, renV, renVs, rn, okVs, okV]) rfl rfl rfl rfl) (by simp [ales, ale, pvle, I.val])) ?_
        conv => cbv
        refine Fit.mk (by show (-9223372036854775808 : Int) ≤ j + 1; omega) (by show j + 1 ≤ 9223372036854775807; omega) fun j2 hj2 => ?_
        have hj2 : j2 = j + 1 := hj2
        conv => cbv
        refine Br.mk (fun gk => ?_) (fun gk => ?_)
        · have gk : j2 < nn := gk
          obtain ⟨y2, hy2⟩ : ∃ a, xs[j2.toNat]? = some a := ⟨_, List.getElem?_eq_getElem (by omega)⟩
          have hcell2 : LS[j2.toNat]? = some (.int .i64 (.sym y2)) := by rw [hLS]; exact ipv_get hy2
          have hn2 : ny = y2 := by rw [hny, ← hj2, hy2]; rfl
          conv => cbv
          refine Fit.mk (by show (-9223372036854775808 : Int) ≤ j + 1; omega) (by show j + 1 ≤ 9223372036854775807; omega) fun j3 hj3 => ?_
          obtain rfl : j2 = j3 := hj2.trans (show j3 = j + 1 from hj3).symm
          conv => cbv
          refine Need.mk (show 0 ≤ j2 ∧ j2 < i by omega) ?_
          conv => cbv
          refine Cell.at j2 _ hcell2 (by simp [I.val]) rfl ?_
          conv => cbv
          refine Br.no (show ¬ ¬ ((0 : Int) = 0) from fun q => q rfl) ?_
          conv => cbv
          refine Br.no (show ¬ ¬ (ny = y2) from fun q => q hn2) ?_
          conv => cbv
          refine Fit.mk (by show (-9223372036854775808 : Int) ≤ j + 1; omega) (by show j + 1 ≤ 9223372036854775807; omega) fun j4 hj4 => ?_
          have hj4 : j4 = j + 1 := hj4
          conv => cbv
          refine Again.mk (nn - j4).toNat _ (by omega) (Re.at [(0, 0), (2, 2), (3, 3), (4, 4), (5, 5), (6, 6), (7, 7), (8, 8), (9, 9), (10, 10), (11, 11), (12, 12), (13, 13), (14, 14), (15, 15), (16, 16), (17, 17), (18, 18), (19, 19), (20, 20), (21, 21), (22, 22)] []) ⟨j4, rfl, by omega, by omega, rfl⟩
        · have gk : ¬ j2 < nn := gk
          have hn2 : ny = -1 := by rw [hny, ← hj2, List.getElem?_eq_none (by omega)]; rfl
          conv => cbv
          refine Br.no (show ¬ ¬ ((0 : Int) = 0) from fun q => q rfl) ?_
          conv => cbv
          refine Br.no (show ¬ ¬ (ny = -1) from fun q => q hn2) ?_
          conv => cbv
          refine Fit.mk (by show (-9223372036854775808 : Int) ≤ j + 1; omega) (by show j + 1 ≤ 9223372036854775807; omega) fun j4 hj4 => ?_
          have hj4 : j4 = j + 1 := hj4
          conv => cbv
          refine Again.mk (nn - j4).toNat _ (by omega) (Re.at [(0, 0), (2, 2), (3, 3), (4, 4), (5, 5), (6, 6), (7, 7), (8, 8), (9, 9), (10, 10), (11, 11), (12, 12), (13, 13), (14, 14), (15, 15), (16, 16), (17, 17), (18, 18), (19, 19), (20, 20), (21, 21), (22, 22)] []) ⟨j4, rfl, by omega, by omega, rfl⟩
      · have gj : ¬ j < nn := gj
        conv => cbv
        refine Br.yes (show (0 : Int) = 0 from rfl) ?_
        conv => cbv
        have ht : t0 = (-1) ∧ t1 = (-1) ∧ s0 = x0 ∧ s1 = xl := by
          have hA : q c true = xs := hqs
          have hB2 : q c false = [] := hqn
          rw [ht0, ht1, hs0, hs1, hA, hB2]
          exact ⟨rfl, rfl, hhd, hlt⟩
        obtain ⟨e5, e6, e7, e8⟩ := ht
        refine aggYes (by kernel_rfl) ?_ ?_
        · simp [eqLs, I.val, e5, e6, e7, e8]
        conv => cbv
        refine RetF.mk [.p (.bool true)] [(0, .fix 0 o)] 1 (Re.at [(0, 0)] []) rfl rfl
end Go.Proofs.YtjgbhpclmlcbbaaGreatDoor
