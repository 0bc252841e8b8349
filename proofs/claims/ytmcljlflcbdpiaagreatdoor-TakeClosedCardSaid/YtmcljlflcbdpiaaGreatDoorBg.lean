/-
  The ground of the proof, part 7: the calculus and what is proved with it.
-/
import Derived.Test.YtmcljlflcbdpiaaGreatDoorBf
import Derived.Test.YtmcljlflcbdpiaaGreatDoorBd
import Derived.Test.YtmcljlflcbdpiaaGreatDoorBc
/-
  Things by their places, while nothing is marked.
-/
namespace Go.Proofs.YtmcljlflcbdpiaaGreatDoor

open Go Go.LX
set_option maxRecDepth 100000
set_option linter.unusedVariables false
set_option linter.unusedSimpArgs false

theorem shadeW_idle {R : List Rw} {ph w : Int} (h : ph = 0) (s : List Int × List Int × Bool) : shadeW R ph w s = s := by
  unfold shadeW shade
  split
  · rw [if_neg (fun q => by have := q.1; omega)]
  · rfl
theorem putS_idle {R : List Rw} {ph a : Int} (h : ph = 0) : ∀ (l : List Int) (i : Nat) (s : St4), (putS R ph a i l s).2 = s.2
  | [], _, _ => rfl
  | w :: l, i, s => by
    show (putS R ph a (i + 1) l _).2 = s.2
    rw [putS_idle h l]
    split
    · rfl
    · exact shadeW_idle h s.2
theorem PT.idle {kd ln : Int} {W : List Int} {R : List Rw} {ph a e : Int} {s s' : St4} (hp : ph = 0) (h : PT kd ln W R ph a s e s') : s'.2 = s.2 := by
  rcases h.two with ⟨_, _, q⟩ | ⟨_, _, q⟩
  · rw [q, putS_idle hp]
  · rw [q]
theorem storeS_idle {R : List Rw} {ph e w : Int} (h : ph = 0) (s : List Int × List Int × Bool) : storeS R ph e w s = s := by
  unfold storeS
  split
  · exact shadeW_idle h s
  · rfl
theorem HM.still {R R' : List Rw} {ws ws' C C' G G' : List Int} {N W : Int} {L L' D D' Q Q' : List PV} {z z' : ByteArray} {ov ov' : Bool} (h : HM R ws C G N W L D Q z) (h' : HM R' ws' C' G' N W L' D' Q' z') (e : (C', G', ov') = (C, G, ov)) : C' = C ∧ G' = G ∧ ov' = ov ∧ Q' = Q ∧ z' = z := by
  simp only [Prod.mk.injEq] at e
  obtain ⟨e1, e2, e3⟩ := e
  exact ⟨e1, e2, e3, by rw [h'.q, h.q, e1], by rw [h'.z, h.z, e2]⟩
theorem RM.still {R R' : List Rw} {vs vs' C C' G G' : List Int} {N W : Int} {P B V Q la P' B' V' Q' la' : List PV} {m m' : Int} {ov ov' : Bool} (h : RM R vs C G N W P B V Q la m) (h' : RM R' vs' C' G' N W P' B' V' Q' la' m') (e : (C', G', ov') = (C, G, ov)) : C' = C ∧ G' = G ∧ ov' = ov ∧ Q' = Q ∧ la' = la ∧ m' = m := by
  simp only [Prod.mk.injEq] at e
  obtain ⟨e1, e2, e3⟩ := e
  exact ⟨e1, e2, e3, by rw [h'.q, h.q, e1], by rw [h'.l, h.l, e2], by rw [h'.m, h.m, e2]⟩
theorem place_ge {a : Int} (h : atW (plW a) = a) : -1 ≤ a := by
  unfold atW plW at h
  split at h <;> split at h <;> omega
theorem place_b62 {a : Int} (h : -9223372036854775808 ≤ plW a ∧ plW a ≤ 9223372036854775807) (h1 : -1 ≤ a) : b62 a := by
  unfold plW at h
  unfold b62
  split at h <;> omega
theorem Cont.chan {R : List Rw} {ws : List Int} {M : Hp} (hA : AOk R ws) (h : Cont R ws M) {a y0 y1 y2 y3 y4 y5 y6 y7 y8 : Int} (hM : M a = some (1, [y0, y1, y2, y3, y4, y5, y6, y7, y8])) : (∀ x ∈ [y4, y5, y6, y7, y8], -1 ≤ x) ∧ (∀ x ∈ [y0, y1, y2, y3, y4, y5, y6, y7, y8], b62 x) := by
  obtain ⟨hF, _⟩ := h.up a _ _ hM
  have hb : ∀ x ∈ chanWs [y0, y1, y2, y3, y4, y5, y6, y7, y8], -9223372036854775808 ≤ x ∧ x ≤ 9223372036854775807 := h.bd hA hM
  have e : chanFs (chanWs [y0, y1, y2, y3, y4, y5, y6, y7, y8]) = [y0, y1, y2, y3, y4, y5, y6, y7, y8] := hF.back
  simp only [chanWs, chanFs, List.cons.injEq, and_true] at e hb
  simp only [List.forall_mem_cons] at hb
  obtain ⟨e0, e1, e2, e3, e4, e5, e6, e7, e8⟩ := e
  obtain ⟨b0, b1, b2, b3, b4, b5, b6, b7, b8, _⟩ := hb
  have p4 := place_ge e4
  have p5 := place_ge e5
  have p6 := place_ge e6
  have p7 := place_ge e7
  have p8 := place_ge e8
  have c0 : b62 y0 := by unfold b62; omega
  have c1 : b62 y1 := by unfold b62; omega
  have c2 : b62 y2 := by unfold b62; omega
  have c3 : b62 y3 := by unfold b62; omega
  have c4 : b62 y4 := place_b62 b4 p4
  have c5 : b62 y5 := place_b62 b5 p5
  have c6 : b62 y6 := place_b62 b6 p6
  have c7 : b62 y7 := place_b62 b7 p7
  have c8 : b62 y8 := place_b62 b8 p8
  simp only [List.forall_mem_cons]
  exact ⟨⟨p4, p5, p6, p7, p8, fun x hx => by cases hx⟩, ⟨c0, c1, c2, c3, c4, c5, c6, c7, c8, fun x hx => by cases hx⟩⟩
theorem chanM_lx (R : List Rw) (ws C G : List Int) (N W ph sp cy : Int) (L D Q : List PV) (z : ByteArray) (ov : Bool) (h : HM R ws C G N W L D Q z) (M : Hp) (hM : Cont R ws M) (a y0 y1 y2 y3 y4 y5 y6 y7 y8 : Int) (hMa : M a = some (1, [y0, y1, y2, y3, y4, y5, y6, y7, y8])) : CallF (fun _ => Tryz.prog) 18 [.ptr 0 (.lit 0), .p (.int .i64 (.sym a))] [(0, .mix [.ptr 1 (.lit 0), .ptr 5 (.lit 0), .sl 6 3 1 (.lit 0) (.sym W), .p (.int .i64 (.sym ph)), .p (.int .i64 (.sym sp)), .p (.int .i64 (.sym cy))]), (1, .mix [.ptr 2 (.lit 0), .sl 4 3 1 (.lit 0) (.sym W)]), (2, .mix [.sl 3 201 2 (.lit 0) (.sym N)]), (3, .pure true L), (4, .pure true D), (5, .pure false [.str fun _ => z, .bool ov]), (6, .pure true Q)] 7 (fun r h n => (∃ e : Int, r = .tup [.agg [.p (.int .i64 (.sym y0)), .p (.int .i64 (.sym y1)), .p (.int .i64 (.sym y2)), .p (.int .i64 (.sym y3)), .p (.int .i64 (.sym y4)), .p (.int .i64 (.sym y5)), .p (.int .i64 (.sym y6)), .p (.int .i64 (.sym y7)), .p (.int .i64 (.sym y8))], .p (.int .i64 (.sym e))] ∧ e = 0) ∧ h = [(0, .mix [.ptr 1 (.lit 0), .ptr 5 (.lit 0), .sl 6 3 1 (.lit 0) (.sym W), .p (.int .i64 (.sym ph)), .p (.int .i64 (.sym sp)), .p (.int .i64 (.sym cy))]), (1, .mix [.ptr 2 (.lit 0), .sl 4 3 1 (.lit 0) (.sym W)]), (2, .mix [.sl 3 201 2 (.lit 0) (.sym N)]), (3, .pure true L), (4, .pure true D), (5, .pure false [.str fun _ => z, .bool ov]), (6, .pure true Q)] ∧ n = 7) :=
  (chan_lx R ws C G N W ph sp cy L D Q z ov h a).mono fun r h' n hrr => by
    obtain ⟨⟨x0, x1, x2, x3, x4, x5, x6, x7, x8, e, e1, hT⟩, e2, e3⟩ := hrr
    obtain ⟨he, hy⟩ := hM.tr hMa rfl rfl hT
    simp only [List.cons.injEq, and_true] at hy
    obtain ⟨rfl, rfl, rfl, rfl, rfl, rfl, rfl, rfl, rfl⟩ := hy
    exact ⟨⟨e, e1, he⟩, e2, e3⟩
theorem chanNoM_lx (R : List Rw) (ws C G : List Int) (N W ph sp cy : Int) (L D Q : List PV) (z : ByteArray) (ov : Bool) (h : HM R ws C G N W L D Q z) (M : Hp) (hM : Cont R ws M) (a : Int) (hMa : ∀ F, M a ≠ some (1, F)) : CallF (fun _ => Tryz.prog) 18 [.ptr 0 (.lit 0), .p (.int .i64 (.sym a))] [(0, .mix [.ptr 1 (.lit 0), .ptr 5 (.lit 0), .sl 6 3 1 (.lit 0) (.sym W), .p (.int .i64 (.sym ph)), .p (.int .i64 (.sym sp)), .p (.int .i64 (.sym cy))]), (1, .mix [.ptr 2 (.lit 0), .sl 4 3 1 (.lit 0) (.sym W)]), (2, .mix [.sl 3 201 2 (.lit 0) (.sym N)]), (3, .pure true L), (4, .pure true D), (5, .pure false [.str fun _ => z, .bool ov]), (6, .pure true Q)] 7 (fun r h n => (∃ y0 y1 y2 y3 y4 y5 y6 y7 y8 e : Int, r = .tup [.agg [.p (.int .i64 (.sym y0)), .p (.int .i64 (.sym y1)), .p (.int .i64 (.sym y2)), .p (.int .i64 (.sym y3)), .p (.int .i64 (.sym y4)), .p (.int .i64 (.sym y5)), .p (.int .i64 (.sym y6)), .p (.int .i64 (.sym y7)), .p (.int .i64 (.sym y8))], .p (.int .i64 (.sym e))] ∧ e = 10 ∧ y0 = 0 ∧ y1 = 0 ∧ y2 = 0 ∧ y3 = 0 ∧ y4 = 0 ∧ y5 = 0 ∧ y6 = 0 ∧ y7 = 0 ∧ y8 = 0) ∧ h = [(0, .mix [.ptr 1 (.lit 0), .ptr 5 (.lit 0), .sl 6 3 1 (.lit 0) (.sym W), .p (.int .i64 (.sym ph)), .p (.int .i64 (.sym sp)), .p (.int .i64 (.sym cy))]), (1, .mix [.ptr 2 (.lit 0), .sl 4 3 1 (.lit 0) (.sym W)]), (2, .mix [.sl 3 201 2 (.lit 0) (.sym N)]), (3, .pure true L), (4, .pure true D), (5, .pure false [.str fun _ => z, .bool ov]), (6, .pure true Q)] ∧ n = 7) :=
  (chan_lx R ws C G N W ph sp cy L D Q z ov h a).mono fun r h' n hrr => by
    obtain ⟨⟨x0, x1, x2, x3, x4, x5, x6, x7, x8, e, e1, hT⟩, e2, e3⟩ := hrr
    obtain ⟨he, hy⟩ := hM.tr_no hMa hT
    have hy : [x0, x1, x2, x3, x4, x5, x6, x7, x8] = [0, 0, 0, 0, 0, 0, 0, 0, 0] := hy
    simp only [List.cons.injEq, and_true] at hy
    exact ⟨⟨x0, x1, x2, x3, x4, x5, x6, x7, x8, e, e1, he, hy⟩, e2, e3⟩
theorem putChanM_lx (R : List Rw) (ws C G : List Int) (N W ph sp cy : Int) (L D Q : List PV) (z : ByteArray) (ov : Bool) (h : HM R ws C G N W L D Q z) (M : Hp) (hM : Cont R ws M) (o : Unit → Obj) (ho : IsPow o) (hph : ph = 0) (a x0 x1 x2 x3 x4 x5 x6 x7 x8 : Int) (F : List Int) (hMa : M a = some (1, F)) (hF : F.length = 9) (hb : ∀ x ∈ [x0, x1, x2, x3, x4, x5, x6, x7, x8], b62 x) (hp : ∀ x ∈ [x4, x5, x6, x7, x8], -1 ≤ x) : CallF (fun _ => Tryz.prog) 25 [.ptr 0 (.lit 0), .p (.int .i64 (.sym a)), .agg [.p (.int .i64 (.sym x0)), .p (.int .i64 (.sym x1)), .p (.int .i64 (.sym x2)), .p (.int .i64 (.sym x3)), .p (.int .i64 (.sym x4)), .p (.int .i64 (.sym x5)), .p (.int .i64 (.sym x6)), .p (.int .i64 (.sym x7)), .p (.int .i64 (.sym x8))]] [(0, .mix [.ptr 1 (.lit 0), .ptr 5 (.lit 0), .sl 6 3 1 (.lit 0) (.sym W), .p (.int .i64 (.sym ph)), .p (.int .i64 (.sym sp)), .p (.int .i64 (.sym cy))]), (1, .mix [.ptr 2 (.lit 0), .sl 4 3 1 (.lit 0) (.sym W)]), (2, .mix [.sl 3 201 2 (.lit 0) (.sym N)]), (3, .pure true L), (4, .pure true D), (5, .pure false [.str fun _ => z, .bool ov]), (6, .pure true Q), (7, .fix 0 o)] 8 (fun r h n => ∃ (e : Int) (ws' : List Int) (D' : List PV), r = .p (.int .i64 (.sym e)) ∧ e = 0 ∧ h = [(0, .mix [.ptr 1 (.lit 0), .ptr 5 (.lit 0), .sl 6 3 1 (.lit 0) (.sym W), .p (.int .i64 (.sym ph)), .p (.int .i64 (.sym sp)), .p (.int .i64 (.sym cy))]), (1, .mix [.ptr 2 (.lit 0), .sl 4 3 1 (.lit 0) (.sym W)]), (2, .mix [.sl 3 201 2 (.lit 0) (.sym N)]), (3, .pure true L), (4, .pure true D'), (5, .pure false [.str fun _ => z, .bool ov]), (6, .pure true Q), (7, .fix 0 o)] ∧ n = 8 ∧ HM R ws' C G N W L D' Q z ∧ Cont R ws' (upd M a (1, [x0, x1, x2, x3, x4, x5, x6, x7, x8]))) :=
  (putChan_lx R ws C G N W ph sp cy L D Q z ov h o ho a x0 x1 x2 x3 x4 x5 x6 x7 x8 hb).mono fun r h' n hrr => by
    obtain ⟨e, ws', C', G', ov', D', Q', z', e1, e2, e3, h1, hP⟩ := hrr
    obtain ⟨he, hM'⟩ := hM.put (F' := [x0, x1, x2, x3, x4, x5, x6, x7, x8]) h.a hMa (by rw [hF]; rfl) rfl (FOk.chan hp) rfl (chanWs_bd x0 x1 x2 x3 x4 x5 x6 x7 x8 hb) hP
    obtain ⟨q1, q2, q3, q4, q5⟩ := h.still h1 (hP.idle hph)
    rw [q3, q4, q5] at e2
    rw [q1, q2, q4, q5] at h1
    exact ⟨e, ws', D', e1, he, e2, e3, h1, hM'⟩
theorem rPutChanM_lx (R : List Rw) (vs C G : List Int) (N W ph sp cy : Int) (P B V Q la : List PV) (m : Int) (ov : Bool) (h : RM R vs C G N W P B V Q la m) (M : Hp) (hM : Cont R vs M) (hph : ph = 0) (a x0 x1 x2 x3 x4 x5 x6 x7 x8 : Int) (F : List Int) (hMa : M a = some (1, F)) (hF : F.length = 9) (hb : ∀ x ∈ [x0, x1, x2, x3, x4, x5, x6, x7, x8], b62 x) (hp : ∀ x ∈ [x4, x5, x6, x7, x8], -1 ≤ x) : CallF (fun _ => Tryz.prog) 40 [.ptr 0 (.lit 0), .p (.int .i64 (.sym a)), .agg [.p (.int .i64 (.sym x0)), .p (.int .i64 (.sym x1)), .p (.int .i64 (.sym x2)), .p (.int .i64 (.sym x3)), .p (.int .i64 (.sym x4)), .p (.int .i64 (.sym x5)), .p (.int .i64 (.sym x6)), .p (.int .i64 (.sym x7)), .p (.int .i64 (.sym x8))]] [(0, .mix [.ptr 1 (.lit 0), .sl 6 3 1 (.lit 0) (.sym W), .ptr 7 (.lit 0), .p (.int .i64 (.sym ph)), .p (.int .i64 (.sym sp)), .p (.int .i64 (.sym cy))]), (1, .mix [.ptr 2 (.lit 0), .sl 5 3 1 (.lit 0) (.sym W)]), (2, .mix [.sl 3 3 1 (.lit 0) (.sym N), .sl 4 189 8 (.lit 0) (.sym N)]), (3, .pure true P), (4, .pure true B), (5, .pure true V), (6, .pure true Q), (7, .mix [.p (.vsl (.sym m) true la), .p (.bool ov)])] 8 (fun r h n => ∃ (e : Int) (vs' : List Int) (V' : List PV), r = .p (.int .i64 (.sym e)) ∧ e = 0 ∧ h = [(0, .mix [.ptr 1 (.lit 0), .sl 6 3 1 (.lit 0) (.sym W), .ptr 7 (.lit 0), .p (.int .i64 (.sym ph)), .p (.int .i64 (.sym sp)), .p (.int .i64 (.sym cy))]), (1, .mix [.ptr 2 (.lit 0), .sl 5 3 1 (.lit 0) (.sym W)]), (2, .mix [.sl 3 3 1 (.lit 0) (.sym N), .sl 4 189 8 (.lit 0) (.sym N)]), (3, .pure true P), (4, .pure true B), (5, .pure true V'), (6, .pure true Q), (7, .mix [.p (.vsl (.sym m) true la), .p (.bool ov)])] ∧ n = 8 ∧ RM R vs' C G N W P B V' Q la m ∧ Cont R vs' (upd M a (1, [x0, x1, x2, x3, x4, x5, x6, x7, x8]))) :=
  (rPutChan_lx R vs C G N W ph sp cy P B V Q la m ov h a x0 x1 x2 x3 x4 x5 x6 x7 x8 hb).mono fun r h' n hrr => by
    obtain ⟨e, vs', C', G', ov', V', Q', la', m', e1, e2, e3, h1, hP⟩ := hrr
    obtain ⟨he, hM'⟩ := hM.put (F' := [x0, x1, x2, x3, x4, x5, x6, x7, x8]) h.a hMa (by rw [hF]; rfl) rfl (FOk.chan hp) rfl (chanWs_bd x0 x1 x2 x3 x4 x5 x6 x7 x8 hb) hP
    obtain ⟨q1, q2, q3, q4, q5, q6⟩ := h.still h1 (hP.idle hph)
    rw [q3, q4, q5, q6] at e2
    rw [q1, q2, q4, q5, q6] at h1
    exact ⟨e, vs', V', e1, he, e2, e3, h1, hM'⟩
theorem sudogM_lx (R : List Rw) (ws C G : List Int) (N W ph sp cy : Int) (L D Q : List PV) (z : ByteArray) (ov : Bool) (h : HM R ws C G N W L D Q z) (M : Hp) (hM : Cont R ws M) (a y0 y1 y2 y3 y4 y5 y6 : Int) (hMa : M a = some (3, [y0, y1, y2, y3, y4, y5, y6])) : CallF (fun _ => Tryz.prog) 19 [.ptr 0 (.lit 0), .p (.int .i64 (.sym a))] [(0, .mix [.ptr 1 (.lit 0), .ptr 5 (.lit 0), .sl 6 3 1 (.lit 0) (.sym W), .p (.int .i64 (.sym ph)), .p (.int .i64 (.sym sp)), .p (.int .i64 (.sym cy))]), (1, .mix [.ptr 2 (.lit 0), .sl 4 3 1 (.lit 0) (.sym W)]), (2, .mix [.sl 3 201 2 (.lit 0) (.sym N)]), (3, .pure true L), (4, .pure true D), (5, .pure false [.str fun _ => z, .bool ov]), (6, .pure true Q)] 7 (fun r h n => (∃ e : Int, r = .tup [.agg [.p (.int .i64 (.sym y0)), .p (.int .i64 (.sym y1)), .p (.int .i64 (.sym y2)), .p (.int .i64 (.sym y3)), .p (.int .i64 (.sym y4)), .p (.int .i64 (.sym y5)), .p (.int .i64 (.sym y6))], .p (.int .i64 (.sym e))] ∧ e = 0) ∧ h = [(0, .mix [.ptr 1 (.lit 0), .ptr 5 (.lit 0), .sl 6 3 1 (.lit 0) (.sym W), .p (.int .i64 (.sym ph)), .p (.int .i64 (.sym sp)), .p (.int .i64 (.sym cy))]), (1, .mix [.ptr 2 (.lit 0), .sl 4 3 1 (.lit 0) (.sym W)]), (2, .mix [.sl 3 201 2 (.lit 0) (.sym N)]), (3, .pure true L), (4, .pure true D), (5, .pure false [.str fun _ => z, .bool ov]), (6, .pure true Q)] ∧ n = 7) :=
  (sudog_lx R ws C G N W ph sp cy L D Q z ov h a).mono fun r h' n hrr => by
    obtain ⟨⟨x0, x1, x2, x3, x4, x5, x6, e, e1, hT⟩, e2, e3⟩ := hrr
    obtain ⟨he, hy⟩ := hM.tr hMa rfl rfl hT
    simp only [List.cons.injEq, and_true] at hy
    obtain ⟨rfl, rfl, rfl, rfl, rfl, rfl, rfl⟩ := hy
    exact ⟨⟨e, e1, he⟩, e2, e3⟩
theorem sudogNoM_lx (R : List Rw) (ws C G : List Int) (N W ph sp cy : Int) (L D Q : List PV) (z : ByteArray) (ov : Bool) (h : HM R ws C G N W L D Q z) (M : Hp) (hM : Cont R ws M) (a : Int) (hMa : ∀ F, M a ≠ some (3, F)) : CallF (fun _ => Tryz.prog) 19 [.ptr 0 (.lit 0), .p (.int .i64 (.sym a))] [(0, .mix [.ptr 1 (.lit 0), .ptr 5 (.lit 0), .sl 6 3 1 (.lit 0) (.sym W), .p (.int .i64 (.sym ph)), .p (.int .i64 (.sym sp)), .p (.int .i64 (.sym cy))]), (1, .mix [.ptr 2 (.lit 0), .sl 4 3 1 (.lit 0) (.sym W)]), (2, .mix [.sl 3 201 2 (.lit 0) (.sym N)]), (3, .pure true L), (4, .pure true D), (5, .pure false [.str fun _ => z, .bool ov]), (6, .pure true Q)] 7 (fun r h n => (∃ y0 y1 y2 y3 y4 y5 y6 e : Int, r = .tup [.agg [.p (.int .i64 (.sym y0)), .p (.int .i64 (.sym y1)), .p (.int .i64 (.sym y2)), .p (.int .i64 (.sym y3)), .p (.int .i64 (.sym y4)), .p (.int .i64 (.sym y5)), .p (.int .i64 (.sym y6))], .p (.int .i64 (.sym e))] ∧ e = 10 ∧ y0 = 0 ∧ y1 = 0 ∧ y2 = 0 ∧ y3 = 0 ∧ y4 = 0 ∧ y5 = 0 ∧ y6 = 0) ∧ h = [(0, .mix [.ptr 1 (.lit 0), .ptr 5 (.lit 0), .sl 6 3 1 (.lit 0) (.sym W), .p (.int .i64 (.sym ph)), .p (.int .i64 (.sym sp)), .p (.int .i64 (.sym cy))]), (1, .mix [.ptr 2 (.lit 0), .sl 4 3 1 (.lit 0) (.sym W)]), (2, .mix [.sl 3 201 2 (.lit 0) (.sym N)]), (3, .pure true L), (4, .pure true D), (5, .pure false [.str fun _ => z, .bool ov]), (6, .pure true Q)] ∧ n = 7) :=
  (sudog_lx R ws C G N W ph sp cy L D Q z ov h a).mono fun r h' n hrr => by
    obtain ⟨⟨x0, x1, x2, x3, x4, x5, x6, e, e1, hT⟩, e2, e3⟩ := hrr
    obtain ⟨he, hy⟩ := hM.tr_no hMa hT
    have hy : [x0, x1, x2, x3, x4, x5, x6] = [0, 0, 0, 0, 0, 0, 0] := hy
    simp only [List.cons.injEq, and_true] at hy
    exact ⟨⟨x0, x1, x2, x3, x4, x5, x6, e, e1, he, hy⟩, e2, e3⟩
theorem putGorM_lx (R : List Rw) (ws C G : List Int) (N W ph sp cy : Int) (L D Q : List PV) (z : ByteArray) (ov : Bool) (h : HM R ws C G N W L D Q z) (M : Hp) (hM : Cont R ws M) (o : Unit → Obj) (ho : IsPow o) (hph : ph = 0) (a x0 x1 x2 x3 x4 x5 x6 x7 x8 x9 : Int) (F : List Int) (hMa : M a = some (4, F)) (hF : F.length = 10) (hb : ∀ x ∈ [x0, x1, x2, x9], b62 x) (hw : ∀ x ∈ [x3, x4, x5, x6, x7, x8], -9223372036854775808 ≤ x ∧ x ≤ 9223372036854775807) (hp : ∀ x ∈ [x9], -1 ≤ x) : CallF (fun _ => Tryz.prog) 41 [.ptr 0 (.lit 0), .p (.int .i64 (.sym a)), .agg [.p (.int .i64 (.sym x0)), .p (.int .i64 (.sym x1)), .p (.int .i64 (.sym x2)), .p (.int .i64 (.sym x3)), .p (.int .i64 (.sym x4)), .p (.int .i64 (.sym x5)), .p (.int .i64 (.sym x6)), .p (.int .i64 (.sym x7)), .p (.int .i64 (.sym x8)), .p (.int .i64 (.sym x9))]] [(0, .mix [.ptr 1 (.lit 0), .ptr 5 (.lit 0), .sl 6 3 1 (.lit 0) (.sym W), .p (.int .i64 (.sym ph)), .p (.int .i64 (.sym sp)), .p (.int .i64 (.sym cy))]), (1, .mix [.ptr 2 (.lit 0), .sl 4 3 1 (.lit 0) (.sym W)]), (2, .mix [.sl 3 201 2 (.lit 0) (.sym N)]), (3, .pure true L), (4, .pure true D), (5, .pure false [.str fun _ => z, .bool ov]), (6, .pure true Q), (7, .fix 0 o)] 8 (fun r h n => ∃ (e : Int) (ws' : List Int) (D' : List PV), r = .p (.int .i64 (.sym e)) ∧ e = 0 ∧ h = [(0, .mix [.ptr 1 (.lit 0), .ptr 5 (.lit 0), .sl 6 3 1 (.lit 0) (.sym W), .p (.int .i64 (.sym ph)), .p (.int .i64 (.sym sp)), .p (.int .i64 (.sym cy))]), (1, .mix [.ptr 2 (.lit 0), .sl 4 3 1 (.lit 0) (.sym W)]), (2, .mix [.sl 3 201 2 (.lit 0) (.sym N)]), (3, .pure true L), (4, .pure true D'), (5, .pure false [.str fun _ => z, .bool ov]), (6, .pure true Q), (7, .fix 0 o)] ∧ n = 8 ∧ HM R ws' C G N W L D' Q z ∧ Cont R ws' (upd M a (4, [x0, x1, x2, x3, x4, x5, x6, x7, x8, x9]))) :=
  (putGor_lx R ws C G N W ph sp cy L D Q z ov h o ho a x0 x1 x2 x3 x4 x5 x6 x7 x8 x9 hb hw).mono fun r h' n hrr => by
    obtain ⟨e, ws', C', G', ov', D', Q', z', e1, e2, e3, h1, hP⟩ := hrr
    obtain ⟨he, hM'⟩ := hM.put (F' := [x0, x1, x2, x3, x4, x5, x6, x7, x8, x9]) h.a hMa (by rw [hF]; rfl) rfl (FOk.gor hp) rfl (gorWs_bd x0 x1 x2 x3 x4 x5 x6 x7 x8 x9 hb hw) hP
    obtain ⟨q1, q2, q3, q4, q5⟩ := h.still h1 (hP.idle hph)
    rw [q3, q4, q5] at e2
    rw [q1, q2, q4, q5] at h1
    exact ⟨e, ws', D', e1, he, e2, e3, h1, hM'⟩
theorem rPutGorM_lx (R : List Rw) (vs C G : List Int) (N W ph sp cy : Int) (P B V Q la : List PV) (m : Int) (ov : Bool) (h : RM R vs C G N W P B V Q la m) (M : Hp) (hM : Cont R vs M) (hph : ph = 0) (a x0 x1 x2 x3 x4 x5 x6 x7 x8 x9 : Int) (F : List Int) (hMa : M a = some (4, F)) (hF : F.length = 10) (hb : ∀ x ∈ [x0, x1, x2, x9], b62 x) (hw : ∀ x ∈ [x3, x4, x5, x6, x7, x8], -9223372036854775808 ≤ x ∧ x ≤ 9223372036854775807) (hp : ∀ x ∈ [x9], -1 ≤ x) : CallF (fun _ => Tryz.prog) 42 [.ptr 0 (.lit 0), .p (.int .i64 (.sym a)), .agg [.p (.int .i64 (.sym x0)), .p (.int .i64 (.sym x1)), .p (.int .i64 (.sym x2)), .p (.int .i64 (.sym x3)), .p (.int .i64 (.sym x4)), .p (.int .i64 (.sym x5)), .p (.int .i64 (.sym x6)), .p (.int .i64 (.sym x7)), .p (.int .i64 (.sym x8)), .p (.int .i64 (.sym x9))]] [(0, .mix [.ptr 1 (.lit 0), .sl 6 3 1 (.lit 0) (.sym W), .ptr 7 (.lit 0), .p (.int .i64 (.sym ph)), .p (.int .i64 (.sym sp)), .p (.int .i64 (.sym cy))]), (1, .mix [.ptr 2 (.lit 0), .sl 5 3 1 (.lit 0) (.sym W)]), (2, .mix [.sl 3 3 1 (.lit 0) (.sym N), .sl 4 189 8 (.lit 0) (.sym N)]), (3, .pure true P), (4, .pure true B), (5, .pure true V), (6, .pure true Q), (7, .mix [.p (.vsl (.sym m) true la), .p (.bool ov)])] 8 (fun r h n => ∃ (e : Int) (vs' : List Int) (V' : List PV), r = .p (.int .i64 (.sym e)) ∧ e = 0 ∧ h = [(0, .mix [.ptr 1 (.lit 0), .sl 6 3 1 (.lit 0) (.sym W), .ptr 7 (.lit 0), .p (.int .i64 (.sym ph)), .p (.int .i64 (.sym sp)), .p (.int .i64 (.sym cy))]), (1, .mix [.ptr 2 (.lit 0), .sl 5 3 1 (.lit 0) (.sym W)]), (2, .mix [.sl 3 3 1 (.lit 0) (.sym N), .sl 4 189 8 (.lit 0) (.sym N)]), (3, .pure true P), (4, .pure true B), (5, .pure true V'), (6, .pure true Q), (7, .mix [.p (.vsl (.sym m) true la), .p (.bool ov)])] ∧ n = 8 ∧ RM R vs' C G N W P B V' Q la m ∧ Cont R vs' (upd M a (4, [x0, x1, x2, x3, x4, x5, x6, x7, x8, x9]))) :=
  (rPutGor_lx R vs C G N W ph sp cy P B V Q la m ov h a x0 x1 x2 x3 x4 x5 x6 x7 x8 x9 hb hw).mono fun r h' n hrr => by
    obtain ⟨e, vs', C', G', ov', V', Q', la', m', e1, e2, e3, h1, hP⟩ := hrr
    obtain ⟨he, hM'⟩ := hM.put (F' := [x0, x1, x2, x3, x4, x5, x6, x7, x8, x9]) h.a hMa (by rw [hF]; rfl) rfl (FOk.gor hp) rfl (gorWs_bd x0 x1 x2 x3 x4 x5 x6 x7 x8 x9 hb hw) hP
    obtain ⟨q1, q2, q3, q4, q5, q6⟩ := h.still h1 (hP.idle hph)
    rw [q3, q4, q5, q6] at e2
    rw [q1, q2, q4, q5, q6] at h1
    exact ⟨e, vs', V', e1, he, e2, e3, h1, hM'⟩
end Go.Proofs.YtmcljlflcbdpiaaGreatDoor
/-
  Who waits where: rows of sudogs, and how they hang together.
-/
namespace Go.Proofs.YtmcljlflcbdpiaaGreatDoor

open Go Go.LX
set_option maxRecDepth 100000
set_option linter.unusedVariables false
set_option linter.unusedSimpArgs false

def hdQ (l : List Int) : Int := l.head?.getD (-1)
def ltQ (l : List Int) : Int := l.getLast?.getD (-1)
/-- The one behind. -/
def sucL : List Int → Int → Int
  | x :: y :: l, a => if a = x then y else sucL (y :: l) a
  | _, _ => -1
abbrev Qs := Int → Bool → List Int
def nxtQ (q : Qs) (c a : Int) : Int := if a ∈ q c false then sucL (q c false) a else sucL (q c true) a
/-- A thing as it hangs together with the others. -/
def lnk (q : Qs) (a : Int) (v : Int × List Int) : Int × List Int :=
  if v.1 = 1 then (match v.2 with
    | [a0, a1, a2, a3, a4, _, _, _, _] => (1, [a0, a1, a2, a3, a4, hdQ (q a false), ltQ (q a false), hdQ (q a true), ltQ (q a true)])
    | F => (1, F))
  else if v.1 = 3 then (match v.2 with
    | [g, c, w, _, p, r, m] => (3, [g, c, w, nxtQ q c a, p, r, m])
    | F => (3, F))
  else v
theorem lnk_chan (q : Qs) (a a0 a1 a2 a3 a4 a5 a6 a7 a8 : Int) : lnk q a (1, [a0, a1, a2, a3, a4, a5, a6, a7, a8]) = (1, [a0, a1, a2, a3, a4, hdQ (q a false), ltQ (q a false), hdQ (q a true), ltQ (q a true)]) := rfl
theorem lnk_sudog (q : Qs) (a g c w n p r m : Int) : lnk q a (3, [g, c, w, n, p, r, m]) = (3, [g, c, w, nxtQ q c a, p, r, m]) := rfl
theorem lnk_other (q : Qs) (a : Int) (v : Int × List Int) (h : v.1 ≠ 1 ∧ v.1 ≠ 3) : lnk q a v = v := by unfold lnk; rw [if_neg h.1, if_neg h.2]
def relink (M : Hp) (q : Qs) : Hp := fun a => (M a).map (lnk q a)
theorem relink_upd (M : Hp) (q : Qs) (a : Int) (v : Int × List Int) : relink (upd M a v) q = upd (relink M q) a (lnk q a v) := by
  funext b
  unfold relink upd
  by_cases h : b = a
  · rw [if_pos h, if_pos h, h]; rfl
  · rw [if_neg h, if_neg h]
/-- Rows of sudogs as they may be. -/
structure Sys (M : Hp) (q : Qs) : Prop where
  ch : ∀ c d s, s ∈ q c d → ∃ F, M c = some (1, F)
  sg : ∀ c d s, s ∈ q c d → ∃ g w n p r m, M s = some (3, [g, c, w, n, p, r, m])
  nd : ∀ c d, (q c d).Nodup
  dj : ∀ c s, s ∈ q c false → s ∉ q c true
  ln : relink M q = M
  sc : ∀ a F, M a = some (1, F) → F.length = 9
  ss : ∀ a F, M a = some (3, F) → F.length = 7
theorem Sys.lnk {M : Hp} {q : Qs} (h : Sys M q) {a : Int} {v : Int × List Int} (hv : M a = some v) : lnk q a v = v := by
  have := congrFun h.ln a
  unfold relink at this
  rw [hv] at this
  exact Option.some.inj this
theorem Sys.new {M : Hp} (h1 : ∀ a F, M a = some (1, F) → ∃ a0 a1 a2 a3 a4, F = [a0, a1, a2, a3, a4, -1, -1, -1, -1]) (h3 : ∀ a F, M a = some (3, F) → ∃ g c w p r m, F = [g, c, w, -1, p, r, m]) : Sys M (fun _ _ => []) := by
  refine ⟨fun c d s hs => (by cases hs), fun c d s hs => (by cases hs), fun c d => List.nodup_nil, fun c s hs => (by cases hs), ?_, fun a F e => (by obtain ⟨a0, a1, a2, a3, a4, q⟩ := h1 a F e; rw [q]; rfl), fun a F e => (by obtain ⟨g, c, w, p, r, m, q⟩ := h3 a F e; rw [q]; rfl)⟩
  funext a
  unfold relink
  cases hv : M a with
  | none => rfl
  | some v =>
    obtain ⟨k, F⟩ := v
    show some _ = some _
    congr 1
    by_cases e1 : k = 1
    · subst e1
      obtain ⟨a0, a1, a2, a3, a4, rfl⟩ := h1 a F hv
      rfl
    · by_cases e3 : k = 3
      · subst e3
        obtain ⟨g, c, w, p, r, m, rfl⟩ := h3 a F hv
        rfl
      · exact lnk_other _ _ _ ⟨e1, e3⟩
theorem sucL_get : ∀ {l : List Int} (i : Nat) (x : Int), l.Nodup → l[i]? = some x → sucL l x = (l[i + 1]?).getD (-1)
  | [], i, x, _, h => by simp at h
  | [a], 0, x, _, h => rfl
  | [a], i + 1, x, _, h => by simp at h
  | a :: b :: l, 0, x, _, h => by
    simp at h
    subst h
    simp [sucL]
  | a :: b :: l, i + 1, x, hn, h => by
    have hx : x ∈ b :: l := List.mem_of_getElem? (by simpa using h)
    have hne : x ≠ a := fun e => by
      subst e
      exact (List.nodup_cons.1 hn).1 hx
    show (if x = a then b else sucL (b :: l) x) = _
    rw [if_neg hne, sucL_get i x (List.nodup_cons.1 hn).2 (by simpa using h)]
    simp
theorem sucL_not : ∀ {l : List Int} {x : Int}, x ∉ l → sucL l x = -1
  | [], _, _ => rfl
  | [a], _, _ => rfl
  | a :: b :: l, x, h => by
    show (if x = a then b else sucL (b :: l) x) = _
    rw [if_neg (fun e : x = a => h (by rw [e]; exact List.mem_cons_self)), sucL_not (fun q => h (List.mem_cons_of_mem _ q))]
theorem Sys.nxt {M : Hp} {q : Qs} (h : Sys M q) {c s : Int} {d : Bool} (hs : s ∈ q c d) : nxtQ q c s = sucL (q c d) s := by
  unfold nxtQ
  cases d with
  | false => rw [if_pos hs]
  | true => rw [if_neg (fun k => h.dj c s k hs)]
theorem nxtQ_not {q : Qs} {c s : Int} (h : ∀ d, s ∉ q c d) : nxtQ q c s = -1 := by
  unfold nxtQ
  rw [if_neg (h false), sucL_not (h true)]
/-- A thing put that hangs together as it did. -/
theorem Sys.updv {M : Hp} {q : Qs} {a : Int} {v : Int × List Int} (h : Sys M q) (hv : Go.Proofs.YtmcljlflcbdpiaaGreatDoor.lnk q a v = v) (hk : ∀ F, M a = some (1, F) → v.1 = 1) (hs : ∀ c d, a ∈ q c d → ∃ g w n p r m, v = (3, [g, c, w, n, p, r, m])) (hl : (v.1 = 1 → v.2.length = 9) ∧ (v.1 = 3 → v.2.length = 7)) : Sys (upd M a v) q := by
  refine ⟨fun c d s k => ?_, fun c d s k => ?_, h.nd, h.dj, ?_, fun b F e => ?_, fun b F e => ?_⟩
  · obtain ⟨F, hF⟩ := h.ch c d s k
    by_cases e : c = a
    · subst e
      exact ⟨v.2, by rw [upd_same, ← hk F hF]⟩
    · exact ⟨F, by rw [upd_ne e]; exact hF⟩
  · by_cases e : s = a
    · subst e
      obtain ⟨g, w, n, p, r, m, hv2⟩ := hs c d k
      exact ⟨g, w, n, p, r, m, by rw [upd_same, hv2]⟩
    · rw [upd_ne e]; exact h.sg c d s k
  · rw [relink_upd, h.ln, hv]
  · by_cases q : b = a
    · subst q; rw [upd_same] at e; cases e; exact hl.1 rfl
    · rw [upd_ne q] at e; exact h.sc b F e
  · by_cases q : b = a
    · subst q; rw [upd_same] at e; cases e; exact hl.2 rfl
    · rw [upd_ne q] at e; exact h.ss b F e
theorem Sys.fresh {M : Hp} {q : Qs} {a k : Int} {n : Nat} (h : Sys M q) (hM : M a = none) : Sys (upd M a (k, zerK k n)) q := by
  have hna : ∀ c d, a ∉ q c d := fun c d hs => by obtain ⟨g, w, n, p, r, m, e⟩ := h.sg c d a hs; rw [hM] at e; cases e
  have hqa : ∀ d, q a d = [] := fun d => by
    cases hq : q a d with
    | nil => rfl
    | cons x l => obtain ⟨F, e⟩ := h.ch a d x (by rw [hq]; exact List.mem_cons_self); rw [hM] at e; cases e
  refine h.updv ?_ (fun F e => by rw [hM] at e; cases e) (fun c d e => absurd e (hna c d)) ⟨fun e => by have e : k = 1 := e; subst e; rfl, fun e => by have e : k = 3 := e; subst e; rfl⟩
  by_cases e1 : k = 1
  · subst e1
    show Go.Proofs.YtmcljlflcbdpiaaGreatDoor.lnk q a (1, [0, 0, 0, 0, -1, -1, -1, -1, -1]) = _
    rw [lnk_chan, hqa, hqa]; rfl
  · by_cases e3 : k = 3
    · subst e3
      show Go.Proofs.YtmcljlflcbdpiaaGreatDoor.lnk q a (3, [-1, -1, 0, -1, 0, 0, -1]) = _
      rw [lnk_sudog, nxtQ_not (fun d => hna _ d)]; rfl
    · exact lnk_other _ _ _ ⟨e1, e3⟩
theorem Sys.none {M : Hp} {q : Qs} {a : Int} (h : Sys M q) (hM : ∀ F, M a ≠ some (1, F)) (d : Bool) : q a d = [] := by
  cases hq : q a d with
  | nil => rfl
  | cons x l => obtain ⟨F, e⟩ := h.ch a d x (by rw [hq]; exact List.mem_cons_self); exact absurd e (hM F)
end Go.Proofs.YtmcljlflcbdpiaaGreatDoor
/-
  The benches: what holds of both heaps, while nothing is marked.
-/
namespace Go.Proofs.YtmcljlflcbdpiaaGreatDoor

open Go Go.LX
set_option maxRecDepth 100000
set_option linter.unusedVariables false
set_option linter.unusedSimpArgs false

/-- Both heaps, idle, all white, with the same things. -/
structure Bst (R : List Rw) (ws vs C : List Int) (N W ph : Int) (L D Q : List PV) (z : ByteArray) (P B V Qr la : List PV) (m : Int) (M : Hp) : Prop where
  h : HM R ws C [] N W L D Q z
  r : RM R vs C [] N W P B V Qr la m
  c : Cont R ws M
  d : Cont R vs M
  ph : ph = 0
  w : C = List.replicate W.toNat 0
theorem Bst.colour {R R' : List Rw} {ws vs ws' vs' C C' DC : List Int} {N W ph : Int} {L D Q L' D' Q' : List PV} {z : ByteArray} {P B V Qr la P' B' V' Qr' : List PV} {m : Int} {M : Hp} {x e : Int} (S : Bst R ws vs C N W ph L D Q z P B V Qr la m M) (he : e = 0) (h1 : HM R' ws' C' [] N W L' D' Q' z) (g1 : RM R' vs' DC [] N W P' B' V' Qr' la m) (hC : C' = allocC ph x e C) (hD : DC = allocC ph x e C) : C = C' ∧ C = DC ∧ Q = Q' ∧ Qr = Qr' := by
  have : allocC ph x e C = C := by rw [S.ph, he, S.w]; exact allocC_white x
  rw [this] at hC hD
  exact ⟨hC.symm, hD.symm, by rw [h1.q, S.h.q, hC], by rw [g1.q, S.r.q, hD]⟩
/-- A channel as it was made, and its buffer. -/
structure BCh (M : Hp) (c b cap : Int) : Prop where
  c : M c = some (1, [cap, 0, 0, 0, b, -1, -1, -1, -1])
  b : (cap = 0 ∧ b = -1) ∨ (0 < cap ∧ cap < 4 ∧ M b = some (2, List.replicate cap.toNat 0))
def capW (x : Int) : Int := IntKind.u64.wrap x % 4
theorem capW_bd (x : Int) : 0 ≤ capW x ∧ capW x < 4 := by unfold capW; omega
def ngor (n : Int) : Int := 1 + IntKind.u64.wrap n % 6
theorem ngor_bd (n : Int) : 1 ≤ ngor n ∧ ngor n ≤ 6 := by unfold ngor; omega
/-- What is made: channels of caps, and goroutines. -/
structure Bn (caps : List Int) (M : Hp) (chs bufs gs : List Int) : Prop where
  len : bufs.length = chs.length
  lec : chs.length ≤ caps.length
  ch : ∀ (j : Nat) (c x : Int), chs[j]? = some c → caps[j]? = some x → ∃ b, bufs[j]? = some b ∧ BCh M c b (capW x)
  nd : chs.Nodup
  bnd : ∀ (i j : Nat) (b : Int), bufs[i]? = some b → bufs[j]? = some b → 0 ≤ b → i = j
  gnd : gs.Nodup
  gr : ∀ (j : Nat) (g : Int), gs[j]? = some g → M g = some (4, [(j : Int), 0, 0, 0, 0, 0, 0, 0, 0, -1])
theorem Bn.new (caps : List Int) (M : Hp) : Bn caps M [] [] [] := ⟨rfl, Nat.zero_le _, fun j c x h => by simp at h, List.nodup_nil, fun i j b h => by simp at h, List.nodup_nil, fun j g h => by simp at h⟩
theorem Bn.chAt {caps : List Int} {M : Hp} {chs bufs gs : List Int} (h : Bn caps M chs bufs gs) {c : Int} (hc : c ∈ chs) : ∃ (j : Nat) (b x : Int), chs[j]? = some c ∧ caps[j]? = some x ∧ bufs[j]? = some b ∧ BCh M c b (capW x) := by
  obtain ⟨j, hj⟩ := List.getElem?_of_mem hc
  have hl := (List.getElem?_eq_some_iff.1 hj).1
  obtain ⟨x, hx⟩ : ∃ x, caps[j]? = some x := ⟨_, List.getElem?_eq_getElem (by have := h.lec; omega)⟩
  obtain ⟨b, hb, hB⟩ := h.ch j c x hj hx
  exact ⟨j, b, x, hj, hx, hb, hB⟩
theorem Bn.bufAt {caps : List Int} {M : Hp} {chs bufs gs : List Int} (h : Bn caps M chs bufs gs) {b : Int} (hb : b ∈ bufs) : b = -1 ∨ ∃ F, M b = some (2, F) := by
  obtain ⟨j, hj⟩ := List.getElem?_of_mem hb
  have hl := (List.getElem?_eq_some_iff.1 hj).1
  obtain ⟨c, hc⟩ : ∃ c, chs[j]? = some c := ⟨_, List.getElem?_eq_getElem (by have := h.len; omega)⟩
  obtain ⟨x, hx⟩ : ∃ x, caps[j]? = some x := ⟨_, List.getElem?_eq_getElem (by have := h.lec; have := h.len; omega)⟩
  obtain ⟨b', hb', hB⟩ := h.ch j c x hc hx
  obtain rfl : b = b' := Option.some.inj (hj.symm.trans hb')
  rcases hB.b with q | q
  · exact .inl q.2
  · exact .inr ⟨_, q.2.2⟩
theorem Bn.weaken {caps : List Int} {M M' : Hp} {chs bufs gs : List Int} (h : Bn caps M chs bufs gs) (hM : ∀ a v, M a = some v → M' a = some v) : Bn caps M' chs bufs gs := by
  refine ⟨h.len, h.lec, fun j c x hc hx => ?_, h.nd, h.bnd, h.gnd, fun j g hg => hM _ _ (h.gr j g hg)⟩
  obtain ⟨b, hb, hB⟩ := h.ch j c x hc hx
  refine ⟨b, hb, hM _ _ hB.c, ?_⟩
  rcases hB.b with q | ⟨q1, q2, q3⟩
  · exact .inl q
  · exact .inr ⟨q1, q2, hM _ _ q3⟩
/-- One channel more, with no buffer. -/
theorem Bn.chan0 {caps : List Int} {M : Hp} {chs bufs : List Int} (h : Bn caps M chs bufs []) {c x : Int} (hx : caps[chs.length]? = some x) (h0 : capW x = 0) (hc : M c = none) (G : Int × List Int) : Bn caps (upd (upd M c G) c (1, [capW x, 0, 0, 0, -1, -1, -1, -1, -1])) (chs ++ [c]) (bufs ++ [-1]) [] := by
  have hlx := (List.getElem?_eq_some_iff.1 hx).1
  have hnc : c ∉ chs := fun q => by
    obtain ⟨_, _, _, _, _, _, hB⟩ := h.chAt q
    have := hB.c; rw [hc] at this; cases this
  have hw := h.weaken (M' := upd (upd M c G) c (1, [capW x, 0, 0, 0, -1, -1, -1, -1, -1])) fun a v ha => by
    have : a ≠ c := fun q => by rw [q, hc] at ha; cases ha
    rw [upd_ne this, upd_ne this]; exact ha
  refine ⟨by simp [h.len], by simp; omega, fun j c' x' hj hx' => ?_, ?_, fun i j b hi hj hb => ?_, List.nodup_nil, fun j g hg => by simp at hg⟩
  · rw [List.getElem?_append] at hj
    split at hj
    · obtain ⟨b, hb, hB⟩ := hw.ch j c' x' hj hx'
      exact ⟨b, by rw [List.getElem?_append_left (by rw [h.len]; assumption)]; exact hb, hB⟩
    · rename_i q
      have hj0 : j = chs.length := by have := (List.getElem?_eq_some_iff.1 hj).1; simp at this; omega
      subst hj0
      simp at hj
      subst hj
      obtain rfl : x = x' := Option.some.inj (hx.symm.trans hx')
      exact ⟨-1, by rw [← h.len]; simp, upd_same _ _ _, .inl ⟨h0, rfl⟩⟩
  · rw [List.nodup_append]
    exact ⟨h.nd, by simp, fun a ha b hb => by simp at hb; subst hb; exact fun e => hnc (e ▸ ha)⟩
  · rw [List.getElem?_append] at hi hj
    split at hi <;> split at hj
    · exact h.bnd i j b hi hj hb
    · have := (List.getElem?_eq_some_iff.1 hj).1; simp at this; simp [this] at hj; omega
    · have := (List.getElem?_eq_some_iff.1 hi).1; simp at this; simp [this] at hi; omega
    · have := (List.getElem?_eq_some_iff.1 hi).1; simp at this; simp [this] at hi; omega
/-- One channel more, with a buffer. -/
theorem Bn.chan1 {caps : List Int} {M : Hp} {chs bufs : List Int} (h : Bn caps M chs bufs []) {c b x : Int} (hx : caps[chs.length]? = some x) (h0 : 0 < capW x) (hc : M c = none) (G : Int × List Int) (hb : upd M c G b = none) : Bn caps (upd (upd (upd M c G) b (2, List.replicate (capW x).toNat 0)) c (1, [capW x, 0, 0, 0, b, -1, -1, -1, -1])) (chs ++ [c]) (bufs ++ [b]) [] := by
  have hlx := (List.getElem?_eq_some_iff.1 hx).1
  have hbc : b ≠ c := fun q => by rw [q, upd_same] at hb; cases hb
  rw [upd_ne hbc] at hb
  have hnc : c ∉ chs := fun q => by
    obtain ⟨_, _, _, _, _, _, hB⟩ := h.chAt q
    have := hB.c; rw [hc] at this; cases this
  have hnb : b ∈ bufs → b = -1 := fun q => by
    rcases h.bufAt q with q | ⟨F, q⟩
    · exact q
    · rw [hb] at q; cases q
  have hw := h.weaken (M' := upd (upd (upd M c G) b (2, List.replicate (capW x).toNat 0)) c (1, [capW x, 0, 0, 0, b, -1, -1, -1, -1])) fun a v ha => by
    have q1 : a ≠ c := fun q => by rw [q, hc] at ha; cases ha
    have q2 : a ≠ b := fun q => by rw [q, hb] at ha; cases ha
    rw [upd_ne q1, upd_ne q2, upd_ne q1]; exact ha
  refine ⟨by simp [h.len], by simp; omega, fun j c' x' hj hx' => ?_, ?_, fun i j b' hi hj hb' => ?_, List.nodup_nil, fun j g hg => by simp at hg⟩
  · rw [List.getElem?_append] at hj
    split at hj
    · obtain ⟨b, hb, hB⟩ := hw.ch j c' x' hj hx'
      exact ⟨b, by rw [List.getElem?_append_left (by rw [h.len]; assumption)]; exact hb, hB⟩
    · rename_i q
      have hj0 : j = chs.length := by have := (List.getElem?_eq_some_iff.1 hj).1; simp at this; omega
      subst hj0
      simp at hj
      subst hj
      obtain rfl : x = x' := Option.some.inj (hx.symm.trans hx')
      exact ⟨b, by rw [← h.len]; simp, upd_same _ _ _, .inr ⟨h0, (capW_bd x).2, by rw [upd_ne hbc, upd_same]⟩⟩
  · rw [List.nodup_append]
    exact ⟨h.nd, by simp, fun a ha b hb => by simp at hb; subst hb; exact fun e => hnc (e ▸ ha)⟩
  · rw [List.getElem?_append] at hi hj
    split at hi <;> split at hj
    · exact h.bnd i j b' hi hj hb'
    · have := (List.getElem?_eq_some_iff.1 hj).1; simp at this; simp [this] at hj; subst hj
      have := hnb (List.mem_of_getElem? hi); omega
    · have := (List.getElem?_eq_some_iff.1 hi).1; simp at this; simp [this] at hi; subst hi
      have := hnb (List.mem_of_getElem? hj); omega
    · have q1 := (List.getElem?_eq_some_iff.1 hi).1; have q2 := (List.getElem?_eq_some_iff.1 hj).1; simp at q1 q2; omega
/-- One goroutine more. -/
theorem Bn.gor {caps : List Int} {M : Hp} {chs bufs gs : List Int} (h : Bn caps M chs bufs gs) {g j : Int} (hj : j = gs.length) (hg : M g = none) (G : Int × List Int) : Bn caps (upd (upd M g G) g (4, [j, 0, 0, 0, 0, 0, 0, 0, 0, -1])) chs bufs (gs ++ [g]) := by
  have hng : g ∉ gs := fun q => by
    obtain ⟨j, hj⟩ := List.getElem?_of_mem q
    rw [h.gr j g hj] at hg; cases hg
  have hw := h.weaken (M' := upd (upd M g G) g (4, [j, 0, 0, 0, 0, 0, 0, 0, 0, -1])) fun a v ha => by
    have : a ≠ g := fun q => by rw [q, hg] at ha; cases ha
    rw [upd_ne this, upd_ne this]; exact ha
  refine ⟨h.len, h.lec, hw.ch, h.nd, h.bnd, ?_, fun k x hk => ?_⟩
  · rw [List.nodup_append]
    exact ⟨h.gnd, by simp, fun a ha b hb => by simp at hb; subst hb; exact fun e => hng (e ▸ ha)⟩
  · rw [List.getElem?_append] at hk
    split at hk
    · exact hw.gr k x hk
    · have := (List.getElem?_eq_some_iff.1 hk).1; simp at this
      have hk0 : k = gs.length := by omega
      subst hk0
      simp at hk
      subst hk
      rw [upd_same, hj]
end Go.Proofs.YtmcljlflcbdpiaaGreatDoor
/-
  The bench of layer 16: what is made.
-/
namespace Go.Proofs.YtmcljlflcbdpiaaGreatDoor

open Go Go.LX
set_option maxRecDepth 100000
set_option linter.unusedVariables false
set_option linter.unusedSimpArgs false

set_option maxHeartbeats 8000000 in
theorem alloc16_lx (R : List Rw) (ws vs C : List Int) (N W ph sp cy : Int) (L D Q : List PV) (z : ByteArray) (ov : Bool) (P B V Qr la : List PV) (m : Int) (M : Hp) (nc ng : Int) (cs gs : List PV) (o : Unit → Obj) (S : Bst R ws vs C N W ph L D Q z P B V Qr la m M) (kd n : Int) (hk : 0 ≤ n ∧ n ≤ 31 ∧ 1 ≤ kd ∧ kd ≤ 6) (hlen : lenK kd n.toNat) (hroom : objCount R < R.length) : CallF (fun _ => Tryz.prog) 65 [.ptr 16 (.lit 0), .p (.int .i64 (.sym kd)), .p (.int .i64 (.sym n))] [(0, .mix [.ptr 1 (.lit 0), .ptr 5 (.lit 0), .sl 6 3 1 (.lit 0) (.sym W), .p (.int .i64 (.sym ph)), .p (.int .i64 (.sym sp)), .p (.int .i64 (.sym cy))]), (1, .mix [.ptr 2 (.lit 0), .sl 4 3 1 (.lit 0) (.sym W)]), (2, .mix [.sl 3 201 2 (.lit 0) (.sym N)]), (3, .pure true L), (4, .pure true D), (5, .pure false [.str fun _ => z, .bool ov]), (6, .pure true Q), (7, .mix [.ptr 8 (.lit 0), .sl 13 3 1 (.lit 0) (.sym W), .ptr 14 (.lit 0), .p (.int .i64 (.sym ph)), .p (.int .i64 (.sym sp)), .p (.int .i64 (.sym cy))]), (8, .mix [.ptr 9 (.lit 0), .sl 12 3 1 (.lit 0) (.sym W)]), (9, .mix [.sl 10 3 1 (.lit 0) (.sym N), .sl 11 189 8 (.lit 0) (.sym N)]), (10, .pure true P), (11, .pure true B), (12, .pure true V), (13, .pure true Qr), (14, .mix [.p (.vsl (.sym m) true la), .p (.bool ov)]), (15, .fix 0 o), (16, .mix [.ptr 0 (.lit 0), .ptr 7 (.lit 0), .sl 17 3 1 (.lit 0) (.sym nc), .sl 18 3 1 (.lit 0) (.sym ng)]), (17, .pure true cs), (18, .pure true gs)] 19 (fun r h n' => ∃ (x : Int) (R' : List Rw) (ws' vs' : List Int) (L' D' P' B' V' : List PV), r = .p (.int .i64 (.sym x)) ∧ h = [(0, .mix [.ptr 1 (.lit 0), .ptr 5 (.lit 0), .sl 6 3 1 (.lit 0) (.sym W), .p (.int .i64 (.sym ph)), .p (.int .i64 (.sym sp)), .p (.int .i64 (.sym cy))]), (1, .mix [.ptr 2 (.lit 0), .sl 4 3 1 (.lit 0) (.sym W)]), (2, .mix [.sl 3 201 2 (.lit 0) (.sym N)]), (3, .pure true L'), (4, .pure true D'), (5, .pure false [.str fun _ => z, .bool ov]), (6, .pure true Q), (7, .mix [.ptr 8 (.lit 0), .sl 13 3 1 (.lit 0) (.sym W), .ptr 14 (.lit 0), .p (.int .i64 (.sym ph)), .p (.int .i64 (.sym sp)), .p (.int .i64 (.sym cy))]), (8, .mix [.ptr 9 (.lit 0), .sl 12 3 1 (.lit 0) (.sym W)]), (9, .mix [.sl 10 3 1 (.lit 0) (.sym N), .sl 11 189 8 (.lit 0) (.sym N)]), (10, .pure true P'), (11, .pure true B'), (12, .pure true V'), (13, .pure true Qr), (14, .mix [.p (.vsl (.sym m) true la), .p (.bool ov)]), (15, .fix 0 o), (16, .mix [.ptr 0 (.lit 0), .ptr 7 (.lit 0), .sl 17 3 1 (.lit 0) (.sym nc), .sl 18 3 1 (.lit 0) (.sym ng)]), (17, .pure true cs), (18, .pure true gs)] ∧ n' = 19 ∧ Bst R' ws' vs' C N W ph L' D' Q z P' B' V' Qr la m (upd M x (kd, zerK kd n.toNat)) ∧ objCount R' = objCount R + 1 ∧ M x = Option.none ∧ 0 ≤ x ∧ x < W ∧ R'.length = R.length) := by
  refine callF_of_body tok Tryz.func65 (by kernel_rfl) rfl rfl rfl ?_; conv => cbv
  refine callF_frame (alloc9_lx R ws C [] N W ph sp cy L D Q z ov S.h kd n) [(0, 0), (1, 1), (2, 2), (3, 3), (4, 4), (5, 5), (6, 6)] rfl (by simp [hmapOk, nget, hget, renB, okB, renV, renVs, rn, okVs, okV]) rfl rfl (fun r h' n' hrr => ?_)
  obtain ⟨x, e, R', ws', C', L', D', Q', e1, e2, e3, h1, hT, hC⟩ := hrr
  subst e1 e2 e3
  conv => cbv
  refine callF_frame (ralloc9_lx R vs C [] N W ph sp cy P B V Qr la m ov S.r kd n) [(0, 7), (1, 8), (2, 9), (3, 10), (4, 11), (5, 12), (6, 13), (7, 14)] rfl (by simp [hmapOk, nget, hget, renB, okB, renV, renVs, rn, okVs, okV]) rfl rfl (fun r h' n' hrr => ?_)
  obtain ⟨y, f, Y, vs', DC, P', B', V', Qr', e1, e2, e3, g1, hU, hD⟩ := hrr
  subst e1 e2 e3
  obtain ⟨q1, q2, q3, hS1, hl1⟩ := (S.c.toSim S.h.a S.r.a S.d).alloc hT hU
  subst q1 q2 q3
  obtain ⟨he, hM1, hc1, hx0, hx1, hx2, hx3⟩ := S.c.alloc S.h.a hroom hk hlen hT
  obtain ⟨q4, q5, q6, q7⟩ := Bst.colour S he h1 g1 hC hD
  subst q4 q5 q6 q7
  conv => cbv
  refine Br.no (show ¬ ¬ (x = x) from fun q => q rfl) ?_
  conv => cbv
  refine Br.no (show ¬ ¬ (e = 0) from fun q => q he) ?_
  conv => cbv
  refine Br.no (show ¬ ¬ (e = 0) from fun q => q he) ?_
  conv => cbv
  refine RetF.mk [.p (.int .i64 (.sym x))] [(0, .mix [.ptr 1 (.lit 0), .ptr 5 (.lit 0), .sl 6 3 1 (.lit 0) (.sym W), .p (.int .i64 (.sym ph)), .p (.int .i64 (.sym sp)), .p (.int .i64 (.sym cy))]), (1, .mix [.ptr 2 (.lit 0), .sl 4 3 1 (.lit 0) (.sym W)]), (2, .mix [.sl 3 201 2 (.lit 0) (.sym N)]), (3, .pure true L'), (4, .pure true D'), (5, .pure false [.str fun _ => z, .bool ov]), (6, .pure true Q), (7, .mix [.ptr 8 (.lit 0), .sl 13 3 1 (.lit 0) (.sym W), .ptr 14 (.lit 0), .p (.int .i64 (.sym ph)), .p (.int .i64 (.sym sp)), .p (.int .i64 (.sym cy))]), (8, .mix [.ptr 9 (.lit 0), .sl 12 3 1 (.lit 0) (.sym W)]), (9, .mix [.sl 10 3 1 (.lit 0) (.sym N), .sl 11 189 8 (.lit 0) (.sym N)]), (10, .pure true P'), (11, .pure true B'), (12, .pure true V'), (13, .pure true Qr), (14, .mix [.p (.vsl (.sym m) true la), .p (.bool ov)]), (15, .fix 0 o), (16, .mix [.ptr 0 (.lit 0), .ptr 7 (.lit 0), .sl 17 3 1 (.lit 0) (.sym nc), .sl 18 3 1 (.lit 0) (.sym ng)]), (17, .pure true cs), (18, .pure true gs)] 19 (Re.at [(0, 0), (1, 1), (2, 2), (3, 3), (4, 4), (5, 5), (6, 6), (7, 7), (8, 8), (9, 9), (10, 10), (11, 11), (12, 12), (13, 13), (14, 14), (15, 15), (16, 16), (17, 17), (18, 18)] []) rfl ⟨x, R', ws', vs', L', D', P', B', V', rfl, rfl, rfl, ⟨h1, g1, hM1, hM1.sim hS1, S.ph, S.w⟩, hc1, hx0, hx1, by rw [S.h.w, S.h.n]; exact hx2, hx3⟩
set_option maxHeartbeats 16000000 in
theorem made16_lx (o : Unit → Obj) (ho : IsPow o) (caps : List Int) (mc n : Int) (CL : List PV) (hCL : CL = ipv caps) (hmc : mc = caps.length) : CallF (fun _ => Tryz.prog) 29 [.p (.vsl (.sym mc) true CL), .p (.int .i64 (.sym n))] [(0, .fix 0 o)] 1 (fun r h n' => ∃ (N W : Int) (C : List Int) (R : List Rw) (ws vs : List Int) (L D Q : List PV) (z : ByteArray) (P B V Qr : List PV) (M : Hp) (CS GS : List PV) (chs bufs grs : List Int) (nc ng : Int), r = .ptr 16 (.lit 0) ∧ h = [(1, .mix [.ptr 2 (.lit 0), .ptr 6 (.lit 0), .sl 7 3 1 (.lit 0) (.sym W), .p (.int .i64 (.sym 0)), .p (.int .i64 (.sym 0)), .p (.int .i64 (.sym 0))]), (2, .mix [.ptr 3 (.lit 0), .sl 5 3 1 (.lit 0) (.sym W)]), (3, .mix [.sl 4 201 2 (.lit 0) (.sym N)]), (4, .pure true L), (5, .pure true D), (6, .pure false [.str fun _ => z, .bool false]), (7, .pure true Q), (8, .mix [.ptr 9 (.lit 0), .sl 14 3 1 (.lit 0) (.sym W), .ptr 15 (.lit 0), .p (.int .i64 (.sym 0)), .p (.int .i64 (.sym 0)), .p (.int .i64 (.sym 0))]), (9, .mix [.ptr 10 (.lit 0), .sl 13 3 1 (.lit 0) (.sym W)]), (10, .mix [.sl 11 3 1 (.lit 0) (.sym N), .sl 12 189 8 (.lit 0) (.sym N)]), (11, .pure true P), (12, .pure true B), (13, .pure true V), (14, .pure true Qr), (15, .mix [.p (.vsl (.sym 0) true []), .p (.bool false)]), (0, .fix 0 o), (16, .mix [.ptr 1 (.lit 0), .ptr 8 (.lit 0), .sl 17 3 1 (.lit 0) (.sym nc), .sl 18 3 1 (.lit 0) (.sym ng)]), (17, .pure true CS), (18, .pure true GS)] ∧ n' = 19 ∧ Bst R ws vs C N W 0 L D Q z P B V Qr [] 0 M ∧ Bn caps M chs bufs grs ∧ Sys M (fun _ _ => []) ∧ CS = ipv chs ∧ GS = ipv grs ∧ nc = (chs.length : Int) ∧ ng = (grs.length : Int) ∧ (nc = mc ∨ nc = 4) ∧ nc ≤ mc ∧ nc ≤ 4 ∧ ng = ngor n ∧ (objCount R : Int) ≤ 2 * nc + ng ∧ R.length = 60 ∧ W = 1920) := by
  refine callF_of_bodyB tok Tryz.func29 (by kernel_rfl) rfl rfl rfl [6] ?_; conv => cbv
  obtain ⟨N, hN⟩ : ∃ N : Int, N = 60 := ⟨_, rfl⟩
  obtain ⟨W, hW⟩ : ∃ W, W = 32 * N := ⟨_, rfl⟩
  obtain ⟨Rz, hRz⟩ : ∃ Rz, Rz = List.replicate N.toNat ((0, []) : Rw) := ⟨_, rfl⟩
  obtain ⟨wz, hwz⟩ : ∃ wz, wz = List.replicate W.toNat (0 : Int) := ⟨_, rfl⟩
  obtain ⟨L0, hL0⟩ : ∃ L0, L0 = rpv Rz := ⟨_, rfl⟩
  obtain ⟨D0, hD0⟩ : ∃ D0, D0 = ipv wz := ⟨_, rfl⟩
  obtain ⟨z0, hz0⟩ : ∃ z0 : ByteArray, z0 = ⟨(enc []).toArray⟩ := ⟨_, rfl⟩
  have h0 : HM Rz wz wz [] N W L0 D0 D0 z0 := by rw [hRz, hwz] at *; exact HM.new (by omega) (by omega) hW hL0 hD0 hD0 hz0
  refine CallF.le (args0 := [.p (.int .i64 (.sym N))]) (callF_frame (newH_lx N W (by omega) (by omega) hW L0 D0 D0 z0 (by rw [hL0, hRz]) (by rw [hD0, hwz]) (by rw [hD0, hwz]) hz0) [] rfl trivial rfl rfl (fun r h' n' ⟨e1, e2, e3⟩ => ?_)) (by simp [ales, ale, pvle, I.val, hN])
  subst e1 e2 e3
  conv => cbv
  refine CallF.le (args0 := [.p (.int .i64 (.sym N))]) (callF_frame (rnewH_lx N W (by omega) (by omega) hW) [] rfl trivial rfl rfl (fun r h' n' hrr => ?_)) (by simp [ales, ale, pvle, I.val, hN])
  obtain ⟨P0, B0, V0, Qr0, e1, e2, e3, g0⟩ := hrr
  subst e1 e2 e3
  rw [← hRz, ← hwz] at g0
  have hC0 : Cont Rz wz (fun _ => Option.none) := by rw [hRz, hwz]; exact Cont.new _ _
  have hlz : Rz.length = 60 := by rw [hRz, List.length_replicate]; omega
  have hcz : objCount Rz = 0 := by rw [hRz]; exact new_count _
  have hwz' : wz = List.replicate W.toNat 0 := hwz
  conv => cbv
  refine callF_frame (arena_lx Rz wz wz [] N W 0 0 0 L0 D0 D0 z0 false) [(0, 1), (1, 2), (2, 3), (3, 4), (4, 5), (5, 6), (6, 7)] rfl (by simp [hmapOk, nget, hget, renB, okB, renV, renVs, rn, okVs, okV]) rfl rfl (fun r h' n' ⟨e1, e2, e3⟩ => ?_)
  subst e1 e2 e3
  conv => cbv
  refine JoinF.mk (fun s => ∃ (i : Int) (R : List Rw) (ws vs : List Int) (L D P B V : List PV) (M : Hp) (CS : List PV) (chs bufs : List Int), s = ⟨.p (.vsl (.sym mc) true CL) :: .p (.int .i64 (.sym n)) :: (undefs 3 ++ .ptr 1 (.lit 0) :: .undef :: .ptr 8 (.lit 0) :: .undef :: .ptr 16 (.lit 0) :: .undef :: undefs 108), [(1, .mix [.ptr 2 (.lit 0), .ptr 6 (.lit 0), .sl 7 3 1 (.lit 0) (.sym W), .p (.int .i64 (.sym 0)), .p (.int .i64 (.sym 0)), .p (.int .i64 (.sym 0))]), (2, .mix [.ptr 3 (.lit 0), .sl 5 3 1 (.lit 0) (.sym W)]), (3, .mix [.sl 4 201 2 (.lit 0) (.sym N)]), (4, .pure true L), (5, .pure true D), (6, .pure false [.str fun _ => z0, .bool false]), (7, .pure true D0), (8, .mix [.ptr 9 (.lit 0), .sl 14 3 1 (.lit 0) (.sym W), .ptr 15 (.lit 0), .p (.int .i64 (.sym 0)), .p (.int .i64 (.sym 0)), .p (.int .i64 (.sym 0))]), (9, .mix [.ptr 10 (.lit 0), .sl 13 3 1 (.lit 0) (.sym W)]), (10, .mix [.sl 11 3 1 (.lit 0) (.sym N), .sl 12 189 8 (.lit 0) (.sym N)]), (11, .pure true P), (12, .pure true B), (13, .pure true V), (14, .pure true Qr0), (15, .mix [.p (.vsl (.sym 0) true []), .p (.bool false)]), (0, .fix 0 o), (16, .mix [.ptr 1 (.lit 0), .ptr 8 (.lit 0), .sl 17 3 1 (.lit 0) (.sym i), .sl 18 3 1 (.lit 0) (.sym 0)]), (17, .pure true CS), (18, .pure true [])], 19⟩ ∧ 0 ≤ i ∧ (i = mc ∨ i = 4) ∧ i ≤ mc ∧ i ≤ 4 ∧ Bst R ws vs wz N W 0 L D D0 z0 P B V Qr0 [] 0 M ∧ Bn caps M chs bufs [] ∧ Sys M (fun _ _ => []) ∧ CS = ipv chs ∧ i = chs.length ∧ objCount R ≤ 2 * i ∧ R.length = 60) ?_ ?_
  · refine LoopF.mk (fun kk s => ∃ (i : Int) (R : List Rw) (ws vs : List Int) (L D P B V : List PV) (M : Hp) (CS : List PV) (chs bufs : List Int), s = ⟨.p (.vsl (.sym mc) true CL) :: .p (.int .i64 (.sym n)) :: (undefs 3 ++ .ptr 1 (.lit 0) :: .undef :: .ptr 8 (.lit 0) :: .undef :: .ptr 16 (.lit 0) :: .p (.int .i64 (.sym i)) :: undefs 108), [(1, .mix [.ptr 2 (.lit 0), .ptr 6 (.lit 0), .sl 7 3 1 (.lit 0) (.sym W), .p (.int .i64 (.sym 0)), .p (.int .i64 (.sym 0)), .p (.int .i64 (.sym 0))]), (2, .mix [.ptr 3 (.lit 0), .sl 5 3 1 (.lit 0) (.sym W)]), (3, .mix [.sl 4 201 2 (.lit 0) (.sym N)]), (4, .pure true L), (5, .pure true D), (6, .pure false [.str fun _ => z0, .bool false]), (7, .pure true D0), (8, .mix [.ptr 9 (.lit 0), .sl 14 3 1 (.lit 0) (.sym W), .ptr 15 (.lit 0), .p (.int .i64 (.sym 0)), .p (.int .i64 (.sym 0)), .p (.int .i64 (.sym 0))]), (9, .mix [.ptr 10 (.lit 0), .sl 13 3 1 (.lit 0) (.sym W)]), (10, .mix [.sl 11 3 1 (.lit 0) (.sym N), .sl 12 189 8 (.lit 0) (.sym N)]), (11, .pure true P), (12, .pure true B), (13, .pure true V), (14, .pure true Qr0), (15, .mix [.p (.vsl (.sym 0) true []), .p (.bool false)]), (0, .fix 0 o), (16, .mix [.ptr 1 (.lit 0), .ptr 8 (.lit 0), .sl 17 3 1 (.lit 0) (.sym i), .sl 18 3 1 (.lit 0) (.sym 0)]), (17, .pure true CS), (18, .pure true [])], 19⟩ ∧ 0 ≤ i ∧ i ≤ mc ∧ i ≤ 4 ∧ kk = (4 - i).toNat ∧ Bst R ws vs wz N W 0 L D D0 z0 P B V Qr0 [] 0 M ∧ Bn caps M chs bufs [] ∧ Sys M (fun _ _ => []) ∧ CS = ipv chs ∧ i = chs.length ∧ objCount R ≤ 2 * i ∧ R.length = 60) 4 _
      (Re.at [(0, 0), (1, 1), (2, 2), (3, 3), (4, 4), (5, 5), (6, 6), (7, 7), (8, 8), (9, 9), (10, 10), (11, 11), (12, 12), (13, 13), (14, 14), (15, 15), (16, 16)] [17, 18]) ⟨0, Rz, wz, wz, L0, D0, P0, B0, V0, (fun _ => Option.none), [], [], [], rfl, by omega, by omega, by omega, by omega, ⟨h0, g0, hC0, hC0, rfl, hwz'⟩, Bn.new _ _, Sys.new (fun a F e => by cases e) (fun a F e => by cases e), rfl, rfl, by omega, hlz⟩ ?_
    rintro kk s ⟨i, R, ws, vs, L, D, P, B, V, M, CS, chs, bufs, rfl, hi0, hi1, hi2, hkk, S, hB, hY, hcs, hil, hcnt, hR⟩
    have hil : i = (chs.length : Int) := hil
    have hcnt : (objCount R : Int) ≤ 2 * i := hcnt
    conv => cbv
    refine Br.mk (fun gi => ?_) (fun gi => ?_)
    · have gi : i < mc := gi
      conv => cbv
      refine Br.mk (fun g4 => ?_) (fun g4 => ?_)
      · have g4 : i < 4 := g4
        obtain ⟨cx, hcx⟩ : ∃ a, caps[i.toNat]? = some a := ⟨_, List.getElem?_eq_getElem (by omega)⟩
        have hcell : CL[i.toNat]? = some (.int .i64 (.sym cx)) := by rw [hCL]; exact ipv_get hcx
        conv => cbv
        refine Need.mk (show 0 ≤ i ∧ i < mc from ⟨hi0, gi⟩) ?_
        conv => cbv
        refine Cell.at i _ hcell (by simp [I.val]) rfl ?_
        conv => cbv
        refine Fit.wrap fun xn hxn => ?_
        have hxn : xn = IntKind.u64.wrap cx := hxn
        have hyn : 0 ≤ xn := by rw [hxn]; simp [IntKind.wrap, IntKind.bits, IntKind.signed]; omega
        conv => cbv
        refine Sum.mk fun tn htn => ?_
        have htn : tn = xn % 4 := (show tn = xn.tmod 4 from htn).trans (Int.tmod_eq_emod_of_nonneg hyn)
        conv => cbv
        refine Fit.mk (by show (-9223372036854775808 : Int) ≤ tn; omega) (by show tn ≤ 9223372036854775807; omega) fun cp hcp => ?_
        have hcp : cp = capW cx := by unfold capW; rw [← hxn, ← htn]; exact hcp
        have hcb := capW_bd cx
        clear htn hyn
        conv => cbv
        refine CallF.le (args0 := [.ptr 16 (.lit 0), .p (.int .i64 (.sym 1)), .p (.int .i64 (.sym 9))]) (callF_frame (alloc16_lx R ws vs wz N W 0 0 0 L D D0 z0 false P B V Qr0 [] 0 M i 0 CS [] o S 1 9 (by decide) ⟨fun _ => rfl, fun q => absurd q (by decide), fun q => absurd q (by decide)⟩ (by rw [hR]; omega)) [(0, 1), (1, 2), (2, 3), (3, 4), (4, 5), (5, 6), (6, 7), (7, 8), (8, 9), (9, 10), (10, 11), (11, 12), (12, 13), (13, 14), (14, 15), (15, 0), (16, 16), (17, 17), (18, 18)] rfl (by simp [hmapOk, nget, hget, renB, okB, renV, renVs, rn, okVs, okV]) rfl rfl (fun r h' n' hrr => ?_)) (by simp [ales, ale, pvle, I.val])
        obtain ⟨at_, R1, ws1, vs1, L1, D1, P1, B1, V1, e1, e2, e3, S1, hk1, hx1, hp1, hq1, hl1⟩ := hrr
        subst e1 e2 e3
        have hR1 : R1.length = 60 := hl1.trans hR
        conv => cbv
        refine Br.mk (fun g0 => ?_) (fun g0 => ?_)
        · have g0 : 0 < cp := g0
          conv => cbv
          refine CallF.le (args0 := [.ptr 16 (.lit 0), .p (.int .i64 (.sym 2)), .p (.int .i64 (.sym cp))]) (callF_frame (alloc16_lx R1 ws1 vs1 wz N W 0 0 0 L1 D1 D0 z0 false P1 B1 V1 Qr0 [] 0 _ i 0 CS [] o S1 2 cp (by omega) ⟨fun q => absurd q (by decide), fun q => absurd q (by decide), fun q => absurd q (by decide)⟩ (by rw [hR1]; omega)) [(0, 1), (1, 2), (2, 3), (3, 4), (4, 5), (5, 6), (6, 7), (7, 8), (8, 9), (9, 10), (10, 11), (11, 12), (12, 13), (13, 14), (14, 15), (15, 0), (16, 16), (17, 17), (18, 18)] rfl (by simp [hmapOk, nget, hget, renB, okB, renV, renVs, rn, okVs, okV]) rfl rfl (fun r h' n' hrr => ?_)) (by simp [ales, ale, pvle, I.val])
          obtain ⟨bf, R2, ws2, vs2, L2, D2, P2, B2, V2, e1, e2, e3, S2, hk2, hx2, hp2, hq2, hl2⟩ := hrr
          subst e1 e2 e3
          have hR2 : R2.length = 60 := hl2.trans hR1
          conv => cbv
          have hab : at_ ≠ bf := fun q => by
            rw [← q, upd_same] at hx2
            cases hx2
          have hbfW : bf ≤ 5000 := by omega
          have hbb : ∀ x ∈ [cp, 0, 0, 0, bf, -1, -1, -1, -1], b62 x := by
            simp only [List.forall_mem_cons]
            unfold b62
            exact ⟨by omega, by omega, by omega, by omega, by omega, by omega, by omega, by omega, by omega, fun x hx => by cases hx⟩
          have hpp : ∀ x ∈ [bf, -1, -1, -1, -1], -1 ≤ x := by
            simp only [List.forall_mem_cons]
            exact ⟨by omega, by omega, by omega, by omega, by omega, fun x hx => by cases hx⟩
          refine drawn_sound tok (by kernel_rfl) [(3, [6, 5, 4]), (7, [])] [0, 1, 2, 4, 5, 6, 3, 7, 8] (by kernel_rfl) ?_; conv => cbv
          refine CallF.le (args0 := [.ptr 1 (.lit 0), .p (.int .i64 (.sym at_)), .agg [.p (.int .i64 (.sym cp)), .p (.int .i64 (.sym 0)), .p (.int .i64 (.sym 0)), .p (.int .i64 (.sym 0)), .p (.int .i64 (.sym bf)), .p (.int .i64 (.sym (-1))), .p (.int .i64 (.sym (-1))), .p (.int .i64 (.sym (-1))), .p (.int .i64 (.sym (-1)))]]) (callF_frame (putChanM_lx R2 ws2 wz [] N W 0 0 0 L2 D2 D0 z0 false S2.h _ S2.c o ho rfl at_ cp 0 0 0 bf (-1) (-1) (-1) (-1) (zerK 1 9) ((upd_ne hab).trans (upd_same _ _ _)) rfl hbb hpp) [(0, 1), (1, 2), (2, 3), (3, 4), (4, 5), (5, 6), (6, 7), (7, 0)] rfl (by simp [hmapOk, nget, hget, renB, okB, renV, renVs, rn, okVs, okV]) rfl rfl (fun r h' n' hrr => ?_)) (by simp [ales, ale, pvle, I.val])
          obtain ⟨e8, ws8, D8, e1, he8, e2, e3, h8, c8⟩ := hrr
          subst e1 e2 e3
          conv => cbv
          refine CallF.le (args0 := [.ptr 8 (.lit 0), .p (.int .i64 (.sym at_)), .agg [.p (.int .i64 (.sym cp)), .p (.int .i64 (.sym 0)), .p (.int .i64 (.sym 0)), .p (.int .i64 (.sym 0)), .p (.int .i64 (.sym bf)), .p (.int .i64 (.sym (-1))), .p (.int .i64 (.sym (-1))), .p (.int .i64 (.sym (-1))), .p (.int .i64 (.sym (-1)))]]) (callF_frame (rPutChanM_lx R2 vs2 wz [] N W 0 0 0 P2 B2 V2 Qr0 [] 0 false S2.r _ S2.d rfl at_ cp 0 0 0 bf (-1) (-1) (-1) (-1) (zerK 1 9) ((upd_ne hab).trans (upd_same _ _ _)) rfl hbb hpp) [(0, 8), (1, 9), (2, 10), (3, 11), (4, 12), (5, 13), (6, 14), (7, 15)] rfl (by simp [hmapOk, nget, hget, renB, okB, renV, renVs, rn, okVs, okV]) rfl rfl (fun r h' n' hrr => ?_)) (by simp [ales, ale, pvle, I.val])
          obtain ⟨e9, vs9, V9, e1, he9, e2, e3, h9, c9⟩ := hrr
          subst e1 e2 e3
          conv => cbv
          refine Br.no (show ¬ ¬ (e8 = e9) from fun q => q (he8.trans he9.symm)) ?_
          conv => cbv
          have hcl : CS.length = chs.length := by rw [hcs, ipv_length]
          refine Room.new rfl ?_
          conv => cbv
          refine Room.new ⟨?_, ?_, ?_⟩ ?_
          · show (CS.length : Int) = i * 1; omega
          · show (i + 1) * 8 ≤ 140737488355328; omega
          · show i + 1 ≤ 9223372036854775807; omega
          conv => cbv
          refine Upd.mk fun cells2 hcs2 => ?_
          have hcs2 : cells2 = CS ++ [.int .i64 (.sym at_)] := hcs2
          have hcs3 : cells2 = ipv (chs ++ [at_]) := by rw [hcs2, hcs, ← ipv_app]; rfl
          conv => cbv
          refine Sum.mk fun j2 hj2 => ?_
          have hj2 : j2 = i + 1 := hj2
          conv => cbv
          refine Fit.mk (by show (-9223372036854775808 : Int) ≤ i + 1; omega) (by show i + 1 ≤ 9223372036854775807; omega) fun i2 hiq => ?_
          have hiq : i2 = i + 1 := hiq
          obtain rfl : j2 = i2 := hj2.trans hiq.symm
          conv => cbv
          refine Again.mk (4 - j2).toNat _ (by omega) (Re.at [(0, 0), (1, 1), (2, 2), (3, 3), (4, 4), (5, 5), (6, 6), (7, 7), (8, 8), (9, 9), (10, 10), (11, 11), (12, 12), (13, 13), (14, 14), (15, 15), (16, 16), (18, 18), (21, 17)] []) ⟨j2, R2, ws8, vs9, L2, D8, P2, B2, V9, _, cells2, chs ++ [at_], bufs ++ [_], rfl, by omega, by omega, by omega, rfl, ⟨h8, h9, c8, c9, rfl, hwz'⟩, by have := hB.chan1 (x := cx) (c := at_) (b := bf) (by rw [show chs.length = i.toNat by omega]; exact hcx) (by rw [← hcp]; exact g0) hx1 _ hx2; rw [← hcp] at this; exact this, ((hY.fresh hx1).fresh hx2).updv rfl (fun F _ => rfl) (fun c d h => (by cases h)) ⟨fun _ => rfl, fun q => absurd (show (1 : Int) = 3 from q) (by decide)⟩, hcs3, by rw [List.length_append]; show j2 = ((chs.length + 1 : Nat) : Int); omega, (show (objCount R2 : Int) ≤ 2 * j2 by omega), hR2⟩
        · have g0 : ¬ 0 < cp := g0
          conv => cbv
          have hbb : ∀ x ∈ [cp, 0, 0, 0, (-1), -1, -1, -1, -1], b62 x := by
            simp only [List.forall_mem_cons]
            unfold b62
            exact ⟨by omega, by omega, by omega, by omega, by omega, by omega, by omega, by omega, by omega, fun x hx => by cases hx⟩
          have hpp : ∀ x ∈ [(-1), -1, -1, -1, -1], -1 ≤ x := by
            simp only [List.forall_mem_cons]
            exact ⟨by omega, by omega, by omega, by omega, by omega, fun x hx => by cases hx⟩
          refine drawn_sound tok (by kernel_rfl) [(3, [6, 5, 4]), (7, [])] [0, 1, 2, 4, 5, 6, 3, 7, 8] (by kernel_rfl) ?_; conv => cbv
          refine CallF.le (args0 := [.ptr 1 (.lit 0), .p (.int .i64 (.sym at_)), .agg [.p (.int .i64 (.sym cp)), .p (.int .i64 (.sym 0)), .p (.int .i64 (.sym 0)), .p (.int .i64 (.sym 0)), .p (.int .i64 (.sym (-1))), .p (.int .i64 (.sym (-1))), .p (.int .i64 (.sym (-1))), .p (.int .i64 (.sym (-1))), .p (.int .i64 (.sym (-1)))]]) (callF_frame (putChanM_lx R1 ws1 wz [] N W 0 0 0 L1 D1 D0 z0 false S1.h _ S1.c o ho rfl at_ cp 0 0 0 (-1) (-1) (-1) (-1) (-1) (zerK 1 9) (upd_same _ _ _) rfl hbb hpp) [(0, 1), (1, 2), (2, 3), (3, 4), (4, 5), (5, 6), (6, 7), (7, 0)] rfl (by simp [hmapOk, nget, hget, renB, okB, renV, renVs, rn, okVs, okV]) rfl rfl (fun r h' n' hrr => ?_)) (by simp [ales, ale, pvle, I.val])
          obtain ⟨e8, ws8, D8, e1, he8, e2, e3, h8, c8⟩ := hrr
          subst e1 e2 e3
          conv => cbv
          refine CallF.le (args0 := [.ptr 8 (.lit 0), .p (.int .i64 (.sym at_)), .agg [.p (.int .i64 (.sym cp)), .p (.int .i64 (.sym 0)), .p (.int .i64 (.sym 0)), .p (.int .i64 (.sym 0)), .p (.int .i64 (.sym (-1))), .p (.int .i64 (.sym (-1))), .p (.int .i64 (.sym (-1))), .p (.int .i64 (.sym (-1))), .p (.int .i64 (.sym (-1)))]]) (callF_frame (rPutChanM_lx R1 vs1 wz [] N W 0 0 0 P1 B1 V1 Qr0 [] 0 false S1.r _ S1.d rfl at_ cp 0 0 0 (-1) (-1) (-1) (-1) (-1) (zerK 1 9) (upd_same _ _ _) rfl hbb hpp) [(0, 8), (1, 9), (2, 10), (3, 11), (4, 12), (5, 13), (6, 14), (7, 15)] rfl (by simp [hmapOk, nget, hget, renB, okB, renV, renVs, rn, okVs, okV]) rfl rfl (fun r h' n' hrr => ?_)) (by simp [ales, ale, pvle, I.val])
          obtain ⟨e9, vs9, V9, e1, he9, e2, e3, h9, c9⟩ := hrr
          subst e1 e2 e3
          conv => cbv
          refine Br.no (show ¬ ¬ (e8 = e9) from fun q => q (he8.trans he9.symm)) ?_
          conv => cbv
          have hcl : CS.length = chs.length := by rw [hcs, ipv_length]
          refine Room.new rfl ?_
          conv => cbv
          refine Room.new ⟨?_, ?_, ?_⟩ ?_
          · show (CS.length : Int) = i * 1; omega
          · show (i + 1) * 8 ≤ 140737488355328; omega
          · show i + 1 ≤ 9223372036854775807; omega
          conv => cbv
          refine Upd.mk fun cells2 hcs2 => ?_
          have hcs2 : cells2 = CS ++ [.int .i64 (.sym at_)] := hcs2
          have hcs3 : cells2 = ipv (chs ++ [at_]) := by rw [hcs2, hcs, ← ipv_app]; rfl
          conv => cbv
          refine Sum.mk fun j2 hj2 => ?_
          have hj2 : j2 = i + 1 := hj2
          conv => cbv
          refine Fit.mk (by show (-9223372036854775808 : Int) ≤ i + 1; omega) (by show i + 1 ≤ 9223372036854775807; omega) fun i2 hiq => ?_
          have hiq : i2 = i + 1 := hiq
          obtain rfl : j2 = i2 := hj2.trans hiq.symm
          conv => cbv
          refine Again.mk (4 - j2).toNat _ (by omega) (Re.at [(0, 0), (1, 1), (2, 2), (3, 3), (4, 4), (5, 5), (6, 6), (7, 7), (8, 8), (9, 9), (10, 10), (11, 11), (12, 12), (13, 13), (14, 14), (15, 15), (16, 16), (18, 18), (21, 17)] []) ⟨j2, R1, ws8, vs9, L1, D8, P1, B1, V9, _, cells2, chs ++ [at_], bufs ++ [_], rfl, by omega, by omega, by omega, rfl, ⟨h8, h9, c8, c9, rfl, hwz'⟩, by have := hB.chan0 (x := cx) (c := at_) (by rw [show chs.length = i.toNat by omega]; exact hcx) (by rw [← hcp]; omega) hx1 (1, zerK 1 (9 : Int).toNat); rw [← hcp] at this; exact this, (hY.fresh hx1).updv rfl (fun F _ => rfl) (fun c d h => (by cases h)) ⟨fun _ => rfl, fun q => absurd (show (1 : Int) = 3 from q) (by decide)⟩, hcs3, by rw [List.length_append]; show j2 = ((chs.length + 1 : Nat) : Int); omega, (show (objCount R1 : Int) ≤ 2 * j2 by omega), hR1⟩
      · have g4 : ¬ i < 4 := g4
        conv => cbv
        refine Joined.mk _ (Re.at [(0, 0), (1, 1), (2, 2), (3, 3), (4, 4), (5, 5), (6, 6), (7, 7), (8, 8), (9, 9), (10, 10), (11, 11), (12, 12), (13, 13), (14, 14), (15, 15), (16, 16), (17, 17), (18, 18)] []) ⟨i, R, ws, vs, L, D, P, B, V, M, CS, chs, bufs, rfl, hi0, by omega, hi1, hi2, S, hB, hY, hcs, hil, hcnt, hR⟩
    · have gi : ¬ i < mc := gi
      conv => cbv
      refine Joined.mk _ (Re.at [(0, 0), (1, 1), (2, 2), (3, 3), (4, 4), (5, 5), (6, 6), (7, 7), (8, 8), (9, 9), (10, 10), (11, 11), (12, 12), (13, 13), (14, 14), (15, 15), (16, 16), (17, 17), (18, 18)] []) ⟨i, R, ws, vs, L, D, P, B, V, M, CS, chs, bufs, rfl, hi0, by omega, hi1, hi2, S, hB, hY, hcs, hil, hcnt, hR⟩
  · rintro s ⟨i, R, ws, vs, L, D, P, B, V, M, CS, chs, bufs, rfl, hi0, him, hi1, hi2, S, hB, hY, hcs, hil, hcnt, hR⟩
    have hil : i = (chs.length : Int) := hil
    have hcnt : (objCount R : Int) ≤ 2 * i := hcnt
    conv => cbv
    obtain ⟨ng, hng⟩ : ∃ ng, ng = ngor n := ⟨_, rfl⟩
    have hngb := ngor_bd n
    rw [← hng] at hngb
    refine LoopF.mk (fun kk s => ∃ (j : Int) (R : List Rw) (ws vs : List Int) (L D P B V : List PV) (M : Hp) (GS : List PV) (grs : List Int), s = ⟨.p (.vsl (.sym mc) true CL) :: .p (.int .i64 (.sym n)) :: (undefs 3 ++ .ptr 1 (.lit 0) :: .undef :: .ptr 8 (.lit 0) :: .undef :: .ptr 16 (.lit 0) :: (undefs 3 ++ .p (.int .i64 (.sym j)) :: undefs 105)), [(1, .mix [.ptr 2 (.lit 0), .ptr 6 (.lit 0), .sl 7 3 1 (.lit 0) (.sym W), .p (.int .i64 (.sym 0)), .p (.int .i64 (.sym 0)), .p (.int .i64 (.sym 0))]), (2, .mix [.ptr 3 (.lit 0), .sl 5 3 1 (.lit 0) (.sym W)]), (3, .mix [.sl 4 201 2 (.lit 0) (.sym N)]), (4, .pure true L), (5, .pure true D), (6, .pure false [.str fun _ => z0, .bool false]), (7, .pure true D0), (8, .mix [.ptr 9 (.lit 0), .sl 14 3 1 (.lit 0) (.sym W), .ptr 15 (.lit 0), .p (.int .i64 (.sym 0)), .p (.int .i64 (.sym 0)), .p (.int .i64 (.sym 0))]), (9, .mix [.ptr 10 (.lit 0), .sl 13 3 1 (.lit 0) (.sym W)]), (10, .mix [.sl 11 3 1 (.lit 0) (.sym N), .sl 12 189 8 (.lit 0) (.sym N)]), (11, .pure true P), (12, .pure true B), (13, .pure true V), (14, .pure true Qr0), (15, .mix [.p (.vsl (.sym 0) true []), .p (.bool false)]), (0, .fix 0 o), (16, .mix [.ptr 1 (.lit 0), .ptr 8 (.lit 0), .sl 17 3 1 (.lit 0) (.sym i), .sl 18 3 1 (.lit 0) (.sym j)]), (17, .pure true CS), (18, .pure true GS)], 19⟩ ∧ 0 ≤ j ∧ j ≤ ng ∧ kk = (ng - j).toNat ∧ Bst R ws vs wz N W 0 L D D0 z0 P B V Qr0 [] 0 M ∧ Bn caps M chs bufs grs ∧ Sys M (fun _ _ => []) ∧ GS = ipv grs ∧ j = grs.length ∧ objCount R ≤ 2 * i + j ∧ R.length = 60) ng.toNat _
      (Re.at [(0, 0), (1, 1), (2, 2), (3, 3), (4, 4), (5, 5), (6, 6), (7, 7), (8, 8), (9, 9), (10, 10), (11, 11), (12, 12), (13, 13), (14, 14), (15, 15), (16, 16), (17, 17), (18, 18)] []) ⟨0, R, ws, vs, L, D, P, B, V, M, [], [], rfl, by omega, by omega, by omega, S, hB, hY, rfl, rfl, (show (objCount R : Int) ≤ 2 * i + 0 by omega), hR⟩ ?_
    clear S hB hY hcnt hR
    rintro kk s ⟨j, R, ws, vs, L, D, P, B, V, M, GS, grs, rfl, hj0, hj1, hkk, S, hB, hY, hgs, hjl, hcnt, hR⟩
    have hjl : j = (grs.length : Int) := hjl
    have hcnt : (objCount R : Int) ≤ 2 * i + j := hcnt
    conv => cbv
    refine Fit.wrap fun xn hxn => ?_
    have hxn : xn = IntKind.u64.wrap n := hxn
    have hyn : 0 ≤ xn := by rw [hxn]; simp [IntKind.wrap, IntKind.bits, IntKind.signed]; omega
    conv => cbv
    refine Sum.mk fun tn htn => ?_
    have htn : tn = xn % 6 := (show tn = xn.tmod 6 from htn).trans (Int.tmod_eq_emod_of_nonneg hyn)
    conv => cbv
    refine Fit.mk (by show (-9223372036854775808 : Int) ≤ tn; omega) (by show tn ≤ 9223372036854775807; omega) fun un hun => ?_
    have hun : un = tn := hun
    conv => cbv
    refine Fit.mk (by show (-9223372036854775808 : Int) ≤ 1 + un; omega) (by show 1 + un ≤ 9223372036854775807; omega) fun ng2 hng2 => ?_
    have hng2 : ng2 = 1 + un := hng2
    obtain rfl : ng = ng2 := by rw [hng, hng2, hun, htn, hxn]; rfl
    clear hng2 hun htn hyn hxn
    conv => cbv
    refine Br.mk (fun gj => ?_) (fun gj => ?_)
    · have gj : j < ng := gj
      conv => cbv
      refine CallF.le (args0 := [.ptr 16 (.lit 0), .p (.int .i64 (.sym 4)), .p (.int .i64 (.sym 10))]) (callF_frame (alloc16_lx R ws vs wz N W 0 0 0 L D D0 z0 false P B V Qr0 [] 0 M i j CS GS o S 4 10 (by decide) ⟨fun q => absurd q (by decide), fun q => absurd q (by decide), fun _ => rfl⟩ (by rw [hR]; omega)) [(0, 1), (1, 2), (2, 3), (3, 4), (4, 5), (5, 6), (6, 7), (7, 8), (8, 9), (9, 10), (10, 11), (11, 12), (12, 13), (13, 14), (14, 15), (15, 0), (16, 16), (17, 17), (18, 18)] rfl (by simp [hmapOk, nget, hget, renB, okB, renV, renVs, rn, okVs, okV]) rfl rfl (fun r h' n' hrr => ?_)) (by simp [ales, ale, pvle, I.val])
      obtain ⟨at_, R1, ws1, vs1, L1, D1, P1, B1, V1, e1, e2, e3, S1, hk1, hx1, hp1, hq1, hl1⟩ := hrr
      subst e1 e2 e3
      have hR1 : R1.length = 60 := hl1.trans hR
      conv => cbv
      have hbb : ∀ x ∈ [j, 0, 0, -1], b62 x := by
        simp only [List.forall_mem_cons]
        unfold b62
        exact ⟨by omega, by omega, by omega, by omega, fun x hx => by cases hx⟩
      have hw0 : ∀ x ∈ [0, 0, 0, 0, 0, (0 : Int)], -9223372036854775808 ≤ x ∧ x ≤ 9223372036854775807 := by decide
      have hpp : ∀ x ∈ [(-1 : Int)], -1 ≤ x := by decide
      refine drawn_sound tok (by kernel_rfl) [(3, [6, 5, 4]), (7, [])] [0, 1, 2, 4, 5, 6, 3, 7, 8] (by kernel_rfl) ?_; conv => cbv
      refine CallF.le (args0 := [.ptr 1 (.lit 0), .p (.int .i64 (.sym at_)), .agg [.p (.int .i64 (.sym j)), .p (.int .i64 (.sym 0)), .p (.int .i64 (.sym 0)), .p (.int .i64 (.sym 0)), .p (.int .i64 (.sym 0)), .p (.int .i64 (.sym 0)), .p (.int .i64 (.sym 0)), .p (.int .i64 (.sym 0)), .p (.int .i64 (.sym 0)), .p (.int .i64 (.sym (-1)))]]) (callF_frame (putGorM_lx R1 ws1 wz [] N W 0 0 0 L1 D1 D0 z0 false S1.h _ S1.c o ho rfl at_ j 0 0 0 0 0 0 0 0 (-1) (zerK 4 10) (upd_same _ _ _) rfl hbb hw0 hpp) [(0, 1), (1, 2), (2, 3), (3, 4), (4, 5), (5, 6), (6, 7), (7, 0)] rfl (by simp [hmapOk, nget, hget, renB, okB, renV, renVs, rn, okVs, okV]) rfl rfl (fun r h' n' hrr => ?_)) (by simp [ales, ale, pvle, I.val])
      obtain ⟨e8, ws8, D8, e1, he8, e2, e3, h8, c8⟩ := hrr
      subst e1 e2 e3
      conv => cbv
      refine CallF.le (args0 := [.ptr 8 (.lit 0), .p (.int .i64 (.sym at_)), .agg [.p (.int .i64 (.sym j)), .p (.int .i64 (.sym 0)), .p (.int .i64 (.sym 0)), .p (.int .i64 (.sym 0)), .p (.int .i64 (.sym 0)), .p (.int .i64 (.sym 0)), .p (.int .i64 (.sym 0)), .p (.int .i64 (.sym 0)), .p (.int .i64 (.sym 0)), .p (.int .i64 (.sym (-1)))]]) (callF_frame (rPutGorM_lx R1 vs1 wz [] N W 0 0 0 P1 B1 V1 Qr0 [] 0 false S1.r _ S1.d rfl at_ j 0 0 0 0 0 0 0 0 (-1) (zerK 4 10) (upd_same _ _ _) rfl hbb hw0 hpp) [(0, 8), (1, 9), (2, 10), (3, 11), (4, 12), (5, 13), (6, 14), (7, 15)] rfl (by simp [hmapOk, nget, hget, renB, okB, renV, renVs, rn, okVs, okV]) rfl rfl (fun r h' n' hrr => ?_)) (by simp [ales, ale, pvle, I.val])
      obtain ⟨e9, vs9, V9, e1, he9, e2, e3, h9, c9⟩ := hrr
      subst e1 e2 e3
      conv => cbv
      refine Br.no (show ¬ ¬ (e8 = e9) from fun q => q (he8.trans he9.symm)) ?_
      conv => cbv
      have hcl : GS.length = grs.length := by rw [hgs, ipv_length]
      refine Room.new rfl ?_
      conv => cbv
      refine Room.new ⟨?_, ?_, ?_⟩ ?_
      · show (GS.length : Int) = j * 1; omega
      · show (j + 1) * 8 ≤ 140737488355328; omega
      · show j + 1 ≤ 9223372036854775807; omega
      conv => cbv
      refine Upd.mk fun cells2 hcs2 => ?_
      have hcs2 : cells2 = GS ++ [.int .i64 (.sym at_)] := hcs2
      have hcs3 : cells2 = ipv (grs ++ [at_]) := by rw [hcs2, hgs, ← ipv_app]; rfl
      conv => cbv
      refine Sum.mk fun j2 hj2 => ?_
      have hj2 : j2 = j + 1 := hj2
      conv => cbv
      refine Fit.mk (by show (-9223372036854775808 : Int) ≤ j + 1; omega) (by show j + 1 ≤ 9223372036854775807; omega) fun i2 hiq => ?_
      have hiq : i2 = j + 1 := hiq
      obtain rfl : j2 = i2 := hj2.trans hiq.symm
      conv => cbv
      refine Again.mk (ng - j2).toNat _ (by omega) (Re.at [(0, 0), (1, 1), (2, 2), (3, 3), (4, 4), (5, 5), (6, 6), (7, 7), (8, 8), (9, 9), (10, 10), (11, 11), (12, 12), (13, 13), (14, 14), (15, 15), (16, 16), (17, 17), (21, 18)] []) ⟨j2, R1, ws8, vs9, L1, D8, P1, B1, V9, _, cells2, grs ++ [at_], rfl, by omega, by omega, rfl, ⟨h8, h9, c8, c9, rfl, hwz'⟩, hB.gor hjl hx1 _, (hY.fresh hx1).updv rfl (fun F e => absurd (Option.some.inj ((upd_same _ _ _).symm.trans e)) (fun q => by cases q)) (fun c d h => (by cases h)) ⟨fun q => absurd (show (4 : Int) = 1 from q) (by decide), fun q => absurd (show (4 : Int) = 3 from q) (by decide)⟩, hcs3, by rw [List.length_append]; show j2 = ((grs.length + 1 : Nat) : Int); omega, (show (objCount R1 : Int) ≤ 2 * i + j2 by omega), hR1⟩
    · have gj : ¬ j < ng := gj
      conv => cbv
      refine RetF.mk [.ptr 16 (.lit 0)] [(1, .mix [.ptr 2 (.lit 0), .ptr 6 (.lit 0), .sl 7 3 1 (.lit 0) (.sym W), .p (.int .i64 (.sym 0)), .p (.int .i64 (.sym 0)), .p (.int .i64 (.sym 0))]), (2, .mix [.ptr 3 (.lit 0), .sl 5 3 1 (.lit 0) (.sym W)]), (3, .mix [.sl 4 201 2 (.lit 0) (.sym N)]), (4, .pure true L), (5, .pure true D), (6, .pure false [.str fun _ => z0, .bool false]), (7, .pure true D0), (8, .mix [.ptr 9 (.lit 0), .sl 14 3 1 (.lit 0) (.sym W), .ptr 15 (.lit 0), .p (.int .i64 (.sym 0)), .p (.int .i64 (.sym 0)), .p (.int .i64 (.sym 0))]), (9, .mix [.ptr 10 (.lit 0), .sl 13 3 1 (.lit 0) (.sym W)]), (10, .mix [.sl 11 3 1 (.lit 0) (.sym N), .sl 12 189 8 (.lit 0) (.sym N)]), (11, .pure true P), (12, .pure true B), (13, .pure true V), (14, .pure true Qr0), (15, .mix [.p (.vsl (.sym 0) true []), .p (.bool false)]), (0, .fix 0 o), (16, .mix [.ptr 1 (.lit 0), .ptr 8 (.lit 0), .sl 17 3 1 (.lit 0) (.sym i), .sl 18 3 1 (.lit 0) (.sym j)]), (17, .pure true CS), (18, .pure true GS)] 19 (Re.at [(0, 0), (1, 1), (2, 2), (3, 3), (4, 4), (5, 5), (6, 6), (7, 7), (8, 8), (9, 9), (10, 10), (11, 11), (12, 12), (13, 13), (14, 14), (15, 15), (16, 16), (17, 17), (18, 18)] []) rfl ⟨N, W, wz, R, ws, vs, L, D, D0, z0, P, B, V, Qr0, M, CS, GS, chs, bufs, grs, i, j, rfl, rfl, rfl, S, hB, hY, hcs, hgs, hil, hjl, him, hi1, hi2, by omega, by omega, hR, by omega⟩
end Go.Proofs.YtmcljlflcbdpiaaGreatDoor
/-
  The bench of layer 16: the Nth channel, the Nth goroutine.
-/
namespace Go.Proofs.YtmcljlflcbdpiaaGreatDoor

open Go Go.LX
set_option maxRecDepth 100000
set_option linter.unusedVariables false
set_option linter.unusedSimpArgs false

set_option maxHeartbeats 4000000 in
theorem ch16_lx (R : List Rw) (ws vs C : List Int) (N W ph sp cy : Int) (L D Q : List PV) (z : ByteArray) (ov : Bool) (P B V Qr la : List PV) (m : Int) (M : Hp) (nc ng : Int) (cs gs : List PV) (o : Unit → Obj) (n : Int) (l : List Int) (hl : cs = ipv l) (hn : nc = l.length) (h0 : 0 < nc) (hb : nc ≤ 100) : CallF (fun _ => Tryz.prog) 31 [.ptr 16 (.lit 0), .p (.int .i64 (.sym n))] [(0, .mix [.ptr 1 (.lit 0), .ptr 5 (.lit 0), .sl 6 3 1 (.lit 0) (.sym W), .p (.int .i64 (.sym ph)), .p (.int .i64 (.sym sp)), .p (.int .i64 (.sym cy))]), (1, .mix [.ptr 2 (.lit 0), .sl 4 3 1 (.lit 0) (.sym W)]), (2, .mix [.sl 3 201 2 (.lit 0) (.sym N)]), (3, .pure true L), (4, .pure true D), (5, .pure false [.str fun _ => z, .bool ov]), (6, .pure true Q), (7, .mix [.ptr 8 (.lit 0), .sl 13 3 1 (.lit 0) (.sym W), .ptr 14 (.lit 0), .p (.int .i64 (.sym ph)), .p (.int .i64 (.sym sp)), .p (.int .i64 (.sym cy))]), (8, .mix [.ptr 9 (.lit 0), .sl 12 3 1 (.lit 0) (.sym W)]), (9, .mix [.sl 10 3 1 (.lit 0) (.sym N), .sl 11 189 8 (.lit 0) (.sym N)]), (10, .pure true P), (11, .pure true B), (12, .pure true V), (13, .pure true Qr), (14, .mix [.p (.vsl (.sym m) true la), .p (.bool ov)]), (15, .fix 0 o), (16, .mix [.ptr 0 (.lit 0), .ptr 7 (.lit 0), .sl 17 3 1 (.lit 0) (.sym nc), .sl 18 3 1 (.lit 0) (.sym ng)]), (17, .pure true cs), (18, .pure true gs)] 19 (fun r h n' => (∃ x : Int, r = .p (.int .i64 (.sym x)) ∧ l[(IntKind.u64.wrap n % nc).toNat]? = some x) ∧ h = [(0, .mix [.ptr 1 (.lit 0), .ptr 5 (.lit 0), .sl 6 3 1 (.lit 0) (.sym W), .p (.int .i64 (.sym ph)), .p (.int .i64 (.sym sp)), .p (.int .i64 (.sym cy))]), (1, .mix [.ptr 2 (.lit 0), .sl 4 3 1 (.lit 0) (.sym W)]), (2, .mix [.sl 3 201 2 (.lit 0) (.sym N)]), (3, .pure true L), (4, .pure true D), (5, .pure false [.str fun _ => z, .bool ov]), (6, .pure true Q), (7, .mix [.ptr 8 (.lit 0), .sl 13 3 1 (.lit 0) (.sym W), .ptr 14 (.lit 0), .p (.int .i64 (.sym ph)), .p (.int .i64 (.sym sp)), .p (.int .i64 (.sym cy))]), (8, .mix [.ptr 9 (.lit 0), .sl 12 3 1 (.lit 0) (.sym W)]), (9, .mix [.sl 10 3 1 (.lit 0) (.sym N), .sl 11 189 8 (.lit 0) (.sym N)]), (10, .pure true P), (11, .pure true B), (12, .pure true V), (13, .pure true Qr), (14, .mix [.p (.vsl (.sym m) true la), .p (.bool ov)]), (15, .fix 0 o), (16, .mix [.ptr 0 (.lit 0), .ptr 7 (.lit 0), .sl 17 3 1 (.lit 0) (.sym nc), .sl 18 3 1 (.lit 0) (.sym ng)]), (17, .pure true cs), (18, .pure true gs)] ∧ n' = 19) := by
  refine callF_of_body tok Tryz.func31 (by kernel_rfl) rfl rfl rfl ?_; conv => cbv
  refine Br.no (show ¬ nc = 0 by omega) ?_
  conv => cbv
  refine drawn_sound tok (by kernel_rfl) [] [0, 1, 2, 3, 4, 5, 6, 7, 8, 9, 10, 11, 12, 13, 14, 15, 16] (by kernel_rfl) ?_; conv => cbv
  refine Fit.wrap fun xn hxn => ?_
  have hxn : xn = IntKind.u64.wrap n := hxn
  have hyn : 0 ≤ xn := by rw [hxn]; simp [IntKind.wrap, IntKind.bits, IntKind.signed]; omega
  conv => cbv
  refine Fit.mk (by show (0 : Int) ≤ nc; omega) (by show nc ≤ 18446744073709551615; omega) fun c2 hc2 => ?_
  have hc2 : c2 = nc := hc2
  conv => cbv
  refine Need.mk (show ¬ c2 = 0 by omega) ?_
  conv => cbv
  refine Sum.mk fun tn htn => ?_
  have htn : tn = xn % nc := (show tn = xn.tmod c2 from htn).trans (by rw [hc2]; exact Int.tmod_eq_emod_of_nonneg hyn)
  have ht0 := Int.emod_nonneg xn (show nc ≠ 0 by omega)
  have ht1 := Int.emod_lt_of_pos xn h0
  conv => cbv
  refine Fit.mk (by show (-9223372036854775808 : Int) ≤ tn; omega) (by show tn ≤ 9223372036854775807; omega) fun i hi => ?_
  have hi : i = tn := hi
  obtain ⟨x, hx⟩ : ∃ x, l[i.toNat]? = some x := ⟨_, List.getElem?_eq_getElem (by omega)⟩
  have hcell : cs[i.toNat]? = some (.int .i64 (.sym x)) := by rw [hl]; exact ipv_get hx
  conv => cbv
  refine Need.mk (show 0 ≤ i ∧ i < nc by omega) ?_
  conv => cbv
  refine Cell.at i _ hcell (by simp [I.val]) rfl ?_
  conv => cbv
  refine RetF.mk [.p (.int .i64 (.sym x))] [(0, .mix [.ptr 1 (.lit 0), .ptr 5 (.lit 0), .sl 6 3 1 (.lit 0) (.sym W), .p (.int .i64 (.sym ph)), .p (.int .i64 (.sym sp)), .p (.int .i64 (.sym cy))]), (1, .mix [.ptr 2 (.lit 0), .sl 4 3 1 (.lit 0) (.sym W)]), (2, .mix [.sl 3 201 2 (.lit 0) (.sym N)]), (3, .pure true L), (4, .pure true D), (5, .pure false [.str fun _ => z, .bool ov]), (6, .pure true Q), (7, .mix [.ptr 8 (.lit 0), .sl 13 3 1 (.lit 0) (.sym W), .ptr 14 (.lit 0), .p (.int .i64 (.sym ph)), .p (.int .i64 (.sym sp)), .p (.int .i64 (.sym cy))]), (8, .mix [.ptr 9 (.lit 0), .sl 12 3 1 (.lit 0) (.sym W)]), (9, .mix [.sl 10 3 1 (.lit 0) (.sym N), .sl 11 189 8 (.lit 0) (.sym N)]), (10, .pure true P), (11, .pure true B), (12, .pure true V), (13, .pure true Qr), (14, .mix [.p (.vsl (.sym m) true la), .p (.bool ov)]), (15, .fix 0 o), (16, .mix [.ptr 0 (.lit 0), .ptr 7 (.lit 0), .sl 17 3 1 (.lit 0) (.sym nc), .sl 18 3 1 (.lit 0) (.sym ng)]), (17, .pure true cs), (18, .pure true gs)] 19 (Re.at [(0, 0), (1, 1), (2, 2), (3, 3), (4, 4), (5, 5), (6, 6), (7, 7), (8, 8), (9, 9), (10, 10), (11, 11), (12, 12), (13, 13), (14, 14), (15, 15), (16, 16), (17, 17), (18, 18)] []) rfl ⟨⟨x, rfl, by rw [← hxn, ← htn, ← hi]; exact hx⟩, rfl, rfl⟩
set_option maxHeartbeats 4000000 in
theorem gor16_lx (R : List Rw) (ws vs C : List Int) (N W ph sp cy : Int) (L D Q : List PV) (z : ByteArray) (ov : Bool) (P B V Qr la : List PV) (m : Int) (M : Hp) (nc ng : Int) (cs gs : List PV) (o : Unit → Obj) (n : Int) (l : List Int) (hl : gs = ipv l) (hn : ng = l.length) (h0 : 0 < ng) (hb : ng ≤ 100) : CallF (fun _ => Tryz.prog) 34 [.ptr 16 (.lit 0), .p (.int .i64 (.sym n))] [(0, .mix [.ptr 1 (.lit 0), .ptr 5 (.lit 0), .sl 6 3 1 (.lit 0) (.sym W), .p (.int .i64 (.sym ph)), .p (.int .i64 (.sym sp)), .p (.int .i64 (.sym cy))]), (1, .mix [.ptr 2 (.lit 0), .sl 4 3 1 (.lit 0) (.sym W)]), (2, .mix [.sl 3 201 2 (.lit 0) (.sym N)]), (3, .pure true L), (4, .pure true D), (5, .pure false [.str fun _ => z, .bool ov]), (6, .pure true Q), (7, .mix [.ptr 8 (.lit 0), .sl 13 3 1 (.lit 0) (.sym W), .ptr 14 (.lit 0), .p (.int .i64 (.sym ph)), .p (.int .i64 (.sym sp)), .p (.int .i64 (.sym cy))]), (8, .mix [.ptr 9 (.lit 0), .sl 12 3 1 (.lit 0) (.sym W)]), (9, .mix [.sl 10 3 1 (.lit 0) (.sym N), .sl 11 189 8 (.lit 0) (.sym N)]), (10, .pure true P), (11, .pure true B), (12, .pure true V), (13, .pure true Qr), (14, .mix [.p (.vsl (.sym m) true la), .p (.bool ov)]), (15, .fix 0 o), (16, .mix [.ptr 0 (.lit 0), .ptr 7 (.lit 0), .sl 17 3 1 (.lit 0) (.sym nc), .sl 18 3 1 (.lit 0) (.sym ng)]), (17, .pure true cs), (18, .pure true gs)] 19 (fun r h n' => (∃ x : Int, r = .p (.int .i64 (.sym x)) ∧ l[(IntKind.u64.wrap n % ng).toNat]? = some x) ∧ h = [(0, .mix [.ptr 1 (.lit 0), .ptr 5 (.lit 0), .sl 6 3 1 (.lit 0) (.sym W), .p (.int .i64 (.sym ph)), .p (.int .i64 (.sym sp)), .p (.int .i64 (.sym cy))]), (1, .mix [.ptr 2 (.lit 0), .sl 4 3 1 (.lit 0) (.sym W)]), (2, .mix [.sl 3 201 2 (.lit 0) (.sym N)]), (3, .pure true L), (4, .pure true D), (5, .pure false [.str fun _ => z, .bool ov]), (6, .pure true Q), (7, .mix [.ptr 8 (.lit 0), .sl 13 3 1 (.lit 0) (.sym W), .ptr 14 (.lit 0), .p (.int .i64 (.sym ph)), .p (.int .i64 (.sym sp)), .p (.int .i64 (.sym cy))]), (8, .mix [.ptr 9 (.lit 0), .sl 12 3 1 (.lit 0) (.sym W)]), (9, .mix [.sl 10 3 1 (.lit 0) (.sym N), .sl 11 189 8 (.lit 0) (.sym N)]), (10, .pure true P), (11, .pure true B), (12, .pure true V), (13, .pure true Qr), (14, .mix [.p (.vsl (.sym m) true la), .p (.bool ov)]), (15, .fix 0 o), (16, .mix [.ptr 0 (.lit 0), .ptr 7 (.lit 0), .sl 17 3 1 (.lit 0) (.sym nc), .sl 18 3 1 (.lit 0) (.sym ng)]), (17, .pure true cs), (18, .pure true gs)] ∧ n' = 19) := by
  refine callF_of_body tok Tryz.func34 (by kernel_rfl) rfl rfl rfl ?_; conv => cbv
  refine drawn_sound tok (by kernel_rfl) [] [0, 1, 2, 3, 4, 5, 6, 7, 8, 9, 10, 11, 12, 13, 14, 15, 16] (by kernel_rfl) ?_; conv => cbv
  refine Fit.wrap fun xn hxn => ?_
  have hxn : xn = IntKind.u64.wrap n := hxn
  have hyn : 0 ≤ xn := by rw [hxn]; simp [IntKind.wrap, IntKind.bits, IntKind.signed]; omega
  conv => cbv
  refine Fit.mk (by show (0 : Int) ≤ ng; omega) (by show ng ≤ 18446744073709551615; omega) fun c2 hc2 => ?_
  have hc2 : c2 = ng := hc2
  conv => cbv
  refine Need.mk (show ¬ c2 = 0 by omega) ?_
  conv => cbv
  refine Sum.mk fun tn htn => ?_
  have htn : tn = xn % ng := (show tn = xn.tmod c2 from htn).trans (by rw [hc2]; exact Int.tmod_eq_emod_of_nonneg hyn)
  have ht0 := Int.emod_nonneg xn (show ng ≠ 0 by omega)
  have ht1 := Int.emod_lt_of_pos xn h0
  conv => cbv
  refine Fit.mk (by show (-9223372036854775808 : Int) ≤ tn; omega) (by show tn ≤ 9223372036854775807; omega) fun i hi => ?_
  have hi : i = tn := hi
  obtain ⟨x, hx⟩ : ∃ x, l[i.toNat]? = some x := ⟨_, List.getElem?_eq_getElem (by omega)⟩
  have hcell : gs[i.toNat]? = some (.int .i64 (.sym x)) := by rw [hl]; exact ipv_get hx
  conv => cbv
  refine Need.mk (show 0 ≤ i ∧ i < ng by omega) ?_
  conv => cbv
  refine Cell.at i _ hcell (by simp [I.val]) rfl ?_
  conv => cbv
  refine RetF.mk [.p (.int .i64 (.sym x))] [(0, .mix [.ptr 1 (.lit 0), .ptr 5 (.lit 0), .sl 6 3 1 (.lit 0) (.sym W), .p (.int .i64 (.sym ph)), .p (.int .i64 (.sym sp)), .p (.int .i64 (.sym cy))]), (1, .mix [.ptr 2 (.lit 0), .sl 4 3 1 (.lit 0) (.sym W)]), (2, .mix [.sl 3 201 2 (.lit 0) (.sym N)]), (3, .pure true L), (4, .pure true D), (5, .pure false [.str fun _ => z, .bool ov]), (6, .pure true Q), (7, .mix [.ptr 8 (.lit 0), .sl 13 3 1 (.lit 0) (.sym W), .ptr 14 (.lit 0), .p (.int .i64 (.sym ph)), .p (.int .i64 (.sym sp)), .p (.int .i64 (.sym cy))]), (8, .mix [.ptr 9 (.lit 0), .sl 12 3 1 (.lit 0) (.sym W)]), (9, .mix [.sl 10 3 1 (.lit 0) (.sym N), .sl 11 189 8 (.lit 0) (.sym N)]), (10, .pure true P), (11, .pure true B), (12, .pure true V), (13, .pure true Qr), (14, .mix [.p (.vsl (.sym m) true la), .p (.bool ov)]), (15, .fix 0 o), (16, .mix [.ptr 0 (.lit 0), .ptr 7 (.lit 0), .sl 17 3 1 (.lit 0) (.sym nc), .sl 18 3 1 (.lit 0) (.sym ng)]), (17, .pure true cs), (18, .pure true gs)] 19 (Re.at [(0, 0), (1, 1), (2, 2), (3, 3), (4, 4), (5, 5), (6, 6), (7, 7), (8, 8), (9, 9), (10, 10), (11, 11), (12, 12), (13, 13), (14, 14), (15, 15), (16, 16), (17, 17), (18, 18)] []) rfl ⟨⟨x, rfl, by rw [← hxn, ← htn, ← hi]; exact hx⟩, rfl, rfl⟩
end Go.Proofs.YtmcljlflcbdpiaaGreatDoor
/-
  Drawn regions with calls that only look, at blocks that are told: these may be done at any time, as operations that only look.
-/
namespace Go.LX
open Go
set_option linter.unusedVariables false

/-- A call that turns nothing, with one answer, wherever these blocks stand as they do. -/
inductive ReadF (P : Unit → Program) (f : Nat) (args : List LV) (bs : List Nat) (h : LH) (n : Nat) (K : LV → Prop) : Prop
  | mk (u : LV) (hq : ∀ h' n', (∀ b ∈ bs, hget h' b = hget h b) → n ≤ n' → CallF P f args h' n' fun r h2 n2 => r = u ∧ h2 = h' ∧ n2 = n') (hk : K u)
section
variable {P : Unit → Program} {T : Unit → TT} {o : Oper} {s : LS}
def readL (P : Unit → Program) (bs : List Nat) (o : Oper) (s : LS) (L : LS → Prop) : Prop :=
  match o.guard, o.op with
  | none, .call c => match c.callee with
    | .value (.func f) => ReadF P f (eva s c.args.toList) bs s.h s.n fun u => L (s.put o.dst u)
    | _ => False
  | _, _ => False
/-- What one that only looks may look at. -/
def rdsR (ops : Array Oper) (bs : List Nat) (p : Nat) (s : LS) : List Nat := match isA (opAt ops p) with
  | true => rds (opAt ops p) s
  | false => bs
def AgreeR (ops : Array Oper) (bs : List Nat) (p : Nat) (s s' : LS) : Prop := (∀ b ∈ rdsR ops bs p s, hget s'.h b = hget s.h b) ∧ (∀ t ∈ (opAt ops p).looksAt ops, tget s'.t t = tget s.t t) ∧ s.n ≤ s'.n
theorem rdsR_put {ops : Array Oper} {bs : List Nat} {p : Nat} {d : Option Nat} {u : LV} (hd : ∀ t, d = some t → t ∉ (opAt ops p).looksAt ops) : rdsR ops bs p (s.put d u) = rdsR ops bs p s := by
  unfold rdsR
  cases isA (opAt ops p) with
  | true => exact rds_put hd
  | false => rfl
def keptR (ops : Array Oper) (bs : List Nat) : List Nat → LS → LS → Prop
  | [], s, s1 => Nat.ble s.n s1.n = true
  | p :: fl, s, s1 => keptL (rdsR ops bs p s) s s1 ∧ keptR ops bs fl s s1
theorem keptR_get {ops : Array Oper} {bs : List Nat} : ∀ {fl : List Nat} {s s1 : LS}, keptR ops bs fl s s1 → s.n ≤ s1.n ∧ ∀ p ∈ fl, keptL (rdsR ops bs p s) s s1
  | [], _, _, h => ⟨Nat.le_of_ble_eq_true h, fun p hp => by cases hp⟩
  | x :: l, s, s1, h => ⟨(keptR_get h.2).1, fun p hp => by
    rcases List.mem_cons.1 hp with rfl | hp
    · exact h.1
    · exact (keptR_get h.2).2 p hp⟩
/-- One that only looks. -/
def headR (P : Unit → Program) (T : Unit → TT) (ops : Array Oper) (bs : List Nat) (i : Nat) (s : LS) (L : LS → Prop) : Prop :=
  match isA (opAt ops i) with
  | true => stepL P T ops.toList (opAt ops i) s L
  | false => readL P bs (opAt ops i) s L
theorem AgreeR.toS {ops : Array Oper} {bs : List Nat} {i : Nat} {s s' : LS} (hA : isA (opAt ops i) = true) (h : AgreeR ops bs i s s') : AgreeS ops (opAt ops i) s s' := by
  refine ⟨?_, h.2.1⟩
  have := h.1
  unfold rdsR at this
  rw [hA] at this
  exact this
theorem headR_x {ops : Array Oper} {bs : List Nat} {i : Nat} {L : LS → Prop} (h : headR P T ops bs i s L) : ∃ u, L (s.put (opAt ops i).dst u) ∧ (∀ s', AgreeR ops bs i s s' → ∀ L' : LS → Prop, L' (s'.put (opAt ops i).dst u) → headR P T ops bs i s' L') ∧ (∀ s', AgreeR ops bs i s s' → ∀ L' : LS → Prop, L' (s'.put (opAt ops i).dst u) → stepL P T ops.toList (opAt ops i) s' L') := by
  unfold headR at h
  split at h
  · rename_i hA
    obtain ⟨u, h1, h2⟩ := step_x hA h
    refine ⟨u, h1, fun s' ha L' hL => ?_, fun s' ha => h2 s' (ha.toS hA)⟩
    unfold headR
    rw [hA]
    exact h2 s' (ha.toS hA) L' hL
  · rename_i hA
    have hbs : ∀ s', AgreeR ops bs i s s' → ∀ b ∈ bs, hget s'.h b = hget s.h b := fun s' ha => by
      have := ha.1
      unfold rdsR at this
      rw [hA] at this
      exact this
    have hlk : ∀ s', AgreeR ops bs i s s' → ∀ t ∈ (opAt ops i).looksAt ops, tget s'.t t = tget s.t t := fun s' ha => ha.2.1
    have hn : ∀ s', AgreeR ops bs i s s' → s.n ≤ s'.n := fun s' ha => ha.2.2
    generalize hoo : opAt ops i = o at *
    unfold readL at h
    split at h
    · rename_i c hg ho
      split at h
      · rename_i f hc
        cases h with
        | mk u hq hk =>
          have hev : ∀ s', AgreeR ops bs i s s' → eva s' c.args.toList = eva s c.args.toList := fun s' ha => eva_agree _ fun x hx => by
            have hx : x ∈ c.args := by simpa using hx
            have hx2 : x ∈ o.op.operands := by rw [ho]; simp [Op.operands, Call.operands, hc, hx]
            cases x with
            | tmp t =>
              refine hlk s' ha t ?_
              simp only [Oper.looksAt, List.mem_append, List.mem_filterMap]
              exact .inl ⟨.tmp t, by simpa using hx2, rfl⟩
            | const v => rfl
            | global g => rfl
            | func f => rfl
          refine ⟨u, hk, fun s' ha L' hL => ?_, fun s' ha L' hL => ?_⟩
          · unfold headR
            rw [hoo, hA]
            dsimp only
            unfold readL
            rw [hg, ho]
            dsimp only
            rw [hc]
            dsimp only
            rw [hev s' ha]
            exact .mk u (fun h' n' hb hn' => hq h' n' (fun b hbm => (hb b hbm).trans (hbs s' ha b hbm)) (Nat.le_trans (hn s' ha) hn')) hL
          · unfold stepL
            rw [hg]
            dsimp only [yes]
            unfold lop
            rw [ho]
            dsimp only
            rw [hc]
            dsimp only [ev]
            rw [hev s' ha]
            refine (hq s'.h s'.n (hbs s' ha) (hn s' ha)).mono fun r h' n' ⟨e1, e2, e3⟩ => ?_
            subst e1 e2 e3
            exact hL
      · exact h.elim
    · exact h.elim
/-- A region in one order. -/
def lopsR (P : Unit → Program) (T : Unit → TT) (ops : Array Oper) (bs : List Nat) (qs : List Nat) (F : List (Nat × List Nat)) : List Nat → LS → (LS → Prop) → Prop
  | [], s, K => K s
  | i :: l, s, K => match cA ops qs i with
    | true => headR P T ops bs i s fun s1 => lopsR P T ops bs qs F l s1 K
    | false => stepL P T ops.toList (opAt ops i) s fun s1 => keptR ops bs (look F i) s s1 ∧ lopsR P T ops bs qs F l s1 K
/-- May they stand in this order, whatever order they are done in? -/
def pairR (ops : Array Oper) (qs : List Nat) (F : List (Nat × List Nat)) (p q : Nat) : Bool :=
  p != q && (reach ops ops.size p q || (cA ops qs p && (opAt ops p).apart ops (opAt ops q) && (cA ops qs q || (look F q).contains p))) && (!(F.any fun e => e.2.contains p && e.2.contains q) || match (opAt ops q).dst with
    | some d => !cA ops qs p || !cA ops qs q || !((opAt ops p).looksAt ops).contains d
    | none => true)
def PairR (ops : Array Oper) (qs : List Nat) (F : List (Nat × List Nat)) (p q : Nat) : Prop := p ≠ q ∧ (reach ops ops.size p q = true ∨ (cA ops qs p = true ∧ (opAt ops p).apart ops (opAt ops q) = true ∧ (cA ops qs q = true ∨ p ∈ look F q))) ∧ (∀ i, p ∈ look F i → q ∈ look F i → cA ops qs p = true → cA ops qs q = true → ∀ d, (opAt ops q).dst = some d → d ∉ (opAt ops p).looksAt ops)
theorem pairR_spec {ops : Array Oper} {qs : List Nat} {F : List (Nat × List Nat)} {p q : Nat} (h : pairR ops qs F p q = true) : PairR ops qs F p q := by
  simp only [pairR, Bool.and_eq_true, Bool.or_eq_true, bne_iff_ne, ne_eq] at h
  obtain ⟨⟨h1, h2⟩, h3⟩ := h
  refine ⟨h1, h2.imp id (fun h => ⟨h.1.1, h.1.2, h.2.imp id (fun h => by simpa using h)⟩), fun i hpi hqi hp hq d hd => ?_⟩
  rw [look_any hpi hqi, hd, hp, hq] at h3
  simpa using h3
theorem frontR {ops : Array Oper} {bs : List Nat} {qs : List Nat} {F : List (Nat × List Nat)} {i : Nat} {l2 : List Nat} {K : LS → Prop} (hki : known ops i) :
    ∀ (l1 gh : List Nat) {s : LS}, (∀ p ∈ l1, known ops p ∧ (∀ d, (opAt ops p).dst = some d → d ∉ (opAt ops p).looksAt ops)) → (∀ p ∈ l1, PairR ops qs F p i ∧ reach ops ops.size p i = false) → l1.Pairwise (PairR ops qs F) → (∀ p ∈ gh, p ∈ look F i ∧ cA ops qs p = true ∧ ∀ q ∈ l1, PairR ops qs F p q) →
      lopsR P T ops bs qs F (l1 ++ i :: l2) s K → (cA ops qs i = true → headR P T ops bs i s fun s1 => lopsR P T ops bs qs F (l1 ++ l2) s1 K) ∧ (cA ops qs i = false → stepL P T ops.toList (opAt ops i) s fun s1 => (s.n ≤ s1.n ∧ ∀ p ∈ gh, keptL (rdsR ops bs p s) s s1) ∧ lopsR P T ops bs qs F (l1 ++ l2) s1 K)
  | [], gh, s, _, _, _, hgh, h => by
    rw [List.nil_append, lopsR] at h
    split at h
    · rename_i hA
      exact ⟨fun _ => h, fun e => (by rw [hA] at e; cases e)⟩
    · rename_i hA
      exact ⟨fun e => (by rw [hA] at e; cases e), fun _ => stepL_m hki h fun s1 h1 => ⟨⟨(keptR_get h1.1).1, fun p hp => (keptR_get h1.1).2 p (hgh p hp).1⟩, h1.2⟩⟩
  | p :: l1, gh, s, hk, hi, hpw, hdn, h => by
    obtain ⟨hkp, hself⟩ := hk p List.mem_cons_self
    obtain ⟨⟨hpi1, hpi2, hpi3⟩, hnr⟩ := hi p List.mem_cons_self
    rw [List.pairwise_cons] at hpw
    obtain ⟨hA, hap, hfl⟩ : cA ops qs p = true ∧ (opAt ops p).apart ops (opAt ops i) = true ∧ (cA ops qs i = true ∨ p ∈ look F i) := by
      rcases hpi2 with e | e
      · rw [hnr] at e; cases e
      · exact e
    obtain ⟨a1, a2, a3⟩ := Oper.apart_spec hap
    rw [List.cons_append, lopsR] at h
    rw [hA] at h
    dsimp only at h
    obtain ⟨u, h1, hg, _⟩ := headR_x h
    have next : ∀ {s1 : LS}, AgreeR ops bs p s s1 → lopsR P T ops bs qs F (l1 ++ l2) (s1.put (opAt ops p).dst u) K → lopsR P T ops bs qs F (p :: l1 ++ l2) s1 K := by
      intro s1 hag h2
      rw [List.cons_append, lopsR, hA]
      exact hg s1 hag _ h2
    have hkl : ∀ q ∈ l1, known ops q ∧ (∀ d, (opAt ops q).dst = some d → d ∉ (opAt ops q).looksAt ops) := fun q hq => hk q (List.mem_cons_of_mem _ hq)
    have hil : ∀ q ∈ l1, PairR ops qs F q i ∧ reach ops ops.size q i = false := fun q hq => hi q (List.mem_cons_of_mem _ hq)
    refine ⟨fun hAi => ?_, fun hnA => ?_⟩
    · have ih := (frontR hki l1 [] hkl hil hpw.2 (fun q hq => (by cases hq)) h1).1 hAi
      obtain ⟨v, h4, h5, _⟩ := headR_x ih
      refine h5 s ⟨fun _ _ => by rw [put_h], fun t ht => (tget_put _ _ _ (fun e => a1 t e ht)).symm, by rw [put_n]; exact Nat.le_refl _⟩ _ ?_
      refine next ⟨fun _ _ => by rw [put_h], fun t ht => tget_put _ _ _ (fun e => a3 t e ht), by rw [put_n]; exact Nat.le_refl _⟩ ?_
      rw [← put_comm _ _ _ _ a2]
      exact h4
    · have hX : isX (opAt ops i) = true := hki.resolve_right (fun e => by unfold cA at hnA; rw [e] at hnA; cases hnA)
      have hpf : p ∈ look F i := hfl.resolve_left (fun e => by rw [hnA] at e; cases e)
      have ih := (frontR hki l1 (p :: gh) hkl hil hpw.2 (fun q hq => by
        rcases List.mem_cons.1 hq with rfl | hq
        · exact ⟨hpf, hA, hpw.1⟩
        · exact ⟨(hdn q hq).1, (hdn q hq).2.1, fun r hr => (hdn q hq).2.2 r (List.mem_cons_of_mem _ hr)⟩) h1).2 hnA
      have h3 := step_slot hX a1 a2 ih
      refine stepL_m (.inl hX) h3 fun s1 ⟨h4, ⟨hn5, h5⟩, h6⟩ => ?_
      simp only [put_n] at hn5
      have hkp2 := h5 p List.mem_cons_self
      rw [rdsR_put hself] at hkp2
      refine ⟨⟨hn5, fun q hq => ?_⟩, next ⟨fun b hb => ?_, (fun t ht => h4 t fun e => a3 t e ht), hn5⟩ h6⟩
      · have e := h5 q (List.mem_cons_of_mem _ hq)
        rw [rdsR_put (((hdn q hq).2.2 p List.mem_cons_self).2.2 i (hdn q hq).1 hpf (hdn q hq).2.1 hA)] at e
        refine keptL_mk fun b hb => ?_
        have := keptL_get e b hb
        rwa [put_h, put_h] at this
      · have := keptL_get hkp2 b hb
        rwa [put_h, put_h] at this
end

def orderR (ops : Array Oper) (qs : List Nat) (F : List (Nat × List Nat)) : List Nat → List Nat → Bool
  | _, [] => true
  | pre, q :: l => edgesOK ops pre q && selfOK ops q && l.all (fun r => pairR ops qs F q r) && orderR ops qs F (q :: pre) l
def drawnR (ops : Array Oper) (qs : List Nat) (F : List (Nat × List Nat)) (order : List Nat) : Bool := orderR ops qs F [] order && (List.range ops.size).all (fun j => order.contains j)
section
variable {P : Program} {T : TT} {K : LS → Prop}
theorem orderR_spec {ops : Array Oper} {qs : List Nat} {F : List (Nat × List Nat)} : ∀ {l pre : List Nat}, orderR ops qs F pre l = true → l.Pairwise (PairR ops qs F) ∧ (∀ q ∈ l, known ops q ∧ (∀ d, (opAt ops q).dst = some d → d ∉ (opAt ops q).looksAt ops)) ∧
    ∀ l1 q l2, l = l1 ++ q :: l2 → ∃ o, ops[q]? = some o ∧ ∀ e ∈ o.after, Region.binds .any e = true → e.on ∈ pre ∨ e.on ∈ l1
  | [], pre, _ => ⟨.nil, fun q hq => (by cases hq), fun l1 q l2 h => (by cases l1 <;> cases h)⟩
  | r :: l, pre, h => by
    simp only [orderR, Bool.and_eq_true] at h
    obtain ⟨⟨⟨h1, h2⟩, h3⟩, h4⟩ := h
    obtain ⟨k1, k2, k3⟩ := orderR_spec h4
    refine ⟨List.pairwise_cons.2 ⟨fun q hq => pairR_spec (List.all_eq_true.1 h3 q hq), k1⟩, fun q hq => ?_, fun l1 q l2 e => ?_⟩
    · rcases List.mem_cons.1 hq with rfl | hq
      · exact selfOK_spec h2
      · exact k2 q hq
    · cases l1 with
      | nil =>
        cases e
        unfold edgesOK at h1
        split at h1
        · rename_i o ho
          refine ⟨o, ho, fun e he hb => .inl ?_⟩
          have := Array.all_eq_true_iff_forall_mem.1 h1 e he
          simpa [hb] using this
        · cases h1
      | cons x l1 =>
        cases e
        obtain ⟨o, ho, h5⟩ := k3 l1 q l2 rfl
        refine ⟨o, ho, fun e he hb => ?_⟩
        rcases h5 e he hb with h | h
        · rcases List.mem_cons.1 h with h | h
          · exact .inr (by rw [h]; exact List.mem_cons_self)
          · exact .inl h
        · exact .inr (List.mem_cons_of_mem _ h)

theorem anyR_sound (hT : TOK P T) {ops : Array Oper} {bs : List Nat} {qs : List Nat} {F : List (Nat × List Nat)} {order : List Nat} (hd : drawnR ops qs F order = true) {c0 : Ctx} {w0 : World} {Q : Exit → Act → World → Prop} (hQ : ∀ a' w', Post K c0 w0 a' w' → Q .normal a' w') :
    ∀ (fuel : Nat) (listed : Array Bool) {s : LS} {c : Ctx} {a : Act} {w : World}, listed.size = ops.size → Closed ops listed → (unlO order listed).length = fuel → Ext c0 w0 c w → St c s a w →
    lopsR (fun _ => P) (fun _ => T) ops bs qs F (unlO order listed) s K → wpAny P .any ops Q fuel listed a w := by
  simp only [drawnR, Bool.and_eq_true, List.all_eq_true, List.mem_range] at hd
  obtain ⟨hpw, hkn, hed⟩ := orderR_spec hd.1
  have hall : ∀ j, j < ops.size → j ∈ order := fun j hj => by simpa using hd.2 j hj
  have mem_unl : ∀ {listed : Array Bool} {j : Nat}, j ∈ unlO order listed ↔ j ∈ order ∧ listed.getD j true = false := by
    intro listed j
    simp [unlO, List.mem_filter]
  have at_ : ∀ {j o}, ops[j]? = some o → opAt ops j = o := by
    intro j o ho
    simp [opAt, ho]
  have hlt_ : ∀ {listed : Array Bool} {j : Nat}, listed.size = ops.size → listed.getD j true = false → j < ops.size := by
    intro listed j hsz h
    rcases Nat.lt_or_ge j ops.size with h1 | h1
    · exact h1
    · rw [Array.getD_eq_getD_getElem?, Array.getElem?_eq_none (by omega)] at h; cases h
  intro fuel
  induction fuel with
  | zero =>
    intro listed s c a w hsz hcl hlen he hs h
    have h0 : unlO order listed = [] := List.eq_nil_of_length_eq_zero hlen
    refine ⟨List.eq_nil_iff_forall_not_mem.2 fun j hj => ?_, ?_⟩
    · obtain ⟨h1, o, h2, _⟩ := mem_ready.1 hj
      have : j ∈ unlO order listed := mem_unl.2 ⟨hall j (Array.getElem?_eq_some_iff.1 h2).1, h1⟩
      rw [h0] at this; cases this
    · rw [h0] at h
      exact hQ _ _ ⟨c, s, h, hs, he⟩
  | succ fuel ih =>
    intro listed s c a w hsz hcl hlen he hs h
    refine ⟨fun hr => ?_, fun i hi => ?_⟩
    · exfalso
      cases hu : unlO order listed with
      | nil => rw [hu] at hlen; cases hlen
      | cons i0 rest =>
        obtain ⟨l1, l2, e1, e2, e3, e4⟩ := List.filter_eq_cons_iff.1 hu
        have hun : listed.getD i0 true = false := by simpa using e3
        obtain ⟨o, ho, h5⟩ := hed l1 i0 l2 e1
        have : i0 ∈ Region.ready .any ops listed := by
          refine mem_ready.2 ⟨hun, o, ho, fun e hee hb => ?_⟩
          rcases h5 e hee hb with h6 | h6
          · cases h6
          · have h7 := e2 _ h6
            have h8 : listed.getD e.on true = true := by simpa using h7
            -- an operation of the order is one of the region
            rcases Nat.lt_or_ge e.on listed.size with h9 | h9
            · rw [getD_tf h9 false true]; exact h8
            · exfalso
              obtain ⟨m1, m2, hm⟩ := List.append_of_mem h6
              obtain ⟨o2, ho2, _⟩ := hed m1 e.on (m2 ++ i0 :: l2) (by rw [e1, hm]; simp)
              have := (Array.getElem?_eq_some_iff.1 ho2).1
              omega
        rw [hr] at this; cases this
    · obtain ⟨hun, o, ho, haft⟩ := mem_ready.1 hi
      have hlt : i < ops.size := (Array.getElem?_eq_some_iff.1 ho).1
      have hiu : i ∈ unlO order listed := mem_unl.2 ⟨hall i hlt, hun⟩
      obtain ⟨l1, l2, hl⟩ := List.append_of_mem hiu
      have hpu : (unlO order listed).Pairwise (PairR ops qs F) := hpw.filter _
      have hku : ∀ q ∈ unlO order listed, known ops q ∧ (∀ d, (opAt ops q).dst = some d → d ∉ (opAt ops q).looksAt ops) := fun q hq => hkn q (mem_unl.1 hq).1
      rw [hl] at hpu hku h
      rw [List.pairwise_append] at hpu
      obtain ⟨hp1, hp2, hp3⟩ := hpu
      rw [List.pairwise_cons] at hp2
      have hrest : unlO order (listed.setIfInBounds i true) = l1 ++ l2 := by
        have e1 : unlO order (listed.setIfInBounds i true) = (unlO order listed).filter (· != i) := by
          unfold unlO
          rw [List.filter_filter]
          refine List.filter_congr fun j hj => ?_
          by_cases e : i = j
          · subst e
            rw [Array.getD_eq_getD_getElem?, Array.getElem?_setIfInBounds_self_of_lt (by omega)]
            simp
          · rw [getD_set_ne _ e]
            have : (j != i) = true := by simp; omega
            rw [this]; simp
        rw [e1, hl, List.filter_append, List.filter_cons_of_neg (by simp)]
        congr 1
        · rw [List.filter_eq_self]
          intro p hp
          have := (hp3 p hp i List.mem_cons_self).1
          simpa using this
        · rw [List.filter_eq_self]
          intro p hp
          have := (hp2.1 p hp).1
          have : p ≠ i := fun e => this e.symm
          simpa using this
      have hf := frontR (ops := ops) (bs := bs) (F := F) (i := i) (l2 := l2) (hku i (by simp)).1 l1 [] (fun p hp => hku p (by simp [hp])) (fun p hp => ⟨hp3 p hp i List.mem_cons_self, by
        cases e : reach ops ops.size p i with
        | false => rfl
        | true =>
          exfalso
          have h1 := reach_listed hcl _ i o ho e haft
          have hpm : p ∈ unlO order listed := by rw [hl]; simp [hp]
          have h2 := (mem_unl.1 hpm).2
          rw [getD_tf (by rw [hsz]; exact hlt_ hsz h2) true false, h1] at h2; cases h2⟩) hp1 (fun p hp => (by cases hp)) h
      rw [← hrest] at hf
      have hsz' : (listed.setIfInBounds i true).size = ops.size := by simp [hsz]
      have hcl' : Closed ops (listed.setIfInBounds i true) := by
        intro q oq hoq hq e hee hb
        by_cases hqi : i = q
        · subst hqi
          rw [ho] at hoq; cases hoq
          exact getD_set_true (haft e hee hb)
        · rw [getD_set_ne _ hqi] at hq
          exact getD_set_true (hcl q oq hoq hq e hee hb)
      have hlen' : (unlO order (listed.setIfInBounds i true)).length = fuel := by
        rw [hrest]
        rw [hl] at hlen
        simp at hlen ⊢; omega
      have hgo : ∀ (R : LS → Prop), stepL (fun _ => P) (fun _ => T) ops.toList o s R → (∀ s1, R s1 → lopsR (fun _ => P) (fun _ => T) ops bs qs F (unlO order (listed.setIfInBounds i true)) s1 K) → wpOp P ops Q i (fun a' w' => wpAny P .any ops Q fuel (listed.setIfInBounds i true) a' w') a w := by
        intro R hf hR
        unfold wpOp
        rw [ho]
        dsimp only
        unfold stepL at hf
        split at hf
        · rename_i cb hy
          have hw := yes_sound hs hy
          cases cb with
          | true =>
            rw [if_pos hw]
            left
            refine Oper.wp_mono (fun a' w' hp => ?_) (lop_sound (Q := Q) hT hs hf)
            obtain ⟨c', s', hK, hs', he'⟩ := hp
            exact ih _ hsz' hcl' hlen' (he.trans he') hs' (hR _ hK)
          | false =>
            rw [if_neg (by rw [hw]; simp)]
            exact ih _ hsz' hcl' hlen' he (hs.put .nul _) (hR _ hf)
        · exact hf.elim
      cases hcA : cA ops qs i with
      | true =>
        obtain ⟨u, h1, _, h3⟩ := headR_x (hf.1 hcA)
        rw [at_ ho] at h1 h3
        refine hgo _ (h3 s ⟨fun _ _ => rfl, fun _ _ => rfl, Nat.le_refl _⟩ (fun s1 => s1 = s.put o.dst u) rfl) fun s1 e => ?_
        rw [e]; exact h1
      | false =>
        have h3 := hf.2 hcA
        rw [at_ ho] at h3
        exact hgo _ h3 fun s1 h => h.2

/-- A drawn region: in the order that is told. -/
theorem read_sound (hT : TOK P T) (hm : P.follows .mixedOrders = true) (bs : List Nat) (qs : List Nat) (F : List (Nat × List Nat)) (order : List Nat) {ops : Unit → Array Oper} {s : LS} (hd : drawnR (ops ()) qs F order = true) (h : lopsR (fun _ => P) (fun _ => T) (ops ()) bs qs F order s K) : DrawF (fun _ => P) ops s K := by
  refine .mk fun c a w t Q hs hQ => ?_
  generalize ops () = ops at *
  simp only [Region.schedule, hm, Bool.true_or, if_true]
  have hget : ∀ i, (Array.replicate ops.size false).getD i false = false := by
    intro i
    rw [Array.getD_eq_getD_getElem?, Array.getElem?_replicate]
    split <;> rfl
  have hd' := hd
  simp only [drawnR, Bool.and_eq_true] at hd'
  obtain ⟨hpw, _, hed⟩ := orderR_spec hd'.1
  have hlt : ∀ j ∈ order, j < ops.size := fun j hj => by
    obtain ⟨l1, l2, e⟩ := List.append_of_mem hj
    obtain ⟨o, ho, _⟩ := hed l1 j l2 e
    exact (Array.getElem?_eq_some_iff.1 ho).1
  have hun : unlO order (Array.replicate ops.size false) = order := by
    unfold unlO
    rw [List.filter_eq_self]
    intro j hj
    have := hlt j hj
    rw [Array.getD_eq_getD_getElem?, Array.getElem?_replicate, if_pos this]; rfl
  have hnd : order.Nodup := hpw.imp fun h => h.1
  have hlen : order.length = ops.size := by
    have h1 : order.Perm (List.range ops.size) := by
      rw [List.perm_ext_iff_of_nodup hnd List.nodup_range]
      intro j
      rw [List.mem_range]
      exact ⟨hlt j, fun hj => by have := List.all_eq_true.1 hd'.2 j (List.mem_range.2 hj); simpa using this⟩
    simpa using h1.length_eq
  refine wpAny_sound ops.size t _ a w (anyR_sound (K := K) (bs := bs) hT hd (c0 := c) (w0 := w) (fun a' w' hp => hQ a' w' ?_) ops.size _ (by simp) ?_ (by rw [hun]; exact hlen) (Ext.refl hs.hr) hs ?_)
  · obtain ⟨c', s', hK, hs', he⟩ := hp
    exact ⟨c', s', hK, hs', he⟩
  · intro q o _ hq
    rw [hget] at hq; cases hq
  · rw [hun]; exact h

/-! ### An order, found by program -/
end
/-- Heaps that tell the same. -/
theorem re_same {n : Nat} {t : List LV} {h1 h : LH} (he : ∀ b B, hget h b = some B → hget h1 b = some B) : Re n ⟨t, h1, n⟩ ⟨t, h, n⟩ := by
  refine .mk fun c w c2 a w' hN hx hs => ⟨c2, hx, ⟨hs.tl, hs.tr, hs.df, ⟨fun b B hb => hs.hr.live b B (he b B hb), hs.hr.fresh, hs.hr.inj, hs.hr.noX, hs.hr.ltX, hs.hr.lt⟩, hs.nn⟩⟩
theorem renH_some {ρ : List (Nat × Nat)} {n0 n : Nat} : ∀ {h0 : LH} {a b : Nat} {A : LB}, hget h0 a = some A → rn ρ n0 n a = some b → ∃ B, hget (renH ρ n0 n h0) b = some B
  | [], _, _, _, h, _ => by cases h
  | (d, D) :: h0, a, b, A, h, hr => by
    rw [hget_cons] at h
    rw [renH]
    by_cases e : d = a
    · subst e
      rw [hr]
      exact ⟨_, by rw [hget_cons, if_pos rfl]⟩
    · rw [if_neg e] at h
      obtain ⟨B, hB⟩ := renH_some h hr
      cases hd : rn ρ n0 n d with
      | none => exact ⟨B, hB⟩
      | some d' =>
        dsimp only
        rw [hget_cons]
        by_cases e2 : d' = b
        · rw [if_pos e2]; exact ⟨_, rfl⟩
        · rw [if_neg e2]; exact ⟨B, hB⟩
theorem hdels_not : ∀ (ρ : List (Nat × Nat)) (h : LH) (b : Nat), nback ρ b = none → hget (hdels ρ h) b = hget h b
  | [], _, _, _ => rfl
  | (x, y) :: ρ, h, b, hn => by
    rw [nback_cons] at hn
    split at hn
    · cases hn
    · rename_i e
      rw [hdels, hget_del, if_neg (fun q => e q.symm)]
      exact hdels_not ρ h b hn
theorem nback_mem : ∀ {ρ : List (Nat × Nat)} {a b : Nat}, nback ρ b = some a → (a, b) ∈ ρ
  | [], _, _, h => by cases h
  | (x, y) :: ρ, a, b, h => by
    rw [nback_cons] at h
    split at h
    · rename_i e
      cases h
      subst e
      exact List.mem_cons_self
    · exact List.mem_cons_of_mem _ (nback_mem h)
theorem frameH_same {ρ : List (Nat × Nat)} {n0 n : Nat} {h h0 : LH} (hF : fok n0 n ρ = true) (hm : hmapOk ρ n0 n h h0) (hall : ρ.all (fun p => (hget h0 p.1).isSome) = true) : ∀ b B, hget h b = some B → hget (frameH ρ n0 n h h0) b = some B := by
  intro b B hb
  have hF' := fok_ok hF
  unfold frameH
  rw [hget_happ]
  cases e : hget (renH ρ n0 n h0) b with
  | some B' =>
    dsimp only
    obtain ⟨a, A, k1, k2, k3⟩ := hget_renH hF' h0 b B' e
    obtain ⟨b', g1, g2, _⟩ := hmapOk_get hm a A k2
    have : rn ρ n0 n a = some b' := by unfold rn; rw [g1]
    obtain rfl : b' = b := Option.some.inj (this.symm.trans k1)
    rw [k3]
    exact g2.symm.trans hb
  | none =>
    dsimp only
    cases en : nback ρ b with
    | none => rw [hdels_not ρ h b en]; exact hb
    | some a =>
      have hab := nback_mem en
      have := List.all_eq_true.1 hall _ hab
      obtain ⟨A, hA⟩ := Option.isSome_iff_exists.1 this
      obtain ⟨b', g1, _, _⟩ := hmapOk_get hm a A hA
      have hr : rn ρ n0 n a = some b := by
        unfold rn
        rw [(hF'.iff a b).2 en]
      obtain ⟨B', hB'⟩ := renH_some hA hr
      rw [e] at hB'; cases hB'
theorem callF_read {P : Unit → Program} {f : Nat} {args0 args : List LV} {h0 h : LH} {n0 n : Nat} {u0 u : LV} (hc : CallF P f args0 h0 n0 fun r h1 n1 => r = u0 ∧ h1 = h0 ∧ n1 = n0) (ρ : List (Nat × Nat)) (hF : fok n0 n ρ = true) (hm : hmapOk ρ n0 n h h0) (ha : args = renVs ρ n0 n args0) (hok : okVs ρ args0 = true) (hu : u = renV ρ n0 n u0) (hall : ρ.all (fun p => (hget h0 p.1).isSome) = true) : CallF P f args h n fun r h2 n2 => r = u ∧ h2 = h ∧ n2 = n := by
  refine CallF.ret (callF_frame (K := fun r h1 n1 => r = u ∧ h1 = frameH ρ n0 n h h0 ∧ n1 = n) hc ρ hF hm ha hok (fun r h' n' ⟨e1, e2, e3⟩ => ?_)) (fun r h' n' ⟨e1, e2, e3⟩ => ?_)
  · subst e1 e2 e3
    exact ⟨hu.symm, rfl, by omega⟩
  · subst e1 e2 e3
    exact .mk [r] h n' (re_same (frameH_same hF hm hall)) rfl ⟨rfl, rfl, rfl⟩
end Go.LX
/-
  Who waits at a channel: All.
-/
namespace Go.Proofs.YtmcljlflcbdpiaaGreatDoor

open Go Go.LX
set_option maxRecDepth 100000
set_option linter.unusedVariables false
set_option linter.unusedSimpArgs false

theorem lends_lx (y0 y1 y2 y3 y4 y5 y6 y7 y8 : Int) (d : Bool) : CallF (fun _ => Tryz.prog) 46 [.agg [.p (.int .i64 (.sym y0)), .p (.int .i64 (.sym y1)), .p (.int .i64 (.sym y2)), .p (.int .i64 (.sym y3)), .p (.int .i64 (.sym y4)), .p (.int .i64 (.sym y5)), .p (.int .i64 (.sym y6)), .p (.int .i64 (.sym y7)), .p (.int .i64 (.sym y8))], .p (.bool d)] [] 0 (fun r h n => (∃ a b : Int, r = .tup [.p (.int .i64 (.sym a)), .p (.int .i64 (.sym b))] ∧ a = (if d then y7 else y5) ∧ b = (if d then y8 else y6)) ∧ h = [] ∧ n = 0) := by
  cases d with
  | false =>
    refine callF_of_body tok Tryz.func46 (by kernel_rfl) rfl rfl rfl ?_; conv => cbv
    refine drawn_sound tok (by kernel_rfl) [] [0, 1, 2, 3, 4, 5] (by kernel_rfl) ?_; conv => cbv
    refine RetF.mk [.p (.int .i64 (.sym y5)), .p (.int .i64 (.sym y6))] [] 0 (Re.at [] []) rfl ⟨⟨y5, y6, rfl, rfl, rfl⟩, rfl, rfl⟩
  | true =>
    refine callF_of_body tok Tryz.func46 (by kernel_rfl) rfl rfl rfl ?_; conv => cbv
    refine drawn_sound tok (by kernel_rfl) [] [0, 1, 2, 3, 4, 5] (by kernel_rfl) ?_; conv => cbv
    refine RetF.mk [.p (.int .i64 (.sym y7)), .p (.int .i64 (.sym y8))] [] 0 (Re.at [] []) rfl ⟨⟨y7, y8, rfl, rfl, rfl⟩, rfl, rfl⟩
inductive Wtg (M : Hp) (a : Int) : LV → Prop
  | is (y0 y1 y2 y3 y4 y5 y6 : Int) (h : M a = some (3, [y0, y1, y2, y3, y4, y5, y6])) : Wtg M a (.iface 44 (.agg [.p (.int .i64 (.sym y0)), .p (.int .i64 (.sym y1)), .p (.int .i64 (.sym y2)), .p (.int .i64 (.sym y3)), .p (.int .i64 (.sym y4)), .p (.int .i64 (.sym y5)), .p (.int .i64 (.sym y6))]))
  | no (h : ∀ F, M a ≠ some (3, F)) : Wtg M a (.iface 137 (.agg []))
theorem waiting_lx (R : List Rw) (ws C G : List Int) (N W ph sp cy : Int) (L D Q : List PV) (z : ByteArray) (ov : Bool) (h : HM R ws C G N W L D Q z) (M : Hp) (hM : Cont R ws M) (a : Int) (hs : ∀ F, M a = some (3, F) → ∃ y0 y1 y2 y3 y4 y5 y6, F = [y0, y1, y2, y3, y4, y5, y6]) : CallF (fun _ => Tryz.prog) 50 [.ptr 0 (.lit 0), .p (.int .i64 (.sym a))] [(0, .mix [.ptr 1 (.lit 0), .ptr 5 (.lit 0), .sl 6 3 1 (.lit 0) (.sym W), .p (.int .i64 (.sym ph)), .p (.int .i64 (.sym sp)), .p (.int .i64 (.sym cy))]), (1, .mix [.ptr 2 (.lit 0), .sl 4 3 1 (.lit 0) (.sym W)]), (2, .mix [.sl 3 201 2 (.lit 0) (.sym N)]), (3, .pure true L), (4, .pure true D), (5, .pure false [.str fun _ => z, .bool ov]), (6, .pure true Q)] 7 (fun r h n => Wtg M a r ∧ h = [(0, .mix [.ptr 1 (.lit 0), .ptr 5 (.lit 0), .sl 6 3 1 (.lit 0) (.sym W), .p (.int .i64 (.sym ph)), .p (.int .i64 (.sym sp)), .p (.int .i64 (.sym cy))]), (1, .mix [.ptr 2 (.lit 0), .sl 4 3 1 (.lit 0) (.sym W)]), (2, .mix [.sl 3 201 2 (.lit 0) (.sym N)]), (3, .pure true L), (4, .pure true D), (5, .pure false [.str fun _ => z, .bool ov]), (6, .pure true Q)] ∧ n = 7) := by
  by_cases hq : ∃ F, M a = some (3, F)
  · obtain ⟨F, hF⟩ := hq
    obtain ⟨y0, y1, y2, y3, y4, y5, y6, rfl⟩ := hs F hF
    refine callF_of_body tok Tryz.func50 (by kernel_rfl) rfl rfl rfl ?_; conv => cbv
    refine callF_frame (sudogM_lx R ws C G N W ph sp cy L D Q z ov h M hM a y0 y1 y2 y3 y4 y5 y6 hF) [(0, 0), (1, 1), (2, 2), (3, 3), (4, 4), (5, 5), (6, 6)] rfl (by simp [hmapOk, nget, hget, renB, okB, renV, renVs, rn, okVs, okV]) rfl rfl (fun r h' n' hrr => ?_)
    obtain ⟨⟨e, e1, he⟩, e2, e3⟩ := hrr
    subst e1 e2 e3
    conv => cbv
    refine Br.no (show ¬ ¬ (e = 0) from fun q => q he) ?_
    conv => cbv
    refine RetF.mk [.iface 44 (.agg [.p (.int .i64 (.sym y0)), .p (.int .i64 (.sym y1)), .p (.int .i64 (.sym y2)), .p (.int .i64 (.sym y3)), .p (.int .i64 (.sym y4)), .p (.int .i64 (.sym y5)), .p (.int .i64 (.sym y6))])] [(0, .mix [.ptr 1 (.lit 0), .ptr 5 (.lit 0), .sl 6 3 1 (.lit 0) (.sym W), .p (.int .i64 (.sym ph)), .p (.int .i64 (.sym sp)), .p (.int .i64 (.sym cy))]), (1, .mix [.ptr 2 (.lit 0), .sl 4 3 1 (.lit 0) (.sym W)]), (2, .mix [.sl 3 201 2 (.lit 0) (.sym N)]), (3, .pure true L), (4, .pure true D), (5, .pure false [.str fun _ => z, .bool ov]), (6, .pure true Q)] 7 (Re.at [(0, 0), (1, 1), (2, 2), (3, 3), (4, 4), (5, 5), (6, 6)] []) rfl ⟨.is y0 y1 y2 y3 y4 y5 y6 hF, rfl, rfl⟩
  · have hno : ∀ F, M a ≠ some (3, F) := fun F e => hq ⟨F, e⟩
    refine callF_of_body tok Tryz.func50 (by kernel_rfl) rfl rfl rfl ?_; conv => cbv
    refine callF_frame (sudogNoM_lx R ws C G N W ph sp cy L D Q z ov h M hM a hno) [(0, 0), (1, 1), (2, 2), (3, 3), (4, 4), (5, 5), (6, 6)] rfl (by simp [hmapOk, nget, hget, renB, okB, renV, renVs, rn, okVs, okV]) rfl rfl (fun r h' n' hrr => ?_)
    obtain ⟨⟨y0, y1, y2, y3, y4, y5, y6, e, e1, he, hz⟩, e2, e3⟩ := hrr
    subst e1 e2 e3
    conv => cbv
    refine Br.yes (show ¬ (e = 0) by omega) ?_
    conv => cbv
    refine RetF.mk [.iface 137 (.agg [])] [(0, .mix [.ptr 1 (.lit 0), .ptr 5 (.lit 0), .sl 6 3 1 (.lit 0) (.sym W), .p (.int .i64 (.sym ph)), .p (.int .i64 (.sym sp)), .p (.int .i64 (.sym cy))]), (1, .mix [.ptr 2 (.lit 0), .sl 4 3 1 (.lit 0) (.sym W)]), (2, .mix [.sl 3 201 2 (.lit 0) (.sym N)]), (3, .pure true L), (4, .pure true D), (5, .pure false [.str fun _ => z, .bool ov]), (6, .pure true Q)] 7 (Re.at [(0, 0), (1, 1), (2, 2), (3, 3), (4, 4), (5, 5), (6, 6)] []) rfl ⟨.no hno, rfl, rfl⟩
theorem nodup_len {l : List Int} {n : Nat} (hn : l.Nodup) (hb : ∀ x ∈ l, 0 ≤ x ∧ x < n) : l.length ≤ n := by
  have := nodup_le (l := l) (m := (List.range n).map fun (i : Nat) => (i : Int)) hn fun x hx => by
    obtain ⟨h0, h1⟩ := hb x hx
    exact List.mem_map.2 ⟨x.toNat, List.mem_range.2 (by omega), by omega⟩
  simpa using this
theorem Sys.len {M : Hp} {q : Qs} {R : List Rw} {ws : List Int} (hA : AOk R ws) (hM : Cont R ws M) (hY : Sys M q) (c : Int) (d : Bool) : (q c d).length ≤ 32 * R.length := by
  refine nodup_len (hY.nd c d) fun x hx => ?_
  obtain ⟨g, w, n, p, r, m, e⟩ := hY.sg c d x hx
  have := hM.len hA e
  simp at this
  omega
theorem neg_none {M : Hp} {R : List Rw} {ws : List Int} (hA : AOk R ws) (hM : Cont R ws M) : M (-1) = none := by
  cases h : M (-1) with
  | none => rfl
  | some v => have := hM.len hA (k := v.1) (F := v.2) h; omega
set_option maxHeartbeats 8000000 in
theorem listAll_lx (R : List Rw) (ws C G : List Int) (N W ph sp cy : Int) (L D Q : List PV) (z : ByteArray) (ov : Bool) (h : HM R ws C G N W L D Q z) (M : Hp) (hM : Cont R ws M) (q : Qs) (hY : Sys M q) (c : Int) (d : Bool) (hch : ∀ F, M c = some (1, F) → ∃ y0 y1 y2 y3 y4 y5 y6 y7 y8, F = [y0, y1, y2, y3, y4, y5, y6, y7, y8]) (hsu : ∀ a F, M a = some (3, F) → ∃ y0 y1 y2 y3 y4 y5 y6, F = [y0, y1, y2, y3, y4, y5, y6]) : CallF (fun _ => Tryz.prog) 17 [.ptr 0 (.lit 0), .p (.int .i64 (.sym c)), .p (.bool d)] [(0, .mix [.ptr 1 (.lit 0), .ptr 5 (.lit 0), .sl 6 3 1 (.lit 0) (.sym W), .p (.int .i64 (.sym ph)), .p (.int .i64 (.sym sp)), .p (.int .i64 (.sym cy))]), (1, .mix [.ptr 2 (.lit 0), .sl 4 3 1 (.lit 0) (.sym W)]), (2, .mix [.sl 3 201 2 (.lit 0) (.sym N)]), (3, .pure true L), (4, .pure true D), (5, .pure false [.str fun _ => z, .bool ov]), (6, .pure true Q)] 7 (fun r h n => ∃ (m : Int) (cells : List PV), r = .sl 7 3 1 (.lit 0) (.sym m) ∧ h = [(0, .mix [.ptr 1 (.lit 0), .ptr 5 (.lit 0), .sl 6 3 1 (.lit 0) (.sym W), .p (.int .i64 (.sym ph)), .p (.int .i64 (.sym sp)), .p (.int .i64 (.sym cy))]), (1, .mix [.ptr 2 (.lit 0), .sl 4 3 1 (.lit 0) (.sym W)]), (2, .mix [.sl 3 201 2 (.lit 0) (.sym N)]), (3, .pure true L), (4, .pure true D), (5, .pure false [.str fun _ => z, .bool ov]), (6, .pure true Q), (7, .pure true cells)] ∧ n = 8 ∧ m = (q c d).length ∧ cells = ipv (q c d)) := by
  have hlen := hY.len h.a hM c d
  have hNR := h.n; have hRr := h.r
  by_cases hq : ∃ F, M c = some (1, F)
  · obtain ⟨F, hF⟩ := hq
    obtain ⟨y0, y1, y2, y3, y4, y5, y6, y7, y8, rfl⟩ := hch F hF
    refine callF_of_body tok Tryz.func17 (by kernel_rfl) rfl rfl rfl ?_; conv => cbv
    refine callF_frame (chanM_lx R ws C G N W ph sp cy L D Q z ov h M hM c y0 y1 y2 y3 y4 y5 y6 y7 y8 hF) [(0, 0), (1, 1), (2, 2), (3, 3), (4, 4), (5, 5), (6, 6)] rfl (by simp [hmapOk, nget, hget, renB, okB, renV, renVs, rn, okVs, okV]) rfl rfl (fun r h' n' hrr => ?_)
    obtain ⟨⟨e, e1, he⟩, e2, e3⟩ := hrr
    subst e1 e2 e3
    conv => cbv
    refine Br.no (show ¬ ¬ (e = 0) from fun q => q he) ?_
    conv => cbv
    refine callF_frame (lends_lx y0 y1 y2 y3 y4 y5 y6 y7 y8 d) [] rfl trivial rfl rfl (fun r h' n' hrr => ?_)
    obtain ⟨⟨at0, at1, e1, hat0, hat1⟩, e2, e3⟩ := hrr
    subst e1 e2 e3
    conv => cbv
    have hlk := hY.lnk hF
    rw [lnk_chan] at hlk
    simp only [Prod.mk.injEq, List.cons.injEq, true_and, and_true] at hlk
    obtain ⟨hl5, hl6, hl7, hl8⟩ := hlk
    obtain ⟨l0, hl0⟩ : ∃ l0, l0 = q c d := ⟨_, rfl⟩
    have hat : at0 = (l0[0]?).getD (-1) := by
      have hh : hdQ l0 = (l0[0]?).getD (-1) := by unfold hdQ; rw [List.head?_eq_getElem?]
      rw [hat0, ← hh, hl0]
      cases d with
      | false => exact hl5.symm
      | true => exact hl7.symm
    rw [← hl0] at hlen ⊢
    have hnd : l0.Nodup := hl0 ▸ hY.nd c d
    have hneg := neg_none h.a hM
    refine LoopF.mk (fun kk s => ∃ (i at_ : Int) (dn : List Int) (cells : List PV), s = ⟨.ptr 0 (.lit 0) :: (undefs 8 ++ .sl 9 3 1 (.lit 0) (.sym i) :: .mp 8 :: .p (.int .i64 (.sym at_)) :: undefs 48), [(0, .mix [.ptr 1 (.lit 0), .ptr 5 (.lit 0), .sl 6 3 1 (.lit 0) (.sym W), .p (.int .i64 (.sym ph)), .p (.int .i64 (.sym sp)), .p (.int .i64 (.sym cy))]), (1, .mix [.ptr 2 (.lit 0), .sl 4 3 1 (.lit 0) (.sym W)]), (2, .mix [.sl 3 201 2 (.lit 0) (.sym N)]), (3, .pure true L), (4, .pure true D), (5, .pure false [.str fun _ => z, .bool ov]), (6, .pure true Q), (8, .set dn), (9, .pure true cells)], 10⟩ ∧ 0 ≤ i ∧ i ≤ l0.length ∧ kk = ((l0.length : Int) - i).toNat ∧ dn = l0.take i.toNat ∧ cells = ipv dn ∧ at_ = (l0[i.toNat]?).getD (-1)) l0.length _
      (Re.at [(0, 0), (1, 1), (2, 2), (3, 3), (4, 4), (5, 5), (6, 6), (8, 8)] [9]) ⟨0, at0, [], [], rfl, by omega, by omega, by omega, rfl, rfl, hat⟩ ?_
    rintro kk s ⟨i, at_, dn, cells, rfl, hi0, hi1, hkk, hdn, hcs, hat_⟩
    have hi1 : i ≤ (l0.length : Int) := hi1
    have hkk : kk = ((l0.length : Int) - i).toNat := hkk
    have hdl : dn.length = i.toNat := by rw [hdn, List.length_take]; omega
    conv => cbv
    refine callF_frame (waiting_lx R ws C G N W ph sp cy L D Q z ov h M hM at_ (hsu at_)) [(0, 0), (1, 1), (2, 2), (3, 3), (4, 4), (5, 5), (6, 6)] rfl (by simp [hmapOk, nget, hget, renB, okB, renV, renVs, rn, okVs, okV]) rfl rfl (fun r h' n' hrr => ?_)
    obtain ⟨hW, e2, e3⟩ := hrr
    subst e2 e3
    cases hW with
    | is z0 z1 z2 z3 z4 z5 z6 hz =>
      have hil : i < (l0.length : Int) := by
        rcases Int.lt_or_le i l0.length with h1 | h1
        · exact h1
        · rw [List.getElem?_eq_none (by omega)] at hat_
          rw [show at_ = -1 from hat_, hneg] at hz
          cases hz
      obtain ⟨x, hx⟩ : ∃ x, l0[i.toNat]? = some x := ⟨_, List.getElem?_eq_getElem (by omega)⟩
      obtain rfl : at_ = x := by rw [hat_, hx]; rfl
      have hni : at_ ∉ dn := by
        rw [hdn]
        intro hm
        obtain ⟨k, hk⟩ := List.getElem?_of_mem hm
        rw [List.getElem?_take] at hk
        split at hk
        · rename_i hkl
          have := (List.getElem?_inj (by have := (List.getElem?_eq_some_iff.1 hk).1; omega) hnd).1 (hk.trans hx.symm)
          omega
        · cases hk
      conv => cbv
      refine Br.no (show ¬ (at_ ∈ dn) from hni) ?_
      conv => cbv
      have hcl : cells.length = dn.length := by rw [hcs, ipv_length]
      refine Room.new rfl ?_
      conv => cbv
      refine Room.new ⟨?_, ?_, ?_⟩ ?_
      · show (cells.length : Int) = i * 1; omega
      · show (i + 1) * 8 ≤ 140737488355328; omega
      · show i + 1 ≤ 9223372036854775807; omega
      conv => cbv
      refine Upd.mk fun cells2 hcs2 => ?_
      have hcs2 : cells2 = cells ++ [.int .i64 (.sym at_)] := hcs2
      have hcs3 : cells2 = ipv (dn ++ [at_]) := by rw [hcs2, hcs, ← ipv_app]; rfl
      conv => cbv
      refine Sum.mk fun j2 hj2 => ?_
      have hj2 : j2 = i + 1 := hj2
      conv => cbv
      refine Need.mk (show ¬ (at_ ∈ dn) from hni) ?_
      conv => cbv
      refine UpdI.mk fun dn2 hdn2 => ?_
      have hdn2 : dn2 = dn ++ [at_] := hdn2
      have hdn3 : dn2 = l0.take j2.toNat := by rw [hdn2, hdn, show j2.toNat = i.toNat + 1 by omega, List.take_add_one, hx]; rfl
      have hnx : z3 = (l0[j2.toNat]?).getD (-1) := by
        have h1 := hY.lnk hz
        have hsm : at_ ∈ q c d := hl0 ▸ List.mem_of_getElem? hx
        obtain ⟨g, w, n, p, r, m, e⟩ := hY.sg c d at_ hsm
        rw [hz] at e
        simp only [Option.some.injEq, Prod.mk.injEq, List.cons.injEq, true_and, and_true] at e
        obtain ⟨_, ec, _⟩ := e
        rw [lnk_sudog, ec, hY.nxt hsm, sucL_get _ _ (hY.nd c d) (hl0 ▸ hx)] at h1
        simp only [Prod.mk.injEq, List.cons.injEq, true_and, and_true] at h1
        rw [show j2.toNat = i.toNat + 1 by omega, hl0]
        exact h1.symm
      conv => cbv
      refine Again.mk ((l0.length : Int) - j2).toNat _ (by omega) (Re.at [(0, 0), (1, 1), (2, 2), (3, 3), (4, 4), (5, 5), (6, 6), (8, 8), (13, 9)] []) ⟨j2, z3, dn2, cells2, rfl, (show (0 : Int) ≤ j2 by omega), (show j2 ≤ (l0.length : Int) by omega), rfl, hdn3, by rw [hcs3, hdn2], hnx⟩
    | no hz =>
      have hil : i = (l0.length : Int) := by
        rcases Int.lt_or_le i l0.length with h1 | h1
        · obtain ⟨x, hx⟩ : ∃ x, l0[i.toNat]? = some x := ⟨_, List.getElem?_eq_getElem (by omega)⟩
          obtain ⟨g, w, n, p, r, m, e⟩ := hY.sg c d x (hl0 ▸ List.mem_of_getElem? hx)
          rw [hat_, hx] at hz
          exact absurd e (hz _)
        · omega
      have hdn2 : dn = l0 := by rw [hdn, hil]; simp
      conv => cbv
      refine Br.mk (fun gq => ?_) (fun gq => ?_)
      · conv => cbv
        refine RetF.mk [.sl 7 3 1 (.lit 0) (.sym i)] [(0, .mix [.ptr 1 (.lit 0), .ptr 5 (.lit 0), .sl 6 3 1 (.lit 0) (.sym W), .p (.int .i64 (.sym ph)), .p (.int .i64 (.sym sp)), .p (.int .i64 (.sym cy))]), (1, .mix [.ptr 2 (.lit 0), .sl 4 3 1 (.lit 0) (.sym W)]), (2, .mix [.sl 3 201 2 (.lit 0) (.sym N)]), (3, .pure true L), (4, .pure true D), (5, .pure false [.str fun _ => z, .bool ov]), (6, .pure true Q), (7, .pure true cells)] 8 (Re.at [(0, 0), (1, 1), (2, 2), (3, 3), (4, 4), (5, 5), (6, 6), (9, 7)] []) rfl ⟨i, cells, rfl, rfl, rfl, hil, by rw [hcs, hdn2]⟩
      · conv => cbv
        refine RetF.mk [.sl 7 3 1 (.lit 0) (.sym i)] [(0, .mix [.ptr 1 (.lit 0), .ptr 5 (.lit 0), .sl 6 3 1 (.lit 0) (.sym W), .p (.int .i64 (.sym ph)), .p (.int .i64 (.sym sp)), .p (.int .i64 (.sym cy))]), (1, .mix [.ptr 2 (.lit 0), .sl 4 3 1 (.lit 0) (.sym W)]), (2, .mix [.sl 3 201 2 (.lit 0) (.sym N)]), (3, .pure true L), (4, .pure true D), (5, .pure false [.str fun _ => z, .bool ov]), (6, .pure true Q), (7, .pure true cells)] 8 (Re.at [(0, 0), (1, 1), (2, 2), (3, 3), (4, 4), (5, 5), (6, 6), (9, 7)] []) rfl ⟨i, cells, rfl, rfl, rfl, hil, by rw [hcs, hdn2]⟩
  · have hno : ∀ F, M c ≠ some (1, F) := fun F e => hq ⟨F, e⟩
    have hqe : q c d = [] := hY.none hno d
    refine callF_of_body tok Tryz.func17 (by kernel_rfl) rfl rfl rfl ?_; conv => cbv
    refine callF_frame (chanNoM_lx R ws C G N W ph sp cy L D Q z ov h M hM c hno) [(0, 0), (1, 1), (2, 2), (3, 3), (4, 4), (5, 5), (6, 6)] rfl (by simp [hmapOk, nget, hget, renB, okB, renV, renVs, rn, okVs, okV]) rfl rfl (fun r h' n' hrr => ?_)
    obtain ⟨⟨y0, y1, y2, y3, y4, y5, y6, y7, y8, e, e1, he, hz⟩, e2, e3⟩ := hrr
    subst e1 e2 e3
    conv => cbv
    refine Br.yes (show ¬ (e = 0) by omega) ?_
    conv => cbv
    refine RetF.mk [.sl 7 3 1 (.lit 0) (.sym 0)] [(0, .mix [.ptr 1 (.lit 0), .ptr 5 (.lit 0), .sl 6 3 1 (.lit 0) (.sym W), .p (.int .i64 (.sym ph)), .p (.int .i64 (.sym sp)), .p (.int .i64 (.sym cy))]), (1, .mix [.ptr 2 (.lit 0), .sl 4 3 1 (.lit 0) (.sym W)]), (2, .mix [.sl 3 201 2 (.lit 0) (.sym N)]), (3, .pure true L), (4, .pure true D), (5, .pure false [.str fun _ => z, .bool ov]), (6, .pure true Q), (7, .pure true [])] 8 (Re.at [(0, 0), (1, 1), (2, 2), (3, 3), (4, 4), (5, 5), (6, 6)] [7]) rfl ⟨0, [], rfl, rfl, rfl, by rw [hqe]; rfl, by rw [hqe]; rfl⟩
end Go.Proofs.YtmcljlflcbdpiaaGreatDoor
/-
  Rings by their places, while nothing is marked.
-/
namespace Go.Proofs.YtmcljlflcbdpiaaGreatDoor

open Go Go.LX
set_option maxRecDepth 100000
set_option linter.unusedVariables false
set_option linter.unusedSimpArgs false

theorem ringPutM {R : List Rw} {ws : List Int} {M : Hp} (hA : AOk R ws) (hM : Cont R ws M) {ph c w e cp cl k s b th tt sh st : Int} {c0 : List Int × List Int × Bool} {s' : St4} (hph : ph = 0) (hMc : M c = some (1, [cp, cl, k, s, b, th, tt, sh, st])) (hw : -9223372036854775808 ≤ w ∧ w ≤ 9223372036854775807) (hk : 0 ≤ k) (hs : 0 ≤ s) (h : RPut R ph c w (ws, c0) e s') : s'.2 = c0 ∧
    (cp ≤ 0 ∧ e = 9 ∧ s'.1 = ws ∨ ∀ X, M b = some (2, X) → (X.length : Int) = cp → (¬ k < cp ∧ e = 9 ∧ s'.1 = ws) ∨ (0 < cp ∧ k < cp ∧ e = 0 ∧ Cont R s'.1 (upd (upd M b (2, X.set ((s % cp + k) % cp).toNat w)) c (1, [cp, cl, k + 1, s, b, th, tt, sh, st])))) := by
  generalize hs0 : (ws, c0) = s0 at h
  have hKc := hM.kept hMc
  obtain ⟨hp, hb⟩ := hM.chan hA hMc
  cases h with
  | no hh => subst hs0; exact absurd hKc hh
  | full X0 y0 y1 y2 y3 y4 y5 y6 y7 y8 hh hX0 hy hf =>
    subst hs0
    refine ⟨rfl, ?_⟩
    have hy2 : chanFs X0 = [cp, cl, k, s, b, th, tt, sh, st] := (hM.tr hMc rfl rfl (TR.ok X0 hh hX0)).2
    rw [hy2] at hy
    simp only [List.cons.injEq, and_true] at hy
    obtain ⟨rfl, rfl, rfl, rfl, rfl, rfl, rfl, rfl, rfl⟩ := hy
    by_cases q : y0 ≤ 0
    · exact .inl ⟨q, rfl, rfl⟩
    · refine .inr fun X hMb hX => .inl ⟨fun q2 => hf ⟨⟨by omega, ?_⟩, by omega⟩, rfl, rfl⟩
      have := hM.kept hMb
      rw [hX] at this
      exact this
  | ok X0 y0 y1 y2 y3 y4 y5 y6 y7 y8 hh hX0 hy h0 hK hf f _ ws1 c1 _ hst hc hP =>
    subst hs0
    have hy2 : chanFs X0 = [cp, cl, k, s, b, th, tt, sh, st] := (hM.tr hMc rfl rfl (TR.ok X0 hh hX0)).2
    rw [hy2] at hy
    simp only [List.cons.injEq, and_true] at hy
    obtain ⟨rfl, rfl, rfl, rfl, rfl, rfl, rfl, rfl, rfl⟩ := hy
    have hc1 : c1 = c0 := hc.trans (storeS_idle hph _)
    have hP2 := hP.idle hph
    refine ⟨hP2.trans hc1, .inr fun X hMb hX => .inr ⟨h0, by omega, ?_⟩⟩
    have e1 : max y3 0 = y3 := by omega
    have e2 : max y2 0 = y2 := by omega
    rw [e1, e2] at hst
    rw [e2] at hP
    have hA1 : AOk R ws1 := hA.stored hw hst
    have hi0 := Int.emod_nonneg (y3 % y0 + y2) (show y0 ≠ 0 by omega)
    have hi1 := Int.emod_lt_of_pos (y3 % y0 + y2) h0
    obtain ⟨_, hM1⟩ := hM.store hA hMb ⟨by decide, by decide, by decide⟩ ⟨hi0, by omega⟩ hw hst
    have hcb : c ≠ y4 := fun q => by rw [q, hMb] at hMc; cases hMc
    have hb' : ∀ x ∈ [y0, y1, y2 + 1, y3, y4, y5, y6, y7, y8], b62 x := by
      have hlen := hM.len hA hMb
      simp only [List.forall_mem_cons] at hb ⊢
      obtain ⟨q0, q1, q2, q3, q4, q5, q6, q7, q8, _⟩ := hb
      exact ⟨q0, q1, by unfold b62; omega, q3, q4, q5, q6, q7, q8, fun x hx => by cases hx⟩
    exact Cont.put (ph := ph) (F' := [y0, y1, y2 + 1, y3, y4, y5, y6, y7, y8]) hM1 hA1 ((upd_ne hcb).trans hMc) rfl rfl (FOk.chan hp) rfl (chanWs_bd _ _ _ _ _ _ _ _ _ hb') hP
theorem ringTakeM {R : List Rw} {ws : List Int} {M : Hp} (hA : AOk R ws) (hM : Cont R ws M) {ph c v e cp cl k s b th tt sh st : Int} {c0 : List Int × List Int × Bool} {s' : St4} (hph : ph = 0) (hMc : M c = some (1, [cp, cl, k, s, b, th, tt, sh, st])) (hs : 0 ≤ s) (h : RTake R ph c (ws, c0) v e s') : s'.2 = c0 ∧
    ((cp ≤ 0 ∨ k ≤ 0) ∧ e = 8 ∧ v = 0 ∧ s'.1 = ws ∨ ∀ X, M b = some (2, X) → (X.length : Int) = cp → k ≤ cp → (0 < cp ∧ 0 < k ∧ e = 0 ∧ X[(s % cp).toNat]? = some v ∧ Cont R s'.1 (upd (upd M b (2, X.set (s % cp).toNat 0)) c (1, [cp, cl, k - 1, (s % cp + 1) % cp, b, th, tt, sh, st])))) := by
  generalize hs0 : (ws, c0) = s0 at h
  have hKc := hM.kept hMc
  obtain ⟨hp, hb⟩ := hM.chan hA hMc
  cases h with
  | no hh => subst hs0; exact absurd hKc hh
  | none X0 y0 y1 y2 y3 y4 y5 y6 y7 y8 hh hX0 hy hf =>
    subst hs0
    refine ⟨rfl, ?_⟩
    have hy2 : chanFs X0 = [cp, cl, k, s, b, th, tt, sh, st] := (hM.tr hMc rfl rfl (TR.ok X0 hh hX0)).2
    rw [hy2] at hy
    simp only [List.cons.injEq, and_true] at hy
    obtain ⟨rfl, rfl, rfl, rfl, rfl, rfl, rfl, rfl, rfl⟩ := hy
    by_cases q : y0 ≤ 0 ∨ y2 ≤ 0
    · exact .inl ⟨q, rfl, rfl, rfl⟩
    · refine .inr fun X hMb hX hkc => absurd ⟨⟨by omega, ?_⟩, by omega⟩ hf
      have := hM.kept hMb
      rw [hX] at this
      exact this
  | ok X0 y0 y1 y2 y3 y4 y5 y6 y7 y8 hh hX0 hy h0 hK hf _ g f _ ws1 c1 _ hl hst hc hP =>
    subst hs0
    have hy2 : chanFs X0 = [cp, cl, k, s, b, th, tt, sh, st] := (hM.tr hMc rfl rfl (TR.ok X0 hh hX0)).2
    rw [hy2] at hy
    simp only [List.cons.injEq, and_true] at hy
    obtain ⟨rfl, rfl, rfl, rfl, rfl, rfl, rfl, rfl, rfl⟩ := hy
    have hc1 : c1 = c0 := hc.trans (storeS_idle hph _)
    have hP2 := hP.idle hph
    refine ⟨hP2.trans hc1, .inr fun X hMb hX hkc => ⟨h0, hf, ?_⟩⟩
    have e1 : max y3 0 = y3 := by omega
    rw [e1] at hst hP hl
    have hw : -9223372036854775808 ≤ (0 : Int) ∧ (0 : Int) ≤ 9223372036854775807 := by decide
    have hA1 : AOk R ws1 := hA.stored hw hst
    have hi0 := Int.emod_nonneg y3 (show y0 ≠ 0 by omega)
    have hi1 := Int.emod_lt_of_pos y3 h0
    obtain ⟨yy, hyy⟩ : ∃ x, X[(y3 % y0).toNat]? = some x := ⟨_, List.getElem?_eq_getElem (by omega)⟩
    obtain ⟨hv, _⟩ := hM.load hMb ⟨by decide, by decide, by decide⟩ hi0 hyy hl
    obtain ⟨_, hM1⟩ := hM.store hA hMb ⟨by decide, by decide, by decide⟩ ⟨hi0, by omega⟩ hw hst
    have hcb : c ≠ y4 := fun q => by rw [q, hMb] at hMc; cases hMc
    have hlen := hM.len hA hMb
    have hn0 := Int.emod_nonneg (y3 % y0 + 1) (show y0 ≠ 0 by omega)
    have hn1 := Int.emod_lt_of_pos (y3 % y0 + 1) h0
    have hb' : ∀ x ∈ [y0, y1, y2 - 1, (y3 % y0 + 1) % y0, y4, y5, y6, y7, y8], b62 x := by
      simp only [List.forall_mem_cons] at hb ⊢
      obtain ⟨q0, q1, q2, q3, q4, q5, q6, q7, q8, _⟩ := hb
      exact ⟨q0, q1, by unfold b62; omega, by unfold b62; omega, q4, q5, q6, q7, q8, fun x hx => by cases hx⟩
    obtain ⟨g1, g2⟩ := Cont.put (ph := ph) (F' := [y0, y1, y2 - 1, (y3 % y0 + 1) % y0, y4, y5, y6, y7, y8]) hM1 hA1 ((upd_ne hcb).trans hMc) rfl rfl (FOk.chan hp) rfl (chanWs_bd _ _ _ _ _ _ _ _ _ hb') hP
    exact ⟨g1, by rw [hv]; exact hyy, g2⟩
end Go.Proofs.YtmcljlflcbdpiaaGreatDoor
/-
  Put, Take and All of rings, by places, while nothing is marked.
-/
namespace Go.Proofs.YtmcljlflcbdpiaaGreatDoor

open Go Go.LX
set_option maxRecDepth 100000
set_option linter.unusedVariables false
set_option linter.unusedSimpArgs false

theorem ringPutM_lx (R : List Rw) (ws C G : List Int) (N W ph sp cy : Int) (L D Q : List PV) (z : ByteArray) (ov : Bool) (h : HM R ws C G N W L D Q z) (M : Hp) (hM : Cont R ws M) (o : Unit → Obj) (ho : IsPow o) (hph : ph = 0) (c w cp cl k s b th tt sh st : Int) (hMc : M c = some (1, [cp, cl, k, s, b, th, tt, sh, st])) (hw : -9223372036854775808 ≤ w ∧ w ≤ 9223372036854775807) (hk : 0 ≤ k) (hs : 0 ≤ s) : CallF (fun _ => Tryz.prog) 57 [.ptr 0 (.lit 0), .p (.int .i64 (.sym c)), .p (.int .i64 (.sym w))] [(0, .mix [.ptr 1 (.lit 0), .ptr 5 (.lit 0), .sl 6 3 1 (.lit 0) (.sym W), .p (.int .i64 (.sym ph)), .p (.int .i64 (.sym sp)), .p (.int .i64 (.sym cy))]), (1, .mix [.ptr 2 (.lit 0), .sl 4 3 1 (.lit 0) (.sym W)]), (2, .mix [.sl 3 201 2 (.lit 0) (.sym N)]), (3, .pure true L), (4, .pure true D), (5, .pure false [.str fun _ => z, .bool ov]), (6, .pure true Q), (7, .fix 0 o)] 8 (fun r h n => ∃ (e : Int) (ws' : List Int) (D' : List PV), r = .p (.int .i64 (.sym e)) ∧ h = [(0, .mix [.ptr 1 (.lit 0), .ptr 5 (.lit 0), .sl 6 3 1 (.lit 0) (.sym W), .p (.int .i64 (.sym ph)), .p (.int .i64 (.sym sp)), .p (.int .i64 (.sym cy))]), (1, .mix [.ptr 2 (.lit 0), .sl 4 3 1 (.lit 0) (.sym W)]), (2, .mix [.sl 3 201 2 (.lit 0) (.sym N)]), (3, .pure true L), (4, .pure true D'), (5, .pure false [.str fun _ => z, .bool ov]), (6, .pure true Q), (7, .fix 0 o)] ∧ n = 8 ∧ HM R ws' C G N W L D' Q z ∧
    (cp ≤ 0 ∧ e = 9 ∧ ws' = ws ∨ ∀ X, M b = some (2, X) → (X.length : Int) = cp → (¬ k < cp ∧ e = 9 ∧ ws' = ws) ∨ (0 < cp ∧ k < cp ∧ e = 0 ∧ Cont R ws' (upd (upd M b (2, X.set ((s % cp + k) % cp).toNat w)) c (1, [cp, cl, k + 1, s, b, th, tt, sh, st]))))) :=
  (ringPut_lx R ws C G N W ph sp cy L D Q z ov h o ho c w hw).mono fun r h' n hrr => by
    obtain ⟨e, ws', C', G', ov', D', Q', z', e1, e2, e3, h1, hP⟩ := hrr
    obtain ⟨g1, g2⟩ := ringPutM h.a hM hph hMc hw hk hs hP
    obtain ⟨q1, q2, q3, q4, q5⟩ := h.still h1 g1
    rw [q3, q4, q5] at e2
    rw [q1, q2, q4, q5] at h1
    exact ⟨e, ws', D', e1, e2, e3, h1, g2⟩
theorem ringTakeM_lx (R : List Rw) (ws C G : List Int) (N W ph sp cy : Int) (L D Q : List PV) (z : ByteArray) (ov : Bool) (h : HM R ws C G N W L D Q z) (M : Hp) (hM : Cont R ws M) (o : Unit → Obj) (ho : IsPow o) (hph : ph = 0) (c cp cl k s b th tt sh st : Int) (hMc : M c = some (1, [cp, cl, k, s, b, th, tt, sh, st])) (hs : 0 ≤ s) : CallF (fun _ => Tryz.prog) 67 [.ptr 0 (.lit 0), .p (.int .i64 (.sym c))] [(0, .mix [.ptr 1 (.lit 0), .ptr 5 (.lit 0), .sl 6 3 1 (.lit 0) (.sym W), .p (.int .i64 (.sym ph)), .p (.int .i64 (.sym sp)), .p (.int .i64 (.sym cy))]), (1, .mix [.ptr 2 (.lit 0), .sl 4 3 1 (.lit 0) (.sym W)]), (2, .mix [.sl 3 201 2 (.lit 0) (.sym N)]), (3, .pure true L), (4, .pure true D), (5, .pure false [.str fun _ => z, .bool ov]), (6, .pure true Q), (7, .fix 0 o)] 8 (fun r h n => ∃ (v e : Int) (ws' : List Int) (D' : List PV), r = .tup [.p (.int .i64 (.sym v)), .p (.int .i64 (.sym e))] ∧ h = [(0, .mix [.ptr 1 (.lit 0), .ptr 5 (.lit 0), .sl 6 3 1 (.lit 0) (.sym W), .p (.int .i64 (.sym ph)), .p (.int .i64 (.sym sp)), .p (.int .i64 (.sym cy))]), (1, .mix [.ptr 2 (.lit 0), .sl 4 3 1 (.lit 0) (.sym W)]), (2, .mix [.sl 3 201 2 (.lit 0) (.sym N)]), (3, .pure true L), (4, .pure true D'), (5, .pure false [.str fun _ => z, .bool ov]), (6, .pure true Q), (7, .fix 0 o)] ∧ n = 8 ∧ HM R ws' C G N W L D' Q z ∧
    ((cp ≤ 0 ∨ k ≤ 0) ∧ e = 8 ∧ v = 0 ∧ ws' = ws ∨ ∀ X, M b = some (2, X) → (X.length : Int) = cp → k ≤ cp → (0 < cp ∧ 0 < k ∧ e = 0 ∧ X[(s % cp).toNat]? = some v ∧ Cont R ws' (upd (upd M b (2, X.set (s % cp).toNat 0)) c (1, [cp, cl, k - 1, (s % cp + 1) % cp, b, th, tt, sh, st]))))) :=
  (ringTake_lx R ws C G N W ph sp cy L D Q z ov h o ho c).mono fun r h' n hrr => by
    obtain ⟨v, e, ws', C', G', ov', D', Q', z', e1, e2, e3, h1, hP⟩ := hrr
    obtain ⟨g1, g2⟩ := ringTakeM h.a hM hph hMc hs hP
    obtain ⟨q1, q2, q3, q4, q5⟩ := h.still h1 g1
    rw [q3, q4, q5] at e2
    rw [q1, q2, q4, q5] at h1
    exact ⟨v, e, ws', D', e1, e2, e3, h1, g2⟩
end Go.Proofs.YtmcljlflcbdpiaaGreatDoor
/-
  Who waits at a channel: Pop; what is refused.
-/
namespace Go.Proofs.YtmcljlflcbdpiaaGreatDoor

open Go Go.LX
set_option maxRecDepth 100000
set_option linter.unusedVariables false
set_option linter.unusedSimpArgs false

set_option maxHeartbeats 8000000 in
theorem listPopE_lx (R : List Rw) (ws C G : List Int) (N W ph sp cy : Int) (L D Q : List PV) (z : ByteArray) (ov : Bool) (h : HM R ws C G N W L D Q z) (M : Hp) (hM : Cont R ws M) (q : Qs) (hY : Sys M q) (o : Unit → Obj) (hch : ∀ a F, M a = some (1, F) → ∃ y0 y1 y2 y3 y4 y5 y6 y7 y8, F = [y0, y1, y2, y3, y4, y5, y6, y7, y8]) (hsu : ∀ a F, M a = some (3, F) → ∃ z0 z1 z2 z3 z4 z5 z6, F = [z0, z1, z2, z3, z4, z5, z6]) (c : Int) (d : Bool) (he : q c d = []) : CallF (fun _ => Tryz.prog) 15 [.ptr 0 (.lit 0), .p (.int .i64 (.sym c)), .p (.bool d)] [(0, .mix [.ptr 1 (.lit 0), .ptr 5 (.lit 0), .sl 6 3 1 (.lit 0) (.sym W), .p (.int .i64 (.sym ph)), .p (.int .i64 (.sym sp)), .p (.int .i64 (.sym cy))]), (1, .mix [.ptr 2 (.lit 0), .sl 4 3 1 (.lit 0) (.sym W)]), (2, .mix [.sl 3 201 2 (.lit 0) (.sym N)]), (3, .pure true L), (4, .pure true D), (5, .pure false [.str fun _ => z, .bool ov]), (6, .pure true Q), (7, .fix 0 o)] 8 (fun r h n => r = .tup [.p (.int .i64 (.sym 0)), .p (.bool false)] ∧ h = [(0, .mix [.ptr 1 (.lit 0), .ptr 5 (.lit 0), .sl 6 3 1 (.lit 0) (.sym W), .p (.int .i64 (.sym ph)), .p (.int .i64 (.sym sp)), .p (.int .i64 (.sym cy))]), (1, .mix [.ptr 2 (.lit 0), .sl 4 3 1 (.lit 0) (.sym W)]), (2, .mix [.sl 3 201 2 (.lit 0) (.sym N)]), (3, .pure true L), (4, .pure true D), (5, .pure false [.str fun _ => z, .bool ov]), (6, .pure true Q), (7, .fix 0 o)] ∧ n = 8) := by
  refine callF_of_body tok Tryz.func15 (by kernel_rfl) rfl rfl rfl ?_; conv => cbv
  refine callF_frame (listAll_lx R ws C G N W ph sp cy L D Q z ov h M hM q hY c d (hch c) hsu) [(0, 0), (1, 1), (2, 2), (3, 3), (4, 4), (5, 5), (6, 6)] rfl (by simp [hmapOk, nget, hget, renB, okB, renV, renVs, rn, okVs, okV]) rfl rfl (fun r h' n' hrr => ?_)
  obtain ⟨ml, cells, e1, e2, e3, hml, hcel⟩ := hrr
  subst e1 e2 e3
  conv => cbv
  refine Br.yes (show ml = 0 by rw [hml, he]; rfl) ?_
  conv => cbv
  refine RetF.mk [.p (.int .i64 (.sym 0)), .p (.bool false)] [(0, .mix [.ptr 1 (.lit 0), .ptr 5 (.lit 0), .sl 6 3 1 (.lit 0) (.sym W), .p (.int .i64 (.sym ph)), .p (.int .i64 (.sym sp)), .p (.int .i64 (.sym cy))]), (1, .mix [.ptr 2 (.lit 0), .sl 4 3 1 (.lit 0) (.sym W)]), (2, .mix [.sl 3 201 2 (.lit 0) (.sym N)]), (3, .pure true L), (4, .pure true D), (5, .pure false [.str fun _ => z, .bool ov]), (6, .pure true Q), (7, .fix 0 o)] 8 (Re.at [(0, 0), (1, 1), (2, 2), (3, 3), (4, 4), (5, 5), (6, 6), (7, 7)] []) rfl ⟨rfl, rfl, rfl⟩
end Go.Proofs.YtmcljlflcbdpiaaGreatDoor
/-
  Who waits, and who is woken: rows without some, sudogs that hang together.
-/
namespace Go.Proofs.YtmcljlflcbdpiaaGreatDoor

open Go Go.LX
set_option maxRecDepth 100000
set_option linter.unusedVariables false
set_option linter.unusedSimpArgs false

/-- Something put that is no channel and no sudog. -/
theorem sysOther {M : Hp} {q : Qs} {a k : Int} {F G : List Int} (h : Sys M q) (hM : M a = some (k, G)) (hk : k ≠ 1 ∧ k ≠ 3) : Sys (upd M a (k, F)) q :=
  h.updv (lnk_other _ _ _ hk) (fun F' e => by rw [hM] at e; exact (Prod.mk.inj (Option.some.inj e)).1) (fun c d e => by
    obtain ⟨g, w, n, p, r, m, e2⟩ := h.sg c d a e
    rw [hM] at e2
    exact absurd (Prod.mk.inj (Option.some.inj e2)).1 hk.2) ⟨fun e => absurd e hk.1, fun e => absurd e hk.2⟩
end Go.Proofs.YtmcljlflcbdpiaaGreatDoor
/-
  Who is woken: out of all rows.
-/
namespace Go.Proofs.YtmcljlflcbdpiaaGreatDoor

open Go Go.LX
set_option maxRecDepth 100000
set_option linter.unusedVariables false
set_option linter.unusedSimpArgs false

theorem hch9 {M : Hp} {q : Qs} (hY : Sys M q) : ∀ a F, M a = some (1, F) → ∃ y0 y1 y2 y3 y4 y5 y6 y7 y8, F = [y0, y1, y2, y3, y4, y5, y6, y7, y8] := fun a F e => list9 (hY.sc a F e)
theorem hsu7 {M : Hp} {q : Qs} (hY : Sys M q) : ∀ a F, M a = some (3, F) → ∃ y0 y1 y2 y3 y4 y5 y6, F = [y0, y1, y2, y3, y4, y5, y6] := fun a F e => list7 (hY.ss a F e)
end Go.Proofs.YtmcljlflcbdpiaaGreatDoor
/-
  Layers 15 and 16: which channel a word stands for.
-/
namespace Go.Proofs.YtmcljlflcbdpiaaGreatDoor

open Go Go.LX
set_option maxRecDepth 100000
set_option linter.unusedVariables false
set_option linter.unusedSimpArgs false

theorem atW_ptr (c : Int) : atW (2 * c + 1) = c := by
  unfold atW
  rw [if_pos (by omega)]
  omega
theorem atW_even {w : Int} (h : w % 2 = 0) : atW w = -1 := by
  unfold atW
  rw [if_neg (by omega)]
theorem see_nil_lx (w : I) : CallF (fun _ => Tryz.prog) 54 [.p .nilp, .p (.int .i64 w)] [] 0 (fun r h n => r = .iface 144 (.agg []) ∧ h = [] ∧ n = 0) := by
  refine callF_of_body tok Tryz.func54 (by kernel_rfl) rfl rfl rfl ?_; conv => cbv
  refine RetF.mk [.iface 144 (.agg [])] [] 0 (Re.at [] []) rfl ⟨rfl, rfl, rfl⟩
theorem see_zero_lx (R : List Rw) (ws C G : List Int) (N W ph sp cy : Int) (L D Q : List PV) (z : ByteArray) (ov : Bool) (h : HM R ws C G N W L D Q z) (M : Hp) (hM : Cont R ws M) (w : Int) (h0 : w = 0) : CallF (fun _ => Tryz.prog) 54 [.ptr 0 (.lit 0), .p (.int .i64 (.sym w))] [(0, .mix [.ptr 1 (.lit 0), .ptr 5 (.lit 0), .sl 6 3 1 (.lit 0) (.sym W), .p (.int .i64 (.sym ph)), .p (.int .i64 (.sym sp)), .p (.int .i64 (.sym cy))]), (1, .mix [.ptr 2 (.lit 0), .sl 4 3 1 (.lit 0) (.sym W)]), (2, .mix [.sl 3 201 2 (.lit 0) (.sym N)]), (3, .pure true L), (4, .pure true D), (5, .pure false [.str fun _ => z, .bool ov]), (6, .pure true Q)] 7 (fun r h n => r = .iface 95 (.agg []) ∧ h = [(0, .mix [.ptr 1 (.lit 0), .ptr 5 (.lit 0), .sl 6 3 1 (.lit 0) (.sym W), .p (.int .i64 (.sym ph)), .p (.int .i64 (.sym sp)), .p (.int .i64 (.sym cy))]), (1, .mix [.ptr 2 (.lit 0), .sl 4 3 1 (.lit 0) (.sym W)]), (2, .mix [.sl 3 201 2 (.lit 0) (.sym N)]), (3, .pure true L), (4, .pure true D), (5, .pure false [.str fun _ => z, .bool ov]), (6, .pure true Q)] ∧ n = 7) := by
  refine callF_of_body tok Tryz.func54 (by kernel_rfl) rfl rfl rfl ?_; conv => cbv
  refine CallF.le (args0 := [.p (.int .i64 (.sym 0))]) (callF_frame (intV_lx 0 (by unfold b62; omega)) [] rfl trivial rfl rfl (fun r h' n' hrr => ?_)) (by simp [ales, ale, pvle, I.val])
  obtain ⟨⟨x0, e1, hx0⟩, e2, e3⟩ := hrr
  subst e1 e2 e3
  conv => cbv
  refine Br.yes (show w = x0 by omega) ?_
  conv => cbv
  refine RetF.mk [.iface 95 (.agg [])] [(0, .mix [.ptr 1 (.lit 0), .ptr 5 (.lit 0), .sl 6 3 1 (.lit 0) (.sym W), .p (.int .i64 (.sym ph)), .p (.int .i64 (.sym sp)), .p (.int .i64 (.sym cy))]), (1, .mix [.ptr 2 (.lit 0), .sl 4 3 1 (.lit 0) (.sym W)]), (2, .mix [.sl 3 201 2 (.lit 0) (.sym N)]), (3, .pure true L), (4, .pure true D), (5, .pure false [.str fun _ => z, .bool ov]), (6, .pure true Q)] 7 (Re.at [(0, 0), (1, 1), (2, 2), (3, 3), (4, 4), (5, 5), (6, 6)] []) rfl ⟨rfl, rfl, rfl⟩
theorem see_is_lx (R : List Rw) (ws C G : List Int) (N W ph sp cy : Int) (L D Q : List PV) (z : ByteArray) (ov : Bool) (h : HM R ws C G N W L D Q z) (M : Hp) (hM : Cont R ws M) (w a y0 y1 y2 y3 y4 y5 y6 y7 y8 : Int) (hw : (-9223372036854775808 ≤ w ∧ w ≤ 9223372036854775807)) (h0 : w ≠ 0) (ha : atW w = a) (hMa : M a = some (1, [y0, y1, y2, y3, y4, y5, y6, y7, y8])) : CallF (fun _ => Tryz.prog) 54 [.ptr 0 (.lit 0), .p (.int .i64 (.sym w))] [(0, .mix [.ptr 1 (.lit 0), .ptr 5 (.lit 0), .sl 6 3 1 (.lit 0) (.sym W), .p (.int .i64 (.sym ph)), .p (.int .i64 (.sym sp)), .p (.int .i64 (.sym cy))]), (1, .mix [.ptr 2 (.lit 0), .sl 4 3 1 (.lit 0) (.sym W)]), (2, .mix [.sl 3 201 2 (.lit 0) (.sym N)]), (3, .pure true L), (4, .pure true D), (5, .pure false [.str fun _ => z, .bool ov]), (6, .pure true Q)] 7 (fun r h n => r = .iface 98 (.agg [.p (.int .i64 (.sym a)), .p (.int .i64 (.sym y0)), .p (.int .i64 (.sym y1)), .p (.int .i64 (.sym y2)), .p (.int .i64 (.sym y3)), .p (.int .i64 (.sym y4)), .p (.int .i64 (.sym y5)), .p (.int .i64 (.sym y6)), .p (.int .i64 (.sym y7)), .p (.int .i64 (.sym y8))]) ∧ h = [(0, .mix [.ptr 1 (.lit 0), .ptr 5 (.lit 0), .sl 6 3 1 (.lit 0) (.sym W), .p (.int .i64 (.sym ph)), .p (.int .i64 (.sym sp)), .p (.int .i64 (.sym cy))]), (1, .mix [.ptr 2 (.lit 0), .sl 4 3 1 (.lit 0) (.sym W)]), (2, .mix [.sl 3 201 2 (.lit 0) (.sym N)]), (3, .pure true L), (4, .pure true D), (5, .pure false [.str fun _ => z, .bool ov]), (6, .pure true Q)] ∧ n = 7) := by
  refine callF_of_body tok Tryz.func54 (by kernel_rfl) rfl rfl rfl ?_; conv => cbv
  refine CallF.le (args0 := [.p (.int .i64 (.sym 0))]) (callF_frame (intV_lx 0 (by unfold b62; omega)) [] rfl trivial rfl rfl (fun r h' n' hrr => ?_)) (by simp [ales, ale, pvle, I.val])
  obtain ⟨⟨x0, e1, hx0⟩, e2, e3⟩ := hrr
  subst e1 e2 e3
  conv => cbv
  refine Br.no (show ¬ (w = x0) by omega) ?_
  conv => cbv
  refine callF_frame (atV2_lx w hw) [] rfl trivial rfl rfl (fun r h' n' hrr => ?_)
  obtain ⟨⟨a1, e1, ha1⟩, e2, e3⟩ := hrr
  subst e1 e2 e3
  conv => cbv
  obtain rfl : a = a1 := ha.symm.trans ha1.symm
  refine callF_frame (chanM_lx R ws C G N W ph sp cy L D Q z ov h M hM a y0 y1 y2 y3 y4 y5 y6 y7 y8 hMa) [(0, 0), (1, 1), (2, 2), (3, 3), (4, 4), (5, 5), (6, 6)] rfl (by simp [hmapOk, nget, hget, renB, okB, renV, renVs, rn, okVs, okV]) rfl rfl (fun r h' n' hrr => ?_)
  obtain ⟨⟨e, e1, he⟩, e2, e3⟩ := hrr
  subst e1 e2 e3
  conv => cbv
  refine Br.no (show ¬ ¬ (e = 0) from fun q => q he) ?_
  conv => cbv
  refine drawn_sound tok (by kernel_rfl) [(1, [2])] [0, 2, 1, 3, 4, 5] (by kernel_rfl) ?_; conv => cbv
  refine callF_frame (atV2_lx w hw) [] rfl trivial rfl rfl (fun r h' n' hrr => ?_)
  obtain ⟨⟨a2, e1, ha2⟩, e2, e3⟩ := hrr
  subst e1 e2 e3
  conv => cbv
  obtain rfl : a = a2 := ha.symm.trans ha2.symm
  refine RetF.mk [.iface 98 (.agg [.p (.int .i64 (.sym a)), .p (.int .i64 (.sym y0)), .p (.int .i64 (.sym y1)), .p (.int .i64 (.sym y2)), .p (.int .i64 (.sym y3)), .p (.int .i64 (.sym y4)), .p (.int .i64 (.sym y5)), .p (.int .i64 (.sym y6)), .p (.int .i64 (.sym y7)), .p (.int .i64 (.sym y8))])] [(0, .mix [.ptr 1 (.lit 0), .ptr 5 (.lit 0), .sl 6 3 1 (.lit 0) (.sym W), .p (.int .i64 (.sym ph)), .p (.int .i64 (.sym sp)), .p (.int .i64 (.sym cy))]), (1, .mix [.ptr 2 (.lit 0), .sl 4 3 1 (.lit 0) (.sym W)]), (2, .mix [.sl 3 201 2 (.lit 0) (.sym N)]), (3, .pure true L), (4, .pure true D), (5, .pure false [.str fun _ => z, .bool ov]), (6, .pure true Q)] 7 (Re.at [(0, 0), (1, 1), (2, 2), (3, 3), (4, 4), (5, 5), (6, 6)] []) rfl ⟨rfl, rfl, rfl⟩
theorem see_stray_lx (R : List Rw) (ws C G : List Int) (N W ph sp cy : Int) (L D Q : List PV) (z : ByteArray) (ov : Bool) (h : HM R ws C G N W L D Q z) (M : Hp) (hM : Cont R ws M) (w : Int) (hw : (-9223372036854775808 ≤ w ∧ w ≤ 9223372036854775807)) (h0 : w ≠ 0) (hno : ∀ F, M (atW w) ≠ some (1, F)) : CallF (fun _ => Tryz.prog) 54 [.ptr 0 (.lit 0), .p (.int .i64 (.sym w))] [(0, .mix [.ptr 1 (.lit 0), .ptr 5 (.lit 0), .sl 6 3 1 (.lit 0) (.sym W), .p (.int .i64 (.sym ph)), .p (.int .i64 (.sym sp)), .p (.int .i64 (.sym cy))]), (1, .mix [.ptr 2 (.lit 0), .sl 4 3 1 (.lit 0) (.sym W)]), (2, .mix [.sl 3 201 2 (.lit 0) (.sym N)]), (3, .pure true L), (4, .pure true D), (5, .pure false [.str fun _ => z, .bool ov]), (6, .pure true Q)] 7 (fun r h n => r = .iface 144 (.agg []) ∧ h = [(0, .mix [.ptr 1 (.lit 0), .ptr 5 (.lit 0), .sl 6 3 1 (.lit 0) (.sym W), .p (.int .i64 (.sym ph)), .p (.int .i64 (.sym sp)), .p (.int .i64 (.sym cy))]), (1, .mix [.ptr 2 (.lit 0), .sl 4 3 1 (.lit 0) (.sym W)]), (2, .mix [.sl 3 201 2 (.lit 0) (.sym N)]), (3, .pure true L), (4, .pure true D), (5, .pure false [.str fun _ => z, .bool ov]), (6, .pure true Q)] ∧ n = 7) := by
  refine callF_of_body tok Tryz.func54 (by kernel_rfl) rfl rfl rfl ?_; conv => cbv
  refine CallF.le (args0 := [.p (.int .i64 (.sym 0))]) (callF_frame (intV_lx 0 (by unfold b62; omega)) [] rfl trivial rfl rfl (fun r h' n' hrr => ?_)) (by simp [ales, ale, pvle, I.val])
  obtain ⟨⟨x0, e1, hx0⟩, e2, e3⟩ := hrr
  subst e1 e2 e3
  conv => cbv
  refine Br.no (show ¬ (w = x0) by omega) ?_
  conv => cbv
  refine callF_frame (atV2_lx w hw) [] rfl trivial rfl rfl (fun r h' n' hrr => ?_)
  obtain ⟨⟨a1, e1, ha1⟩, e2, e3⟩ := hrr
  subst e1 e2 e3
  conv => cbv
  rw [← ha1] at hno
  refine callF_frame (chanNoM_lx R ws C G N W ph sp cy L D Q z ov h M hM a1 hno) [(0, 0), (1, 1), (2, 2), (3, 3), (4, 4), (5, 5), (6, 6)] rfl (by simp [hmapOk, nget, hget, renB, okB, renV, renVs, rn, okVs, okV]) rfl rfl (fun r h' n' hrr => ?_)
  obtain ⟨⟨u0, u1, u2, u3, u4, u5, u6, u7, u8, e, e1, he, hz⟩, e2, e3⟩ := hrr
  subst e1 e2 e3
  conv => cbv
  refine Br.yes (show ¬ (e = 0) by omega) ?_
  conv => cbv
  refine RetF.mk [.iface 144 (.agg [])] [(0, .mix [.ptr 1 (.lit 0), .ptr 5 (.lit 0), .sl 6 3 1 (.lit 0) (.sym W), .p (.int .i64 (.sym ph)), .p (.int .i64 (.sym sp)), .p (.int .i64 (.sym cy))]), (1, .mix [.ptr 2 (.lit 0), .sl 4 3 1 (.lit 0) (.sym W)]), (2, .mix [.sl 3 201 2 (.lit 0) (.sym N)]), (3, .pure true L), (4, .pure true D), (5, .pure false [.str fun _ => z, .bool ov]), (6, .pure true Q)] 7 (Re.at [(0, 0), (1, 1), (2, 2), (3, 3), (4, 4), (5, 5), (6, 6)] []) rfl ⟨rfl, rfl, rfl⟩
theorem closedT_lx (a y0 y1 y2 y3 y4 y5 y6 y7 y8 : Int) (hcl : y1 ≠ 0) : CallF (fun _ => Tryz.prog) 55 [.agg [.p (.int .i64 (.sym a)), .p (.int .i64 (.sym y0)), .p (.int .i64 (.sym y1)), .p (.int .i64 (.sym y2)), .p (.int .i64 (.sym y3)), .p (.int .i64 (.sym y4)), .p (.int .i64 (.sym y5)), .p (.int .i64 (.sym y6)), .p (.int .i64 (.sym y7)), .p (.int .i64 (.sym y8))]] [] 0 (fun r h n => r = .p (.bool true) ∧ h = [] ∧ n = 0) := by
  refine callF_of_body tok Tryz.func55 (by kernel_rfl) rfl rfl rfl ?_; conv => cbv
  refine Br.yes hcl ?_
  conv => cbv
  refine RetF.mk [.p (.bool true)] [] 0 (Re.at [] []) rfl ⟨rfl, rfl, rfl⟩
theorem closedF_lx (a y0 y1 y2 y3 y4 y5 y6 y7 y8 : Int) (hcl : y1 = 0) : CallF (fun _ => Tryz.prog) 55 [.agg [.p (.int .i64 (.sym a)), .p (.int .i64 (.sym y0)), .p (.int .i64 (.sym y1)), .p (.int .i64 (.sym y2)), .p (.int .i64 (.sym y3)), .p (.int .i64 (.sym y4)), .p (.int .i64 (.sym y5)), .p (.int .i64 (.sym y6)), .p (.int .i64 (.sym y7)), .p (.int .i64 (.sym y8))]] [] 0 (fun r h n => r = .p (.bool false) ∧ h = [] ∧ n = 0) := by
  refine callF_of_body tok Tryz.func55 (by kernel_rfl) rfl rfl rfl ?_; conv => cbv
  refine Br.no (fun k => k hcl) ?_
  conv => cbv
  refine RetF.mk [.p (.bool false)] [] 0 (Re.at [] []) rfl ⟨rfl, rfl, rfl⟩
end Go.Proofs.YtmcljlflcbdpiaaGreatDoor
/-
  Things, and rows: what both heaps have, told apart; who waits.
-/
namespace Go.Proofs.YtmcljlflcbdpiaaGreatDoor

open Go Go.LX
set_option maxRecDepth 100000
set_option linter.unusedVariables false
set_option linter.unusedSimpArgs false

theorem capS {x : Int} (h : 0 ≤ x ∧ x < 4) : capW x = x := by
  unfold capW
  rw [show IntKind.u64.wrap x = x by simp [IntKind.wrap, IntKind.bits, IntKind.signed]; omega]
  omega
theorem chA1 {chs : List Int} {nc : Int} (hn : nc = (chs.length : Int)) (h1 : nc = 1) : ∃ c, chs = [c] := by
  match chs with
  | [c] => exact ⟨c, rfl⟩
  | [] => simp at hn; omega
  | _ :: _ :: _ => simp at hn; omega
theorem ix0 {chs : List Int} {nc x c : Int} (h : chs[(IntKind.u64.wrap 0 % nc).toNat]? = some x) (hc : chs[0]? = some c) : x = c := by
  rw [show IntKind.u64.wrap 0 = 0 by decide, Int.zero_emod] at h
  exact Option.some.inj (h.symm.trans hc)
theorem sysRing {M : Hp} {q : Qs} (h : Sys M q) {a b y0 y1 y2 y3 y4 y5 y6 y7 y8 : Int} {X X' : List Int} (hMa : M a = some (1, [y0, y1, y2, y3, y4, y5, y6, y7, y8])) (hMb : M b = some (2, X)) (k' s' : Int) : Sys (upd (upd M b (2, X')) a (1, [y0, y1, k', s', y4, y5, y6, y7, y8])) q := by
  have hba : a ≠ b := fun e => by rw [e, hMb] at hMa; cases hMa
  have h1 := sysOther (F := X') h hMb ⟨by decide, by decide⟩
  have hl := h.lnk hMa
  rw [lnk_chan] at hl
  simp only [Prod.mk.injEq, List.cons.injEq, true_and, and_true] at hl
  refine h1.updv ?_ (fun F _ => rfl) (fun c d k => ?_) ⟨fun _ => rfl, fun k => absurd (show (1 : Int) = 3 from k) (by decide)⟩
  · rw [lnk_chan, hl.1, hl.2.1, hl.2.2.1, hl.2.2.2]
  · obtain ⟨g, w, n, p, r, m, e⟩ := h.sg c d a k
    rw [hMa] at e
    cases e
theorem sysChan {M : Hp} {q : Qs} (h : Sys M q) {a y0 y1 y2 y3 y4 y5 y6 y7 y8 : Int} (hMa : M a = some (1, [y0, y1, y2, y3, y4, y5, y6, y7, y8])) (cl k' s' : Int) : Sys (upd M a (1, [y0, cl, k', s', y4, y5, y6, y7, y8])) q := by
  have hl := h.lnk hMa
  rw [lnk_chan] at hl
  simp only [Prod.mk.injEq, List.cons.injEq, true_and, and_true] at hl
  refine h.updv ?_ (fun F _ => rfl) (fun c d k => ?_) ⟨fun _ => rfl, fun k => absurd (show (1 : Int) = 3 from k) (by decide)⟩
  · rw [lnk_chan, hl.1, hl.2.1, hl.2.2.1, hl.2.2.2]
  · obtain ⟨g, w, n, p, r, m, e⟩ := h.sg c d a k
    rw [hMa] at e
    cases e
end Go.Proofs.YtmcljlflcbdpiaaGreatDoor
/-
  Layer 15: Try, Ready.
-/
namespace Go.Proofs.YtmcljlflcbdpiaaGreatDoor

open Go Go.LX
set_option maxRecDepth 100000
set_option linter.unusedVariables false
set_option linter.unusedSimpArgs false

theorem sendNil_lx (w v : I) : CallF (fun _ => Tryz.prog) 22 [.p .nilp, .p (.int .i64 w), .p (.int .i64 v)] [] 0 (fun r h n => r = .tup [.p (.int .i64 (.sym (-1))), .p (.int .i64 (.sym 6))] ∧ h = [] ∧ n = 0) := by
  refine callF_of_body tok Tryz.func22 (by kernel_rfl) rfl rfl rfl ?_; conv => cbv
  refine callF_frame (see_nil_lx w) [] rfl trivial rfl rfl (fun r h' n' ⟨e1, e2, e3⟩ => ?_)
  subst e1 e2 e3
  conv => cbv
  refine RetF.mk [.p (.int .i64 (.sym (-1))), .p (.int .i64 (.sym 6))] [] 0 (Re.at [] []) rfl ⟨rfl, rfl, rfl⟩
theorem sendRNil_lx (w : I) : CallF (fun _ => Tryz.prog) 26 [.p .nilp, .p (.int .i64 w)] [] 0 (fun r h n => r = .p (.bool true) ∧ h = [] ∧ n = 0) := by
  refine callF_of_body tok Tryz.func26 (by kernel_rfl) rfl rfl rfl ?_; conv => cbv
  refine callF_frame (see_nil_lx w) [] rfl trivial rfl rfl (fun r h' n' ⟨e1, e2, e3⟩ => ?_)
  subst e1 e2 e3
  conv => cbv
  refine RetF.mk [.p (.bool true)] [] 0 (Re.at [] []) rfl ⟨rfl, rfl, rfl⟩
set_option maxHeartbeats 8000000 in
theorem sendZero_lx (R : List Rw) (ws C G : List Int) (N W ph sp cy : Int) (L D Q : List PV) (z : ByteArray) (ov : Bool) (h : HM R ws C G N W L D Q z) (M : Hp) (hM : Cont R ws M) (o : Unit → Obj) (w v : Int) (h0 : w = 0) : CallF (fun _ => Tryz.prog) 22 [.ptr 0 (.lit 0), .p (.int .i64 (.sym w)), .p (.int .i64 (.sym v))] [(0, .mix [.ptr 1 (.lit 0), .ptr 5 (.lit 0), .sl 6 3 1 (.lit 0) (.sym W), .p (.int .i64 (.sym ph)), .p (.int .i64 (.sym sp)), .p (.int .i64 (.sym cy))]), (1, .mix [.ptr 2 (.lit 0), .sl 4 3 1 (.lit 0) (.sym W)]), (2, .mix [.sl 3 201 2 (.lit 0) (.sym N)]), (3, .pure true L), (4, .pure true D), (5, .pure false [.str fun _ => z, .bool ov]), (6, .pure true Q), (7, .fix 0 o)] 8 (fun r h n => r = .tup [.p (.int .i64 (.sym (-1))), .p (.int .i64 (.sym 0))] ∧ h = [(0, .mix [.ptr 1 (.lit 0), .ptr 5 (.lit 0), .sl 6 3 1 (.lit 0) (.sym W), .p (.int .i64 (.sym ph)), .p (.int .i64 (.sym sp)), .p (.int .i64 (.sym cy))]), (1, .mix [.ptr 2 (.lit 0), .sl 4 3 1 (.lit 0) (.sym W)]), (2, .mix [.sl 3 201 2 (.lit 0) (.sym N)]), (3, .pure true L), (4, .pure true D), (5, .pure false [.str fun _ => z, .bool ov]), (6, .pure true Q), (7, .fix 0 o)] ∧ n = 8) := by
  refine callF_of_body tok Tryz.func22 (by kernel_rfl) rfl rfl rfl ?_; conv => cbv
  refine callF_frame (see_zero_lx R ws C G N W ph sp cy L D Q z ov h M hM w h0) [(0, 0), (1, 1), (2, 2), (3, 3), (4, 4), (5, 5), (6, 6)] rfl (by simp [hmapOk, nget, hget, renB, okB, renV, renVs, rn, okVs, okV]) rfl rfl (fun r h' n' ⟨e1, e2, e3⟩ => ?_)
  subst e1 e2 e3
  conv => cbv
  refine RetF.mk [.p (.int .i64 (.sym (-1))), .p (.int .i64 (.sym 0))] [(0, .mix [.ptr 1 (.lit 0), .ptr 5 (.lit 0), .sl 6 3 1 (.lit 0) (.sym W), .p (.int .i64 (.sym ph)), .p (.int .i64 (.sym sp)), .p (.int .i64 (.sym cy))]), (1, .mix [.ptr 2 (.lit 0), .sl 4 3 1 (.lit 0) (.sym W)]), (2, .mix [.sl 3 201 2 (.lit 0) (.sym N)]), (3, .pure true L), (4, .pure true D), (5, .pure false [.str fun _ => z, .bool ov]), (6, .pure true Q), (7, .fix 0 o)] 8 (Re.at [(0, 0), (1, 1), (2, 2), (3, 3), (4, 4), (5, 5), (6, 6), (7, 7)] []) rfl ⟨rfl, rfl, rfl⟩
set_option maxHeartbeats 8000000 in
theorem sendStray_lx (R : List Rw) (ws C G : List Int) (N W ph sp cy : Int) (L D Q : List PV) (z : ByteArray) (ov : Bool) (h : HM R ws C G N W L D Q z) (M : Hp) (hM : Cont R ws M) (o : Unit → Obj) (w v : Int) (hw : (-9223372036854775808 ≤ w ∧ w ≤ 9223372036854775807)) (hv : (-9223372036854775808 ≤ v ∧ v ≤ 9223372036854775807)) (h0 : w ≠ 0) (hno : ∀ F, M (atW w) ≠ some (1, F)) : CallF (fun _ => Tryz.prog) 22 [.ptr 0 (.lit 0), .p (.int .i64 (.sym w)), .p (.int .i64 (.sym v))] [(0, .mix [.ptr 1 (.lit 0), .ptr 5 (.lit 0), .sl 6 3 1 (.lit 0) (.sym W), .p (.int .i64 (.sym ph)), .p (.int .i64 (.sym sp)), .p (.int .i64 (.sym cy))]), (1, .mix [.ptr 2 (.lit 0), .sl 4 3 1 (.lit 0) (.sym W)]), (2, .mix [.sl 3 201 2 (.lit 0) (.sym N)]), (3, .pure true L), (4, .pure true D), (5, .pure false [.str fun _ => z, .bool ov]), (6, .pure true Q), (7, .fix 0 o)] 8 (fun r h n => r = .tup [.p (.int .i64 (.sym (-1))), .p (.int .i64 (.sym 6))] ∧ h = [(0, .mix [.ptr 1 (.lit 0), .ptr 5 (.lit 0), .sl 6 3 1 (.lit 0) (.sym W), .p (.int .i64 (.sym ph)), .p (.int .i64 (.sym sp)), .p (.int .i64 (.sym cy))]), (1, .mix [.ptr 2 (.lit 0), .sl 4 3 1 (.lit 0) (.sym W)]), (2, .mix [.sl 3 201 2 (.lit 0) (.sym N)]), (3, .pure true L), (4, .pure true D), (5, .pure false [.str fun _ => z, .bool ov]), (6, .pure true Q), (7, .fix 0 o)] ∧ n = 8) := by
  refine callF_of_body tok Tryz.func22 (by kernel_rfl) rfl rfl rfl ?_; conv => cbv
  refine callF_frame (see_stray_lx R ws C G N W ph sp cy L D Q z ov h M hM w hw h0 hno) [(0, 0), (1, 1), (2, 2), (3, 3), (4, 4), (5, 5), (6, 6)] rfl (by simp [hmapOk, nget, hget, renB, okB, renV, renVs, rn, okVs, okV]) rfl rfl (fun r h' n' ⟨e1, e2, e3⟩ => ?_)
  subst e1 e2 e3
  conv => cbv
  refine RetF.mk [.p (.int .i64 (.sym (-1))), .p (.int .i64 (.sym 6))] [(0, .mix [.ptr 1 (.lit 0), .ptr 5 (.lit 0), .sl 6 3 1 (.lit 0) (.sym W), .p (.int .i64 (.sym ph)), .p (.int .i64 (.sym sp)), .p (.int .i64 (.sym cy))]), (1, .mix [.ptr 2 (.lit 0), .sl 4 3 1 (.lit 0) (.sym W)]), (2, .mix [.sl 3 201 2 (.lit 0) (.sym N)]), (3, .pure true L), (4, .pure true D), (5, .pure false [.str fun _ => z, .bool ov]), (6, .pure true Q), (7, .fix 0 o)] 8 (Re.at [(0, 0), (1, 1), (2, 2), (3, 3), (4, 4), (5, 5), (6, 6), (7, 7)] []) rfl ⟨rfl, rfl, rfl⟩
set_option maxHeartbeats 8000000 in
theorem sendClosed_lx (R : List Rw) (ws C G : List Int) (N W ph sp cy : Int) (L D Q : List PV) (z : ByteArray) (ov : Bool) (h : HM R ws C G N W L D Q z) (M : Hp) (hM : Cont R ws M) (o : Unit → Obj) (w v : Int) (hw : (-9223372036854775808 ≤ w ∧ w ≤ 9223372036854775807)) (hv : (-9223372036854775808 ≤ v ∧ v ≤ 9223372036854775807)) (h0 : w ≠ 0) (a y0 y1 y2 y3 y4 y5 y6 y7 y8 : Int) (ha : atW w = a) (hMa : M a = some (1, [y0, y1, y2, y3, y4, y5, y6, y7, y8])) (hcl : y1 ≠ 0) : CallF (fun _ => Tryz.prog) 22 [.ptr 0 (.lit 0), .p (.int .i64 (.sym w)), .p (.int .i64 (.sym v))] [(0, .mix [.ptr 1 (.lit 0), .ptr 5 (.lit 0), .sl 6 3 1 (.lit 0) (.sym W), .p (.int .i64 (.sym ph)), .p (.int .i64 (.sym sp)), .p (.int .i64 (.sym cy))]), (1, .mix [.ptr 2 (.lit 0), .sl 4 3 1 (.lit 0) (.sym W)]), (2, .mix [.sl 3 201 2 (.lit 0) (.sym N)]), (3, .pure true L), (4, .pure true D), (5, .pure false [.str fun _ => z, .bool ov]), (6, .pure true Q), (7, .fix 0 o)] 8 (fun r h n => r = .tup [.p (.int .i64 (.sym (-1))), .p (.int .i64 (.sym 3))] ∧ h = [(0, .mix [.ptr 1 (.lit 0), .ptr 5 (.lit 0), .sl 6 3 1 (.lit 0) (.sym W), .p (.int .i64 (.sym ph)), .p (.int .i64 (.sym sp)), .p (.int .i64 (.sym cy))]), (1, .mix [.ptr 2 (.lit 0), .sl 4 3 1 (.lit 0) (.sym W)]), (2, .mix [.sl 3 201 2 (.lit 0) (.sym N)]), (3, .pure true L), (4, .pure true D), (5, .pure false [.str fun _ => z, .bool ov]), (6, .pure true Q), (7, .fix 0 o)] ∧ n = 8) := by
  refine callF_of_body tok Tryz.func22 (by kernel_rfl) rfl rfl rfl ?_; conv => cbv
  refine callF_frame (see_is_lx R ws C G N W ph sp cy L D Q z ov h M hM w a y0 y1 y2 y3 y4 y5 y6 y7 y8 hw h0 ha hMa) [(0, 0), (1, 1), (2, 2), (3, 3), (4, 4), (5, 5), (6, 6)] rfl (by simp [hmapOk, nget, hget, renB, okB, renV, renVs, rn, okVs, okV]) rfl rfl (fun r h' n' ⟨e1, e2, e3⟩ => ?_)
  subst e1 e2 e3
  conv => cbv
  refine callF_frame (closedT_lx a y0 y1 y2 y3 y4 y5 y6 y7 y8 hcl) [] rfl trivial rfl rfl (fun r h' n' ⟨e1, e2, e3⟩ => ?_)
  subst e1 e2 e3
  conv => cbv
  refine RetF.mk [.p (.int .i64 (.sym (-1))), .p (.int .i64 (.sym 3))] [(0, .mix [.ptr 1 (.lit 0), .ptr 5 (.lit 0), .sl 6 3 1 (.lit 0) (.sym W), .p (.int .i64 (.sym ph)), .p (.int .i64 (.sym sp)), .p (.int .i64 (.sym cy))]), (1, .mix [.ptr 2 (.lit 0), .sl 4 3 1 (.lit 0) (.sym W)]), (2, .mix [.sl 3 201 2 (.lit 0) (.sym N)]), (3, .pure true L), (4, .pure true D), (5, .pure false [.str fun _ => z, .bool ov]), (6, .pure true Q), (7, .fix 0 o)] 8 (Re.at [(0, 0), (1, 1), (2, 2), (3, 3), (4, 4), (5, 5), (6, 6), (7, 7)] []) rfl ⟨rfl, rfl, rfl⟩
set_option maxHeartbeats 8000000 in
theorem sendHeld_lx (R : List Rw) (ws C G : List Int) (N W ph sp cy : Int) (L D Q : List PV) (z : ByteArray) (ov : Bool) (h : HM R ws C G N W L D Q z) (M : Hp) (hM : Cont R ws M) (q : Qs) (hY : Sys M q) (o : Unit → Obj) (ho : IsPow o) (hph : ph = 0) (w v : Int) (hw : (-9223372036854775808 ≤ w ∧ w ≤ 9223372036854775807)) (hv : (-9223372036854775808 ≤ v ∧ v ≤ 9223372036854775807)) (h0 : w ≠ 0) (a y0 y1 y2 y3 y4 y5 y6 y7 y8 : Int) (ha : atW w = a) (hMa : M a = some (1, [y0, y1, y2, y3, y4, y5, y6, y7, y8])) (hcl : y1 = 0) (hq : q a false = []) (hk0 : 0 ≤ y2) (hs0 : 0 ≤ y3) (X : List Int) (hMb : M y4 = some (2, X)) (hX : (X.length : Int) = y0) (hk : y2 < y0) : CallF (fun _ => Tryz.prog) 22 [.ptr 0 (.lit 0), .p (.int .i64 (.sym w)), .p (.int .i64 (.sym v))] [(0, .mix [.ptr 1 (.lit 0), .ptr 5 (.lit 0), .sl 6 3 1 (.lit 0) (.sym W), .p (.int .i64 (.sym ph)), .p (.int .i64 (.sym sp)), .p (.int .i64 (.sym cy))]), (1, .mix [.ptr 2 (.lit 0), .sl 4 3 1 (.lit 0) (.sym W)]), (2, .mix [.sl 3 201 2 (.lit 0) (.sym N)]), (3, .pure true L), (4, .pure true D), (5, .pure false [.str fun _ => z, .bool ov]), (6, .pure true Q), (7, .fix 0 o)] 8 (fun r h n => ∃ (ws' : List Int) (D' : List PV), r = .tup [.p (.int .i64 (.sym (-1))), .p (.int .i64 (.sym 1))] ∧ h = [(0, .mix [.ptr 1 (.lit 0), .ptr 5 (.lit 0), .sl 6 3 1 (.lit 0) (.sym W), .p (.int .i64 (.sym ph)), .p (.int .i64 (.sym sp)), .p (.int .i64 (.sym cy))]), (1, .mix [.ptr 2 (.lit 0), .sl 4 3 1 (.lit 0) (.sym W)]), (2, .mix [.sl 3 201 2 (.lit 0) (.sym N)]), (3, .pure true L), (4, .pure true D'), (5, .pure false [.str fun _ => z, .bool ov]), (6, .pure true Q), (7, .fix 0 o)] ∧ n = 8 ∧ HM R ws' C G N W L D' Q z ∧ Cont R ws' (upd (upd M y4 (2, X.set ((y3 % y0 + y2) % y0).toNat v)) a (1, [y0, y1, y2 + 1, y3, y4, y5, y6, y7, y8]))) := by
  refine callF_of_body tok Tryz.func22 (by kernel_rfl) rfl rfl rfl ?_; conv => cbv
  refine callF_frame (see_is_lx R ws C G N W ph sp cy L D Q z ov h M hM w a y0 y1 y2 y3 y4 y5 y6 y7 y8 hw h0 ha hMa) [(0, 0), (1, 1), (2, 2), (3, 3), (4, 4), (5, 5), (6, 6)] rfl (by simp [hmapOk, nget, hget, renB, okB, renV, renVs, rn, okVs, okV]) rfl rfl (fun r h' n' ⟨e1, e2, e3⟩ => ?_)
  subst e1 e2 e3
  conv => cbv
  refine callF_frame (closedF_lx a y0 y1 y2 y3 y4 y5 y6 y7 y8 hcl) [] rfl trivial rfl rfl (fun r h' n' ⟨e1, e2, e3⟩ => ?_)
  subst e1 e2 e3
  conv => cbv
  refine callF_frame (listPopE_lx R ws C G N W ph sp cy L D Q z ov h M hM q hY o (hch9 hY) (hsu7 hY) a false hq) [(0, 0), (1, 1), (2, 2), (3, 3), (4, 4), (5, 5), (6, 6), (7, 7)] rfl (by simp [hmapOk, nget, hget, renB, okB, renV, renVs, rn, okVs, okV]) rfl rfl (fun r h' n' ⟨e1, e2, e3⟩ => ?_)
  subst e1 e2 e3
  conv => cbv
  refine callF_frame (ringPutM_lx R ws C G N W ph sp cy L D Q z ov h M hM o ho hph a v y0 y1 y2 y3 y4 y5 y6 y7 y8 hMa hv hk0 hs0) [(0, 0), (1, 1), (2, 2), (3, 3), (4, 4), (5, 5), (6, 6), (7, 7)] rfl (by simp [hmapOk, nget, hget, renB, okB, renV, renVs, rn, okVs, okV]) rfl rfl (fun r h' n' hrr => ?_)
  obtain ⟨e, ws', D', e1, e2, e3, h1, hres⟩ := hrr
  subst e1 e2 e3
  conv => cbv
  have hr2 : e = 0 ∧ Cont R ws' (upd (upd M y4 (2, X.set ((y3 % y0 + y2) % y0).toNat v)) a (1, [y0, y1, y2 + 1, y3, y4, y5, y6, y7, y8])) := by
    rcases hres with ⟨q1, _⟩ | q1
    · omega
    · rcases q1 X hMb hX with ⟨q2, _⟩ | ⟨_, _, q3, q4⟩
      · exact absurd hk q2
      · exact ⟨q3, q4⟩
  refine Br.yes (show e = 0 from hr2.1) ?_
  conv => cbv
  refine RetF.mk [.p (.int .i64 (.sym (-1))), .p (.int .i64 (.sym 1))] [(0, .mix [.ptr 1 (.lit 0), .ptr 5 (.lit 0), .sl 6 3 1 (.lit 0) (.sym W), .p (.int .i64 (.sym ph)), .p (.int .i64 (.sym sp)), .p (.int .i64 (.sym cy))]), (1, .mix [.ptr 2 (.lit 0), .sl 4 3 1 (.lit 0) (.sym W)]), (2, .mix [.sl 3 201 2 (.lit 0) (.sym N)]), (3, .pure true L), (4, .pure true D'), (5, .pure false [.str fun _ => z, .bool ov]), (6, .pure true Q), (7, .fix 0 o)] 8 (Re.at [(0, 0), (1, 1), (2, 2), (3, 3), (4, 4), (5, 5), (6, 6), (7, 7)] []) rfl ⟨ws', D', rfl, rfl, rfl, h1, hr2.2⟩
set_option maxHeartbeats 8000000 in
theorem sendFull_lx (R : List Rw) (ws C G : List Int) (N W ph sp cy : Int) (L D Q : List PV) (z : ByteArray) (ov : Bool) (h : HM R ws C G N W L D Q z) (M : Hp) (hM : Cont R ws M) (q : Qs) (hY : Sys M q) (o : Unit → Obj) (ho : IsPow o) (hph : ph = 0) (w v : Int) (hw : (-9223372036854775808 ≤ w ∧ w ≤ 9223372036854775807)) (hv : (-9223372036854775808 ≤ v ∧ v ≤ 9223372036854775807)) (h0 : w ≠ 0) (a y0 y1 y2 y3 y4 y5 y6 y7 y8 : Int) (ha : atW w = a) (hMa : M a = some (1, [y0, y1, y2, y3, y4, y5, y6, y7, y8])) (hcl : y1 = 0) (hq : q a false = []) (hk0 : 0 ≤ y2) (hs0 : 0 ≤ y3) (h1 : 0 < y0) (X : List Int) (hMb : M y4 = some (2, X)) (hX : (X.length : Int) = y0) (hk : ¬ y2 < y0) : CallF (fun _ => Tryz.prog) 22 [.ptr 0 (.lit 0), .p (.int .i64 (.sym w)), .p (.int .i64 (.sym v))] [(0, .mix [.ptr 1 (.lit 0), .ptr 5 (.lit 0), .sl 6 3 1 (.lit 0) (.sym W), .p (.int .i64 (.sym ph)), .p (.int .i64 (.sym sp)), .p (.int .i64 (.sym cy))]), (1, .mix [.ptr 2 (.lit 0), .sl 4 3 1 (.lit 0) (.sym W)]), (2, .mix [.sl 3 201 2 (.lit 0) (.sym N)]), (3, .pure true L), (4, .pure true D), (5, .pure false [.str fun _ => z, .bool ov]), (6, .pure true Q), (7, .fix 0 o)] 8 (fun r h n => r = .tup [.p (.int .i64 (.sym (-1))), .p (.int .i64 (.sym 0))] ∧ h = [(0, .mix [.ptr 1 (.lit 0), .ptr 5 (.lit 0), .sl 6 3 1 (.lit 0) (.sym W), .p (.int .i64 (.sym ph)), .p (.int .i64 (.sym sp)), .p (.int .i64 (.sym cy))]), (1, .mix [.ptr 2 (.lit 0), .sl 4 3 1 (.lit 0) (.sym W)]), (2, .mix [.sl 3 201 2 (.lit 0) (.sym N)]), (3, .pure true L), (4, .pure true D), (5, .pure false [.str fun _ => z, .bool ov]), (6, .pure true Q), (7, .fix 0 o)] ∧ n = 8) := by
  refine callF_of_body tok Tryz.func22 (by kernel_rfl) rfl rfl rfl ?_; conv => cbv
  refine callF_frame (see_is_lx R ws C G N W ph sp cy L D Q z ov h M hM w a y0 y1 y2 y3 y4 y5 y6 y7 y8 hw h0 ha hMa) [(0, 0), (1, 1), (2, 2), (3, 3), (4, 4), (5, 5), (6, 6)] rfl (by simp [hmapOk, nget, hget, renB, okB, renV, renVs, rn, okVs, okV]) rfl rfl (fun r h' n' ⟨e1, e2, e3⟩ => ?_)
  subst e1 e2 e3
  conv => cbv
  refine callF_frame (closedF_lx a y0 y1 y2 y3 y4 y5 y6 y7 y8 hcl) [] rfl trivial rfl rfl (fun r h' n' ⟨e1, e2, e3⟩ => ?_)
  subst e1 e2 e3
  conv => cbv
  refine callF_frame (listPopE_lx R ws C G N W ph sp cy L D Q z ov h M hM q hY o (hch9 hY) (hsu7 hY) a false hq) [(0, 0), (1, 1), (2, 2), (3, 3), (4, 4), (5, 5), (6, 6), (7, 7)] rfl (by simp [hmapOk, nget, hget, renB, okB, renV, renVs, rn, okVs, okV]) rfl rfl (fun r h' n' ⟨e1, e2, e3⟩ => ?_)
  subst e1 e2 e3
  conv => cbv
  refine callF_frame (ringPutM_lx R ws C G N W ph sp cy L D Q z ov h M hM o ho hph a v y0 y1 y2 y3 y4 y5 y6 y7 y8 hMa hv hk0 hs0) [(0, 0), (1, 1), (2, 2), (3, 3), (4, 4), (5, 5), (6, 6), (7, 7)] rfl (by simp [hmapOk, nget, hget, renB, okB, renV, renVs, rn, okVs, okV]) rfl rfl (fun r h' n' hrr => ?_)
  obtain ⟨e, ws', D', e1, e2, e3, h2, hres⟩ := hrr
  subst e1 e2 e3
  conv => cbv
  have hr2 : e = 9 ∧ ws' = ws := by
    rcases hres with ⟨q2, _⟩ | q1
    · omega
    · rcases q1 X hMb hX with ⟨_, q2, q3⟩ | ⟨_, q2, _⟩
      · exact ⟨q2, q3⟩
      · exact absurd q2 hk
  obtain rfl : D = D' := by rw [h2.d, h.d, hr2.2]
  refine Br.no (show ¬ e = 0 by omega) ?_
  conv => cbv
  refine RetF.mk [.p (.int .i64 (.sym (-1))), .p (.int .i64 (.sym 0))] [(0, .mix [.ptr 1 (.lit 0), .ptr 5 (.lit 0), .sl 6 3 1 (.lit 0) (.sym W), .p (.int .i64 (.sym ph)), .p (.int .i64 (.sym sp)), .p (.int .i64 (.sym cy))]), (1, .mix [.ptr 2 (.lit 0), .sl 4 3 1 (.lit 0) (.sym W)]), (2, .mix [.sl 3 201 2 (.lit 0) (.sym N)]), (3, .pure true L), (4, .pure true D), (5, .pure false [.str fun _ => z, .bool ov]), (6, .pure true Q), (7, .fix 0 o)] 8 (Re.at [(0, 0), (1, 1), (2, 2), (3, 3), (4, 4), (5, 5), (6, 6), (7, 7)] []) rfl ⟨rfl, rfl, rfl⟩
set_option maxHeartbeats 8000000 in
theorem sendRZero_lx (R : List Rw) (ws C G : List Int) (N W ph sp cy : Int) (L D Q : List PV) (z : ByteArray) (ov : Bool) (h : HM R ws C G N W L D Q z) (M : Hp) (hM : Cont R ws M) (o : Unit → Obj) (w : Int) (h0 : w = 0) : CallF (fun _ => Tryz.prog) 26 [.ptr 0 (.lit 0), .p (.int .i64 (.sym w))] [(0, .mix [.ptr 1 (.lit 0), .ptr 5 (.lit 0), .sl 6 3 1 (.lit 0) (.sym W), .p (.int .i64 (.sym ph)), .p (.int .i64 (.sym sp)), .p (.int .i64 (.sym cy))]), (1, .mix [.ptr 2 (.lit 0), .sl 4 3 1 (.lit 0) (.sym W)]), (2, .mix [.sl 3 201 2 (.lit 0) (.sym N)]), (3, .pure true L), (4, .pure true D), (5, .pure false [.str fun _ => z, .bool ov]), (6, .pure true Q), (7, .fix 0 o)] 8 (fun r h n => r = .p (.bool false) ∧ h = [(0, .mix [.ptr 1 (.lit 0), .ptr 5 (.lit 0), .sl 6 3 1 (.lit 0) (.sym W), .p (.int .i64 (.sym ph)), .p (.int .i64 (.sym sp)), .p (.int .i64 (.sym cy))]), (1, .mix [.ptr 2 (.lit 0), .sl 4 3 1 (.lit 0) (.sym W)]), (2, .mix [.sl 3 201 2 (.lit 0) (.sym N)]), (3, .pure true L), (4, .pure true D), (5, .pure false [.str fun _ => z, .bool ov]), (6, .pure true Q), (7, .fix 0 o)] ∧ n = 8) := by
  refine callF_of_body tok Tryz.func26 (by kernel_rfl) rfl rfl rfl ?_; conv => cbv
  refine callF_frame (see_zero_lx R ws C G N W ph sp cy L D Q z ov h M hM w h0) [(0, 0), (1, 1), (2, 2), (3, 3), (4, 4), (5, 5), (6, 6)] rfl (by simp [hmapOk, nget, hget, renB, okB, renV, renVs, rn, okVs, okV]) rfl rfl (fun r h' n' ⟨e1, e2, e3⟩ => ?_)
  subst e1 e2 e3
  conv => cbv
  refine RetF.mk [.p (.bool false)] [(0, .mix [.ptr 1 (.lit 0), .ptr 5 (.lit 0), .sl 6 3 1 (.lit 0) (.sym W), .p (.int .i64 (.sym ph)), .p (.int .i64 (.sym sp)), .p (.int .i64 (.sym cy))]), (1, .mix [.ptr 2 (.lit 0), .sl 4 3 1 (.lit 0) (.sym W)]), (2, .mix [.sl 3 201 2 (.lit 0) (.sym N)]), (3, .pure true L), (4, .pure true D), (5, .pure false [.str fun _ => z, .bool ov]), (6, .pure true Q), (7, .fix 0 o)] 8 (Re.at [(0, 0), (1, 1), (2, 2), (3, 3), (4, 4), (5, 5), (6, 6), (7, 7)] []) rfl ⟨rfl, rfl, rfl⟩
set_option maxHeartbeats 8000000 in
theorem sendRClosed_lx (R : List Rw) (ws C G : List Int) (N W ph sp cy : Int) (L D Q : List PV) (z : ByteArray) (ov : Bool) (h : HM R ws C G N W L D Q z) (M : Hp) (hM : Cont R ws M) (o : Unit → Obj) (w : Int) (hw : (-9223372036854775808 ≤ w ∧ w ≤ 9223372036854775807)) (h0 : w ≠ 0) (a y0 y1 y2 y3 y4 y5 y6 y7 y8 : Int) (ha : atW w = a) (hMa : M a = some (1, [y0, y1, y2, y3, y4, y5, y6, y7, y8])) (hcl : y1 ≠ 0) : CallF (fun _ => Tryz.prog) 26 [.ptr 0 (.lit 0), .p (.int .i64 (.sym w))] [(0, .mix [.ptr 1 (.lit 0), .ptr 5 (.lit 0), .sl 6 3 1 (.lit 0) (.sym W), .p (.int .i64 (.sym ph)), .p (.int .i64 (.sym sp)), .p (.int .i64 (.sym cy))]), (1, .mix [.ptr 2 (.lit 0), .sl 4 3 1 (.lit 0) (.sym W)]), (2, .mix [.sl 3 201 2 (.lit 0) (.sym N)]), (3, .pure true L), (4, .pure true D), (5, .pure false [.str fun _ => z, .bool ov]), (6, .pure true Q), (7, .fix 0 o)] 8 (fun r h n => r = .p (.bool true) ∧ h = [(0, .mix [.ptr 1 (.lit 0), .ptr 5 (.lit 0), .sl 6 3 1 (.lit 0) (.sym W), .p (.int .i64 (.sym ph)), .p (.int .i64 (.sym sp)), .p (.int .i64 (.sym cy))]), (1, .mix [.ptr 2 (.lit 0), .sl 4 3 1 (.lit 0) (.sym W)]), (2, .mix [.sl 3 201 2 (.lit 0) (.sym N)]), (3, .pure true L), (4, .pure true D), (5, .pure false [.str fun _ => z, .bool ov]), (6, .pure true Q), (7, .fix 0 o)] ∧ n = 8) := by
  refine callF_of_body tok Tryz.func26 (by kernel_rfl) rfl rfl rfl ?_; conv => cbv
  refine callF_frame (see_is_lx R ws C G N W ph sp cy L D Q z ov h M hM w a y0 y1 y2 y3 y4 y5 y6 y7 y8 hw h0 ha hMa) [(0, 0), (1, 1), (2, 2), (3, 3), (4, 4), (5, 5), (6, 6)] rfl (by simp [hmapOk, nget, hget, renB, okB, renV, renVs, rn, okVs, okV]) rfl rfl (fun r h' n' ⟨e1, e2, e3⟩ => ?_)
  subst e1 e2 e3
  conv => cbv
  refine callF_frame (closedT_lx a y0 y1 y2 y3 y4 y5 y6 y7 y8 hcl) [] rfl trivial rfl rfl (fun r h' n' ⟨e1, e2, e3⟩ => ?_)
  subst e1 e2 e3
  conv => cbv
  refine RetF.mk [.p (.bool true)] [(0, .mix [.ptr 1 (.lit 0), .ptr 5 (.lit 0), .sl 6 3 1 (.lit 0) (.sym W), .p (.int .i64 (.sym ph)), .p (.int .i64 (.sym sp)), .p (.int .i64 (.sym cy))]), (1, .mix [.ptr 2 (.lit 0), .sl 4 3 1 (.lit 0) (.sym W)]), (2, .mix [.sl 3 201 2 (.lit 0) (.sym N)]), (3, .pure true L), (4, .pure true D), (5, .pure false [.str fun _ => z, .bool ov]), (6, .pure true Q), (7, .fix 0 o)] 8 (Re.at [(0, 0), (1, 1), (2, 2), (3, 3), (4, 4), (5, 5), (6, 6), (7, 7)] []) rfl ⟨rfl, rfl, rfl⟩
end Go.Proofs.YtmcljlflcbdpiaaGreatDoor
/-
  Layer 16: Try, Ready.
-/
namespace Go.Proofs.YtmcljlflcbdpiaaGreatDoor

open Go Go.LX
set_option maxRecDepth 100000
set_option linter.unusedVariables false
set_option linter.unusedSimpArgs false

theorem takeNil_lx (w : I) : CallF (fun _ => Tryz.prog) 32 [.p .nilp, .p (.int .i64 w)] [] 0 (fun r h n => r = .tup [.p (.int .i64 (.sym 0)), .p (.int .i64 (.sym (-1))), .p (.int .i64 (.sym 6))] ∧ h = [] ∧ n = 0) := by
  refine callF_of_body tok Tryz.func32 (by kernel_rfl) rfl rfl rfl ?_; conv => cbv
  refine callF_frame (see_nil_lx w) [] rfl trivial rfl rfl (fun r h' n' ⟨e1, e2, e3⟩ => ?_)
  subst e1 e2 e3
  conv => cbv
  refine RetF.mk [.p (.int .i64 (.sym 0)), .p (.int .i64 (.sym (-1))), .p (.int .i64 (.sym 6))] [] 0 (Re.at [] []) rfl ⟨rfl, rfl, rfl⟩
theorem takeRNil_lx (w : I) : CallF (fun _ => Tryz.prog) 33 [.p .nilp, .p (.int .i64 w)] [] 0 (fun r h n => r = .p (.bool true) ∧ h = [] ∧ n = 0) := by
  refine callF_of_body tok Tryz.func33 (by kernel_rfl) rfl rfl rfl ?_; conv => cbv
  refine callF_frame (see_nil_lx w) [] rfl trivial rfl rfl (fun r h' n' ⟨e1, e2, e3⟩ => ?_)
  subst e1 e2 e3
  conv => cbv
  refine RetF.mk [.p (.bool true)] [] 0 (Re.at [] []) rfl ⟨rfl, rfl, rfl⟩
set_option maxHeartbeats 8000000 in
theorem takeZero_lx (R : List Rw) (ws C G : List Int) (N W ph sp cy : Int) (L D Q : List PV) (z : ByteArray) (ov : Bool) (h : HM R ws C G N W L D Q z) (M : Hp) (hM : Cont R ws M) (o : Unit → Obj) (w : Int) (h0 : w = 0) : CallF (fun _ => Tryz.prog) 32 [.ptr 0 (.lit 0), .p (.int .i64 (.sym w))] [(0, .mix [.ptr 1 (.lit 0), .ptr 5 (.lit 0), .sl 6 3 1 (.lit 0) (.sym W), .p (.int .i64 (.sym ph)), .p (.int .i64 (.sym sp)), .p (.int .i64 (.sym cy))]), (1, .mix [.ptr 2 (.lit 0), .sl 4 3 1 (.lit 0) (.sym W)]), (2, .mix [.sl 3 201 2 (.lit 0) (.sym N)]), (3, .pure true L), (4, .pure true D), (5, .pure false [.str fun _ => z, .bool ov]), (6, .pure true Q), (7, .fix 0 o)] 8 (fun r h n => (∃ x : Int, r = .tup [.p (.int .i64 (.sym x)), .p (.int .i64 (.sym (-1))), .p (.int .i64 (.sym 0))] ∧ x = 0) ∧ h = [(0, .mix [.ptr 1 (.lit 0), .ptr 5 (.lit 0), .sl 6 3 1 (.lit 0) (.sym W), .p (.int .i64 (.sym ph)), .p (.int .i64 (.sym sp)), .p (.int .i64 (.sym cy))]), (1, .mix [.ptr 2 (.lit 0), .sl 4 3 1 (.lit 0) (.sym W)]), (2, .mix [.sl 3 201 2 (.lit 0) (.sym N)]), (3, .pure true L), (4, .pure true D), (5, .pure false [.str fun _ => z, .bool ov]), (6, .pure true Q), (7, .fix 0 o)] ∧ n = 8) := by
  refine callF_of_body tok Tryz.func32 (by kernel_rfl) rfl rfl rfl ?_; conv => cbv
  refine callF_frame (see_zero_lx R ws C G N W ph sp cy L D Q z ov h M hM w h0) [(0, 0), (1, 1), (2, 2), (3, 3), (4, 4), (5, 5), (6, 6)] rfl (by simp [hmapOk, nget, hget, renB, okB, renV, renVs, rn, okVs, okV]) rfl rfl (fun r h' n' ⟨e1, e2, e3⟩ => ?_)
  subst e1 e2 e3
  conv => cbv
  refine CallF.le (args0 := [.p (.int .i64 (.sym 0))]) (callF_frame (intV_lx 0 (by unfold b62; omega)) [] rfl trivial rfl rfl (fun r h' n' hrr => ?_)) (by simp [ales, ale, pvle, I.val])
  obtain ⟨⟨x0, e1, hx0⟩, e2, e3⟩ := hrr
  subst e1 e2 e3
  conv => cbv
  refine RetF.mk [.p (.int .i64 (.sym x0)), .p (.int .i64 (.sym (-1))), .p (.int .i64 (.sym 0))] [(0, .mix [.ptr 1 (.lit 0), .ptr 5 (.lit 0), .sl 6 3 1 (.lit 0) (.sym W), .p (.int .i64 (.sym ph)), .p (.int .i64 (.sym sp)), .p (.int .i64 (.sym cy))]), (1, .mix [.ptr 2 (.lit 0), .sl 4 3 1 (.lit 0) (.sym W)]), (2, .mix [.sl 3 201 2 (.lit 0) (.sym N)]), (3, .pure true L), (4, .pure true D), (5, .pure false [.str fun _ => z, .bool ov]), (6, .pure true Q), (7, .fix 0 o)] 8 (Re.at [(0, 0), (1, 1), (2, 2), (3, 3), (4, 4), (5, 5), (6, 6), (7, 7)] []) rfl ⟨⟨x0, rfl, by omega⟩, rfl, rfl⟩
set_option maxHeartbeats 8000000 in
theorem takeStray_lx (R : List Rw) (ws C G : List Int) (N W ph sp cy : Int) (L D Q : List PV) (z : ByteArray) (ov : Bool) (h : HM R ws C G N W L D Q z) (M : Hp) (hM : Cont R ws M) (o : Unit → Obj) (w : Int) (hw : (-9223372036854775808 ≤ w ∧ w ≤ 9223372036854775807)) (h0 : w ≠ 0) (hno : ∀ F, M (atW w) ≠ some (1, F)) : CallF (fun _ => Tryz.prog) 32 [.ptr 0 (.lit 0), .p (.int .i64 (.sym w))] [(0, .mix [.ptr 1 (.lit 0), .ptr 5 (.lit 0), .sl 6 3 1 (.lit 0) (.sym W), .p (.int .i64 (.sym ph)), .p (.int .i64 (.sym sp)), .p (.int .i64 (.sym cy))]), (1, .mix [.ptr 2 (.lit 0), .sl 4 3 1 (.lit 0) (.sym W)]), (2, .mix [.sl 3 201 2 (.lit 0) (.sym N)]), (3, .pure true L), (4, .pure true D), (5, .pure false [.str fun _ => z, .bool ov]), (6, .pure true Q), (7, .fix 0 o)] 8 (fun r h n => r = .tup [.p (.int .i64 (.sym 0)), .p (.int .i64 (.sym (-1))), .p (.int .i64 (.sym 6))] ∧ h = [(0, .mix [.ptr 1 (.lit 0), .ptr 5 (.lit 0), .sl 6 3 1 (.lit 0) (.sym W), .p (.int .i64 (.sym ph)), .p (.int .i64 (.sym sp)), .p (.int .i64 (.sym cy))]), (1, .mix [.ptr 2 (.lit 0), .sl 4 3 1 (.lit 0) (.sym W)]), (2, .mix [.sl 3 201 2 (.lit 0) (.sym N)]), (3, .pure true L), (4, .pure true D), (5, .pure false [.str fun _ => z, .bool ov]), (6, .pure true Q), (7, .fix 0 o)] ∧ n = 8) := by
  refine callF_of_body tok Tryz.func32 (by kernel_rfl) rfl rfl rfl ?_; conv => cbv
  refine callF_frame (see_stray_lx R ws C G N W ph sp cy L D Q z ov h M hM w hw h0 hno) [(0, 0), (1, 1), (2, 2), (3, 3), (4, 4), (5, 5), (6, 6)] rfl (by simp [hmapOk, nget, hget, renB, okB, renV, renVs, rn, okVs, okV]) rfl rfl (fun r h' n' ⟨e1, e2, e3⟩ => ?_)
  subst e1 e2 e3
  conv => cbv
  refine RetF.mk [.p (.int .i64 (.sym 0)), .p (.int .i64 (.sym (-1))), .p (.int .i64 (.sym 6))] [(0, .mix [.ptr 1 (.lit 0), .ptr 5 (.lit 0), .sl 6 3 1 (.lit 0) (.sym W), .p (.int .i64 (.sym ph)), .p (.int .i64 (.sym sp)), .p (.int .i64 (.sym cy))]), (1, .mix [.ptr 2 (.lit 0), .sl 4 3 1 (.lit 0) (.sym W)]), (2, .mix [.sl 3 201 2 (.lit 0) (.sym N)]), (3, .pure true L), (4, .pure true D), (5, .pure false [.str fun _ => z, .bool ov]), (6, .pure true Q), (7, .fix 0 o)] 8 (Re.at [(0, 0), (1, 1), (2, 2), (3, 3), (4, 4), (5, 5), (6, 6), (7, 7)] []) rfl ⟨rfl, rfl, rfl⟩
set_option maxHeartbeats 8000000 in
theorem refillE_lx (R : List Rw) (ws C G : List Int) (N W ph sp cy : Int) (L D Q : List PV) (z : ByteArray) (ov : Bool) (h : HM R ws C G N W L D Q z) (M : Hp) (hM : Cont R ws M) (q : Qs) (hY : Sys M q) (o : Unit → Obj) (a : Int) (hq : q a true = []) : CallF (fun _ => Tryz.prog) 68 [.ptr 0 (.lit 0), .p (.int .i64 (.sym a))] [(0, .mix [.ptr 1 (.lit 0), .ptr 5 (.lit 0), .sl 6 3 1 (.lit 0) (.sym W), .p (.int .i64 (.sym ph)), .p (.int .i64 (.sym sp)), .p (.int .i64 (.sym cy))]), (1, .mix [.ptr 2 (.lit 0), .sl 4 3 1 (.lit 0) (.sym W)]), (2, .mix [.sl 3 201 2 (.lit 0) (.sym N)]), (3, .pure true L), (4, .pure true D), (5, .pure false [.str fun _ => z, .bool ov]), (6, .pure true Q), (7, .fix 0 o)] 8 (fun r h n => r = .p (.int .i64 (.sym (-1))) ∧ h = [(0, .mix [.ptr 1 (.lit 0), .ptr 5 (.lit 0), .sl 6 3 1 (.lit 0) (.sym W), .p (.int .i64 (.sym ph)), .p (.int .i64 (.sym sp)), .p (.int .i64 (.sym cy))]), (1, .mix [.ptr 2 (.lit 0), .sl 4 3 1 (.lit 0) (.sym W)]), (2, .mix [.sl 3 201 2 (.lit 0) (.sym N)]), (3, .pure true L), (4, .pure true D), (5, .pure false [.str fun _ => z, .bool ov]), (6, .pure true Q), (7, .fix 0 o)] ∧ n = 8) := by
  refine callF_of_body tok Tryz.func68 (by kernel_rfl) rfl rfl rfl ?_; conv => cbv
  refine callF_frame (listPopE_lx R ws C G N W ph sp cy L D Q z ov h M hM q hY o (hch9 hY) (hsu7 hY) a true hq) [(0, 0), (1, 1), (2, 2), (3, 3), (4, 4), (5, 5), (6, 6), (7, 7)] rfl (by simp [hmapOk, nget, hget, renB, okB, renV, renVs, rn, okVs, okV]) rfl rfl (fun r h' n' ⟨e1, e2, e3⟩ => ?_)
  subst e1 e2 e3
  conv => cbv
  refine RetF.mk [.p (.int .i64 (.sym (-1)))] [(0, .mix [.ptr 1 (.lit 0), .ptr 5 (.lit 0), .sl 6 3 1 (.lit 0) (.sym W), .p (.int .i64 (.sym ph)), .p (.int .i64 (.sym sp)), .p (.int .i64 (.sym cy))]), (1, .mix [.ptr 2 (.lit 0), .sl 4 3 1 (.lit 0) (.sym W)]), (2, .mix [.sl 3 201 2 (.lit 0) (.sym N)]), (3, .pure true L), (4, .pure true D), (5, .pure false [.str fun _ => z, .bool ov]), (6, .pure true Q), (7, .fix 0 o)] 8 (Re.at [(0, 0), (1, 1), (2, 2), (3, 3), (4, 4), (5, 5), (6, 6), (7, 7)] []) rfl ⟨rfl, rfl, rfl⟩
set_option maxHeartbeats 8000000 in
theorem takeGot_lx (R : List Rw) (ws C G : List Int) (N W ph sp cy : Int) (L D Q : List PV) (z : ByteArray) (ov : Bool) (h : HM R ws C G N W L D Q z) (M : Hp) (hM : Cont R ws M) (q : Qs) (hY : Sys M q) (o : Unit → Obj) (ho : IsPow o) (hph : ph = 0) (w : Int) (hw : (-9223372036854775808 ≤ w ∧ w ≤ 9223372036854775807)) (h0 : w ≠ 0) (a y0 y1 y2 y3 y4 y5 y6 y7 y8 : Int) (ha : atW w = a) (hMa : M a = some (1, [y0, y1, y2, y3, y4, y5, y6, y7, y8])) (hq : q a true = []) (hs0 : 0 ≤ y3) (X : List Int) (hMb : M y4 = some (2, X)) (hX : (X.length : Int) = y0) (hk : 0 < y2 ∧ y2 ≤ y0) : CallF (fun _ => Tryz.prog) 32 [.ptr 0 (.lit 0), .p (.int .i64 (.sym w))] [(0, .mix [.ptr 1 (.lit 0), .ptr 5 (.lit 0), .sl 6 3 1 (.lit 0) (.sym W), .p (.int .i64 (.sym ph)), .p (.int .i64 (.sym sp)), .p (.int .i64 (.sym cy))]), (1, .mix [.ptr 2 (.lit 0), .sl 4 3 1 (.lit 0) (.sym W)]), (2, .mix [.sl 3 201 2 (.lit 0) (.sym N)]), (3, .pure true L), (4, .pure true D), (5, .pure false [.str fun _ => z, .bool ov]), (6, .pure true Q), (7, .fix 0 o)] 8 (fun r h n => ∃ (v : Int) (ws' : List Int) (D' : List PV), r = .tup [.p (.int .i64 (.sym v)), .p (.int .i64 (.sym (-1))), .p (.int .i64 (.sym 1))] ∧ h = [(0, .mix [.ptr 1 (.lit 0), .ptr 5 (.lit 0), .sl 6 3 1 (.lit 0) (.sym W), .p (.int .i64 (.sym ph)), .p (.int .i64 (.sym sp)), .p (.int .i64 (.sym cy))]), (1, .mix [.ptr 2 (.lit 0), .sl 4 3 1 (.lit 0) (.sym W)]), (2, .mix [.sl 3 201 2 (.lit 0) (.sym N)]), (3, .pure true L), (4, .pure true D'), (5, .pure false [.str fun _ => z, .bool ov]), (6, .pure true Q), (7, .fix 0 o)] ∧ n = 8 ∧ HM R ws' C G N W L D' Q z ∧ X[(y3 % y0).toNat]? = some v ∧ Cont R ws' (upd (upd M y4 (2, X.set (y3 % y0).toNat 0)) a (1, [y0, y1, y2 - 1, (y3 % y0 + 1) % y0, y4, y5, y6, y7, y8]))) := by
  refine callF_of_body tok Tryz.func32 (by kernel_rfl) rfl rfl rfl ?_; conv => cbv
  refine callF_frame (see_is_lx R ws C G N W ph sp cy L D Q z ov h M hM w a y0 y1 y2 y3 y4 y5 y6 y7 y8 hw h0 ha hMa) [(0, 0), (1, 1), (2, 2), (3, 3), (4, 4), (5, 5), (6, 6)] rfl (by simp [hmapOk, nget, hget, renB, okB, renV, renVs, rn, okVs, okV]) rfl rfl (fun r h' n' ⟨e1, e2, e3⟩ => ?_)
  subst e1 e2 e3
  conv => cbv
  refine callF_frame (ringTakeM_lx R ws C G N W ph sp cy L D Q z ov h M hM o ho hph a y0 y1 y2 y3 y4 y5 y6 y7 y8 hMa hs0) [(0, 0), (1, 1), (2, 2), (3, 3), (4, 4), (5, 5), (6, 6), (7, 7)] rfl (by simp [hmapOk, nget, hget, renB, okB, renV, renVs, rn, okVs, okV]) rfl rfl (fun r h' n' hrr => ?_)
  obtain ⟨v, e, ws', D', e1, e2, e3, h1, hres⟩ := hrr
  subst e1 e2 e3
  conv => cbv
  have hr2 : e = 0 ∧ X[(y3 % y0).toNat]? = some v ∧ Cont R ws' (upd (upd M y4 (2, X.set (y3 % y0).toNat 0)) a (1, [y0, y1, y2 - 1, (y3 % y0 + 1) % y0, y4, y5, y6, y7, y8])) := by
    rcases hres with ⟨q1, _⟩ | q1
    · omega
    · obtain ⟨_, _, q3, q4, q5⟩ := q1 X hMb hX hk.2
      exact ⟨q3, q4, q5⟩
  refine Br.yes (show e = 0 from hr2.1) ?_
  conv => cbv
  refine callF_frame (refillE_lx R ws' C G N W ph sp cy L D' Q z ov h1 _ hr2.2.2 q (sysRing hY hMa hMb _ _) o a hq) [(0, 0), (1, 1), (2, 2), (3, 3), (4, 4), (5, 5), (6, 6), (7, 7)] rfl (by simp [hmapOk, nget, hget, renB, okB, renV, renVs, rn, okVs, okV]) rfl rfl (fun r h' n' ⟨e1, e2, e3⟩ => ?_)
  subst e1 e2 e3
  conv => cbv
  refine RetF.mk [.p (.int .i64 (.sym v)), .p (.int .i64 (.sym (-1))), .p (.int .i64 (.sym 1))] [(0, .mix [.ptr 1 (.lit 0), .ptr 5 (.lit 0), .sl 6 3 1 (.lit 0) (.sym W), .p (.int .i64 (.sym ph)), .p (.int .i64 (.sym sp)), .p (.int .i64 (.sym cy))]), (1, .mix [.ptr 2 (.lit 0), .sl 4 3 1 (.lit 0) (.sym W)]), (2, .mix [.sl 3 201 2 (.lit 0) (.sym N)]), (3, .pure true L), (4, .pure true D'), (5, .pure false [.str fun _ => z, .bool ov]), (6, .pure true Q), (7, .fix 0 o)] 8 (Re.at [(0, 0), (1, 1), (2, 2), (3, 3), (4, 4), (5, 5), (6, 6), (7, 7)] []) rfl ⟨v, ws', D', rfl, rfl, rfl, h1, hr2.2⟩
theorem ringTakeZ_lx (R : List Rw) (ws C G : List Int) (N W ph sp cy : Int) (L D Q : List PV) (z : ByteArray) (ov : Bool) (h : HM R ws C G N W L D Q z) (M : Hp) (hM : Cont R ws M) (o : Unit → Obj) (ho : IsPow o) (hph : ph = 0) (c cp cl k s b th tt sh st : Int) (hMc : M c = some (1, [cp, cl, k, s, b, th, tt, sh, st])) (hcp : cp ≤ 0 ∨ k ≤ 0) : CallF (fun _ => Tryz.prog) 67 [.ptr 0 (.lit 0), .p (.int .i64 (.sym c))] [(0, .mix [.ptr 1 (.lit 0), .ptr 5 (.lit 0), .sl 6 3 1 (.lit 0) (.sym W), .p (.int .i64 (.sym ph)), .p (.int .i64 (.sym sp)), .p (.int .i64 (.sym cy))]), (1, .mix [.ptr 2 (.lit 0), .sl 4 3 1 (.lit 0) (.sym W)]), (2, .mix [.sl 3 201 2 (.lit 0) (.sym N)]), (3, .pure true L), (4, .pure true D), (5, .pure false [.str fun _ => z, .bool ov]), (6, .pure true Q), (7, .fix 0 o)] 8 (fun r h n => ∃ v e : Int, r = .tup [.p (.int .i64 (.sym v)), .p (.int .i64 (.sym e))] ∧ e = 8 ∧ h = [(0, .mix [.ptr 1 (.lit 0), .ptr 5 (.lit 0), .sl 6 3 1 (.lit 0) (.sym W), .p (.int .i64 (.sym ph)), .p (.int .i64 (.sym sp)), .p (.int .i64 (.sym cy))]), (1, .mix [.ptr 2 (.lit 0), .sl 4 3 1 (.lit 0) (.sym W)]), (2, .mix [.sl 3 201 2 (.lit 0) (.sym N)]), (3, .pure true L), (4, .pure true D), (5, .pure false [.str fun _ => z, .bool ov]), (6, .pure true Q), (7, .fix 0 o)] ∧ n = 8) :=
  (ringTake_lx R ws C G N W ph sp cy L D Q z ov h o ho c).mono fun r h' n hrr => by
    obtain ⟨v, e, ws', C', G', ov', D', Q', z', e1, e2, e3, h1, hP⟩ := hrr
    have hk := hM.kept hMc
    generalize hs0 : (ws', C', G', ov') = s0 at hP
    cases hP with
    | no hh => exact absurd hk hh
    | none =>
      simp only [Prod.mk.injEq] at hs0
      obtain ⟨q0, q1, q2, q3⟩ := hs0
      have q4 : Q' = Q := by rw [h1.q, h.q, q1]
      have q5 : z' = z := by rw [h1.z, h.z, q2]
      have q6 : D' = D := by rw [h1.d, h.d, q0]
      rw [q3, q4, q5, q6] at e2
      exact ⟨0, 8, e1, rfl, e2, e3⟩
    | ok X0 y0 y1 y2 y3 y4 y5 y6 y7 y8 hh hX0 hy h0 hK hf =>
      have hy2 : chanFs X0 = [cp, cl, k, s, b, th, tt, sh, st] := (hM.tr hMc rfl rfl (TR.ok X0 hh hX0)).2
      rw [hy2] at hy
      simp only [List.cons.injEq, and_true] at hy
      obtain ⟨rfl, _, rfl, _⟩ := hy
      exact absurd hcp (by omega)
set_option maxHeartbeats 8000000 in
theorem takeOver_lx (R : List Rw) (ws C G : List Int) (N W ph sp cy : Int) (L D Q : List PV) (z : ByteArray) (ov : Bool) (h : HM R ws C G N W L D Q z) (M : Hp) (hM : Cont R ws M) (q : Qs) (hY : Sys M q) (o : Unit → Obj) (ho : IsPow o) (hph : ph = 0) (w : Int) (hw : (-9223372036854775808 ≤ w ∧ w ≤ 9223372036854775807)) (h0 : w ≠ 0) (a y0 y1 y2 y3 y4 y5 y6 y7 y8 : Int) (ha : atW w = a) (hMa : M a = some (1, [y0, y1, y2, y3, y4, y5, y6, y7, y8])) (hq : q a true = []) (hcp : y0 ≤ 0 ∨ y2 ≤ 0) (hcl : y1 ≠ 0) : CallF (fun _ => Tryz.prog) 32 [.ptr 0 (.lit 0), .p (.int .i64 (.sym w))] [(0, .mix [.ptr 1 (.lit 0), .ptr 5 (.lit 0), .sl 6 3 1 (.lit 0) (.sym W), .p (.int .i64 (.sym ph)), .p (.int .i64 (.sym sp)), .p (.int .i64 (.sym cy))]), (1, .mix [.ptr 2 (.lit 0), .sl 4 3 1 (.lit 0) (.sym W)]), (2, .mix [.sl 3 201 2 (.lit 0) (.sym N)]), (3, .pure true L), (4, .pure true D), (5, .pure false [.str fun _ => z, .bool ov]), (6, .pure true Q), (7, .fix 0 o)] 8 (fun r h n => (∃ x : Int, r = .tup [.p (.int .i64 (.sym x)), .p (.int .i64 (.sym (-1))), .p (.int .i64 (.sym 1))] ∧ x = 0) ∧ h = [(0, .mix [.ptr 1 (.lit 0), .ptr 5 (.lit 0), .sl 6 3 1 (.lit 0) (.sym W), .p (.int .i64 (.sym ph)), .p (.int .i64 (.sym sp)), .p (.int .i64 (.sym cy))]), (1, .mix [.ptr 2 (.lit 0), .sl 4 3 1 (.lit 0) (.sym W)]), (2, .mix [.sl 3 201 2 (.lit 0) (.sym N)]), (3, .pure true L), (4, .pure true D), (5, .pure false [.str fun _ => z, .bool ov]), (6, .pure true Q), (7, .fix 0 o)] ∧ n = 8) := by
  refine callF_of_body tok Tryz.func32 (by kernel_rfl) rfl rfl rfl ?_; conv => cbv
  refine callF_frame (see_is_lx R ws C G N W ph sp cy L D Q z ov h M hM w a y0 y1 y2 y3 y4 y5 y6 y7 y8 hw h0 ha hMa) [(0, 0), (1, 1), (2, 2), (3, 3), (4, 4), (5, 5), (6, 6)] rfl (by simp [hmapOk, nget, hget, renB, okB, renV, renVs, rn, okVs, okV]) rfl rfl (fun r h' n' ⟨e1, e2, e3⟩ => ?_)
  subst e1 e2 e3
  conv => cbv
  refine callF_frame (ringTakeZ_lx R ws C G N W ph sp cy L D Q z ov h M hM o ho hph a y0 y1 y2 y3 y4 y5 y6 y7 y8 hMa hcp) [(0, 0), (1, 1), (2, 2), (3, 3), (4, 4), (5, 5), (6, 6), (7, 7)] rfl (by simp [hmapOk, nget, hget, renB, okB, renV, renVs, rn, okVs, okV]) rfl rfl (fun r h' n' hrr => ?_)
  obtain ⟨v, e, e1, he, e2, e3⟩ := hrr
  subst e1 e2 e3
  conv => cbv
  refine Br.no (show ¬ e = 0 by omega) ?_
  conv => cbv
  refine callF_frame (listPopE_lx R ws C G N W ph sp cy L D Q z ov h M hM q hY o (hch9 hY) (hsu7 hY) a true hq) [(0, 0), (1, 1), (2, 2), (3, 3), (4, 4), (5, 5), (6, 6), (7, 7)] rfl (by simp [hmapOk, nget, hget, renB, okB, renV, renVs, rn, okVs, okV]) rfl rfl (fun r h' n' ⟨e1, e2, e3⟩ => ?_)
  subst e1 e2 e3
  conv => cbv
  refine callF_frame (closedT_lx a y0 y1 y2 y3 y4 y5 y6 y7 y8 hcl) [] rfl trivial rfl rfl (fun r h' n' ⟨e1, e2, e3⟩ => ?_)
  subst e1 e2 e3
  conv => cbv
  refine CallF.le (args0 := [.p (.int .i64 (.sym 0))]) (callF_frame (intV_lx 0 (by unfold b62; omega)) [] rfl trivial rfl rfl (fun r h' n' hrr => ?_)) (by simp [ales, ale, pvle, I.val])
  obtain ⟨⟨x0, e1, hx0⟩, e2, e3⟩ := hrr
  subst e1 e2 e3
  conv => cbv
  refine RetF.mk [.p (.int .i64 (.sym x0)), .p (.int .i64 (.sym (-1))), .p (.int .i64 (.sym 1))] [(0, .mix [.ptr 1 (.lit 0), .ptr 5 (.lit 0), .sl 6 3 1 (.lit 0) (.sym W), .p (.int .i64 (.sym ph)), .p (.int .i64 (.sym sp)), .p (.int .i64 (.sym cy))]), (1, .mix [.ptr 2 (.lit 0), .sl 4 3 1 (.lit 0) (.sym W)]), (2, .mix [.sl 3 201 2 (.lit 0) (.sym N)]), (3, .pure true L), (4, .pure true D), (5, .pure false [.str fun _ => z, .bool ov]), (6, .pure true Q), (7, .fix 0 o)] 8 (Re.at [(0, 0), (1, 1), (2, 2), (3, 3), (4, 4), (5, 5), (6, 6), (7, 7)] []) rfl ⟨⟨x0, rfl, by omega⟩, rfl, rfl⟩
set_option maxHeartbeats 8000000 in
theorem takeRZero_lx (R : List Rw) (ws C G : List Int) (N W ph sp cy : Int) (L D Q : List PV) (z : ByteArray) (ov : Bool) (h : HM R ws C G N W L D Q z) (M : Hp) (hM : Cont R ws M) (o : Unit → Obj) (w : Int) (h0 : w = 0) : CallF (fun _ => Tryz.prog) 33 [.ptr 0 (.lit 0), .p (.int .i64 (.sym w))] [(0, .mix [.ptr 1 (.lit 0), .ptr 5 (.lit 0), .sl 6 3 1 (.lit 0) (.sym W), .p (.int .i64 (.sym ph)), .p (.int .i64 (.sym sp)), .p (.int .i64 (.sym cy))]), (1, .mix [.ptr 2 (.lit 0), .sl 4 3 1 (.lit 0) (.sym W)]), (2, .mix [.sl 3 201 2 (.lit 0) (.sym N)]), (3, .pure true L), (4, .pure true D), (5, .pure false [.str fun _ => z, .bool ov]), (6, .pure true Q), (7, .fix 0 o)] 8 (fun r h n => r = .p (.bool false) ∧ h = [(0, .mix [.ptr 1 (.lit 0), .ptr 5 (.lit 0), .sl 6 3 1 (.lit 0) (.sym W), .p (.int .i64 (.sym ph)), .p (.int .i64 (.sym sp)), .p (.int .i64 (.sym cy))]), (1, .mix [.ptr 2 (.lit 0), .sl 4 3 1 (.lit 0) (.sym W)]), (2, .mix [.sl 3 201 2 (.lit 0) (.sym N)]), (3, .pure true L), (4, .pure true D), (5, .pure false [.str fun _ => z, .bool ov]), (6, .pure true Q), (7, .fix 0 o)] ∧ n = 8) := by
  refine callF_of_body tok Tryz.func33 (by kernel_rfl) rfl rfl rfl ?_; conv => cbv
  refine callF_frame (see_zero_lx R ws C G N W ph sp cy L D Q z ov h M hM w h0) [(0, 0), (1, 1), (2, 2), (3, 3), (4, 4), (5, 5), (6, 6)] rfl (by simp [hmapOk, nget, hget, renB, okB, renV, renVs, rn, okVs, okV]) rfl rfl (fun r h' n' ⟨e1, e2, e3⟩ => ?_)
  subst e1 e2 e3
  conv => cbv
  refine RetF.mk [.p (.bool false)] [(0, .mix [.ptr 1 (.lit 0), .ptr 5 (.lit 0), .sl 6 3 1 (.lit 0) (.sym W), .p (.int .i64 (.sym ph)), .p (.int .i64 (.sym sp)), .p (.int .i64 (.sym cy))]), (1, .mix [.ptr 2 (.lit 0), .sl 4 3 1 (.lit 0) (.sym W)]), (2, .mix [.sl 3 201 2 (.lit 0) (.sym N)]), (3, .pure true L), (4, .pure true D), (5, .pure false [.str fun _ => z, .bool ov]), (6, .pure true Q), (7, .fix 0 o)] 8 (Re.at [(0, 0), (1, 1), (2, 2), (3, 3), (4, 4), (5, 5), (6, 6), (7, 7)] []) rfl ⟨rfl, rfl, rfl⟩
set_option maxHeartbeats 8000000 in
theorem takeRClosed_lx (R : List Rw) (ws C G : List Int) (N W ph sp cy : Int) (L D Q : List PV) (z : ByteArray) (ov : Bool) (h : HM R ws C G N W L D Q z) (M : Hp) (hM : Cont R ws M) (o : Unit → Obj) (w : Int) (hw : (-9223372036854775808 ≤ w ∧ w ≤ 9223372036854775807)) (h0 : w ≠ 0) (a y0 y1 y2 y3 y4 y5 y6 y7 y8 : Int) (ha : atW w = a) (hMa : M a = some (1, [y0, y1, y2, y3, y4, y5, y6, y7, y8])) (hcl : y1 ≠ 0) : CallF (fun _ => Tryz.prog) 33 [.ptr 0 (.lit 0), .p (.int .i64 (.sym w))] [(0, .mix [.ptr 1 (.lit 0), .ptr 5 (.lit 0), .sl 6 3 1 (.lit 0) (.sym W), .p (.int .i64 (.sym ph)), .p (.int .i64 (.sym sp)), .p (.int .i64 (.sym cy))]), (1, .mix [.ptr 2 (.lit 0), .sl 4 3 1 (.lit 0) (.sym W)]), (2, .mix [.sl 3 201 2 (.lit 0) (.sym N)]), (3, .pure true L), (4, .pure true D), (5, .pure false [.str fun _ => z, .bool ov]), (6, .pure true Q), (7, .fix 0 o)] 8 (fun r h n => r = .p (.bool true) ∧ h = [(0, .mix [.ptr 1 (.lit 0), .ptr 5 (.lit 0), .sl 6 3 1 (.lit 0) (.sym W), .p (.int .i64 (.sym ph)), .p (.int .i64 (.sym sp)), .p (.int .i64 (.sym cy))]), (1, .mix [.ptr 2 (.lit 0), .sl 4 3 1 (.lit 0) (.sym W)]), (2, .mix [.sl 3 201 2 (.lit 0) (.sym N)]), (3, .pure true L), (4, .pure true D), (5, .pure false [.str fun _ => z, .bool ov]), (6, .pure true Q), (7, .fix 0 o)] ∧ n = 8) := by
  refine callF_of_body tok Tryz.func33 (by kernel_rfl) rfl rfl rfl ?_; conv => cbv
  refine callF_frame (see_is_lx R ws C G N W ph sp cy L D Q z ov h M hM w a y0 y1 y2 y3 y4 y5 y6 y7 y8 hw h0 ha hMa) [(0, 0), (1, 1), (2, 2), (3, 3), (4, 4), (5, 5), (6, 6)] rfl (by simp [hmapOk, nget, hget, renB, okB, renV, renVs, rn, okVs, okV]) rfl rfl (fun r h' n' ⟨e1, e2, e3⟩ => ?_)
  subst e1 e2 e3
  conv => cbv
  refine callF_frame (closedT_lx a y0 y1 y2 y3 y4 y5 y6 y7 y8 hcl) [] rfl trivial rfl rfl (fun r h' n' ⟨e1, e2, e3⟩ => ?_)
  subst e1 e2 e3
  conv => cbv
  refine RetF.mk [.p (.bool true)] [(0, .mix [.ptr 1 (.lit 0), .ptr 5 (.lit 0), .sl 6 3 1 (.lit 0) (.sym W), .p (.int .i64 (.sym ph)), .p (.int .i64 (.sym sp)), .p (.int .i64 (.sym cy))]), (1, .mix [.ptr 2 (.lit 0), .sl 4 3 1 (.lit 0) (.sym W)]), (2, .mix [.sl 3 201 2 (.lit 0) (.sym N)]), (3, .pure true L), (4, .pure true D), (5, .pure false [.str fun _ => z, .bool ov]), (6, .pure true Q), (7, .fix 0 o)] 8 (Re.at [(0, 0), (1, 1), (2, 2), (3, 3), (4, 4), (5, 5), (6, 6), (7, 7)] []) rfl ⟨rfl, rfl, rfl⟩
end Go.Proofs.YtmcljlflcbdpiaaGreatDoor
