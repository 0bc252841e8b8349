/-
  Layer 9: the reference's step of Sweep; its steps.
-/
import Derived.Test.YtllafhhnciobhaaGreatDoorHw
namespace Go.Proofs.YtllafhhnciobhaaGreatDoor

open Go Go.LX
set_option maxRecDepth 100000
set_option linter.unusedVariables false
set_option linter.unusedSimpArgs false

/-- What the reference takes out of a span. -/
inductive RG (R : List Rw) (vs C : List Int) (sp : Int) : Nat → List Gn → Prop
  | zero : RG R vs C sp 0 []
  | skip (i : Nat) (a : Int) (out : List Gn) (h : RG R vs C sp i out) (ha : (objs R)[i]? = some a) (hn : ¬ (a / 32 = sp ∧ C[a.toNat]? = some 0)) : RG R vs C sp (i + 1) out
  | add (i : Nat) (a k : Int) (X : List Int) (out : List Gn) (h : RG R vs C sp i out) (ha : (objs R)[i]? = some a) (hw : a / 32 = sp ∧ C[a.toNat]? = some 0) (hk : KindR R vs a k) (hX : Wrds R vs a X) : RG R vs C sp (i + 1) (out ++ [(k, a, X, false)])
theorem RG.le {R : List Rw} {vs C : List Int} {sp : Int} {i : Nat} {out : List Gn} (h : RG R vs C sp i out) : out.length ≤ i := by
  induction h with
  | zero => exact Nat.le_refl _
  | skip i a out h ha hn ih => omega
  | add i a k X out h ha hw hk hX ih => rw [List.length_append]; simp; omega
/-- Places freed one after another. -/
inductive Frees : List Rw → List Int → List Rw → Prop
  | nil (R : List Rw) : Frees R [] R
  | snoc (R R1 R2 : List Rw) (l : List Int) (a e : Int) (h : Frees R l R1) (hf : Freet R1 a e R2) : Frees R (l ++ [a]) R2
theorem RM.freet {R R' : List Rw} {vs C G : List Int} {N W m : Int} {P P' B B' V Q la : List PV} {a e : Int} (h : RM R vs C G N W P B V Q la m) (hf : Freet R a e R') (hP : P' = cpv R') (hB : B' = bpv R') : RM R' vs C G N W P' B' V Q la m := by
  obtain ⟨h1, h2⟩ := h.a.freet hf
  exact ⟨h1, by rw [h2]; exact h.n, by rw [h2]; exact h.r, h.w, hP, hB, h.v, h.q, h.c, h.l, h.m, h.g, h.g8⟩
theorem gpv_get (l : List Gn) : ∀ (i : Nat) (g : Gn), l[i]? = some g → (gpv l)[4 * i + 1]? = some (.int .i64 (.sym g.2.1)) := by
  induction l with
  | nil => intro i g h; simp at h
  | cons x l ih =>
    intro i g h
    cases i with
    | zero => simp at h; subst h; rfl
    | succ i =>
      have := ih i g (by simpa using h)
      show (gpv (x :: l))[4 * (i + 1) + 1]? = _
      rw [show 4 * (i + 1) + 1 = (4 * i + 1) + 4 by omega]
      exact this
set_option maxHeartbeats 8000000 in
theorem rsweep_lx (R : List Rw) (vs C G : List Int) (N W ph sp cy : Int) (P B V Q la : List PV) (m : Int) (ov : Bool) (h : RM R vs C G N W P B V Q la m) (hph : ph = 2) (hsp : 0 ≤ sp ∧ sp ≤ 1000) (hcy : 0 ≤ cy ∧ cy ≤ 1000000000) : CallF (fun _ => Tryz.prog) 77 [.ptr 0 (.lit 0)] [(0, .mix [.ptr 1 (.lit 0), .sl 6 3 1 (.lit 0) (.sym W), .ptr 7 (.lit 0), .p (.int .i64 (.sym ph)), .p (.int .i64 (.sym sp)), .p (.int .i64 (.sym cy))]), (1, .mix [.ptr 2 (.lit 0), .sl 5 3 1 (.lit 0) (.sym W)]), (2, .mix [.sl 3 3 1 (.lit 0) (.sym N), .sl 4 120 8 (.lit 0) (.sym N)]), (3, .pure true P), (4, .pure true B), (5, .pure true V), (6, .pure true Q), (7, .mix [.p (.vsl (.sym m) true la), .p (.bool ov)])] 8 (fun r h n => ∃ (out : List Gn) (k ph' sp' cy' : Int) (cells P' B' : List PV) (R' : List Rw), r = .p (.vsl (.sym k) true cells) ∧ h = [(0, .mix [.ptr 1 (.lit 0), .sl 6 3 1 (.lit 0) (.sym W), .ptr 7 (.lit 0), .p (.int .i64 (.sym ph')), .p (.int .i64 (.sym sp')), .p (.int .i64 (.sym cy'))]), (1, .mix [.ptr 2 (.lit 0), .sl 5 3 1 (.lit 0) (.sym W)]), (2, .mix [.sl 3 3 1 (.lit 0) (.sym N), .sl 4 120 8 (.lit 0) (.sym N)]), (3, .pure true P'), (4, .pure true B'), (5, .pure true V), (6, .pure true Q), (7, .mix [.p (.vsl (.sym m) true la), .p (.bool ov)])] ∧ n = 8 ∧ RM R' vs C G N W P' B' V Q la m ∧ cells = gpv out ∧ k = out.length ∧ RG R vs C sp (objs R).length out ∧ Frees R (out.map fun g => g.2.1) R' ∧ sp' = sp + 1 ∧ ph' = swPh sp W ∧ cy' = swCy sp W cy) := by
  have hCl := h.c; have hWn := h.w; have hNr := h.n; have hRr := h.r
  have hQl : Q.length = C.length := by rw [h.q, ipv_length]
  obtain ⟨mo, hmo⟩ : ∃ m : Int, m = objCount R := ⟨_, rfl⟩
  refine callF_of_body tok Tryz.func77 (by kernel_rfl) rfl rfl rfl ?_; conv => cbv
  refine callF_frame (robjects_lx mo R vs N W P B V h.p h.b h.v h.n h.r h.a h.w hmo) [(0, 1), (1, 2), (2, 3), (3, 4), (4, 5)] rfl (by simp [hmapOk, nget, hget, renB, okB, renV, renVs, rn, okVs, okV]) rfl rfl (fun r h' n' hrr => ?_)
  obtain ⟨O, e1, e2, e3, hO⟩ := hrr
  subst e1 e2 e3
  have hOl : (O.length : Int) = mo := by rw [hO, ipv_length, objs_length h.a.rows, hmo]
  have hO : O = ipv (objs R) := hO
  have hol : ((objs R).length : Int) = mo := by rw [← hOl, hO, ipv_length]
  have hob : mo ≤ 8000 := by have := objsTo_le R R.length; rw [objs_length h.a.rows] at this; omega
  conv => cbv
  refine LoopF.mk (fun kk s => ∃ (i k : Int) (out : List Gn) (cells : List PV), s = ⟨.ptr 0 (.lit 0) :: (undefs 2 ++ .sl 9 51 4 (.lit 0) (.sym k) :: .sl 8 3 1 (.lit 0) (.sym mo) :: .p (.int .i64 (.sym i)) :: undefs 109), [(0, .mix [.ptr 1 (.lit 0), .sl 6 3 1 (.lit 0) (.sym W), .ptr 7 (.lit 0), .p (.int .i64 (.sym ph)), .p (.int .i64 (.sym sp)), .p (.int .i64 (.sym cy))]), (1, .mix [.ptr 2 (.lit 0), .sl 5 3 1 (.lit 0) (.sym W)]), (2, .mix [.sl 3 3 1 (.lit 0) (.sym N), .sl 4 120 8 (.lit 0) (.sym N)]), (3, .pure true P), (4, .pure true B), (5, .pure true V), (6, .pure true Q), (7, .mix [.p (.vsl (.sym m) true la), .p (.bool ov)]), (8, .pure true O), (9, .pure true cells)], 10⟩ ∧ 0 ≤ i ∧ i ≤ mo ∧ RG R vs C sp i.toNat out ∧ cells = gpv out ∧ k = out.length ∧ kk = (mo - i).toNat) mo.toNat _
    (Re.at [(0, 0), (1, 1), (2, 2), (3, 3), (4, 4), (5, 5), (6, 6), (7, 7), (8, 8)] [9]) ⟨0, 0, [], [], rfl, by omega, by omega, .zero, rfl, rfl, by omega⟩ ?_
  rintro kk s ⟨i, k, out, cells, rfl, hi0, hi1, hG, hcs, hk, hkk⟩
  have hle := hG.le
  have hcl : (cells.length : Int) = 4 * k := by rw [hcs, gpv_length]; omega
  conv => cbv
  refine Br.mk (fun gi => ?_) (fun gi => ?_)
  · have gi : i < mo := gi
    obtain ⟨k', rfl⟩ : ∃ k', kk = k' + 1 := ⟨kk - 1, by omega⟩
    obtain ⟨a, ha⟩ : ∃ a, (objs R)[i.toNat]? = some a := ⟨_, List.getElem?_eq_getElem (by omega)⟩
    have hc : O[i.toNat]? = some (.int .i64 (.sym a)) := by rw [hO]; exact ipv_get ha
    have hab := obj_bd h.a (List.mem_of_getElem? ha)
    obtain ⟨x, hx⟩ : ∃ x, C[a.toNat]? = some x := ⟨_, List.getElem?_eq_getElem (by omega)⟩
    have hq : Q[a.toNat]? = some (.int .i64 (.sym x)) := by rw [h.q]; exact ipv_get hx
    have hdv : a.tdiv 32 = a / 32 := Int.tdiv_eq_ediv_of_nonneg hab.1
    have hskip : ∀ i2 : Int, i2 = i + 1 → ¬ (a / 32 = sp ∧ C[a.toNat]? = some 0) → RG R vs C sp i2.toNat out := by
      intro i2 hi2 hn
      rw [show i2.toNat = i.toNat + 1 by omega]
      exact .skip _ a out hG ha hn
    conv => cbv
    refine drawn_sound tok (by kernel_rfl) [] [0, 1, 2, 3, 4, 5, 6, 7, 8, 9, 10, 11, 12, 13, 14, 15, 16, 17, 18, 19, 20, 21, 22] (by kernel_rfl) ?_; conv => cbv
    refine Need.mk ⟨hi0, gi⟩ ?_
    conv => cbv
    refine Cell.at i _ hc (by simp [I.val]) rfl ?_
    conv => cbv
    refine Fit.mk (by show (-9223372036854775808 : Int) ≤ a.tdiv 32; omega) (by show a.tdiv 32 ≤ 9223372036854775807; omega) fun d hd => ?_
    have hd : d = a / 32 := hd.trans hdv
    conv => cbv
    refine Br.mk (fun gd => ?_) (fun gd => ?_)
    · have gd : d = sp := gd
      conv => cbv
      refine Need.mk ⟨hi0, gi⟩ ?_
      conv => cbv
      refine Cell.at i _ hc (by simp [I.val]) rfl ?_
      conv => cbv
      refine Need.mk ⟨by show 0 ≤ a; omega, by show a < W; omega⟩ ?_
      conv => cbv
      refine Cell.at a _ hq (by simp [I.val]) rfl ?_
      conv => cbv
      refine Br.mk (fun g0 => ?_) (fun g0 => ?_)
      · have g0 : x = 0 := g0
        conv => cbv
        refine drawn_sound tok (by kernel_rfl) [(9, [18, 17, 16, 15, 14, 13, 12, 11, 10, 0]), (19, [13, 12, 11, 10, 0]), (21, [0]), (22, [])] [0, 1, 2, 3, 4, 5, 6, 7, 8, 10, 11, 12, 13, 14, 15, 16, 17, 18, 9, 19, 20, 21, 22, 23] (by kernel_rfl) ?_; conv => cbv
        refine Need.mk ⟨hi0, gi⟩ ?_
        conv => cbv
        refine Cell.at i _ hc (by simp [I.val]) rfl ?_
        conv => cbv
        refine Need.mk ⟨hi0, gi⟩ ?_
        conv => cbv
        refine Cell.at i _ hc (by simp [I.val]) rfl ?_
        conv => cbv
        refine Need.mk ⟨hi0, gi⟩ ?_
        conv => cbv
        refine Cell.at i _ hc (by simp [I.val]) rfl ?_
        conv => cbv
        refine callF_frame (rkind_lx R vs N a W P B V h.p h.b h.v h.n h.r h.a h.w) [(0, 1), (1, 2), (2, 3), (3, 4), (4, 5)] rfl (by simp [hmapOk, nget, hget, renB, okB, renV, renVs, rn, okVs, okV]) rfl rfl (fun r h' n' hrr => ?_)
        obtain ⟨kd, e1, e2, e3, hkd⟩ := hrr
        subst e1 e2 e3
        conv => cbv
        refine callF_frame (rwordsV_lx R vs C G N W ph sp cy P B V Q la m ov h a) [(0, 0), (1, 1), (2, 2), (3, 3), (4, 4), (5, 5), (6, 6), (7, 7)] rfl (by simp [hmapOk, nget, hget, renB, okB, renV, renVs, rn, okVs, okV]) rfl rfl (fun r h' n' hrr => ?_)
        obtain ⟨X, kx, O2, e1, e2, e3, hO2, hkx, hX⟩ := hrr
        subst e1 e2 e3
        conv => cbv
        refine Room.new rfl ?_
        conv => cbv
        refine Room.new ⟨?_, ?_, ?_⟩ ?_
        · show (cells.length : Int) = k * 4; omega
        · show (k + 1) * 48 ≤ 140737488355328; omega
        · show k + 1 ≤ 9223372036854775807; omega
        conv => cbv
        refine Upd.mk fun c2 hc2 => ?_
        have hc2 : c2 = cells ++ [.int .i64 (.sym kd), .int .i64 (.sym a), .vsl (.sym kx) true O2, .bool false] := hc2
        have hc2 : c2 = gpv (out ++ [(kd, a, X, false)]) := by rw [hc2, hcs, gpv_app, hO2, hkx]; rfl
        conv => cbv
        refine Sum.mk fun k2 hk2 => ?_
        have hk2 : k2 = k + 1 := hk2
        conv => cbv
        refine Fit.mk (by show (-9223372036854775808 : Int) ≤ i + 1; omega) (by show i + 1 ≤ 9223372036854775807; omega) fun i2 hi2 => ?_
        have hi2 : i2 = i + 1 := hi2
        have hG2 : RG R vs C sp i2.toNat (out ++ [(kd, a, X, false)]) := by
          rw [show i2.toNat = i.toNat + 1 by omega]
          exact .add _ a kd X out hG ha ⟨by omega, by rw [hx, g0]⟩ hkd hX
        have hk3 : k2 = ((out ++ [(kd, a, X, false)]).length : Int) := by rw [List.length_append]; show k2 = ((out.length + 1 : Nat) : Int); omega
        conv => cbv
        refine Again.mk k' _ (Nat.lt_succ_self _) (Re.at [(0, 0), (1, 1), (2, 2), (3, 3), (4, 4), (5, 5), (6, 6), (7, 7), (8, 8), (11, 9)] []) ⟨i2, k2, _, c2, rfl, by omega, by omega, hG2, hc2, hk3, by omega⟩
      · have g0 : ¬ x = 0 := g0
        have hnw : ¬ (a / 32 = sp ∧ C[a.toNat]? = some 0) := fun hk => g0 (Option.some.inj (hx.symm.trans hk.2))
        conv => cbv
        refine Fit.mk (by show (-9223372036854775808 : Int) ≤ i + 1; omega) (by show i + 1 ≤ 9223372036854775807; omega) fun i2 hi2 => ?_
        have hi2 : i2 = i + 1 := hi2
        have hG2 := hskip i2 hi2 hnw
        conv => cbv
        refine Again.mk k' _ (Nat.lt_succ_self _) (Re.at [(0, 0), (1, 1), (2, 2), (3, 3), (4, 4), (5, 5), (6, 6), (7, 7), (8, 8), (9, 9)] []) ⟨i2, k, out, cells, rfl, by omega, by omega, hG2, hcs, hk, by omega⟩
    · have gd : ¬ d = sp := gd
      have hnw : ¬ (a / 32 = sp ∧ C[a.toNat]? = some 0) := fun hk => gd (hd.trans hk.1)
      conv => cbv
      refine Fit.mk (by show (-9223372036854775808 : Int) ≤ i + 1; omega) (by show i + 1 ≤ 9223372036854775807; omega) fun i2 hi2 => ?_
      have hi2 : i2 = i + 1 := hi2
      have hG2 := hskip i2 hi2 hnw
      conv => cbv
      refine Again.mk k' _ (Nat.lt_succ_self _) (Re.at [(0, 0), (1, 1), (2, 2), (3, 3), (4, 4), (5, 5), (6, 6), (7, 7), (8, 8), (9, 9)] []) ⟨i2, k, out, cells, rfl, by omega, by omega, hG2, hcs, hk, by omega⟩
  · have gi : ¬ i < mo := gi
    have hG : RG R vs C sp (objs R).length out := by rw [show (objs R).length = i.toNat by omega]; exact hG
    conv => cbv
    refine LoopF.mk (fun kk s => ∃ (i : Int) (P1 B1 : List PV) (R1 : List Rw), s = ⟨.ptr 0 (.lit 0) :: (undefs 2 ++ .sl 8 51 4 (.lit 0) (.sym k) :: (undefs 2 ++ .p (.int .i64 (.sym i)) :: undefs 108)), [(0, .mix [.ptr 1 (.lit 0), .sl 6 3 1 (.lit 0) (.sym W), .ptr 7 (.lit 0), .p (.int .i64 (.sym ph)), .p (.int .i64 (.sym sp)), .p (.int .i64 (.sym cy))]), (1, .mix [.ptr 2 (.lit 0), .sl 5 3 1 (.lit 0) (.sym W)]), (2, .mix [.sl 3 3 1 (.lit 0) (.sym N), .sl 4 120 8 (.lit 0) (.sym N)]), (3, .pure true P1), (4, .pure true B1), (5, .pure true V), (6, .pure true Q), (7, .mix [.p (.vsl (.sym m) true la), .p (.bool ov)]), (8, .pure true cells)], 9⟩ ∧ 0 ≤ i ∧ i ≤ k ∧ RM R1 vs C G N W P1 B1 V Q la m ∧ Frees R ((out.map fun g => g.2.1).take i.toNat) R1 ∧ kk = (k - i).toNat) k.toNat _
      (Re.at [(0, 0), (1, 1), (2, 2), (3, 3), (4, 4), (5, 5), (6, 6), (7, 7), (9, 8)] []) ⟨0, P, B, R, rfl, by omega, by omega, h, .nil R, by omega⟩ ?_
    rintro kk s ⟨i, P1, B1, R1, rfl, hi0, hi1, h1, hF, hkk⟩
    conv => cbv
    refine Br.mk (fun gi => ?_) (fun gi => ?_)
    · have gi : i < k := gi
      obtain ⟨k', rfl⟩ : ∃ k', kk = k' + 1 := ⟨kk - 1, by omega⟩
      obtain ⟨g, hg⟩ : ∃ g, out[i.toNat]? = some g := ⟨_, List.getElem?_eq_getElem (by omega)⟩
      obtain ⟨a, ha⟩ : ∃ a, a = g.2.1 := ⟨_, rfl⟩
      have hcg := gpv_get out i.toNat g hg
      rw [← hcs, ← ha] at hcg
      conv => cbv
      refine drawn_sound tok (by kernel_rfl) [(9, [])] [0, 1, 2, 3, 4, 5, 6, 7, 8, 9] (by kernel_rfl) ?_; conv => cbv
      refine Need.mk ⟨hi0, gi⟩ ?_
      conv => cbv
      refine Sum.mk fun w hw => ?_
      have hw : w = i * 4 := hw
      conv => cbv
      refine Sum.mk fun w2 hw2 => ?_
      have hw2 : w2 = w + 1 := hw2
      conv => cbv
      refine Cell.at (w2 + 0) (4 * i.toNat + 1) hcg rfl (by omega) ?_
      conv => cbv
      refine callF_frame (rfreeA_lx R1 vs N a W P1 B1 V h1.p h1.b h1.v h1.n h1.r h1.a h1.w) [(0, 1), (1, 2), (2, 3), (3, 4), (4, 5)] rfl (by simp [hmapOk, nget, hget, renB, okB, renV, renVs, rn, okVs, okV]) rfl rfl (fun r h' n' hrr => ?_)
      obtain ⟨e, R2, P2, B2, e1, e2, e3, hP2, hB2, hf⟩ := hrr
      subst e1 e2 e3
      have h2 := h1.freet hf hP2 hB2
      conv => cbv
      refine Fit.mk (by show (-9223372036854775808 : Int) ≤ i + 1; omega) (by show i + 1 ≤ 9223372036854775807; omega) fun i2 hi2 => ?_
      have hi2 : i2 = i + 1 := hi2
      have hF2 : Frees R ((out.map fun g => g.2.1).take i2.toNat) R2 := by
        rw [show i2.toNat = i.toNat + 1 by omega, List.take_add_one, List.getElem?_map, hg]
        exact .snoc R R1 R2 _ g.2.1 e hF (ha ▸ hf)
      conv => cbv
      refine Again.mk k' _ (Nat.lt_succ_self _) (Re.at [(0, 0), (1, 1), (2, 2), (3, 3), (4, 4), (5, 5), (6, 6), (7, 7), (8, 8)] []) ⟨i2, P2, B2, R2, rfl, by omega, by omega, h2, hF2, by omega⟩
    · have gi : ¬ i < k := gi
      rw [List.take_of_length_le (by rw [List.length_map]; omega)] at hF
      conv => cbv
      refine Fit.mk (by show (-9223372036854775808 : Int) ≤ sp + 1; omega) (by show sp + 1 ≤ 9223372036854775807; omega) fun s2 hs2 => ?_
      have hs2 : s2 = sp + 1 := hs2
      conv => cbv
      refine drawn_sound tok (by kernel_rfl) [] [0, 1, 2, 3, 4, 5, 6, 7, 8, 9, 10, 11, 12, 13, 14, 15] (by kernel_rfl) ?_; conv => cbv
      refine Br.mk (fun gw => ?_) (fun gw => ?_)
      · have gw : N ≤ s2 := gw
        conv => cbv
        refine Fit.mk (by show (-9223372036854775808 : Int) ≤ cy + 1; omega) (by show cy + 1 ≤ 9223372036854775807; omega) fun c2 hc2 => ?_
        have hc2 : c2 = cy + 1 := hc2
        conv => cbv
        refine RetF.mk [.p (.vsl (.sym k) true cells)] [(0, .mix [.ptr 1 (.lit 0), .sl 6 3 1 (.lit 0) (.sym W), .ptr 7 (.lit 0), .p (.int .i64 (.sym 0)), .p (.int .i64 (.sym s2)), .p (.int .i64 (.sym c2))]), (1, .mix [.ptr 2 (.lit 0), .sl 5 3 1 (.lit 0) (.sym W)]), (2, .mix [.sl 3 3 1 (.lit 0) (.sym N), .sl 4 120 8 (.lit 0) (.sym N)]), (3, .pure true P1), (4, .pure true B1), (5, .pure true V), (6, .pure true Q), (7, .mix [.p (.vsl (.sym m) true la), .p (.bool ov)])] 8 (Re.at [(0, 0), (1, 1), (2, 2), (3, 3), (4, 4), (5, 5), (6, 6), (7, 7)] []) rfl ⟨out, k, 0, s2, c2, cells, P1, B1, R1, rfl, rfl, rfl, h1, hcs, hk, hG, hF, hs2, by unfold swPh; rw [if_pos (by omega)], by unfold swCy; rw [if_pos (by omega)]; exact hc2⟩
      · have gw : ¬ N ≤ s2 := gw
        conv => cbv
        refine RetF.mk [.p (.vsl (.sym k) true cells)] [(0, .mix [.ptr 1 (.lit 0), .sl 6 3 1 (.lit 0) (.sym W), .ptr 7 (.lit 0), .p (.int .i64 (.sym ph)), .p (.int .i64 (.sym s2)), .p (.int .i64 (.sym cy))]), (1, .mix [.ptr 2 (.lit 0), .sl 5 3 1 (.lit 0) (.sym W)]), (2, .mix [.sl 3 3 1 (.lit 0) (.sym N), .sl 4 120 8 (.lit 0) (.sym N)]), (3, .pure true P1), (4, .pure true B1), (5, .pure true V), (6, .pure true Q), (7, .mix [.p (.vsl (.sym m) true la), .p (.bool ov)])] 8 (Re.at [(0, 0), (1, 1), (2, 2), (3, 3), (4, 4), (5, 5), (6, 6), (7, 7)] []) rfl ⟨out, k, ph, s2, cy, cells, P1, B1, R1, rfl, rfl, rfl, h1, hcs, hk, hG, hF, hs2, by unfold swPh; rw [if_neg (by omega)]; exact hph, by unfold swCy; rw [if_neg (by omega)]⟩
inductive RStepd (R : List Rw) (vs C G : List Int) (ov : Bool) (ph sp cy W : Int) : List Gn → List Rw → List Int → List Int → List Int → Bool → Int → Int → Int → Prop
  | mark (out : List Gn) (vs' C' G' : List Int) (ov' : Bool) (ph' sp' : Int) (h : ph = 1) (hm : Marked R vs C G ov sp out ph' sp' vs' C' G' ov') : RStepd R vs C G ov ph sp cy W out R vs' C' G' ov' ph' sp' cy
  | sweep (out : List Gn) (R' : List Rw) (h : ph = 2) (hg : RG R vs C sp (objs R).length out) (hf : Frees R (out.map fun g => g.2.1) R') : RStepd R vs C G ov ph sp cy W out R' vs C G ov (swPh sp W) (sp + 1) (swCy sp W cy)
  | idle (h : ph ≠ 1) (h2 : ph ≠ 2) : RStepd R vs C G ov ph sp cy W [] R vs C G ov ph sp cy
set_option maxHeartbeats 4000000 in
theorem rstep_lx (R : List Rw) (vs C G : List Int) (N W ph sp cy : Int) (P B V Q la : List PV) (m : Int) (ov : Bool) (h : RM R vs C G N W P B V Q la m) (hsp : 0 ≤ sp ∧ sp ≤ 1000) (hcy : 0 ≤ cy ∧ cy ≤ 1000000000) : CallF (fun _ => Tryz.prog) 48 [.ptr 0 (.lit 0)] [(0, .mix [.ptr 1 (.lit 0), .sl 6 3 1 (.lit 0) (.sym W), .ptr 7 (.lit 0), .p (.int .i64 (.sym ph)), .p (.int .i64 (.sym sp)), .p (.int .i64 (.sym cy))]), (1, .mix [.ptr 2 (.lit 0), .sl 5 3 1 (.lit 0) (.sym W)]), (2, .mix [.sl 3 3 1 (.lit 0) (.sym N), .sl 4 120 8 (.lit 0) (.sym N)]), (3, .pure true P), (4, .pure true B), (5, .pure true V), (6, .pure true Q), (7, .mix [.p (.vsl (.sym m) true la), .p (.bool ov)])] 8 (fun r h n => ∃ (out : List Gn) (k ph' sp' cy' : Int) (R' : List Rw) (vs' C' G' : List Int) (ov' : Bool) (cells P' B' V' Q' la' : List PV) (m' : Int), r = .p (.vsl (.sym k) true cells) ∧ h = [(0, .mix [.ptr 1 (.lit 0), .sl 6 3 1 (.lit 0) (.sym W), .ptr 7 (.lit 0), .p (.int .i64 (.sym ph')), .p (.int .i64 (.sym sp')), .p (.int .i64 (.sym cy'))]), (1, .mix [.ptr 2 (.lit 0), .sl 5 3 1 (.lit 0) (.sym W)]), (2, .mix [.sl 3 3 1 (.lit 0) (.sym N), .sl 4 120 8 (.lit 0) (.sym N)]), (3, .pure true P'), (4, .pure true B'), (5, .pure true V'), (6, .pure true Q'), (7, .mix [.p (.vsl (.sym m') true la'), .p (.bool ov')])] ∧ n = 8 ∧ RM R' vs' C' G' N W P' B' V' Q' la' m' ∧ cells = gpv out ∧ k = out.length ∧ RStepd R vs C G ov ph sp cy W out R' vs' C' G' ov' ph' sp' cy') := by
  refine callF_of_body tok Tryz.func48 (by kernel_rfl) rfl rfl rfl ?_; conv => cbv
  refine Br.mk (fun g => ?_) (fun g => ?_)
  · have g : ph = 1 := g
    conv => cbv
    refine callF_frame (rmark_lx R vs C G N W ph sp cy P B V Q la m ov h g) [(0, 0), (1, 1), (2, 2), (3, 3), (4, 4), (5, 5), (6, 6), (7, 7)] rfl (by simp [hmapOk, nget, hget, renB, okB, renV, renVs, rn, okVs, okV]) rfl rfl (fun r h' n' hrr => ?_)
    obtain ⟨out, k, ph', sp', cells, vs', C', G', ov', V', Q', la', m', e1, e2, e3, h2, hcs, hk, hM⟩ := hrr
    subst e1 e2 e3
    conv => cbv
    refine RetF.mk [.p (.vsl (.sym k) true cells)] [(0, .mix [.ptr 1 (.lit 0), .sl 6 3 1 (.lit 0) (.sym W), .ptr 7 (.lit 0), .p (.int .i64 (.sym ph')), .p (.int .i64 (.sym sp')), .p (.int .i64 (.sym cy))]), (1, .mix [.ptr 2 (.lit 0), .sl 5 3 1 (.lit 0) (.sym W)]), (2, .mix [.sl 3 3 1 (.lit 0) (.sym N), .sl 4 120 8 (.lit 0) (.sym N)]), (3, .pure true P), (4, .pure true B), (5, .pure true V'), (6, .pure true Q'), (7, .mix [.p (.vsl (.sym m') true la'), .p (.bool ov')])] 8 (Re.at [(0, 0), (1, 1), (2, 2), (3, 3), (4, 4), (5, 5), (6, 6), (7, 7)] []) rfl ⟨out, k, ph', sp', cy, R, vs', C', G', ov', cells, P, B, V', Q', la', m', rfl, rfl, rfl, h2, hcs, hk, .mark out vs' C' G' ov' ph' sp' g hM⟩
  · have g : ¬ ph = 1 := g
    conv => cbv
    refine Br.mk (fun g2 => ?_) (fun g2 => ?_)
    · have g2 : ph = 2 := g2
      conv => cbv
      refine callF_frame (rsweep_lx R vs C G N W ph sp cy P B V Q la m ov h g2 hsp hcy) [(0, 0), (1, 1), (2, 2), (3, 3), (4, 4), (5, 5), (6, 6), (7, 7)] rfl (by simp [hmapOk, nget, hget, renB, okB, renV, renVs, rn, okVs, okV]) rfl rfl (fun r h' n' hrr => ?_)
      obtain ⟨out, k, ph', sp', cy', cells, P', B', R', e1, e2, e3, h2, hcs, hk, hG, hF, q1, q2, q3⟩ := hrr
      subst e1 e2 e3
      conv => cbv
      refine RetF.mk [.p (.vsl (.sym k) true cells)] [(0, .mix [.ptr 1 (.lit 0), .sl 6 3 1 (.lit 0) (.sym W), .ptr 7 (.lit 0), .p (.int .i64 (.sym ph')), .p (.int .i64 (.sym sp')), .p (.int .i64 (.sym cy'))]), (1, .mix [.ptr 2 (.lit 0), .sl 5 3 1 (.lit 0) (.sym W)]), (2, .mix [.sl 3 3 1 (.lit 0) (.sym N), .sl 4 120 8 (.lit 0) (.sym N)]), (3, .pure true P'), (4, .pure true B'), (5, .pure true V), (6, .pure true Q), (7, .mix [.p (.vsl (.sym m) true la), .p (.bool ov)])] 8 (Re.at [(0, 0), (1, 1), (2, 2), (3, 3), (4, 4), (5, 5), (6, 6), (7, 7)] []) rfl ⟨out, k, ph', sp', cy', R', vs, C, G, ov, cells, P', B', V, Q, la, m, rfl, rfl, rfl, h2, hcs, hk, by rw [q1, q2, q3]; exact .sweep out R' g2 hG hF⟩
    · have g2 : ¬ ph = 2 := g2
      conv => cbv
      refine RetF.mk [.p (.vsl (.sym 0) true [])] [(0, .mix [.ptr 1 (.lit 0), .sl 6 3 1 (.lit 0) (.sym W), .ptr 7 (.lit 0), .p (.int .i64 (.sym ph)), .p (.int .i64 (.sym sp)), .p (.int .i64 (.sym cy))]), (1, .mix [.ptr 2 (.lit 0), .sl 5 3 1 (.lit 0) (.sym W)]), (2, .mix [.sl 3 3 1 (.lit 0) (.sym N), .sl 4 120 8 (.lit 0) (.sym N)]), (3, .pure true P), (4, .pure true B), (5, .pure true V), (6, .pure true Q), (7, .mix [.p (.vsl (.sym m) true la), .p (.bool ov)])] 8 (Re.at [(0, 0), (1, 1), (2, 2), (3, 3), (4, 4), (5, 5), (6, 6), (7, 7)] []) rfl ⟨[], 0, ph, sp, cy, R, vs, C, G, ov, [], P, B, V, Q, la, m, rfl, rfl, rfl, h, rfl, rfl, .idle g g2⟩
end Go.Proofs.YtllafhhnciobhaaGreatDoor
