/-
  Layer 9: a step of Sweep; a step.
-/
import Derived.Test.YtllafhhnciobhaaGreatDoorHu

namespace Go.Proofs.YtllafhhnciobhaaGreatDoor

open Go Go.LX
set_option maxRecDepth 100000
set_option linter.unusedVariables false
set_option linter.unusedSimpArgs false

def Wh (R : List Rw) (C : List Int) (p : Int) : Prop := p ∈ objs R ∧ C[p.toNat]? = some 0
/-- What is swept, from a place on. -/
inductive SweptTo (ws C : List Int) (R : List Rw) (p : Int) : Nat → List Gn → List Rw → Prop
  | zero : SweptTo ws C R p 0 [] R
  | skip (i : Nat) (out : List Gn) (R1 : List Rw) (h : SweptTo ws C R p i out R1) (hn : ¬ Wh R1 C (p + i)) : SweptTo ws C R p (i + 1) out R1
  | free (i : Nat) (out : List Gn) (R1 R2 : List Rw) (k : Int) (X : List Int) (h : SweptTo ws C R p i out R1) (hw : Wh R1 C (p + i)) (hk : KindR R1 ws (p + i) k) (hX : Wrds R1 ws (p + i) X) (hf : Freet R1 (p + i) 0 R2) : SweptTo ws C R p (i + 1) (out ++ [(k, p + i, X, false)]) R2
theorem SweptTo.le {ws C : List Int} {R R' : List Rw} {p : Int} {i : Nat} {out : List Gn} (h : SweptTo ws C R p i out R') : out.length ≤ i := by
  induction h with
  | zero => exact Nat.le_refl _
  | skip i out R1 h hn ih => omega
  | free i out R1 R2 k X h hw hk hX hf ih => rw [List.length_append]; simp; omega
theorem kept_freet {R R' : List Rw} {ws : List Int} {a e : Int} (hA : AOk R ws) (h : Freet R a e R') : ∀ b k l, Kept R' ws b k l → Kept R ws b k l := by
  cases h with
  | none _ => exact fun _ _ _ hk => hk
  | ok q s e he hs hat =>
    obtain ⟨_, _, _, g4⟩ := free_objs hA.rows he hs a hat
    rintro b k l ⟨w, h1, h2, h3, h4, h5, h6⟩
    exact .mk k l w ((g4 b w).1 h1).1 h2 h3 h4 h5 h6
theorem HM.freet {R R' : List Rw} {ws C G : List Int} {N W : Int} {L L' D Q : List PV} {z : ByteArray} {a e : Int} (h : HM R ws C G N W L D Q z) (hf : Freet R a e R') (hL : L' = rpv R') : HM R' ws C G N W L' D Q z := by
  obtain ⟨h1, h2⟩ := h.a.freet hf
  exact ⟨h1, fun b k l hb => h.k b k l (kept_freet h.a hf b k l hb), by rw [h2]; exact h.n, by rw [h2]; exact h.r, h.w, hL, h.d, h.q, h.c, h.z, h.g, h.g8⟩
theorem freet_ok {R R' : List Rw} {ws : List Int} {a e : Int} (hA : AOk R ws) (ho : a ∈ objs R) (h : Freet R a e R') : e = 0 := by
  cases h with
  | none hn => exact absurd ((obj_iff hA a).1 ho) hn
  | ok _ _ _ _ _ _ => rfl
/-- Where Sweep stands behind a step. -/
def swPh (sp W : Int) : Int := if W ≤ (sp + 1) * 32 then 0 else 2
def swCy (sp W cy : Int) : Int := if W ≤ (sp + 1) * 32 then cy + 1 else cy
set_option maxHeartbeats 4000000 in
theorem sweepH_lx (R : List Rw) (ws C G : List Int) (N W ph sp cy : Int) (L D Q : List PV) (z : ByteArray) (ov : Bool) (h : HM R ws C G N W L D Q z) (hph : ph = 2) (hsp : 0 ≤ sp ∧ sp ≤ 1000) (hcy : 0 ≤ cy ∧ cy ≤ 1000000000) : CallF (fun _ => Tryz.prog) 63 [.ptr 0 (.lit 0)] [(0, .mix [.ptr 1 (.lit 0), .ptr 5 (.lit 0), .sl 6 3 1 (.lit 0) (.sym W), .p (.int .i64 (.sym ph)), .p (.int .i64 (.sym sp)), .p (.int .i64 (.sym cy))]), (1, .mix [.ptr 2 (.lit 0), .sl 4 3 1 (.lit 0) (.sym W)]), (2, .mix [.sl 3 101 2 (.lit 0) (.sym N)]), (3, .pure true L), (4, .pure true D), (5, .pure false [.str fun _ => z, .bool ov]), (6, .pure true Q)] 7 (fun r h n => ∃ (out : List Gn) (k ph' sp' cy' : Int) (cells L' : List PV) (R' : List Rw), r = .p (.vsl (.sym k) true cells) ∧ h = [(0, .mix [.ptr 1 (.lit 0), .ptr 5 (.lit 0), .sl 6 3 1 (.lit 0) (.sym W), .p (.int .i64 (.sym ph')), .p (.int .i64 (.sym sp')), .p (.int .i64 (.sym cy'))]), (1, .mix [.ptr 2 (.lit 0), .sl 4 3 1 (.lit 0) (.sym W)]), (2, .mix [.sl 3 101 2 (.lit 0) (.sym N)]), (3, .pure true L'), (4, .pure true D), (5, .pure false [.str fun _ => z, .bool ov]), (6, .pure true Q)] ∧ n = 7 ∧ HM R' ws C G N W L' D Q z ∧ cells = gpv out ∧ k = out.length ∧ SweptTo ws C R (32 * sp) 32 out R' ∧ sp' = sp + 1 ∧ ph' = swPh sp W ∧ cy' = swCy sp W cy) := by
  have hWn := h.w; have hNr := h.n; have hRr := h.r
  refine callF_of_body tok Tryz.func63 (by kernel_rfl) rfl rfl rfl ?_; conv => cbv
  refine drawn_sound tok (by kernel_rfl) [] [0, 1, 2, 3, 4, 5, 6, 7, 8, 9, 10, 11, 12] (by kernel_rfl) ?_; conv => cbv
  refine Fit.mk (by show (-9223372036854775808 : Int) ≤ sp * 32; omega) (by show sp * 32 ≤ 9223372036854775807; omega) fun f hf => ?_
  have hf : f = sp * 32 := hf
  conv => cbv
  refine Fit.mk (by show (-9223372036854775808 : Int) ≤ sp + 1; omega) (by show sp + 1 ≤ 9223372036854775807; omega) fun s1 hs1 => ?_
  have hs1 : s1 = sp + 1 := hs1
  conv => cbv
  refine Fit.mk (by show (-9223372036854775808 : Int) ≤ s1 * 32; omega) (by show s1 * 32 ≤ 9223372036854775807; omega) fun be hbe => ?_
  have hbe : be = s1 * 32 := hbe
  conv => cbv
  refine LoopF.mk (fun kk s => ∃ (at_ k : Int) (i : Nat) (out : List Gn) (cells L1 : List PV) (R1 : List Rw), s = ⟨.ptr 0 (.lit 0) :: (undefs 2 ++ .sl 7 51 4 (.lit 0) (.sym k) :: .undef :: .p (.int .i64 (.sym be)) :: .p (.int .i64 (.sym at_)) :: undefs 65), [(0, .mix [.ptr 1 (.lit 0), .ptr 5 (.lit 0), .sl 6 3 1 (.lit 0) (.sym W), .p (.int .i64 (.sym ph)), .p (.int .i64 (.sym sp)), .p (.int .i64 (.sym cy))]), (1, .mix [.ptr 2 (.lit 0), .sl 4 3 1 (.lit 0) (.sym W)]), (2, .mix [.sl 3 101 2 (.lit 0) (.sym N)]), (3, .pure true L1), (4, .pure true D), (5, .pure false [.str fun _ => z, .bool ov]), (6, .pure true Q), (7, .pure true cells)], 8⟩ ∧ at_ = 32 * sp + i ∧ i ≤ 32 ∧ HM R1 ws C G N W L1 D Q z ∧ SweptTo ws C R (32 * sp) i out R1 ∧ cells = gpv out ∧ k = out.length ∧ kk = 32 - i) 32 _
    (Re.at [(0, 0), (1, 1), (2, 2), (3, 3), (4, 4), (5, 5), (6, 6)] [7]) ⟨f, 0, 0, [], [], L, R, rfl, by omega, by omega, h, .zero, rfl, rfl, by omega⟩ ?_
  rintro kk s ⟨at_, k, i, out, cells, L1, R1, rfl, hat, hi, h1, hS, hcs, hk, hkk⟩
  have hle := hS.le
  have hcl : (cells.length : Int) = 4 * k := by rw [hcs, gpv_length]; omega
  conv => cbv
  refine Br.mk (fun gi => ?_) (fun gi => ?_)
  · have gi : at_ < be := gi
    obtain ⟨k', rfl⟩ : ∃ k', kk = k' + 1 := ⟨kk - 1, by omega⟩
    conv => cbv
    refine CallF.le (args0 := [.ptr 0 (.lit 0), .p (.int .i64 (.sym at_)), .p (.int .i64 (.sym 0))]) (callF_frame (is_lx R1 ws C G N W ph sp cy L1 D Q z ov h1 at_ 0) [(0, 0), (1, 1), (2, 2), (3, 3), (4, 4), (5, 5), (6, 6)] rfl (by simp [hmapOk, nget, hget, renB, okB, renV, renVs, rn, okVs, okV]) rfl rfl (fun r h' n' hrr => ?_)) (by simp [ales, ale, pvle, I.val])
    obtain ⟨b, e1, e2, e3, hb⟩ := hrr
    subst e1 e2 e3
    cases b with
    | false =>
      have hnw : ¬ Wh R1 C (32 * sp + i) := fun hw => by have := hb.2 (hat ▸ hw); cases this
      conv => cbv
      refine Fit.mk (by show (-9223372036854775808 : Int) ≤ at_ + 1; omega) (by show at_ + 1 ≤ 9223372036854775807; omega) fun i2 hi2 => ?_
      have hi2 : i2 = at_ + 1 := hi2
      have hat2 : i2 = 32 * sp + ((i + 1 : Nat) : Int) := by omega
      conv => cbv
      refine Again.mk k' _ (Nat.lt_succ_self _) (Re.at [(0, 0), (1, 1), (2, 2), (3, 3), (4, 4), (5, 5), (6, 6), (7, 7)] []) ⟨i2, k, i + 1, out, cells, L1, R1, rfl, hat2, by omega, h1, .skip i out R1 hS hnw, hcs, hk, by omega⟩
    | true =>
      have hw : Wh R1 C (32 * sp + i) := hat ▸ hb.1 rfl
      conv => cbv
      refine callF_frame (kind_lx R1 ws N at_ W L1 D h1.l h1.d h1.n h1.r h1.a h1.w) [(0, 1), (1, 2), (2, 3), (3, 4)] rfl (by simp [hmapOk, nget, hget, renB, okB, renV, renVs, rn, okVs, okV]) rfl rfl (fun r h' n' hrr => ?_)
      obtain ⟨v, e1, e2, e3, hv⟩ := hrr
      subst e1 e2 e3
      conv => cbv
      refine callF_frame (wordsV_lx R1 ws C G N W ph sp cy L1 D Q z ov h1 at_) [(0, 0), (1, 1), (2, 2), (3, 3), (4, 4), (5, 5), (6, 6)] rfl (by simp [hmapOk, nget, hget, renB, okB, renV, renVs, rn, okVs, okV]) rfl rfl (fun r h' n' hrr => ?_)
      obtain ⟨X, m, O, e1, e2, e3, hO, hm, hX⟩ := hrr
      subst e1 e2 e3
      conv => cbv
      refine Room.new rfl ?_
      conv => cbv
      refine Room.new ⟨?_, ?_, ?_⟩ ?_
      · show (cells.length : Int) = k * 4; omega
      · show (k + 1) * 48 ≤ 140737488355328; omega
      · show k + 1 ≤ 9223372036854775807; omega
      conv => cbv
      refine Upd.mk fun c2 hc2 => ?_
      have hc2 : c2 = cells ++ [.int .i64 (.sym v), .int .i64 (.sym at_), .vsl (.sym m) true O, .bool false] := hc2
      have hc2 : c2 = gpv (out ++ [(v, 32 * sp + i, X, false)]) := by rw [hc2, hcs, gpv_app, hO, hm, hat]; rfl
      conv => cbv
      refine Sum.mk fun k2 hk2 => ?_
      have hk2 : k2 = k + 1 := hk2
      conv => cbv
      refine callF_frame (freeA_lx at_ R1 ws N W L1 D h1.l h1.d h1.n h1.r h1.a h1.w) [(0, 1), (1, 2), (2, 3), (3, 4)] rfl (by simp [hmapOk, nget, hget, renB, okB, renV, renVs, rn, okVs, okV]) rfl rfl (fun r h' n' hrr => ?_)
      obtain ⟨e, R2, L2, e1, e2, e3, hL2, hF⟩ := hrr
      subst e1 e2 e3
      have he := freet_ok h1.a (hat.symm ▸ hw.1) hF
      subst he
      have h2 := h1.freet hF hL2
      conv => cbv
      refine Fit.mk (by show (-9223372036854775808 : Int) ≤ at_ + 1; omega) (by show at_ + 1 ≤ 9223372036854775807; omega) fun i2 hi2 => ?_
      have hi2 : i2 = at_ + 1 := hi2
      have hat2 : i2 = 32 * sp + ((i + 1 : Nat) : Int) := by omega
      have hS2 := SweptTo.free i out R1 R2 v X hS hw (hat ▸ hv) (hat ▸ hX) (hat ▸ hF)
      have hk3 : k2 = ((out ++ [(v, 32 * sp + (i : Int), X, false)]).length : Int) := by rw [List.length_append]; show k2 = ((out.length + 1 : Nat) : Int); omega
      conv => cbv
      refine Again.mk k' _ (Nat.lt_succ_self _) (Re.at [(0, 0), (1, 1), (2, 2), (3, 3), (4, 4), (5, 5), (6, 6), (9, 7)] []) ⟨i2, k2, i + 1, _, c2, L2, R2, rfl, hat2, by omega, h2, hS2, hc2, hk3, by omega⟩
  · have gi : ¬ at_ < be := gi
    obtain rfl : i = 32 := by omega
    conv => cbv
    refine Fit.mk (by show (-9223372036854775808 : Int) ≤ sp + 1; omega) (by show sp + 1 ≤ 9223372036854775807; omega) fun s2 hs2 => ?_
    have hs2 : s2 = sp + 1 := hs2
    conv => cbv
    refine callF_frame (wordsA_lx R1 ws N W L1 D h1.l h1.d h1.n h1.r h1.a h1.w) [(0, 1), (1, 2), (2, 3), (3, 4)] rfl (by simp [hmapOk, nget, hget, renB, okB, renV, renVs, rn, okVs, okV]) rfl rfl (fun r h' n' ⟨e1, e2, e3⟩ => ?_)
    subst e1 e2 e3
    conv => cbv
    refine Br.mk (fun gw => ?_) (fun gw => ?_)
    · have gw : W ≤ be := gw
      conv => cbv
      refine Fit.mk (by show (-9223372036854775808 : Int) ≤ cy + 1; omega) (by show cy + 1 ≤ 9223372036854775807; omega) fun c2 hc2 => ?_
      have hc2 : c2 = cy + 1 := hc2
      conv => cbv
      refine RetF.mk [.p (.vsl (.sym k) true cells)] [(0, .mix [.ptr 1 (.lit 0), .ptr 5 (.lit 0), .sl 6 3 1 (.lit 0) (.sym W), .p (.int .i64 (.sym 0)), .p (.int .i64 (.sym s2)), .p (.int .i64 (.sym c2))]), (1, .mix [.ptr 2 (.lit 0), .sl 4 3 1 (.lit 0) (.sym W)]), (2, .mix [.sl 3 101 2 (.lit 0) (.sym N)]), (3, .pure true L1), (4, .pure true D), (5, .pure false [.str fun _ => z, .bool ov]), (6, .pure true Q)] 7 (Re.at [(0, 0), (1, 1), (2, 2), (3, 3), (4, 4), (5, 5), (6, 6)] []) rfl ⟨out, k, 0, s2, c2, cells, L1, R1, rfl, rfl, rfl, h1, hcs, hk, hS, hs2, by unfold swPh; rw [if_pos (by omega)], by unfold swCy; rw [if_pos (by omega)]; exact hc2⟩
    · have gw : ¬ W ≤ be := gw
      conv => cbv
      refine RetF.mk [.p (.vsl (.sym k) true cells)] [(0, .mix [.ptr 1 (.lit 0), .ptr 5 (.lit 0), .sl 6 3 1 (.lit 0) (.sym W), .p (.int .i64 (.sym ph)), .p (.int .i64 (.sym s2)), .p (.int .i64 (.sym cy))]), (1, .mix [.ptr 2 (.lit 0), .sl 4 3 1 (.lit 0) (.sym W)]), (2, .mix [.sl 3 101 2 (.lit 0) (.sym N)]), (3, .pure true L1), (4, .pure true D), (5, .pure false [.str fun _ => z, .bool ov]), (6, .pure true Q)] 7 (Re.at [(0, 0), (1, 1), (2, 2), (3, 3), (4, 4), (5, 5), (6, 6)] []) rfl ⟨out, k, ph, s2, cy, cells, L1, R1, rfl, rfl, rfl, h1, hcs, hk, hS, hs2, by unfold swPh; rw [if_neg (by omega)]; exact hph, by unfold swCy; rw [if_neg (by omega)]⟩
inductive Stepd (R : List Rw) (ws C G : List Int) (ov : Bool) (ph sp cy W : Int) : List Gn → List Rw → List Int → List Int → List Int → Bool → Int → Int → Int → Prop
  | mark (out : List Gn) (ws' C' G' : List Int) (ov' : Bool) (ph' sp' : Int) (h : ph = 1) (hm : Marked R ws C G ov sp out ph' sp' ws' C' G' ov') : Stepd R ws C G ov ph sp cy W out R ws' C' G' ov' ph' sp' cy
  | sweep (out : List Gn) (R' : List Rw) (h : ph = 2) (hs : SweptTo ws C R (32 * sp) 32 out R') : Stepd R ws C G ov ph sp cy W out R' ws C G ov (swPh sp W) (sp + 1) (swCy sp W cy)
  | idle (h : ph ≠ 1) (h2 : ph ≠ 2) : Stepd R ws C G ov ph sp cy W [] R ws C G ov ph sp cy
set_option maxHeartbeats 4000000 in
theorem step_lx (R : List Rw) (ws C G : List Int) (N W ph sp cy : Int) (L D Q : List PV) (z : ByteArray) (ov : Bool) (h : HM R ws C G N W L D Q z) (o : Unit → Obj) (ho : IsPow o) (hsp : 0 ≤ sp ∧ sp ≤ 1000) (hcy : 0 ≤ cy ∧ cy ≤ 1000000000) : CallF (fun _ => Tryz.prog) 27 [.ptr 0 (.lit 0)] [(0, .mix [.ptr 1 (.lit 0), .ptr 5 (.lit 0), .sl 6 3 1 (.lit 0) (.sym W), .p (.int .i64 (.sym ph)), .p (.int .i64 (.sym sp)), .p (.int .i64 (.sym cy))]), (1, .mix [.ptr 2 (.lit 0), .sl 4 3 1 (.lit 0) (.sym W)]), (2, .mix [.sl 3 101 2 (.lit 0) (.sym N)]), (3, .pure true L), (4, .pure true D), (5, .pure false [.str fun _ => z, .bool ov]), (6, .pure true Q), (7, .fix 0 o)] 8 (fun r h n => ∃ (out : List Gn) (k ph' sp' cy' : Int) (R' : List Rw) (ws' C' G' : List Int) (ov' : Bool) (cells L' D' Q' : List PV) (z' : ByteArray), r = .p (.vsl (.sym k) true cells) ∧ h = [(0, .mix [.ptr 1 (.lit 0), .ptr 5 (.lit 0), .sl 6 3 1 (.lit 0) (.sym W), .p (.int .i64 (.sym ph')), .p (.int .i64 (.sym sp')), .p (.int .i64 (.sym cy'))]), (1, .mix [.ptr 2 (.lit 0), .sl 4 3 1 (.lit 0) (.sym W)]), (2, .mix [.sl 3 101 2 (.lit 0) (.sym N)]), (3, .pure true L'), (4, .pure true D'), (5, .pure false [.str fun _ => z', .bool ov']), (6, .pure true Q'), (7, .fix 0 o)] ∧ n = 8 ∧ HM R' ws' C' G' N W L' D' Q' z' ∧ cells = gpv out ∧ k = out.length ∧ Stepd R ws C G ov ph sp cy W out R' ws' C' G' ov' ph' sp' cy') := by
  refine callF_of_body tok Tryz.func27 (by kernel_rfl) rfl rfl rfl ?_; conv => cbv
  refine callF_frame (phase_lx R ws C G N W ph sp cy L D Q z ov) [(0, 0), (1, 1), (2, 2), (3, 3), (4, 4), (5, 5), (6, 6)] rfl (by simp [hmapOk, nget, hget, renB, okB, renV, renVs, rn, okVs, okV]) rfl rfl (fun r h' n' ⟨e1, e2, e3⟩ => ?_)
  subst e1 e2 e3
  conv => cbv
  refine Br.mk (fun g => ?_) (fun g => ?_)
  · have g : ph = 1 := g
    conv => cbv
    refine callF_frame (markH_lx R ws C G N W ph sp cy L D Q z ov h o ho g) [(0, 0), (1, 1), (2, 2), (3, 3), (4, 4), (5, 5), (6, 6), (7, 7)] rfl (by simp [hmapOk, nget, hget, renB, okB, renV, renVs, rn, okVs, okV]) rfl rfl (fun r h' n' hrr => ?_)
    obtain ⟨out, k, ph', sp', cells, ws', C', G', ov', D', Q', z', e1, e2, e3, h2, hcs, hk, hM⟩ := hrr
    subst e1 e2 e3
    conv => cbv
    refine RetF.mk [.p (.vsl (.sym k) true cells)] [(0, .mix [.ptr 1 (.lit 0), .ptr 5 (.lit 0), .sl 6 3 1 (.lit 0) (.sym W), .p (.int .i64 (.sym ph')), .p (.int .i64 (.sym sp')), .p (.int .i64 (.sym cy))]), (1, .mix [.ptr 2 (.lit 0), .sl 4 3 1 (.lit 0) (.sym W)]), (2, .mix [.sl 3 101 2 (.lit 0) (.sym N)]), (3, .pure true L), (4, .pure true D'), (5, .pure false [.str fun _ => z', .bool ov']), (6, .pure true Q'), (7, .fix 0 o)] 8 (Re.at [(0, 0), (1, 1), (2, 2), (3, 3), (4, 4), (5, 5), (6, 6), (7, 7)] []) rfl ⟨out, k, ph', sp', cy, R, ws', C', G', ov', cells, L, D', Q', z', rfl, rfl, rfl, h2, hcs, hk, .mark out ws' C' G' ov' ph' sp' g hM⟩
  · have g : ¬ ph = 1 := g
    conv => cbv
    refine Br.mk (fun g2 => ?_) (fun g2 => ?_)
    · have g2 : ph = 2 := g2
      conv => cbv
      refine callF_frame (sweepH_lx R ws C G N W ph sp cy L D Q z ov h g2 hsp hcy) [(0, 0), (1, 1), (2, 2), (3, 3), (4, 4), (5, 5), (6, 6)] rfl (by simp [hmapOk, nget, hget, renB, okB, renV, renVs, rn, okVs, okV]) rfl rfl (fun r h' n' hrr => ?_)
      obtain ⟨out, k, ph', sp', cy', cells, L', R', e1, e2, e3, h2, hcs, hk, hS, q1, q2, q3⟩ := hrr
      subst e1 e2 e3
      conv => cbv
      refine RetF.mk [.p (.vsl (.sym k) true cells)] [(0, .mix [.ptr 1 (.lit 0), .ptr 5 (.lit 0), .sl 6 3 1 (.lit 0) (.sym W), .p (.int .i64 (.sym ph')), .p (.int .i64 (.sym sp')), .p (.int .i64 (.sym cy'))]), (1, .mix [.ptr 2 (.lit 0), .sl 4 3 1 (.lit 0) (.sym W)]), (2, .mix [.sl 3 101 2 (.lit 0) (.sym N)]), (3, .pure true L'), (4, .pure true D), (5, .pure false [.str fun _ => z, .bool ov]), (6, .pure true Q), (7, .fix 0 o)] 8 (Re.at [(0, 0), (1, 1), (2, 2), (3, 3), (4, 4), (5, 5), (6, 6), (7, 7)] []) rfl ⟨out, k, ph', sp', cy', R', ws, C, G, ov, cells, L', D, Q, z, rfl, rfl, rfl, h2, hcs, hk, by rw [q1, q2, q3]; exact .sweep out R' g2 hS⟩
    · have g2 : ¬ ph = 2 := g2
      conv => cbv
      refine RetF.mk [.p (.vsl (.sym 0) true [])] [(0, .mix [.ptr 1 (.lit 0), .ptr 5 (.lit 0), .sl 6 3 1 (.lit 0) (.sym W), .p (.int .i64 (.sym ph)), .p (.int .i64 (.sym sp)), .p (.int .i64 (.sym cy))]), (1, .mix [.ptr 2 (.lit 0), .sl 4 3 1 (.lit 0) (.sym W)]), (2, .mix [.sl 3 101 2 (.lit 0) (.sym N)]), (3, .pure true L), (4, .pure true D), (5, .pure false [.str fun _ => z, .bool ov]), (6, .pure true Q), (7, .fix 0 o)] 8 (Re.at [(0, 0), (1, 1), (2, 2), (3, 3), (4, 4), (5, 5), (6, 6), (7, 7)] []) rfl ⟨[], 0, ph, sp, cy, R, ws, C, G, ov, [], L, D, Q, z, rfl, rfl, rfl, h, rfl, rfl, .idle g g2⟩
end Go.Proofs.YtllafhhnciobhaaGreatDoor
