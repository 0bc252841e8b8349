/-
  Layer 6: the rows of the reference.
-/
import Derived.Test.YtllafhhnciobhaaGreatDoorSc
namespace Go.Proofs.YtllafhhnciobhaaGreatDoor

open Go Go.LX
set_option maxRecDepth 100000
set_option linter.unusedVariables false
set_option linter.unusedSimpArgs false

theorem set_same {α : Type} {l : List α} {i : Nat} {x : α} (h : l[i]? = some x) : l.set i x = l := by
  apply List.ext_getElem?
  intro j
  by_cases e : i = j
  · subst e
    rw [List.getElem?_set_self (List.getElem?_eq_some_iff.1 h).1, h]
  · rw [List.getElem?_set_ne e]
/-- Rows as they may be. -/
def ROk (R : List Rw) : Prop := ∀ e ∈ R, e.2.length ≤ 8 ∧ (e.2 ≠ [] → slotsOf e.1 ≠ 0 ∧ e.2.length = slotsOf e.1)
def okAt (m : List Bool) (k : Nat) : Bool := decide (m[k]? = some true)
def flags (m : List Bool) : List PV := (List.range 8).map fun k => .bool (okAt m k)
def cpv (R : List Rw) : List PV := R.map fun e => .int .i64 (.sym (clsOf e))
def bpv : List Rw → List PV
  | [] => []
  | e :: R => flags e.2 ++ bpv R
theorem flags_length (m : List Bool) : (flags m).length = 8 := by simp [flags]
theorem flags_get {m : List Bool} {k : Nat} (h : k < 8) : (flags m)[k]? = some (.bool (okAt m k)) := by
  rw [flags, List.getElem?_map, List.getElem?_range h]; rfl
theorem cpv_length (R : List Rw) : (cpv R).length = R.length := List.length_map _
theorem cpv_get {R : List Rw} {q : Nat} {e : Rw} (h : R[q]? = some e) : (cpv R)[q]? = some (.int .i64 (.sym (clsOf e))) := by rw [cpv, List.getElem?_map, h]; rfl
theorem bpv_length : ∀ R : List Rw, (bpv R).length = 8 * R.length
  | [] => rfl
  | e :: R => by rw [bpv, List.length_append, flags_length, bpv_length R, List.length_cons]; omega
theorem bpv_get : ∀ {R : List Rw} {q : Nat} {e : Rw} {k : Nat}, R[q]? = some e → k < 8 → (bpv R)[8 * q + k]? = some (.bool (okAt e.2 k))
  | [], q, e, k, h, _ => by simp at h
  | x :: R, 0, e, k, h, hk => by
    have h : x = e := Option.some.inj h
    subst h
    rw [bpv, List.getElem?_append_left (by rw [flags_length]; omega)]
    simpa using flags_get (m := x.2) hk
  | x :: R, q + 1, e, k, h, hk => by
    rw [bpv, List.getElem?_append_right (by rw [flags_length]; omega), flags_length, show 8 * (q + 1) + k - 8 = 8 * q + k by omega]
    exact bpv_get (by simpa using h) hk
theorem bpv_set : ∀ {R : List Rw} {q : Nat} {e : Rw} (e' : Rw) {k : Nat} {v : Bool}, R[q]? = some e → k < 8 → flags e'.2 = (flags e.2).set k (.bool v) → (bpv R).set (8 * q + k) (.bool v) = bpv (R.set q e')
  | [], q, e, e', k, v, h, _, _ => by simp at h
  | x :: R, 0, e, e', k, v, h, hk, hf => by
    have h : x = e := Option.some.inj h
    subst h
    rw [bpv, List.set_cons_zero, bpv, List.set_append_left _ _ (by rw [flags_length]; omega), hf]
    simp
  | x :: R, q + 1, e, e', k, v, h, hk, hf => by
    rw [bpv, List.set_cons_succ, bpv, List.set_append_right _ _ (by rw [flags_length]; omega), flags_length, show 8 * (q + 1) + k - 8 = 8 * q + k by omega, bpv_set e' (by simpa using h) hk hf]
theorem bpv_same {R : List Rw} {q : Nat} {e : Rw} (e' : Rw) (h : R[q]? = some e) (hf : flags e'.2 = flags e.2) : bpv R = bpv (R.set q e') := by
  have h0 := bpv_set (v := okAt e.2 0) e' h (by decide : 0 < 8) (by
    rw [hf]
    have h1 := flags_get (m := e.2) (by decide : 0 < 8)
    exact (set_same h1).symm)
  rw [← h0]
  exact (set_same (bpv_get h (by decide : 0 < 8))).symm
theorem flags_set {m m' : List Bool} {k : Nat} {v : Bool} (hk : k < 8) (h1 : okAt m' k = v) (h2 : ∀ j, j ≠ k → okAt m' j = okAt m j) : flags m' = (flags m).set k (.bool v) := by
  apply List.ext_getElem?
  intro j
  by_cases hj : j < 8
  · rw [flags_get hj]
    by_cases e : k = j
    · subst e
      rw [List.getElem?_set_self (by rw [flags_length]; exact hj), h1]
    · rw [List.getElem?_set_ne e, flags_get hj, h2 j (fun h => e h.symm)]
  · rw [List.getElem?_eq_none (by rw [flags_length]; omega), List.getElem?_eq_none (by rw [List.length_set, flags_length]; omega)]
theorem okAt_set {m : List Bool} {k : Nat} {v : Bool} (hk : k < m.length) : okAt (m.set k v) k = v ∧ ∀ j, j ≠ k → okAt (m.set k v) j = okAt m j := by
  constructor
  · unfold okAt
    rw [List.getElem?_set_self hk]
    cases v <;> rfl
  · intro j hj
    unfold okAt
    rw [List.getElem?_set_ne (fun h => hj h.symm)]
theorem okAt_nil (k : Nat) : okAt [] k = false := by simp [okAt]
theorem cpv_set {R : List Rw} {q : Nat} (e' : Rw) {c : Int} (h : clsOf e' = c) : (cpv R).set q (.int .i64 (.sym c)) = cpv (R.set q e') := by
  rw [cpv, cpv, List.map_set, h]
theorem cpv_same {R : List Rw} {q : Nat} {e : Rw} (e' : Rw) (hq : R[q]? = some e) (h : clsOf e' = clsOf e) : cpv R = cpv (R.set q e') := by
  rw [← cpv_set e' h]
  exact (set_same (cpv_get hq)).symm
/-- Is a slot used? -/
def UsedAt (R : List Rw) (i j : Int) : Prop := ∃ e : Rw, 0 ≤ i ∧ R[i.toNat]? = some e ∧ 0 ≤ j ∧ e.2[j.toNat]? = some true
def classAt (R : List Rw) (i : Int) : Int := if 0 ≤ i then ((R[i.toNat]?).map clsOf).getD (-1) else -1
theorem rused_lx (i j : Int) (R : List Rw) (n : Int) (C B : List PV) (hC : C = cpv R) (hB : B = bpv R) (hn : n = R.length) (hR : R.length ≤ 1000) (hok : ROk R) : CallF (fun _ => Tryz.prog) 89 [.ptr 0 (.lit 0), .p (.int .i64 (.sym i)), .p (.int .i64 (.sym j))] [(0, .mix [.sl 1 3 1 (.lit 0) (.sym n), .sl 2 120 8 (.lit 0) (.sym n)]), (1, .pure true C), (2, .pure true B)] 3
    (fun r h n' => ∃ b : Bool, r = .p (.bool b) ∧ h = [(0, .mix [.sl 1 3 1 (.lit 0) (.sym n), .sl 2 120 8 (.lit 0) (.sym n)]), (1, .pure true C), (2, .pure true B)] ∧ n' = 3 ∧ (b = true ↔ UsedAt R i j)) := by
  refine callF_of_body tok Tryz.func89 (by kernel_rfl) rfl rfl rfl ?_; conv => cbv
  have hBl : B.length = 8 * R.length := by rw [hB, bpv_length]
  refine Br.mk (fun g1 => ?_) (fun g1 => ?_)
  case refine_2 =>
    have g1 : ¬ 0 ≤ i := g1
    have hno : ¬ UsedAt R i j := fun ⟨e, h, _⟩ => g1 h
    conv => cbv
    refine RetF.mk [.p (.bool false)] [(0, .mix [.sl 1 3 1 (.lit 0) (.sym n), .sl 2 120 8 (.lit 0) (.sym n)]), (1, .pure true C), (2, .pure true B)] 3 (Re.at [(0, 0), (1, 1), (2, 2)] []) rfl ⟨false, rfl, rfl, rfl, by simp [hno]⟩
  have g1 : 0 ≤ i := g1
  conv => cbv
  refine Br.mk (fun g2 => ?_) (fun g2 => ?_)
  case refine_2 =>
    have g2 : ¬ i < n := g2
    have hno : ¬ UsedAt R i j := fun ⟨e, _, he, _⟩ => by have := (List.getElem?_eq_some_iff.1 he).1; omega
    conv => cbv
    refine RetF.mk [.p (.bool false)] [(0, .mix [.sl 1 3 1 (.lit 0) (.sym n), .sl 2 120 8 (.lit 0) (.sym n)]), (1, .pure true C), (2, .pure true B)] 3 (Re.at [(0, 0), (1, 1), (2, 2)] []) rfl ⟨false, rfl, rfl, rfl, by simp [hno]⟩
  have g2 : i < n := g2
  conv => cbv
  refine Br.mk (fun g3 => ?_) (fun g3 => ?_)
  case refine_2 =>
    have g3 : ¬ 0 ≤ j := g3
    have hno : ¬ UsedAt R i j := fun ⟨e, _, _, h, _⟩ => g3 h
    conv => cbv
    refine RetF.mk [.p (.bool false)] [(0, .mix [.sl 1 3 1 (.lit 0) (.sym n), .sl 2 120 8 (.lit 0) (.sym n)]), (1, .pure true C), (2, .pure true B)] 3 (Re.at [(0, 0), (1, 1), (2, 2)] []) rfl ⟨false, rfl, rfl, rfl, by simp [hno]⟩
  have g3 : 0 ≤ j := g3
  conv => cbv
  refine Br.mk (fun g4 => ?_) (fun g4 => ?_)
  case refine_2 =>
    have g4 : ¬ j < 8 := g4
    have hno : ¬ UsedAt R i j := fun ⟨e, _, he, _, h⟩ => by
      have := (List.getElem?_eq_some_iff.1 h).1
      have := (hok e (List.mem_of_getElem? he)).1
      omega
    conv => cbv
    refine RetF.mk [.p (.bool false)] [(0, .mix [.sl 1 3 1 (.lit 0) (.sym n), .sl 2 120 8 (.lit 0) (.sym n)]), (1, .pure true C), (2, .pure true B)] 3 (Re.at [(0, 0), (1, 1), (2, 2)] []) rfl ⟨false, rfl, rfl, rfl, by simp [hno]⟩
  have g4 : j < 8 := g4
  obtain ⟨e, he⟩ : ∃ e, R[i.toNat]? = some e := ⟨_, List.getElem?_eq_getElem (by omega)⟩
  have hc := bpv_get (k := j.toNat) he (by omega)
  rw [← hB] at hc
  obtain ⟨b, hb⟩ : ∃ b, b = okAt e.2 j.toNat := ⟨_, rfl⟩
  have hbi : b = true ↔ UsedAt R i j := by
    rw [hb, okAt, decide_eq_true_eq]
    constructor
    · intro h; exact ⟨e, g1, he, g3, h⟩
    · rintro ⟨e', _, he', _, h⟩
      rw [he] at he'; cases he'; exact h
  rw [← hb] at hc
  conv => cbv
  refine Need.mk ⟨g1, by show i < n; omega⟩ ?_
  conv => cbv
  refine Sum.mk fun a ha => ?_
  have ha : a = i * 8 := ha
  conv => cbv
  refine Need.mk ⟨g3, by show j < ((8 : Nat) : Int); omega⟩ ?_
  conv => cbv
  refine Sum.mk fun a2 ha2 => ?_
  have ha2 : a2 = a + j := ha2
  conv => cbv
  refine Cell.at a2 _ hc (by simp [I.val]) (by omega) ?_
  conv => cbv
  refine RetF.mk [.p (.bool b)] [(0, .mix [.sl 1 3 1 (.lit 0) (.sym n), .sl 2 120 8 (.lit 0) (.sym n)]), (1, .pure true C), (2, .pure true B)] 3 (Re.at [(0, 0), (1, 1), (2, 2)] []) rfl ⟨b, rfl, rfl, rfl, hbi⟩
end Go.Proofs.YtllafhhnciobhaaGreatDoor
/-
  Layer 6: what the reference does.
-/
namespace Go.Proofs.YtllafhhnciobhaaGreatDoor

open Go Go.LX
set_option maxRecDepth 100000
set_option linter.unusedVariables false
set_option linter.unusedSimpArgs false

theorem pvles_set6 : ∀ (L M : List PV) (j : Nat) (u v : PV), pvles L M → pvle u v → pvles (L.set j u) (M.set j v)
  | [], [], _, _, _, _, _ => trivial
  | x :: L, y :: M, 0, u, v, h, k => ⟨k, h.2⟩
  | x :: L, y :: M, j + 1, u, v, h, k => ⟨h.1, pvles_set6 L M j u v h.2 k⟩
theorem okAt_get {m : List Bool} {k : Nat} {b : Bool} (h : m[k]? = some b) : okAt m k = b := by
  unfold okAt; rw [h]; cases b <;> rfl
theorem cnt0 {m : List Bool} (h8 : m.length ≤ 8) : (∀ k, k < 8 → okAt m k = false) ↔ m.count true = 0 := by
  rw [List.count_eq_zero]
  constructor
  · intro h hm
    obtain ⟨k, hk⟩ := List.getElem?_of_mem hm
    have hkl := (List.getElem?_eq_some_iff.1 hk).1
    have := h k (by omega)
    rw [okAt_get hk] at this
    cases this
  · intro h k _
    unfold okAt
    rw [decide_eq_false_iff_not]
    exact fun hk => h (List.mem_of_getElem? hk)
/-- What becomes of rows to which a slot is given back. -/
inductive Freed6 (R : List Rw) (i j : Int) : Bool → List Rw → Prop
  | no (h : ¬ UsedAt R i j) : Freed6 R i j false R
  | yes (e : Rw) (h0 : 0 ≤ i) (he : R[i.toNat]? = some e) (h1 : 0 ≤ j) (hs : e.2[j.toNat]? = some true) : Freed6 R i j true (freed R i.toNat e.1 (e.2.set j.toNat false))
set_option maxHeartbeats 4000000 in
theorem rfree_lx (i j : Int) (R : List Rw) (n : Int) (C B : List PV) (hC : C = cpv R) (hB : B = bpv R) (hn : n = R.length) (hR : R.length ≤ 1000) (hok : ROk R) : CallF (fun _ => Tryz.prog) 112 [.ptr 0 (.lit 0), .p (.int .i64 (.sym i)), .p (.int .i64 (.sym j))] [(0, .mix [.sl 1 3 1 (.lit 0) (.sym n), .sl 2 120 8 (.lit 0) (.sym n)]), (1, .pure true C), (2, .pure true B)] 3
    (fun r h n' => ∃ (b : Bool) (R' : List Rw) (C' B' : List PV), r = .p (.bool b) ∧ h = [(0, .mix [.sl 1 3 1 (.lit 0) (.sym n), .sl 2 120 8 (.lit 0) (.sym n)]), (1, .pure true C'), (2, .pure true B')] ∧ n' = 3 ∧ C' = cpv R' ∧ B' = bpv R' ∧ Freed6 R i j b R') := by
  have hBl : B.length = 8 * R.length := by rw [hB, bpv_length]
  have hCl : C.length = R.length := by rw [hC, cpv_length]
  by_cases hu : UsedAt R i j
  case neg =>
    refine callF_of_body tok Tryz.func112 (by kernel_rfl) rfl rfl rfl ?_; conv => cbv
    refine callF_frame (rused_lx i j R n C B hC hB hn hR hok) [(0, 0), (1, 1), (2, 2)] rfl (by simp [hmapOk, nget, hget, renB, okB, renV, renVs, rn, okVs, okV]) rfl rfl (fun r h' n' hrr => ?_)
    obtain ⟨b, e1, e2, e3, hb⟩ := hrr
    obtain rfl : b = false := by
      cases b with
      | false => rfl
      | true => exact absurd (hb.1 rfl) hu
    subst e1 e2 e3
    conv => cbv
    refine RetF.mk [.p (.bool false)] [(0, .mix [.sl 1 3 1 (.lit 0) (.sym n), .sl 2 120 8 (.lit 0) (.sym n)]), (1, .pure true C), (2, .pure true B)] 3 (Re.at [(0, 0), (1, 1), (2, 2)] []) rfl ⟨false, R, C, B, rfl, rfl, rfl, hC, hB, .no hu⟩
  case pos =>
    obtain ⟨e, h0, he, h1, hs⟩ := hu
    have hir := (List.getElem?_eq_some_iff.1 he).1
    have hjm := (List.getElem?_eq_some_iff.1 hs).1
    have hm8 := (hok e (List.mem_of_getElem? he)).1
    obtain ⟨m2, hm2⟩ : ∃ m2, m2 = e.2.set j.toNat false := ⟨_, rfl⟩
    have hfl : flags m2 = (flags e.2).set j.toNat (.bool false) := by
      obtain ⟨q1, q2⟩ := okAt_set (v := false) hjm
      rw [hm2]; exact flags_set (by omega) q1 q2
    obtain ⟨R2, hR2⟩ : ∃ R2, R2 = R.set i.toNat (e.1, m2) := ⟨_, rfl⟩
    have hR2i : R2[i.toNat]? = some (e.1, m2) := by rw [hR2, List.getElem?_set_self hir]
    have hB2 := bpv_set (v := false) (e.1, m2) he (show j.toNat < 8 by omega) hfl
    rw [← hR2, ← hB] at hB2
    have hne : e.2 ≠ [] := by intro e0; rw [e0] at hs; simp at hs
    obtain ⟨g, hg⟩ : ∃ g : Nat → Bool, ∀ k, g k = okAt m2 k := ⟨_, fun _ => rfl⟩
    have hcell : ∀ k, k < 8 → (bpv R2)[8 * i.toNat + k]? = some (.bool (g k)) := fun k hk => by rw [hg]; exact bpv_get hR2i hk
    have hused : UsedAt R i j := ⟨e, h0, he, h1, hs⟩
    refine callF_of_body tok Tryz.func112 (by kernel_rfl) rfl rfl rfl ?_; conv => cbv
    refine callF_frame (rused_lx i j R n C B hC hB hn hR hok) [(0, 0), (1, 1), (2, 2)] rfl (by simp [hmapOk, nget, hget, renB, okB, renV, renVs, rn, okVs, okV]) rfl rfl (fun r h' n' hrr => ?_)
    obtain ⟨b, e1, e2, e3, hb⟩ := hrr
    obtain rfl : b = true := hb.2 hused
    subst e1 e2 e3
    conv => cbv
    refine Need.mk ⟨h0, by show i < n; omega⟩ ?_
    conv => cbv
    refine Sum.mk fun a ha => ?_
    have ha : a = i * 8 := ha
    conv => cbv
    refine Need.mk ⟨h1, by show j < ((8 : Nat) : Int); omega⟩ ?_
    conv => cbv
    refine Sum.mk fun a2 ha2 => ?_
    have ha2 : a2 = a + j := ha2
    conv => cbv
    refine Need.mk (by show a2 + ((1 : Nat) : Int) ≤ (B.length : Int); omega) ?_
    conv => cbv
    refine Upd.mk fun B1 hB1 => ?_
    have hB1 : B1 = B.set a2.toNat (.bool false) := hB1
    have hB1 : B1 = bpv R2 := by rw [hB1, show a2.toNat = 8 * i.toNat + j.toNat by omega, hB2]
    have hcell1 : ∀ k, k < 8 → B1[8 * i.toNat + k]? = some (.bool (g k)) := fun k hk => by rw [hB1]; exact hcell k hk
    conv => cbv
    refine Need.mk ⟨h0, by show i < n; omega⟩ ?_
    conv => cbv
    refine Sum.mk fun a3 ha3 => ?_
    have ha3 : a3 = i * 8 := ha3
    conv => cbv
    refine Cell.at (a3 + 0) _ (hcell1 0 (by decide)) rfl (by omega) ?_
    conv => cbv
    refine Cell.at (a3 + 1) _ (hcell1 1 (by decide)) rfl (by omega) ?_
    conv => cbv
    refine Cell.at (a3 + 2) _ (hcell1 2 (by decide)) rfl (by omega) ?_
    conv => cbv
    refine Cell.at (a3 + 3) _ (hcell1 3 (by decide)) rfl (by omega) ?_
    conv => cbv
    refine Cell.at (a3 + 4) _ (hcell1 4 (by decide)) rfl (by omega) ?_
    conv => cbv
    refine Cell.at (a3 + 5) _ (hcell1 5 (by decide)) rfl (by omega) ?_
    conv => cbv
    refine Cell.at (a3 + 6) _ (hcell1 6 (by decide)) rfl (by omega) ?_
    conv => cbv
    refine Cell.at (a3 + 7) _ (hcell1 7 (by decide)) rfl (by omega) ?_
    conv => cbv
    have hm2l : m2.length = e.2.length := by rw [hm2, List.length_set]
    refine AggEq.mk (by kernel_rfl) (fun geq => ?_) (fun geq => ?_)
    · have hall : ∀ k, k < 8 → okAt m2 k = false := by
        simp only [eqLs] at geq
        obtain ⟨q0, q1, q2, q3, q4, q5, q6, q7, _⟩ := geq
        intro k hk
        rw [← hg]
        have : k = 0 ∨ k = 1 ∨ k = 2 ∨ k = 3 ∨ k = 4 ∨ k = 5 ∨ k = 6 ∨ k = 7 := by omega
        rcases this with e | e | e | e | e | e | e | e <;> (subst e; assumption)
      have hcnt := (cnt0 (by omega)).1 hall
      have hF : Freed6 R i j true (R.set i.toNat (0, [])) := by
        have := Freed6.yes (R := R) e h0 he h1 hs
        rwa [← hm2, freed, if_pos hcnt] at this
      have hfl0 : flags ([] : List Bool) = flags m2 := by
        unfold flags
        refine List.map_congr_left fun k hk => ?_
        rw [hall k (List.mem_range.1 hk), okAt_nil]
      have hB9 : B1 = bpv (R.set i.toNat (0, [])) := by
        rw [hB1, bpv_same (0, []) hR2i hfl0, hR2, List.set_set]
      obtain ⟨C9, hC9⟩ : ∃ C9, C9 = cpv (R.set i.toNat (0, [])) := ⟨_, rfl⟩
      conv => cbv
      refine Need.mk ⟨h0, by show i < n; omega⟩ ?_
      conv => cbv
      refine Need.mk (by show i + ((1 : Nat) : Int) ≤ (C.length : Int); omega) ?_
      conv => cbv
      refine Upd.mk fun C1 hC1 => ?_
      have hle : pvles C1 C9 := by
        have hC1 : C1 = C.set i.toNat (.int .i64 (.lit (-1))) := hC1
        rw [hC1, hC9, hC, ← cpv_set (R := R) (q := i.toNat) (c := -1) (0, []) rfl]
        exact pvles_set6 _ _ _ _ _ (pvles_self _) (by simp [pvle, I.val])
      clear hC1
      unfold pvles at hle
      conv => cbv
      refine RetF.mk [.p (.bool true)] [(0, .mix [.sl 1 3 1 (.lit 0) (.sym n), .sl 2 120 8 (.lit 0) (.sym n)]), (1, .pure true C9), (2, .pure true B1)] 3 (Re.at [(0, 0), (1, 1), (2, 2)] []) rfl ⟨true, _, C9, B1, rfl, rfl, rfl, hC9, hB9, hF⟩
    · have hcnt : ¬ m2.count true = 0 := by
        intro hc
        have hall := (cnt0 (show m2.length ≤ 8 by omega)).2 hc
        refine geq ?_
        simp only [eqLs]
        simp only [hg]
        exact ⟨hall 0 (by decide), hall 1 (by decide), hall 2 (by decide), hall 3 (by decide), hall 4 (by decide), hall 5 (by decide), hall 6 (by decide), hall 7 (by decide), trivial⟩
      have hF : Freed6 R i j true R2 := by
        have := Freed6.yes (R := R) e h0 he h1 hs
        rwa [← hm2, freed, if_neg hcnt, ← hR2] at this
      have hm2n : m2 ≠ [] := by intro e0; rw [e0] at hm2l; exact hne (List.length_eq_zero_iff.1 hm2l.symm)
      have hC2 : C = cpv R2 := by
        rw [hC, hR2]
        refine cpv_same (e.1, m2) he ?_
        rw [clsOf, clsOf, if_neg hm2n, if_neg hne]
      conv => cbv
      refine RetF.mk [.p (.bool true)] [(0, .mix [.sl 1 3 1 (.lit 0) (.sym n), .sl 2 120 8 (.lit 0) (.sym n)]), (1, .pure true C), (2, .pure true B1)] 3 (Re.at [(0, 0), (1, 1), (2, 2)] []) rfl ⟨true, R2, C, B1, rfl, rfl, rfl, hC2, hB1, hF⟩
theorem slots_le6 (c : Int) : slotsOf c ≤ 8 := by
  unfold slotsOf; split
  · omega
  · split
    · omega
    · split
      · omega
      · split <;> omega
def wsum (R : List Rw) : Int := (R.map fun e => (e.2.count true : Int) * wordsOf e.1).sum
theorem take_ok {m : List Bool} {k : Nat} : ((m.take (k + 1)).count true : Int) = (m.take k).count true + if okAt m k then 1 else 0 := by
  rw [List.take_add_one, List.count_append]
  unfold okAt
  cases h : m[k]? with
  | none => simp
  | some b => cases b <;> simp
end Go.Proofs.YtllafhhnciobhaaGreatDoor
/-
  Layer 6: what the reference allots; a new one.
-/
namespace Go.Proofs.YtllafhhnciobhaaGreatDoor

open Go Go.LX
set_option maxRecDepth 100000
set_option linter.unusedVariables false
set_option linter.unusedSimpArgs false

set_option maxHeartbeats 4000000 in
theorem ralloc_lx (c : Int) (R : List Rw) (n : Int) (C B : List PV) (hC : C = cpv R) (hB : B = bpv R) (hn : n = R.length) (hR : R.length ≤ 1000) (hok : ROk R) : CallF (fun _ => Tryz.prog) 100 [.ptr 0 (.lit 0), .p (.int .i64 (.sym c))] [(0, .mix [.sl 1 3 1 (.lit 0) (.sym n), .sl 2 120 8 (.lit 0) (.sym n)]), (1, .pure true C), (2, .pure true B)] 3
    (fun r h n' => ∃ (i s : Int) (b : Bool) (R' : List Rw) (C' B' : List PV), r = .tup [.p (.int .i64 (.sym i)), .p (.int .i64 (.sym s)), .p (.bool b)] ∧ h = [(0, .mix [.sl 1 3 1 (.lit 0) (.sym n), .sl 2 120 8 (.lit 0) (.sym n)]), (1, .pure true C'), (2, .pure true B')] ∧ n' = 3 ∧ C' = cpv R' ∧ B' = bpv R' ∧ Alloced R c i s b R') := by
  have hBl : B.length = 8 * R.length := by rw [hB, bpv_length]
  have hCl : C.length = R.length := by rw [hC, cpv_length]
  obtain ⟨kn, hkn⟩ : ∃ kn, kn = slotsOf c := ⟨_, rfl⟩
  obtain ⟨k, hk⟩ : ∃ k : Int, k = kn := ⟨_, rfl⟩
  have hk8 : kn ≤ 8 := by rw [hkn]; exact slots_le6 c
  refine callF_of_body tok Tryz.func100 (by kernel_rfl) rfl rfl rfl ?_; conv => cbv
  refine callF_frame (refSlotsA_lx c k (by rw [hk, hkn])) [] rfl trivial rfl rfl (fun r h' n' ⟨e1, e2, e3⟩ => ?_)
  subst e1 e2 e3
  conv => cbv
  refine Br.mk (fun g => ?_) (fun g => ?_)
  · have g : k = 0 := g
    have hA : Alloced R c 0 0 false R := .no (by omega)
    conv => cbv
    refine RetF.mk [.p (.int .i64 (.sym 0)), .p (.int .i64 (.sym 0)), .p (.bool false)] [(0, .mix [.sl 1 3 1 (.lit 0) (.sym n), .sl 2 120 8 (.lit 0) (.sym n)]), (1, .pure true C), (2, .pure true B)] 3 (Re.at [(0, 0), (1, 1), (2, 2)] []) rfl ⟨0, 0, false, R, C, B, rfl, rfl, rfl, hC, hB, hA⟩
  have g : ¬ k = 0 := g
  have hs0 : slotsOf c ≠ 0 := by omega
  conv => cbv
  have hc03 := (slots_iff c).1 hs0
  have hcl : ∀ e : Rw, e ∈ R → clsOf e = c → e.1 = c ∧ e.2 ≠ [] ∧ e.2.length = kn := fun e he h => by
    unfold clsOf at h
    split at h
    · omega
    · rename_i hne
      exact ⟨h, hne, by rw [((hok e he).2 hne).2, h, hkn]⟩
  refine LoopF.mk (fun m s => ∃ (i : Int), s = ⟨.ptr 0 (.lit 0) :: .p (.int .i64 (.sym c)) :: (undefs 5 ++ .p (.int .i64 (.sym k)) :: .p (.int .i64 (.sym i)) :: undefs 83), [(0, .mix [.sl 1 3 1 (.lit 0) (.sym n), .sl 2 120 8 (.lit 0) (.sym n)]), (1, .pure true C), (2, .pure true B)], 3⟩ ∧ 0 ≤ i ∧ i ≤ n ∧ (∀ j : Nat, (j : Int) < i → ∀ m : List Bool, R[j]? = some (c, m) → false ∉ m) ∧ m = (n - i).toNat) n.toNat _
    (Re.at [(0, 0), (1, 1), (2, 2)] []) ⟨0, rfl, by omega, by omega, fun j hj => absurd hj (by omega), by omega⟩ ?_
  rintro m s ⟨i, rfl, hi0, hi1, hprev, hm⟩
  conv => cbv
  refine Br.mk (fun gi => ?_) (fun gi => ?_)
  · have gi : i < n := gi
    obtain ⟨m', rfl⟩ : ∃ k', m = k' + 1 := ⟨m - 1, by omega⟩
    obtain ⟨e, he⟩ : ∃ e, R[i.toNat]? = some e := ⟨_, List.getElem?_eq_getElem (by omega)⟩
    have hem := List.mem_of_getElem? he
    have hm8 := (hok e hem).1
    have hcle := hcl e hem
    obtain ⟨cv, hcv⟩ : ∃ cv, cv = clsOf e := ⟨_, rfl⟩
    rw [← hcv] at hcle
    have hcc := cpv_get he
    rw [← hC, ← hcv] at hcc
    have hnext : (cv = c → ∀ j : Nat, j < kn → e.2[j]? = some true) → ∀ j : Nat, (j : Int) < i + 1 → ∀ m : List Bool, R[j]? = some (c, m) → false ∉ m := fun hall j hj m hm => by
      by_cases hji : j = i.toNat
      · subst hji
        rw [he] at hm
        have hm : e = (c, m) := Option.some.inj hm
        intro hf
        have hne : m ≠ [] := by intro e0; rw [e0] at hf; simp at hf
        have hcvc : cv = c := by rw [hcv, hm, clsOf, if_neg hne]
        obtain ⟨q1, q2, q3⟩ := hcle hcvc
        obtain ⟨t, ht⟩ := List.getElem?_of_mem hf
        have htl := (List.getElem?_eq_some_iff.1 ht).1
        have := hall hcvc t (by rw [← q3, hm]; exact htl)
        rw [hm] at this
        rw [ht] at this
        cases this
      · exact hprev j (by omega) m hm
    conv => cbv
    refine LoopF.mk (fun m s => ∃ (t : Int), s = ⟨.ptr 0 (.lit 0) :: .p (.int .i64 (.sym c)) :: (undefs 5 ++ .p (.int .i64 (.sym k)) :: .p (.int .i64 (.sym i)) :: .p (.int .i64 (.sym t)) :: undefs 82), [(0, .mix [.sl 1 3 1 (.lit 0) (.sym n), .sl 2 120 8 (.lit 0) (.sym n)]), (1, .pure true C), (2, .pure true B)], 3⟩ ∧ 0 ≤ t ∧ t ≤ k ∧ (cv = c → ∀ j : Nat, (j : Int) < t → e.2[j]? = some true) ∧ m = (k - t).toNat) k.toNat _
      (Re.at [(0, 0), (1, 1), (2, 2)] []) ⟨0, rfl, by omega, by omega, fun _ j hj => absurd hj (by omega), by omega⟩ ?_
    rintro m s ⟨t, rfl, ht0, ht1, htr, hmm⟩
    conv => cbv
    refine Br.mk (fun gt => ?_) (fun gt => ?_)
    · have gt : t < k := gt
      obtain ⟨m'', rfl⟩ : ∃ k', m = k' + 1 := ⟨m - 1, by omega⟩
      conv => cbv
      refine Need.mk ⟨hi0, by show i < n; omega⟩ ?_
      conv => cbv
      refine Cell.at i _ hcc (by simp [I.val]) rfl ?_
      conv => cbv
      refine Br.mk (fun gc => ?_) (fun gc => ?_)
      · have gc : cv = c := gc
        obtain ⟨q1, q2, q3⟩ := hcle gc
        have hcb := bpv_get (k := t.toNat) he (by omega)
        rw [← hB] at hcb
        obtain ⟨b, hb⟩ : ∃ b, b = okAt e.2 t.toNat := ⟨_, rfl⟩
        rw [← hb] at hcb
        conv => cbv
        refine Need.mk ⟨hi0, by show i < n; omega⟩ ?_
        conv => cbv
        refine Sum.mk fun a ha => ?_
        have ha : a = i * 8 := ha
        conv => cbv
        refine Need.mk ⟨ht0, by show t < ((8 : Nat) : Int); omega⟩ ?_
        conv => cbv
        refine Sum.mk fun a2 ha2 => ?_
        have ha2 : a2 = a + t := ha2
        conv => cbv
        refine Cell.at a2 _ hcb (by simp [I.val]) (by omega) ?_
        have htl : t.toNat < e.2.length := by omega
        have hget : e.2[t.toNat]? = some b := by
          obtain ⟨x, hx⟩ : ∃ x, e.2[t.toNat]? = some x := ⟨_, List.getElem?_eq_getElem htl⟩
          rw [hx, hb, okAt, hx]; cases x <;> rfl
        cases b with
        | true =>
          conv => cbv
          refine Fit.mk (by show (-9223372036854775808 : Int) ≤ t + 1; omega) (by show t + 1 ≤ 9223372036854775807; omega) fun t2 ht2 => ?_
          have ht2 : t2 = t + 1 := ht2
          have htr2 : cv = c → ∀ j : Nat, (j : Int) < t2 → e.2[j]? = some true := fun hc j hj => by
            by_cases hjt : j = t.toNat
            · rw [hjt]; exact hget
            · exact htr hc j (by omega)
          conv => cbv
          refine Again.mk m'' _ (Nat.lt_succ_self _) (Re.at [(0, 0), (1, 1), (2, 2)] []) ⟨t2, rfl, by omega, by omega, htr2, by omega⟩
        | false =>
          have hRe : e = (c, e.2) := by rw [← q1]
          have hA : Alloced R c i t true (R.set i.toNat (c, e.2.set t.toNat true)) := by
            have := Alloced.old (R := R) (c := c) i.toNat t.toNat e.2 hs0 (by rw [he]; exact congrArg some hRe) hget (fun j hj => htr gc j (by omega)) (fun j hj m hm => hprev j (by omega) m hm)
            rwa [show ((i.toNat : Nat) : Int) = i by omega, show ((t.toNat : Nat) : Int) = t by omega] at this
          obtain ⟨o1, o2⟩ := okAt_set (m := e.2) (v := true) htl
          have hB2 := bpv_set (v := true) (c, e.2.set t.toNat true) he (show t.toNat < 8 by omega) (flags_set (by omega) o1 o2)
          rw [← hB] at hB2
          have hne2 : e.2.set t.toNat true ≠ [] := fun h => by
            have := congrArg List.length h
            rw [List.length_set] at this
            exact q2 (List.length_eq_zero_iff.1 this)
          have hC2 : C = cpv (R.set i.toNat (c, e.2.set t.toNat true)) := by
            rw [hC]
            refine cpv_same _ he ?_
            rw [← hcv, gc, clsOf, if_neg hne2]
          conv => cbv
          refine Need.mk ⟨hi0, by show i < n; omega⟩ ?_
          conv => cbv
          refine Sum.mk fun a3 ha3 => ?_
          have ha3 : a3 = i * 8 := ha3
          conv => cbv
          refine Need.mk ⟨ht0, by show t < ((8 : Nat) : Int); omega⟩ ?_
          conv => cbv
          refine Sum.mk fun a4 ha4 => ?_
          have ha4 : a4 = a3 + t := ha4
          conv => cbv
          refine Need.mk (by show a4 + ((1 : Nat) : Int) ≤ (B.length : Int); omega) ?_
          conv => cbv
          refine Upd.mk fun B1 hB1 => ?_
          have hB1 : B1 = B.set a4.toNat (.bool true) := hB1
          have hB1 : B1 = bpv (R.set i.toNat (c, e.2.set t.toNat true)) := by rw [hB1, show a4.toNat = 8 * i.toNat + t.toNat by omega, hB2]
          conv => cbv
          refine RetF.mk [.p (.int .i64 (.sym i)), .p (.int .i64 (.sym t)), .p (.bool true)] [(0, .mix [.sl 1 3 1 (.lit 0) (.sym n), .sl 2 120 8 (.lit 0) (.sym n)]), (1, .pure true C), (2, .pure true B1)] 3 (Re.at [(0, 0), (1, 1), (2, 2)] []) rfl ⟨i, t, true, _, C, B1, rfl, rfl, rfl, hC2, hB1, hA⟩
      · have gc : ¬ cv = c := gc
        have hn2 := hnext (fun h => absurd h gc)
        conv => cbv
        refine Fit.mk (by show (-9223372036854775808 : Int) ≤ i + 1; omega) (by show i + 1 ≤ 9223372036854775807; omega) fun i2 hi2 => ?_
        have hi2 : i2 = i + 1 := hi2
        rw [← hi2] at hn2
        conv => cbv
        refine Again.mk m' _ (Nat.lt_succ_self _) (Re.at [(0, 0), (1, 1), (2, 2)] []) ⟨i2, rfl, by omega, by omega, hn2, by omega⟩
    · have gt : ¬ t < k := gt
      have hn2 := hnext (fun h j hj => htr h j (by omega))
      conv => cbv
      refine Fit.mk (by show (-9223372036854775808 : Int) ≤ i + 1; omega) (by show i + 1 ≤ 9223372036854775807; omega) fun i2 hi2 => ?_
      have hi2 : i2 = i + 1 := hi2
      rw [← hi2] at hn2
      conv => cbv
      refine Again.mk m' _ (Nat.lt_succ_self _) (Re.at [(0, 0), (1, 1), (2, 2)] []) ⟨i2, rfl, by omega, by omega, hn2, by omega⟩
  · have gi : ¬ i < n := gi
    have hfull : ∀ (j : Nat) (m : List Bool), R[j]? = some (c, m) → false ∉ m := fun j m hm => hprev j (by have := (List.getElem?_eq_some_iff.1 hm).1; omega) m hm
    conv => cbv
    refine LoopF.mk (fun m s => ∃ (i : Int), s = ⟨.ptr 0 (.lit 0) :: .p (.int .i64 (.sym c)) :: (undefs 8 ++ .p (.int .i64 (.sym i)) :: undefs 81), [(0, .mix [.sl 1 3 1 (.lit 0) (.sym n), .sl 2 120 8 (.lit 0) (.sym n)]), (1, .pure true C), (2, .pure true B)], 3⟩ ∧ 0 ≤ i ∧ i ≤ n ∧ (∀ j : Nat, (j : Int) < i → ∀ d : Int, R[j]? ≠ some (d, [])) ∧ m = (n - i).toNat) n.toNat _
      (Re.at [(0, 0), (1, 1), (2, 2)] []) ⟨0, rfl, by omega, by omega, fun j hj => absurd hj (by omega), by omega⟩ ?_
    rintro m s ⟨i, rfl, hi0, hi1, hprev2, hm⟩
    conv => cbv
    refine Br.mk (fun gi => ?_) (fun gi => ?_)
    · have gi : i < n := gi
      obtain ⟨m', rfl⟩ : ∃ k', m = k' + 1 := ⟨m - 1, by omega⟩
      obtain ⟨e, he⟩ : ∃ e, R[i.toNat]? = some e := ⟨_, List.getElem?_eq_getElem (by omega)⟩
      have hem := List.mem_of_getElem? he
      obtain ⟨cv, hcv⟩ : ∃ cv, cv = clsOf e := ⟨_, rfl⟩
      have hcc := cpv_get he
      rw [← hC, ← hcv] at hcc
      conv => cbv
      refine Need.mk ⟨hi0, by show i < n; omega⟩ ?_
      conv => cbv
      refine Cell.at i _ hcc (by simp [I.val]) rfl ?_
      conv => cbv
      refine Br.mk (fun gc => ?_) (fun gc => ?_)
      · have gc : cv < 0 := gc
        have he2 : e.2 = [] := Classical.byContradiction fun hne => by
          have := (slots_iff e.1).1 ((hok e hem).2 hne).1
          rw [clsOf, if_neg hne] at hcv
          omega
        have heq : e = (e.1, []) := by rw [← he2]
        obtain ⟨m2, hm2⟩ : ∃ m2, m2 = (List.replicate (slotsOf c) false).set 0 true := ⟨_, rfl⟩
        have hA : Alloced R c i 0 true (R.set i.toNat (c, m2)) := by
          have := Alloced.fresh (R := R) (c := c) i.toNat e.1 hs0 hfull (by rw [he]; exact congrArg some heq) (fun j hj d => hprev2 j (by omega) d)
          rw [hm2]
          rwa [show ((i.toNat : Nat) : Int) = i by omega] at this
        have hrl : (List.replicate (slotsOf c) false).length = slotsOf c := List.length_replicate
        have h0l : 0 < (List.replicate (slotsOf c) false).length := by rw [hrl]; omega
        obtain ⟨o1, o2⟩ := okAt_set (m := List.replicate (slotsOf c) false) (v := true) h0l
        have hB2 := bpv_set (v := true) (c, m2) he (show 0 < 8 by decide) (flags_set (by decide) (by rw [hm2]; exact o1) (fun j hj => by
          rw [hm2, o2 j hj, he2, okAt_nil, okAt, List.getElem?_replicate]
          split <;> simp))
        rw [← hB] at hB2
        have hm2n : m2 ≠ [] := fun h => by
          have := congrArg List.length (hm2.symm.trans h)
          rw [List.length_set, hrl] at this
          exact hs0 this
        have hC2 := cpv_set (R := R) (q := i.toNat) (c := c) (c, m2) (by rw [clsOf, if_neg hm2n])
        rw [← hC] at hC2
        conv => cbv
        refine drawn_sound tok (by kernel_rfl) [(12, [13, 9]), (15, [])] [0, 1, 2, 3, 4, 5, 6, 7, 8, 9, 10, 11, 13, 12, 14, 15] (by kernel_rfl) ?_; conv => cbv
        refine Need.mk ⟨hi0, by show i < n; omega⟩ ?_
        conv => cbv
        refine Need.mk ⟨hi0, by show i < n; omega⟩ ?_
        conv => cbv
        refine Sum.mk fun a ha => ?_
        have ha : a = i * 8 := ha
        conv => cbv
        refine Need.mk (by show i + ((1 : Nat) : Int) ≤ (C.length : Int); omega) ?_
        conv => cbv
        refine Upd.mk fun C1 hC1 => ?_
        have hC1 : C1 = C.set i.toNat (.int .i64 (.sym c)) := hC1
        have hC1 : C1 = cpv (R.set i.toNat (c, m2)) := by rw [hC1, hC2]
        conv => cbv
        refine Need.mk ⟨by show (0 : Int) ≤ 0; decide, by show (0 : Int) < ((8 : Nat) : Int); decide⟩ ?_
        conv => cbv
        refine Need.mk (by show a + ((1 : Nat) : Int) ≤ (B.length : Int); omega) ?_
        conv => cbv
        refine Upd.mk fun B1 hB1 => ?_
        have hB1 : B1 = B.set a.toNat (.bool true) := hB1
        have hB1 : B1 = bpv (R.set i.toNat (c, m2)) := by rw [hB1, show a.toNat = 8 * i.toNat + 0 by omega, hB2]
        conv => cbv
        refine RetF.mk [.p (.int .i64 (.sym i)), .p (.int .i64 (.sym 0)), .p (.bool true)] [(0, .mix [.sl 1 3 1 (.lit 0) (.sym n), .sl 2 120 8 (.lit 0) (.sym n)]), (1, .pure true C1), (2, .pure true B1)] 3 (Re.at [(0, 0), (1, 1), (2, 2)] []) rfl ⟨i, 0, true, _, C1, B1, rfl, rfl, rfl, hC1, hB1, hA⟩
      · have gc : ¬ cv < 0 := gc
        have hp2 : ∀ j : Nat, (j : Int) < i + 1 → ∀ d : Int, R[j]? ≠ some (d, []) := fun j hj d hd => by
          by_cases hji : j = i.toNat
          · subst hji
            rw [he] at hd
            have hd : e = (d, []) := Option.some.inj hd
            rw [hd, clsOf, if_pos rfl] at hcv
            omega
          · exact hprev2 j (by omega) d hd
        conv => cbv
        refine Fit.mk (by show (-9223372036854775808 : Int) ≤ i + 1; omega) (by show i + 1 ≤ 9223372036854775807; omega) fun i2 hi2 => ?_
        have hi2 : i2 = i + 1 := hi2
        rw [← hi2] at hp2
        conv => cbv
        refine Again.mk m' _ (Nat.lt_succ_self _) (Re.at [(0, 0), (1, 1), (2, 2)] []) ⟨i2, rfl, by omega, by omega, hp2, by omega⟩
    · have gi : ¬ i < n := gi
      have hA : Alloced R c 0 0 false R := .full hs0 hfull (fun j d hd => hprev2 j (by have := (List.getElem?_eq_some_iff.1 hd).1; omega) d hd)
      conv => cbv
      refine RetF.mk [.p (.int .i64 (.sym 0)), .p (.int .i64 (.sym 0)), .p (.bool false)] [(0, .mix [.sl 1 3 1 (.lit 0) (.sym n), .sl 2 120 8 (.lit 0) (.sym n)]), (1, .pure true C), (2, .pure true B)] 3 (Re.at [(0, 0), (1, 1), (2, 2)] []) rfl ⟨0, 0, false, R, C, B, rfl, rfl, rfl, hC, hB, hA⟩
end Go.Proofs.YtllafhhnciobhaaGreatDoor
/-
  Layer 6: a new one of the reference.
-/
namespace Go.Proofs.YtllafhhnciobhaaGreatDoor

open Go Go.LX
set_option maxRecDepth 100000
set_option linter.unusedVariables false
set_option linter.unusedSimpArgs false

theorem pvles_snoc6 : ∀ (L M : List PV) (u v : PV), pvles L M → pvle u v → pvles (L ++ [u]) (M ++ [v])
  | [], [], _, _, _, k => ⟨k, trivial⟩
  | x :: L, y :: M, u, v, h, k => ⟨h.1, pvles_snoc6 L M u v h.2 k⟩
theorem bpv_rep (k : Nat) : bpv (List.replicate k (0, [])) ++ flags [] = bpv (List.replicate (k + 1) (0, [])) := by
  induction k with
  | zero => rfl
  | succ k ih => rw [List.replicate_succ, bpv, List.append_assoc, ih, ← bpv]; rfl
theorem cpv_rep (k : Nat) : cpv (List.replicate k (0, [])) ++ [.int .i64 (.sym (-1))] = cpv (List.replicate (k + 1) (0, [])) := by
  rw [List.replicate_succ', cpv, cpv, List.map_append]; rfl
set_option maxHeartbeats 4000000 in
theorem rnew_lx (n : Int) (hn : 2 ≤ n ∧ n ≤ 128) : CallF (fun _ => Tryz.prog) 74 [.p (.int .i64 (.sym n))] [] 0
    (fun r h n' => ∃ C B : List PV, r = .tup [.ptr 0 (.lit 0), .p (.int .i64 (.lit 0))] ∧ h = [(0, .mix [.sl 1 3 1 (.lit 0) (.sym n), .sl 2 120 8 (.lit 0) (.sym n)]), (1, .pure true C), (2, .pure true B)] ∧ n' = 3 ∧ C = cpv (List.replicate n.toNat (0, [])) ∧ B = bpv (List.replicate n.toNat (0, []))) := by
  obtain ⟨rr, hrr⟩ : ∃ rr : Nat → List Rw, ∀ k, rr k = List.replicate k (0, []) := ⟨_, fun _ => rfl⟩
  refine callF_of_body tok Tryz.func74 (by kernel_rfl) rfl rfl rfl ?_; conv => cbv
  refine Br.mk (fun g => ?_) (fun g => ?_)
  case refine_1 =>
    have gf : False := by have g : n < 2 := g; omega
    cases gf
  conv => cbv
  refine Br.mk (fun g => ?_) (fun g => ?_)
  case refine_1 =>
    have gf : False := by have g : 128 < n := g; omega
    cases gf
  conv => cbv
  refine LoopF.mk (fun m s => ∃ (i : Int) (C B : List PV), s = ⟨.p (.int .i64 (.sym n)) :: (undefs 3 ++ .ptr 0 (.lit 0) :: .p (.int .i64 (.sym i)) :: undefs 33), [(0, .mix [.sl 1 3 1 (.lit 0) (.sym i), .sl 2 120 8 (.lit 0) (.sym i)]), (1, .pure true C), (2, .pure true B)], 3⟩ ∧ 0 ≤ i ∧ i ≤ n ∧ C = cpv (rr i.toNat) ∧ B = bpv (rr i.toNat) ∧ m = (n - i).toNat) n.toNat _
    (Re.at [(0, 0)] [1, 2]) ⟨0, [], [], rfl, by omega, by omega, by rw [hrr]; rfl, by rw [hrr]; rfl, by omega⟩ ?_
  rintro m s ⟨i, C, B, rfl, hi0, hi1, hC, hB, hm⟩
  have hCl : (C.length : Int) = i := by rw [hC, cpv_length, hrr, List.length_replicate]; omega
  have hBl : (B.length : Int) = 8 * i := by rw [hB, bpv_length, hrr, List.length_replicate]; omega
  conv => cbv
  refine Br.mk (fun gi => ?_) (fun gi => ?_)
  · have gi : i < n := gi
    obtain ⟨m', rfl⟩ : ∃ k', m = k' + 1 := ⟨m - 1, by omega⟩
    conv => cbv
    refine drawF_of_any (by kernel_rfl) (drawAny_split 6 13 (by kernel_rfl) (drawAny_split 7 13 (by kernel_rfl) (any_of_drawn tok [(6, [12, 11, 10, 9, 8, 5, 4, 3, 2, 1, 0]), (7, [12, 11, 10, 9, 8, 1, 0]), (13, [11, 10, 9, 8, 1, 0]), (14, [1, 0]), (17, [1]), (20, [])] [0, 1, 2, 3, 4, 5, 8, 9, 10, 11, 12, 6, 7, 13, 14, 15, 16, 17, 18, 19, 20] (by kernel_rfl) ?_) (any_of_drawn tok [(6, [12, 11, 10, 9, 8, 5, 4, 3, 2, 1, 0]), (13, [11, 10, 9, 8, 5, 4, 3, 2, 1, 0]), (7, [11, 10, 9, 8, 1, 0]), (14, [1, 0]), (17, [1]), (20, [])] [0, 1, 2, 3, 4, 5, 8, 9, 10, 11, 12, 6, 13, 7, 14, 15, 16, 17, 18, 19, 20] (by kernel_rfl) ?_)) (any_of_drawn tok [(13, [11, 10, 9, 8, 5, 4, 3, 2, 1, 0]), (6, [11, 10, 9, 8, 5, 4, 3, 2, 1, 0]), (7, [11, 10, 9, 8, 1, 0]), (14, [1, 0]), (17, [1]), (20, [])] [0, 1, 2, 3, 4, 5, 8, 9, 10, 11, 12, 13, 6, 7, 14, 15, 16, 17, 18, 19, 20] (by kernel_rfl) ?_))
    · conv => cbv
      refine Room.new rfl ?_
      conv => cbv
      refine Room.new ⟨?_, ?_, ?_⟩ ?_
      · show (C.length : Int) = i * 1; omega
      · show (i + 1) * 8 ≤ 140737488355328; omega
      · show i + 1 ≤ 9223372036854775807; omega
      conv => cbv
      refine Upd.mk fun C1 hC1 => ?_
      have hC1 : C1 = C ++ [.int .i64 (.lit (-1))] := hC1
      conv => cbv
      refine Sum.mk fun ic hic => ?_
      have hic : ic = i + 1 := hic
      conv => cbv
      refine Room.new rfl ?_
      conv => cbv
      refine Room.new ⟨?_, ?_, ?_⟩ ?_
      · show (B.length : Int) = i * ((8 : Nat) : Int); omega
      · show (i + 1) * 8 ≤ 140737488355328; omega
      · show i + 1 ≤ 9223372036854775807; omega
      conv => cbv
      refine Upd.mk fun B1 hB1 => ?_
      have hB1 : B1 = B ++ flags [] := hB1
      conv => cbv
      refine Sum.mk fun ib hib => ?_
      have hib : ib = i + 1 := hib
      conv => cbv
      refine Fit.mk (by show (-9223372036854775808 : Int) ≤ i + 1; omega) (by show i + 1 ≤ 9223372036854775807; omega) fun i2 hi2 => ?_
      have hi2 : i2 = i + 1 := hi2
      obtain ⟨C9, hC9⟩ : ∃ C9, C9 = cpv (rr i2.toNat) := ⟨_, rfl⟩
      have hB9 : B1 = bpv (rr i2.toNat) := by rw [hB1, hB, hrr, hrr, show i2.toNat = i.toNat + 1 by omega, bpv_rep]
      have hle : pvles C1 C9 := by
        rw [hC1, hC9, hC, hrr, hrr, show i2.toNat = i.toNat + 1 by omega, ← cpv_rep]
        exact pvles_snoc6 _ _ _ _ (pvles_self _) (by simp [pvle, I.val])
      clear hC1 hB1
      have hci : ic = i2 := by omega
      have hbi : ib = i2 := by omega
      unfold pvles at hle
      conv => cbv
      refine Again.mk m' _ (Nat.lt_succ_self _) (Re.at [(0, 0), (4, 1), (6, 2)] []) ⟨i2, C9, B1, rfl, by omega, by omega, hC9, hB9, by omega⟩
    · conv => cbv
      refine Room.new rfl ?_
      conv => cbv
      refine Room.new ⟨?_, ?_, ?_⟩ ?_
      · show (C.length : Int) = i * 1; omega
      · show (i + 1) * 8 ≤ 140737488355328; omega
      · show i + 1 ≤ 9223372036854775807; omega
      conv => cbv
      refine Upd.mk fun C1 hC1 => ?_
      have hC1 : C1 = C ++ [.int .i64 (.lit (-1))] := hC1
      conv => cbv
      refine Sum.mk fun ic hic => ?_
      have hic : ic = i + 1 := hic
      conv => cbv
      refine Room.new rfl ?_
      conv => cbv
      refine Room.new ⟨?_, ?_, ?_⟩ ?_
      · show (B.length : Int) = i * ((8 : Nat) : Int); omega
      · show (i + 1) * 8 ≤ 140737488355328; omega
      · show i + 1 ≤ 9223372036854775807; omega
      conv => cbv
      refine Upd.mk fun B1 hB1 => ?_
      have hB1 : B1 = B ++ flags [] := hB1
      conv => cbv
      refine Sum.mk fun ib hib => ?_
      have hib : ib = i + 1 := hib
      conv => cbv
      refine Fit.mk (by show (-9223372036854775808 : Int) ≤ i + 1; omega) (by show i + 1 ≤ 9223372036854775807; omega) fun i2 hi2 => ?_
      have hi2 : i2 = i + 1 := hi2
      obtain ⟨C9, hC9⟩ : ∃ C9, C9 = cpv (rr i2.toNat) := ⟨_, rfl⟩
      have hB9 : B1 = bpv (rr i2.toNat) := by rw [hB1, hB, hrr, hrr, show i2.toNat = i.toNat + 1 by omega, bpv_rep]
      have hle : pvles C1 C9 := by
        rw [hC1, hC9, hC, hrr, hrr, show i2.toNat = i.toNat + 1 by omega, ← cpv_rep]
        exact pvles_snoc6 _ _ _ _ (pvles_self _) (by simp [pvle, I.val])
      clear hC1 hB1
      have hci : ic = i2 := by omega
      have hbi : ib = i2 := by omega
      unfold pvles at hle
      conv => cbv
      refine Again.mk m' _ (Nat.lt_succ_self _) (Re.at [(0, 0), (5, 1), (6, 2)] []) ⟨i2, C9, B1, rfl, by omega, by omega, hC9, hB9, by omega⟩
    · conv => cbv
      refine Room.new rfl ?_
      conv => cbv
      refine Room.new ⟨?_, ?_, ?_⟩ ?_
      · show (C.length : Int) = i * 1; omega
      · show (i + 1) * 8 ≤ 140737488355328; omega
      · show i + 1 ≤ 9223372036854775807; omega
      conv => cbv
      refine Upd.mk fun C1 hC1 => ?_
      have hC1 : C1 = C ++ [.int .i64 (.lit (-1))] := hC1
      conv => cbv
      refine Sum.mk fun ic hic => ?_
      have hic : ic = i + 1 := hic
      conv => cbv
      refine Room.new rfl ?_
      conv => cbv
      refine Room.new ⟨?_, ?_, ?_⟩ ?_
      · show (B.length : Int) = i * ((8 : Nat) : Int); omega
      · show (i + 1) * 8 ≤ 140737488355328; omega
      · show i + 1 ≤ 9223372036854775807; omega
      conv => cbv
      refine Upd.mk fun B1 hB1 => ?_
      have hB1 : B1 = B ++ flags [] := hB1
      conv => cbv
      refine Sum.mk fun ib hib => ?_
      have hib : ib = i + 1 := hib
      conv => cbv
      refine Fit.mk (by show (-9223372036854775808 : Int) ≤ i + 1; omega) (by show i + 1 ≤ 9223372036854775807; omega) fun i2 hi2 => ?_
      have hi2 : i2 = i + 1 := hi2
      obtain ⟨C9, hC9⟩ : ∃ C9, C9 = cpv (rr i2.toNat) := ⟨_, rfl⟩
      have hB9 : B1 = bpv (rr i2.toNat) := by rw [hB1, hB, hrr, hrr, show i2.toNat = i.toNat + 1 by omega, bpv_rep]
      have hle : pvles C1 C9 := by
        rw [hC1, hC9, hC, hrr, hrr, show i2.toNat = i.toNat + 1 by omega, ← cpv_rep]
        exact pvles_snoc6 _ _ _ _ (pvles_self _) (by simp [pvle, I.val])
      clear hC1 hB1
      have hci : ic = i2 := by omega
      have hbi : ib = i2 := by omega
      unfold pvles at hle
      conv => cbv
      refine Again.mk m' _ (Nat.lt_succ_self _) (Re.at [(0, 0), (5, 1), (6, 2)] []) ⟨i2, C9, B1, rfl, by omega, by omega, hC9, hB9, by omega⟩
  · have gi : ¬ i < n := gi
    have hin : i = n := by omega
    rw [hin, hrr] at hC hB
    conv => cbv
    refine RetF.mk [.ptr 0 (.lit 0), .p (.int .i64 (.lit 0))] [(0, .mix [.sl 1 3 1 (.lit 0) (.sym n), .sl 2 120 8 (.lit 0) (.sym n)]), (1, .pure true C), (2, .pure true B)] 3 (Re.at [(0, 0), (1, 1), (2, 2)] []) rfl ⟨C, B, rfl, rfl, rfl, hC, hB⟩
end Go.Proofs.YtllafhhnciobhaaGreatDoor
