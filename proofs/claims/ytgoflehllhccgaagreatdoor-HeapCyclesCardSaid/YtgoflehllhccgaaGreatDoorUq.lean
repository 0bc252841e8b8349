/-
  The document's Reach: what can be reached, rising.
-/
import Derived.Test.YtgoflehllhccgaaGreatDoorBg

import Derived.Test.YtgoflehllhccgaaGreatDoorCi


namespace Go.Proofs.YtgoflehllhccgaaGreatDoor

open Go Go.LX
set_option maxRecDepth 100000
set_option linter.unusedVariables false
set_option linter.unusedSimpArgs false

/-- A search under way: what was seen, what is to be looked at; object v's words from i on are still to be told. -/
structure Dfs (R : List Rw) (vs A : List Int) (sn : List Bool) (td : List Int) (v : Int) (i : Int) : Prop where
  so : ∀ x : Nat, sn[x]? = some true → (x : Int) ∈ objs R ∧ Rch R vs A x
  tq : ∀ t ∈ td, t ∈ objs R → Rch R vs A t
  rt : ∀ a ∈ A, a ∈ objs R → sn[a.toNat]? = some true ∨ a ∈ td
  cl : ∀ x : Nat, sn[x]? = some true → ∀ j w, Loaded R vs x j w 0 → w % 2 = 1 → (w - 1) / 2 ∈ objs R → ((x : Int) = v ∧ i ≤ j) ∨ sn[((w - 1) / 2).toNat]? = some true ∨ (w - 1) / 2 ∈ td
theorem Dfs.start (R : List Rw) (vs A : List Int) (n : Nat) : Dfs R vs A (List.replicate n false) A (-1) 0 := by
  have hno : ∀ x : Nat, (List.replicate n false)[x]? ≠ some true := by
    intro x hx
    have := List.mem_of_getElem? hx
    rw [List.mem_replicate] at this
    cases this.2
  exact ⟨fun x hx => absurd hx (hno x), fun t ht ho => .root t ht ho, fun a ha _ => .inr ha, fun x hx => absurd hx (hno x)⟩
theorem Dfs.skip {R : List Rw} {vs A td : List Int} {sn : List Bool} {a : Int} (h : Dfs R vs A sn (td ++ [a]) (-1) 0) (ha : a ∈ objs R → sn[a.toNat]? = some true) : Dfs R vs A sn td (-1) 0 := by
  refine ⟨h.so, fun t ht => h.tq t (List.mem_append_left _ ht), fun b hb ho => ?_, fun x hx j w hl h1 ho => ?_⟩
  · rcases h.rt b hb ho with q | q
    · exact .inl q
    · rcases List.mem_append.1 q with q | q
      · exact .inr q
      · rw [List.mem_singleton.1 q] at ho ⊢; exact .inl (ha ho)
  · rcases h.cl x hx j w hl h1 ho with q | q | q
    · exact .inl q
    · exact .inr (.inl q)
    · rcases List.mem_append.1 q with q | q
      · exact .inr (.inr q)
      · rw [List.mem_singleton.1 q] at ho ⊢; exact .inr (.inl (ha ho))
theorem Dfs.mark {R : List Rw} {vs A td : List Int} {sn : List Bool} {a : Int} (h : Dfs R vs A sn (td ++ [a]) (-1) 0) (h0 : 0 ≤ a) (hl : a.toNat < sn.length) (ho : a ∈ objs R) : Dfs R vs A (sn.set a.toNat true) td a 0 := by
  have hup : ∀ x : Nat, sn[x]? = some true → (sn.set a.toNat true)[x]? = some true := by
    intro x hx
    by_cases e : a.toNat = x
    · subst e; rw [List.getElem?_set_self hl]
    · rw [List.getElem?_set_ne e]; exact hx
  have hdn : ∀ x : Nat, (sn.set a.toNat true)[x]? = some true → x = a.toNat ∨ sn[x]? = some true := by
    intro x hx
    by_cases e : a.toNat = x
    · exact .inl e.symm
    · rw [List.getElem?_set_ne e] at hx; exact .inr hx
  have hself : (sn.set a.toNat true)[a.toNat]? = some true := List.getElem?_set_self hl
  refine ⟨fun x hx => ?_, fun t ht => h.tq t (List.mem_append_left _ ht), fun b hb hbo => ?_, fun x hx j w hld h1 hwo => ?_⟩
  · rcases hdn x hx with q | q
    · have e : (x : Int) = a := by omega
      rw [e]; exact ⟨ho, h.tq a (List.mem_append_right _ (List.mem_singleton.2 rfl)) ho⟩
    · exact h.so x q
  · rcases h.rt b hb hbo with q | q
    · exact .inl (hup _ q)
    · rcases List.mem_append.1 q with q | q
      · exact .inr q
      · rw [List.mem_singleton.1 q]; exact .inl hself
  · rcases hdn x hx with q | q
    · left
      refine ⟨by omega, ?_⟩
      cases hld with
      | ok k l _ _ hi _ => exact hi.1
    · rcases h.cl x q j w hld h1 hwo with r | r | r
      · omega
      · exact .inr (.inl (hup _ r))
      · rcases List.mem_append.1 r with r | r
        · exact .inr (.inr r)
        · rw [List.mem_singleton.1 r]; exact .inr (.inl hself)
theorem Dfs.even {R : List Rw} {vs A td : List Int} {sn : List Bool} {v i w : Int} (h : Dfs R vs A sn td v i) (hw : Loaded R vs v i w 0) (he : ¬ w % 2 = 1) : Dfs R vs A sn td v (i + 1) := by
  refine ⟨h.so, h.tq, h.rt, fun x hx j u hl h1 ho => ?_⟩
  rcases h.cl x hx j u hl h1 ho with ⟨q1, q2⟩ | q | q
  · by_cases e : j = i
    · subst e
      rw [q1] at hl
      have := loaded_one hw hl
      rw [this] at he
      exact absurd h1 he
    · exact .inl ⟨q1, by omega⟩
  · exact .inr (.inl q)
  · exact .inr (.inr q)
theorem Dfs.odd {R : List Rw} {vs A td : List Int} {sn : List Bool} {v i w b : Int} (h : Dfs R vs A sn td v i) (hv : sn[v.toNat]? = some true) (h0 : 0 ≤ v) (hw : Loaded R vs v i w 0) (he : w % 2 = 1) (hb : b = (w - 1) / 2) : Dfs R vs A sn (td ++ [b]) v (i + 1) := by
  refine ⟨h.so, fun t ht ho => ?_, fun a ha hao => ?_, fun x hx j u hl h1 ho => ?_⟩
  · rcases List.mem_append.1 ht with q | q
    · exact h.tq t q ho
    · rw [List.mem_singleton.1 q] at ho ⊢
      obtain ⟨_, hr⟩ := h.so v.toNat hv
      rw [Int.toNat_of_nonneg h0] at hr
      exact .next v b hr ⟨i, w, hw, he, hb.symm, ho⟩
  · rcases h.rt a ha hao with q | q
    · exact .inl q
    · exact .inr (List.mem_append_left _ q)
  · rcases h.cl x hx j u hl h1 ho with ⟨q1, q2⟩ | q | q
    · by_cases e : j = i
      · subst e
        rw [q1] at hl
        have := loaded_one hw hl
        rw [← this, ← hb]
        exact .inr (.inr (List.mem_append_right _ (List.mem_singleton.2 rfl)))
      · exact .inl ⟨q1, by omega⟩
    · exact .inr (.inl q)
    · exact .inr (.inr (List.mem_append_left _ q))
theorem Dfs.fin {R : List Rw} {vs A td : List Int} {sn : List Bool} {v i : Int} {X : List Int} (h : Dfs R vs A sn td v i) (hX : Wrds R vs v X) (hi : (X.length : Int) ≤ i) : Dfs R vs A sn td (-1) 0 := by
  refine ⟨h.so, h.tq, h.rt, fun x hx j u hl h1 ho => ?_⟩
  rcases h.cl x hx j u hl h1 ho with ⟨q1, q2⟩ | q
  · exfalso
    rw [q1] at hl
    have hlen := hX.1
    generalize hn : (X.length : Int) = n at hlen hi
    cases hl with
    | ok k l _ hK hj _ =>
      cases hlen with
      | no hno => exact hno hK.obj6
      | is k2 _ hK2 =>
        have := (hK.det9 hK2).2
        omega
  · exact .inr q
theorem Dfs.done {R : List Rw} {vs A : List Int} {sn : List Bool} (h : Dfs R vs A sn [] (-1) 0) {W : Int} (hbd : ∀ x ∈ objs R, 0 ≤ x) (x : Nat) : sn[x]? = some true ↔ Rch R vs A x := by
  constructor
  · exact fun hx => (h.so x hx).2
  · suffices hs : ∀ y : Int, Rch R vs A y → sn[y.toNat]? = some true from fun hr => by simpa using hs x hr
    intro y hy
    induction hy with
    | root a ha ho =>
      rcases h.rt a ha ho with q | q
      · exact q
      · cases q
    | next a b ha hl ih =>
      obtain ⟨j, w, hld, h1, h2, h3⟩ := hl
      have h0 := hbd a ha.obj
      rcases h.cl a.toNat ih j w (by rw [Int.toNat_of_nonneg h0]; exact hld) h1 (by rw [h2]; exact h3) with q | q | q
      · omega
      · rw [h2] at q; exact q
      · cases q
def bpv1 (l : List Bool) : List PV := l.map PV.bool
theorem bpv1_get {l : List Bool} {i : Nat} {b : Bool} (h : l[i]? = some b) : (bpv1 l)[i]? = some (.bool b) := by rw [bpv1, List.getElem?_map, h]; rfl
theorem bpv1_len (l : List Bool) : (bpv1 l).length = l.length := by simp [bpv1]
theorem bpv1_set (l : List Bool) (i : Nat) (b : Bool) : (bpv1 l).set i (.bool b) = bpv1 (l.set i b) := by simp [bpv1, List.map_set]
def unseen (l : List Bool) : Nat := l.count false
theorem unseen_set {l : List Bool} {i : Nat} (h : l[i]? = some false) : unseen (l.set i true) + 1 = unseen l := by
  unfold unseen
  induction l generalizing i with
  | nil => simp at h
  | cons b l ih =>
    cases i with
    | zero => simp at h; subst h; simp
    | succ i =>
      have := ih (i := i) (by simpa using h)
      cases b <;> simp [List.count_cons] <;> omega
theorem unseen_le (l : List Bool) : unseen l ≤ l.length := List.count_le_length
/-- What was seen, rising. -/
def selF (sn : List Bool) (i : Nat) : List Int := ((List.range i).filter fun x => sn[x]? == some true).map fun x : Nat => (x : Int)
theorem selF_succ (sn : List Bool) (i : Nat) : selF sn (i + 1) = selF sn i ++ (if sn[i]? = some true then [(i : Int)] else []) := by
  unfold selF
  rw [List.range_succ, List.filter_append, List.map_append]
  congr 1
  by_cases h : sn[i]? = some true
  · simp [h]
  · simp [h]
theorem selF_mem {sn : List Bool} {i : Nat} {x : Int} : x ∈ selF sn i ↔ ∃ n : Nat, n < i ∧ sn[n]? = some true ∧ x = n := by
  unfold selF
  rw [List.mem_map]
  constructor
  · rintro ⟨n, hn, rfl⟩
    rw [List.mem_filter, List.mem_range] at hn
    exact ⟨n, hn.1, by simpa using hn.2, rfl⟩
  · rintro ⟨n, h1, h2, rfl⟩
    exact ⟨n, by rw [List.mem_filter, List.mem_range]; exact ⟨h1, by simpa using h2⟩, rfl⟩
theorem selF_pw (sn : List Bool) (i : Nat) : (selF sn i).Pairwise (· < ·) := by
  unfold selF
  rw [List.pairwise_map]
  refine (List.Pairwise.filter _ List.pairwise_lt_range).imp ?_
  intro a b h
  omega
theorem selF_len (sn : List Bool) (i : Nat) : (selF sn i).length ≤ i := by
  unfold selF
  rw [List.length_map]
  exact Nat.le_trans (List.length_filter_le _ _) (by rw [List.length_range]; exact Nat.le_refl _)
theorem repsP_bool (n : Nat) : repsP [PV.bool false] n = bpv1 (List.replicate n false) := by
  induction n with
  | zero => rfl
  | succ n ih => rw [repsP, ih]; rfl
theorem td_last {td : List Int} (h : td ≠ []) : ∃ t a, td = t ++ [a] := ⟨td.dropLast, td.getLast h, (List.dropLast_concat_getLast h).symm⟩
set_option maxHeartbeats 8000000 in
theorem rreach_lx (R : List Rw) (vs C G : List Int) (N W ph sp cy : Int) (P B V Q la : List PV) (m : Int) (ov : Bool) (h : RM R vs C G N W P B V Q la m) (A : List Int) (k : Int) (cells : List PV) (hk : k = A.length) (hcs : cells = ipv A) (hAl : A.length ≤ 100000) (hvw : ∀ a i w, Loaded R vs a i w 0 → -9223372036854775808 ≤ w ∧ w ≤ 9223372036854775807) : CallF (fun _ => Tryz.prog) 18 [.ptr 0 (.lit 0), .p (.vsl (.sym k) true cells)] [(0, .mix [.ptr 1 (.lit 0), .sl 6 3 1 (.lit 0) (.sym W), .ptr 7 (.lit 0), .p (.int .i64 (.sym ph)), .p (.int .i64 (.sym sp)), .p (.int .i64 (.sym cy))]), (1, .mix [.ptr 2 (.lit 0), .sl 5 3 1 (.lit 0) (.sym W)]), (2, .mix [.sl 3 3 1 (.lit 0) (.sym N), .sl 4 211 8 (.lit 0) (.sym N)]), (3, .pure true P), (4, .pure true B), (5, .pure true V), (6, .pure true Q), (7, .mix [.p (.vsl (.sym m) true la), .p (.bool ov)])] 8 (fun r h n => ∃ (X : List Int) (j : Int) (O : List PV), r = .p (.vsl (.sym j) true O) ∧ h = [(0, .mix [.ptr 1 (.lit 0), .sl 6 3 1 (.lit 0) (.sym W), .ptr 7 (.lit 0), .p (.int .i64 (.sym ph)), .p (.int .i64 (.sym sp)), .p (.int .i64 (.sym cy))]), (1, .mix [.ptr 2 (.lit 0), .sl 5 3 1 (.lit 0) (.sym W)]), (2, .mix [.sl 3 3 1 (.lit 0) (.sym N), .sl 4 211 8 (.lit 0) (.sym N)]), (3, .pure true P), (4, .pure true B), (5, .pure true V), (6, .pure true Q), (7, .mix [.p (.vsl (.sym m) true la), .p (.bool ov)])] ∧ n = 8 ∧ O = ipv X ∧ j = X.length ∧ X.Pairwise (· < ·) ∧ ∀ x, x ∈ X ↔ Rch R vs A x) := by
  have hWn := h.w; have hNr := h.n; have hRr := h.r
  refine callF_of_body tok Tryz.func18 (by kernel_rfl) rfl rfl rfl ?_; conv => cbv
  refine Need.mk ⟨by show (0 : Int) ≤ W; omega, by show W ≤ W; omega, by show W * 1 ≤ 140737488355328; omega, by show W ≤ 9223372036854775807; omega⟩ ?_
  conv => cbv
  refine Upd.mk fun S0 hS0 => ?_
  obtain ⟨sn0, hsn0⟩ : ∃ sn0, sn0 = List.replicate W.toNat false := ⟨_, rfl⟩
  have hS0 : S0 = bpv1 sn0 := by rw [hsn0, ← repsP_bool]; exact hS0
  have hsl0 : (sn0.length : Int) = W := by rw [hsn0, List.length_replicate]; omega
  have hD0 : Dfs R vs A sn0 A (-1) 0 := by rw [hsn0]; exact Dfs.start R vs A _
  have hcl : cells.length = A.length := by rw [hcs, ipv_length]
  conv => cbv
  refine Need.mk (by show (cells.length : Int) = k * 1; omega) ?_
  conv => cbv
  refine Need.mk ⟨by show k * 8 ≤ 140737488355328; omega, by show k ≤ 9223372036854775807; omega⟩ ?_
  conv => cbv
  refine LoopF.mk (fun kk s => ∃ (j : Int) (sn : List Bool) (td : List Int) (S T rest : List PV), s = ⟨.ptr 0 (.lit 0) :: (undefs 4 ++ .sl 8 4 1 (.lit 0) (.sym W) :: .sl 9 3 1 (.lit 0) (.sym j) :: undefs 83), [(0, .mix [.ptr 1 (.lit 0), .sl 6 3 1 (.lit 0) (.sym W), .ptr 7 (.lit 0), .p (.int .i64 (.sym ph)), .p (.int .i64 (.sym sp)), .p (.int .i64 (.sym cy))]), (1, .mix [.ptr 2 (.lit 0), .sl 5 3 1 (.lit 0) (.sym W)]), (2, .mix [.sl 3 3 1 (.lit 0) (.sym N), .sl 4 211 8 (.lit 0) (.sym N)]), (3, .pure true P), (4, .pure true B), (5, .pure true V), (6, .pure true Q), (7, .mix [.p (.vsl (.sym m) true la), .p (.bool ov)]), (8, .pure true S), (9, .pure true T)], 10⟩ ∧ S = bpv1 sn ∧ (sn.length : Int) = W ∧ T = ipv td ++ rest ∧ j = td.length ∧ Dfs R vs A sn td (-1) 0 ∧ kk = unseen sn * 40 + td.length ∧ kk ≤ 1400000) (unseen sn0 * 40 + A.length) _
    (Re.at [(0, 0), (1, 1), (2, 2), (3, 3), (4, 4), (5, 5), (6, 6), (7, 7), (8, 8), (9, 9)] []) ⟨k, sn0, A, S0, cells, [], rfl, hS0, hsl0, by rw [hcs, List.append_nil], hk, hD0, rfl, by have := unseen_le sn0; omega⟩ ?_
  clear hS0 hsl0 hD0 hcl hsn0 hcs
  rintro kk s ⟨j, sn, td, S, T, rest, rfl, hS, hsl, hT, hj, hD, hkk, hkb⟩
  have hSl : S.length = sn.length := by rw [hS, bpv1_len]
  conv => cbv
  refine Br.mk (fun q => ?_) (fun q => ?_)
  case refine_2 =>
    have q : ¬ 0 < j := q
    have htd : td = [] := List.eq_nil_of_length_eq_zero (by omega)
    subst htd
    have hdone := hD.done (W := W) (fun x hx => (obj_bd h.a hx).1)
    conv => cbv
    refine LoopF.mk (fun kk s => ∃ (i j : Int) (M : List PV), s = ⟨undefs 5 ++ .sl 8 4 1 (.lit 0) (.sym W) :: (undefs 4 ++ .sl 10 3 1 (.lit 0) (.sym j) :: .p (.int .i64 (.sym i)) :: undefs 78), [(0, .mix [.ptr 1 (.lit 0), .sl 6 3 1 (.lit 0) (.sym W), .ptr 7 (.lit 0), .p (.int .i64 (.sym ph)), .p (.int .i64 (.sym sp)), .p (.int .i64 (.sym cy))]), (1, .mix [.ptr 2 (.lit 0), .sl 5 3 1 (.lit 0) (.sym W)]), (2, .mix [.sl 3 3 1 (.lit 0) (.sym N), .sl 4 211 8 (.lit 0) (.sym N)]), (3, .pure true P), (4, .pure true B), (5, .pure true V), (6, .pure true Q), (7, .mix [.p (.vsl (.sym m) true la), .p (.bool ov)]), (8, .pure true S), (10, .pure true M)], 11⟩ ∧ M = ipv (selF sn i.toNat) ∧ j = (selF sn i.toNat).length ∧ 0 ≤ i ∧ i ≤ W ∧ kk = (W - i).toNat) W.toNat _
      (Re.at [(0, 0), (1, 1), (2, 2), (3, 3), (4, 4), (5, 5), (6, 6), (7, 7), (8, 8)] [10]) ⟨0, 0, [], rfl, rfl, rfl, by omega, by omega, by omega⟩ ?_
    clear hD hT
    rintro kk2 s ⟨i, j, M, rfl, hM, hj, hi0, hi1, hkk3⟩
    have hMl : M.length = (selF sn i.toNat).length := by rw [hM, ipv_length]
    have hsl9 := selF_len sn i.toNat
    conv => cbv
    refine Br.mk (fun q2 => ?_) (fun q2 => ?_)
    case refine_2 =>
      have q2 : ¬ i < W := q2
      conv => cbv
      refine RetF.mk [.p (.vsl (.sym j) true M)] [(0, .mix [.ptr 1 (.lit 0), .sl 6 3 1 (.lit 0) (.sym W), .ptr 7 (.lit 0), .p (.int .i64 (.sym ph)), .p (.int .i64 (.sym sp)), .p (.int .i64 (.sym cy))]), (1, .mix [.ptr 2 (.lit 0), .sl 5 3 1 (.lit 0) (.sym W)]), (2, .mix [.sl 3 3 1 (.lit 0) (.sym N), .sl 4 211 8 (.lit 0) (.sym N)]), (3, .pure true P), (4, .pure true B), (5, .pure true V), (6, .pure true Q), (7, .mix [.p (.vsl (.sym m) true la), .p (.bool ov)])] 8 (Re.at [(0, 0), (1, 1), (2, 2), (3, 3), (4, 4), (5, 5), (6, 6), (7, 7)] []) rfl ⟨selF sn i.toNat, j, M, rfl, rfl, rfl, hM, hj, selF_pw _ _, fun x => ?_⟩
      rw [selF_mem]
      constructor
      · rintro ⟨n, _, h2, rfl⟩
        exact (hdone n).1 h2
      · intro hr
        have hb := obj_bd h.a hr.obj
        refine ⟨x.toNat, by omega, (hdone x.toNat).2 (by rw [Int.toNat_of_nonneg hb.1]; exact hr), by omega⟩
    have q2 : i < W := q2
    obtain ⟨b, hbs⟩ : ∃ b, sn[i.toNat]? = some b := ⟨_, List.getElem?_eq_getElem (by omega)⟩
    have hSa : S[i.toNat]? = some (.bool b) := by rw [hS]; exact bpv1_get hbs
    have hsucc := selF_succ sn i.toNat
    obtain ⟨k', rfl⟩ : ∃ k', kk2 = k' + 1 := ⟨kk2 - 1, by omega⟩
    conv => cbv
    refine Need.mk (show 0 ≤ i ∧ i < W by omega) ?_
    conv => cbv
    refine Cell.at i _ hSa (by simp [I.val]) rfl ?_
    cases b with
    | false =>
      rw [if_neg (by rw [hbs]; simp), List.append_nil] at hsucc
      conv => cbv
      refine Fit.mk (by show (-9223372036854775808 : Int) ≤ i + 1; omega) (by show i + 1 ≤ 9223372036854775807; omega) fun i2 hi2 => ?_
      have hi2 : i2 = i + 1 := hi2
      rw [show i.toNat + 1 = i2.toNat by omega] at hsucc
      conv => cbv
      refine Again.mk k' _ (Nat.lt_succ_self _) (Re.at [(0, 0), (1, 1), (2, 2), (3, 3), (4, 4), (5, 5), (6, 6), (7, 7), (8, 8), (10, 10)] []) ⟨i2, j, M, rfl, by rw [hsucc]; exact hM, by rw [hsucc]; exact hj, by omega, by omega, by omega⟩
    | true =>
      rw [if_pos hbs] at hsucc
      conv => cbv
      refine Room.new rfl ?_
      conv => cbv
      refine Room.new ⟨by show (M.length : Int) = j * 1; omega, by show (j + 1) * 8 ≤ 140737488355328; omega, by show j + 1 ≤ 9223372036854775807; omega⟩ ?_
      conv => cbv
      refine Upd.mk fun M2 hM2 => ?_
      have hM2 : M2 = ipv (selF sn (i.toNat + 1)) := by
        rw [hsucc, Int.toNat_of_nonneg hi0, ← ipv_app, ← hM]; exact hM2
      conv => cbv
      refine Sum.mk fun j2 hj2 => ?_
      have hj2 : j2 = ((selF sn (i.toNat + 1)).length : Int) := by
        rw [hsucc, List.length_append, show j2 = j + 1 from hj2, hj]; rfl
      conv => cbv
      refine Fit.mk (by show (-9223372036854775808 : Int) ≤ i + 1; omega) (by show i + 1 ≤ 9223372036854775807; omega) fun i2 hi2 => ?_
      have hi2 : i2 = i + 1 := hi2
      rw [show i.toNat + 1 = i2.toNat by omega] at hM2 hj2
      conv => cbv
      refine Again.mk k' _ (Nat.lt_succ_self _) (Re.at [(0, 0), (1, 1), (2, 2), (3, 3), (4, 4), (5, 5), (6, 6), (7, 7), (8, 8), (12, 10)] []) ⟨i2, j2, M2, rfl, hM2, hj2, by omega, by omega, by omega⟩
  have q : 0 < j := q
  obtain ⟨t', a, rfl⟩ := td_last (td := td) (fun e => by rw [e] at hj; simp at hj; omega)
  have htl : ((t' ++ [a]).length : Int) = t'.length + 1 := by rw [List.length_append]; rfl
  conv => cbv
  refine Fit.mk (by show (-9223372036854775808 : Int) ≤ j - 1; omega) (by show j - 1 ≤ 9223372036854775807; omega) fun p hp => ?_
  have hp : p = j - 1 := hp
  have hpt : p = t'.length := by rw [hp, hj, htl]; omega
  have hTa : T[p.toNat]? = some (.int .i64 (.sym a)) := by
    rw [hT, List.getElem?_append_left (by rw [ipv_length, List.length_append]; simp; omega)]
    exact ipv_get (by rw [List.getElem?_append_right (by omega), show p.toNat - t'.length = 0 by omega]; rfl)
  conv => cbv
  refine Need.mk (show 0 ≤ p ∧ p < j by omega) ?_
  conv => cbv
  refine Cell.at p _ hTa (by simp [I.val]) rfl ?_
  conv => cbv
  have hT2 : T = ipv t' ++ .int .i64 (.sym a) :: rest := by rw [hT, ← ipv_app, List.append_assoc]; rfl
  have hkk2 : unseen sn * 40 + t'.length + 1 = kk := by rw [hkk, List.length_append]; simp; omega
  refine Fit.mk (by show (-9223372036854775808 : Int) ≤ j - 1; omega) (by show j - 1 ≤ 9223372036854775807; omega) fun p2 hp2 => ?_
  obtain rfl : p = p2 := by have : p2 = j - 1 := hp2; omega
  conv => cbv
  refine Need.mk ⟨show 0 ≤ p by omega, .inl (show p ≤ j by omega)⟩ ?_
  conv => cbv
  refine callF_frame (ris_lx R vs N a W P B V h.p h.b h.v h.n h.r h.a h.w) [(0, 1), (1, 2), (2, 3), (3, 4), (4, 5)] rfl (by simp [hmapOk, nget, hget, renB, okB, renV, renVs, rn, okVs, okV]) rfl rfl (fun r h' n' hrr => ?_)
  obtain ⟨b, e1, e2, e3, hb⟩ := hrr
  subst e1 e2 e3
  cases b with
  | false =>
    have hD2 := hD.skip (fun ho => by have := hb.2 ((obj_iff h.a a).1 ho); cases this)
    conv => cbv
    refine Again.mk (unseen sn * 40 + t'.length) _ (by omega) (Re.at [(0, 0), (1, 1), (2, 2), (3, 3), (4, 4), (5, 5), (6, 6), (7, 7), (8, 8), (9, 9)] []) ⟨p, sn, t', S, T, .int .i64 (.sym a) :: rest, rfl, hS, hsl, hT2, hpt, hD2, rfl, by omega⟩
  | true =>
  have ho : a ∈ objs R := (obj_iff h.a a).2 (hb.1 rfl)
  have hbd := obj_bd h.a ho
  obtain ⟨b, hbs⟩ : ∃ b, sn[a.toNat]? = some b := ⟨_, List.getElem?_eq_getElem (by omega)⟩
  have hSa : S[a.toNat]? = some (.bool b) := by rw [hS]; exact bpv1_get hbs
  conv => cbv
  refine Need.mk (show 0 ≤ a ∧ a < W by omega) ?_
  conv => cbv
  refine Cell.at a _ hSa (by simp [I.val]) rfl ?_
  cases b with
  | true =>
    have hD2 := hD.skip (fun ho => hbs)
    conv => cbv
    refine Again.mk (unseen sn * 40 + t'.length) _ (by omega) (Re.at [(0, 0), (1, 1), (2, 2), (3, 3), (4, 4), (5, 5), (6, 6), (7, 7), (8, 8), (9, 9)] []) ⟨p, sn, t', S, T, .int .i64 (.sym a) :: rest, rfl, hS, hsl, hT2, hpt, hD2, rfl, by omega⟩
  | false =>
  conv => cbv
  refine Need.mk (show 0 ≤ a ∧ a < W by omega) ?_
  conv => cbv
  refine Need.mk (by show a + 1 ≤ (S.length : Int); omega) ?_
  conv => cbv
  refine Upd.mk fun S2 hS2 => ?_
  obtain ⟨sn2, hsn2⟩ : ∃ sn2, sn2 = sn.set a.toNat true := ⟨_, rfl⟩
  have hS2 : S2 = bpv1 sn2 := by rw [show S2 = S.set a.toNat (.bool true) from hS2, hS, bpv1_set, hsn2]
  have hsl2 : (sn2.length : Int) = W := by rw [hsn2, List.length_set]; exact hsl
  have hus := unseen_set hbs
  rw [← hsn2] at hus
  have hself : sn2[a.toNat]? = some true := by rw [hsn2]; exact List.getElem?_set_self (by omega)
  have hD2 : Dfs R vs A sn2 t' a 0 := by rw [hsn2]; exact hD.mark (by omega) (by omega) ho
  clear hD hbs hSa hsn2
  conv => cbv
  refine callF_frame (rwordsV_lx R vs C G N W ph sp cy P B V Q la m ov h a) [(0, 0), (1, 1), (2, 2), (3, 3), (4, 4), (5, 5), (6, 6), (7, 7)] rfl (by simp [hmapOk, nget, hget, renB, okB, renV, renVs, rn, okVs, okV]) rfl rfl (fun r h' n' hrr => ?_)
  obtain ⟨X, kx, O, e1, e2, e3, hO, hkx, hX⟩ := hrr
  subst e1 e2 e3
  have hx31 : X.length ≤ 31 := by
    have hlen := hX.1
    generalize hn : (X.length : Int) = n at hlen
    cases hlen with
    | no hno => omega
    | is k2 _ hK2 => have := hK2.bounds h.a; omega
  conv => cbv
  refine LoopF.mk (fun kk s => ∃ (i j : Int) (td : List Int) (T rest : List PV), s = ⟨.ptr 0 (.lit 0) :: (undefs 4 ++ .sl 8 4 1 (.lit 0) (.sym W) :: .sl 9 3 1 (.lit 0) (.sym j) :: .undef :: .p (.vsl (.sym kx) true O) :: .p (.int .i64 (.sym i)) :: undefs 80), [(0, .mix [.ptr 1 (.lit 0), .sl 6 3 1 (.lit 0) (.sym W), .ptr 7 (.lit 0), .p (.int .i64 (.sym ph)), .p (.int .i64 (.sym sp)), .p (.int .i64 (.sym cy))]), (1, .mix [.ptr 2 (.lit 0), .sl 5 3 1 (.lit 0) (.sym W)]), (2, .mix [.sl 3 3 1 (.lit 0) (.sym N), .sl 4 211 8 (.lit 0) (.sym N)]), (3, .pure true P), (4, .pure true B), (5, .pure true V), (6, .pure true Q), (7, .mix [.p (.vsl (.sym m) true la), .p (.bool ov)]), (8, .pure true S2), (9, .pure true T)], 10⟩ ∧ T = ipv td ++ rest ∧ j = td.length ∧ Dfs R vs A sn2 td a i ∧ (td.length : Int) ≤ t'.length + i ∧ 0 ≤ i ∧ i ≤ kx ∧ kk = (kx - i).toNat) kx.toNat _
    (Re.at [(0, 0), (1, 1), (2, 2), (3, 3), (4, 4), (5, 5), (6, 6), (7, 7), (8, 8), (9, 9)] []) ⟨0, p, t', T, .int .i64 (.sym a) :: rest, rfl, hT2, hpt, hD2, by omega, by omega, by omega, by omega⟩ ?_
  clear hT hT2 hTa hj hpt hp htl hD2 hkk hSl hS hsl
  rintro kk2 s ⟨i, j, td, T, rest, rfl, hT, hj, hD, htd, hi0, hi1, hkk3⟩
  have htd : ((td.length : Nat) : Int) ≤ ((t'.length : Nat) : Int) + i := htd
  have hTl : T.length = td.length + rest.length := by rw [hT, List.length_append, ipv_length]
  conv => cbv
  refine Br.mk (fun q2 => ?_) (fun q2 => ?_)
  case refine_2 =>
    have q2 : ¬ i < kx := q2
    have hD3 := hD.fin hX (by omega)
    conv => cbv
    have hfin : unseen sn2 * 40 + td.length < kk := by
      have h1 : td.length ≤ t'.length + 31 := by omega
      omega
    refine Again.mk (unseen sn2 * 40 + td.length) _ hfin (Re.at [(0, 0), (1, 1), (2, 2), (3, 3), (4, 4), (5, 5), (6, 6), (7, 7), (8, 8), (9, 9)] []) ⟨j, sn2, td, S2, T, rest, rfl, hS2, hsl2, hT, hj, hD3, rfl, by omega⟩
  have q2 : i < kx := q2
  obtain ⟨w, hw⟩ : ∃ w, X[i.toNat]? = some w := ⟨_, List.getElem?_eq_getElem (by omega)⟩
  have hOw : O[i.toNat]? = some (.int .i64 (.sym w)) := by rw [hO]; exact ipv_get hw
  have hld := hX.2 _ _ hw
  rw [Int.toNat_of_nonneg hi0] at hld
  have hwb := hvw a i w hld
  obtain ⟨k', rfl⟩ : ∃ k', kk2 = k' + 1 := ⟨kk2 - 1, by omega⟩
  conv => cbv
  refine Need.mk (show 0 ≤ i ∧ i < kx by omega) ?_
  conv => cbv
  refine Cell.at i _ hOw (by simp [I.val]) rfl ?_
  conv => cbv
  refine callF_frame (rIsPtr_lx w) [] rfl trivial rfl rfl (fun r h' n' hrr => ?_)
  obtain ⟨b, e1, e2, e3, hb⟩ := hrr
  subst e1 e2 e3
  cases b with
  | false =>
    have hD3 := hD.even hld (fun h => by have := hb.2 h; cases this)
    conv => cbv
    refine Fit.mk (by show (-9223372036854775808 : Int) ≤ i + 1; omega) (by show i + 1 ≤ 9223372036854775807; omega) fun i2 hi2 => ?_
    have hi2 : i2 = i + 1 := hi2
    rw [← hi2] at hD3
    conv => cbv
    refine Again.mk k' _ (Nat.lt_succ_self _) (Re.at [(0, 0), (1, 1), (2, 2), (3, 3), (4, 4), (5, 5), (6, 6), (7, 7), (8, 8), (9, 9)] []) ⟨i2, j, td, T, rest, rfl, hT, hj, hD3, (by show ((td.length : Nat) : Int) ≤ ((t'.length : Nat) : Int) + i2; omega), by omega, by omega, by omega⟩
  | true =>
  have hodd := hb.1 rfl
  conv => cbv
  refine Need.mk (show 0 ≤ i ∧ i < kx by omega) ?_
  conv => cbv
  refine Cell.at i _ hOw (by simp [I.val]) rfl ?_
  conv => cbv
  refine callF_frame (rAt_lx w hwb) [] rfl trivial rfl rfl (fun r h' n' hrr => ?_)
  obtain ⟨y, e1, e2, e3, hy1, _⟩ := hrr
  subst e1 e2 e3
  have hD3 := hD.odd hself (by omega) hld hodd (hy1 hodd)
  conv => cbv
  refine Room.new rfl ?_
  conv => cbv
  by_cases hrest : rest = []
  · refine Room.new ⟨by show (T.length : Int) = j * 1; rw [hTl, hrest]; simp; omega, by show (j + 1) * 8 ≤ 140737488355328; omega, by show j + 1 ≤ 9223372036854775807; omega⟩ ?_
    conv => cbv
    refine Upd.mk fun T3 hT3 => ?_
    have hT3 : T3 = ipv (td ++ [y]) ++ [] := by
      rw [show T3 = T ++ [.int .i64 (.sym y)] from hT3, hT, hrest, List.append_nil, List.append_nil, ← ipv_app]; rfl
    conv => cbv
    refine Sum.mk fun j2 hj2 => ?_
    have hj2 : j2 = j + 1 := hj2
    conv => cbv
    refine Fit.mk (by show (-9223372036854775808 : Int) ≤ i + 1; omega) (by show i + 1 ≤ 9223372036854775807; omega) fun i2 hi2 => ?_
    have hi2 : i2 = i + 1 := hi2
    rw [← hi2] at hD3
    conv => cbv
    refine Again.mk k' _ (Nat.lt_succ_self _) (Re.at [(0, 0), (1, 1), (2, 2), (3, 3), (4, 4), (5, 5), (6, 6), (7, 7), (8, 8), (11, 9)] []) ⟨i2, j2, td ++ [y], T3, [], rfl, hT3, by rw [List.length_append, hj2, hj]; rfl, hD3, (by show (((td ++ [y]).length : Nat) : Int) ≤ ((t'.length : Nat) : Int) + i2; rw [List.length_append]; simp; omega), by omega, by omega, by omega⟩
  · have hrl := List.length_pos_iff.2 hrest
    refine Room.within (by show (j + 1) * 1 ≤ (T.length : Int); omega) ?_
    conv => cbv
    refine Upd.mk fun T3 hT3 => ?_
    have hT3 : T3 = ipv (td ++ [y]) ++ rest.tail := by
      have e : T3 = T.set (j.toNat * 1) (.int .i64 (.sym y)) := hT3
      rw [e, hT, Nat.mul_one, show j.toNat = (ipv td).length by rw [ipv_length]; omega, List.set_append_right _ _ (Nat.le_refl _), Nat.sub_self, ← ipv_app, List.append_assoc]
      cases rest with
      | nil => exact absurd rfl hrest
      | cons r rest => rfl
    conv => cbv
    refine Sum.mk fun j2 hj2 => ?_
    have hj2 : j2 = j + 1 := hj2
    conv => cbv
    refine Fit.mk (by show (-9223372036854775808 : Int) ≤ i + 1; omega) (by show i + 1 ≤ 9223372036854775807; omega) fun i2 hi2 => ?_
    have hi2 : i2 = i + 1 := hi2
    rw [← hi2] at hD3
    conv => cbv
    refine Again.mk k' _ (Nat.lt_succ_self _) (Re.at [(0, 0), (1, 1), (2, 2), (3, 3), (4, 4), (5, 5), (6, 6), (7, 7), (8, 8), (9, 9)] []) ⟨i2, j2, td ++ [y], T3, rest.tail, rfl, hT3, by rw [List.length_append, hj2, hj]; rfl, hD3, (by show (((td ++ [y]).length : Nat) : Int) ≤ ((t'.length : Nat) : Int) + i2; rw [List.length_append]; simp; omega), by omega, by omega, by omega⟩
end Go.Proofs.YtgoflehllhccgaaGreatDoor
