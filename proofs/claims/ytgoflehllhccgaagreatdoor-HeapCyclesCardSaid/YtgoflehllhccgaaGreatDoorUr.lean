/-
  Layer 9: HeapCycles.
-/
import Derived.Test.YtgoflehllhccgaaGreatDoorBg

import Derived.Test.YtgoflehllhccgaaGreatDoorUq


import Derived.Test.YtgoflehllhccgaaGreatDoorIg



import Derived.Test.YtgoflehllhccgaaGreatDoorHp

import Derived.Test.YtgoflehllhccgaaGreatDoorBf

import Derived.Test.YtgoflehllhccgaaGreatDoorLxZ

namespace Go.Proofs.YtgoflehllhccgaaGreatDoor

open Go Go.LX
set_option maxRecDepth 100000
set_option linter.unusedVariables false
set_option linter.unusedSimpArgs false

theorem inC_lx (l : List Int) (x m : Int) (ZL : List PV) (b : Bool) (hm : m = l.length) (hZ : ZL = ipv l) (hml : m ≤ 9223372036854775806) (hb : b = decide (x ∈ l)) : CallF (fun _ => Tryz.prog) 19 [.p (.vsl (.sym m) true ZL), .p (.int .i64 (.sym x))] [] 0 (fun r h n => r = .p (.bool b) ∧ h = [] ∧ n = 0) := by
  refine callF_of_body tok Tryz.func19 (by kernel_rfl) rfl rfl rfl ?_; conv => cbv
  refine LoopF.mk (fun k s => ∃ i : Int, s = ⟨.p (.vsl (.sym m) true ZL) :: .p (.int .i64 (.sym x)) :: (undefs 3 ++ .p (.int .i64 (.sym i)) :: undefs 12), [], 0⟩ ∧ 0 ≤ i ∧ i ≤ m ∧ x ∉ l.take i.toNat ∧ k = (m - i).toNat) m.toNat _
    (Re.at [] []) ⟨0, rfl, by omega, by omega, by simp, by omega⟩ ?_
  rintro k s ⟨i, rfl, hi0, hi1, hnot, hk⟩
  conv => cbv
  refine Br.mk (fun gi => ?_) (fun gi => ?_)
  · have gi : i < m := gi
    obtain ⟨k', rfl⟩ : ∃ k', k = k' + 1 := ⟨k - 1, by omega⟩
    obtain ⟨z, hz⟩ : ∃ z, l[i.toNat]? = some z := ⟨_, List.getElem?_eq_getElem (by omega)⟩
    have hc : ZL[i.toNat]? = some (.int .i64 (.sym z)) := by rw [hZ]; exact ipv_get hz
    conv => cbv
    refine Need.mk ⟨hi0, by show i < m; omega⟩ ?_
    conv => cbv
    refine Cell.at i _ hc (by simp [I.val]) rfl ?_
    conv => cbv
    refine Br.mk (fun ge => ?_) (fun ge => ?_)
    · have ge : z = x := ge
      have hbt : b = true := by rw [hb]; exact decide_eq_true (by rw [← ge]; exact List.mem_of_getElem? hz)
      subst hbt
      conv => cbv
      refine RetF.mk [.p (.bool true)] [] 0 (Re.at [] []) rfl ⟨rfl, rfl, rfl⟩
    · have ge : ¬ z = x := ge
      conv => cbv
      refine Fit.mk (by show (-9223372036854775808 : Int) ≤ i + 1; omega) (by show i + 1 ≤ 9223372036854775807; omega) fun i2 hi2 => ?_
      have hi2 : i2 = i + 1 := hi2
      have hn2 : x ∉ l.take i2.toNat := by
        rw [show i2.toNat = i.toNat + 1 by omega, List.take_add_one, hz]
        intro h
        rcases List.mem_append.1 h with h | h
        · exact hnot h
        · exact ge (by simp at h; exact h.symm)
      conv => cbv
      refine Again.mk k' _ (Nat.lt_succ_self _) (Re.at [] []) ⟨i2, rfl, by omega, by omega, hn2, by omega⟩
  · have gi : ¬ i < m := gi
    have hbt : b = false := by
      rw [hb]
      rw [List.take_of_length_le (by omega)] at hnot
      exact decide_eq_false hnot
    subst hbt
    conv => cbv
    refine RetF.mk [.p (.bool false)] [] 0 (Re.at [] []) rfl ⟨rfl, rfl, rfl⟩
theorem stepd_spC {R R' : List Rw} {ws ws' C C' G G' : List Int} {ov ov' : Bool} {ph sp cy W N p s y : Int} {out : List Gn} (h : CyI R C G ph sp cy N) (hs0 : 0 ≤ sp ∧ sp ≤ N) (hs : Stepd R ws C G ov ph sp cy W out R' ws' C' G' ov' p s y) : 0 ≤ s ∧ s ≤ N := by
  cases hs with
  | mark _ _ _ _ _ _ _ _ hm => cases hm with
    | scan _ _ _ _ _ _ _ _ _ _ => exact hs0
    | keep _ _ _ _ _ _ _ _ _ _ _ _ _ => exact hs0
    | sweep _ _ _ _ => exact ⟨Int.le_refl _, by omega⟩
  | sweep _ _ hp _ =>
    rcases h with ⟨q, _⟩ | ⟨_, _, h0, h1⟩ | ⟨q, _⟩
    · omega
    · exact ⟨by omega, by omega⟩
    · omega
  | idle _ _ => exact hs0
theorem CyI.cybC {R : List Rw} {C G : List Int} {ph sp cy N : Int} (h : CyI R C G ph sp cy N) : 0 ≤ cy ∧ cy ≤ 1 := by
  rcases h with ⟨_, _, h⟩ | ⟨_, h, _⟩ | ⟨_, h⟩ <;> omega
set_option maxHeartbeats 4000000 in
theorem beginC_lx (R : List Rw) (ws C G : List Int) (N W ph sp cy : Int) (L D Q : List PV) (z : ByteArray) (ov : Bool) (h : HM R ws C G N W L D Q z) (o : Unit → Obj) (ho : IsPow o) (A : List Int) (k : Int) (rs : List PV) (B : List Int) (hrs : rs = ipv (A ++ B)) (hk : k = A.length) (hA : (A.length : Int) < 1000000) (hph : ph = 0) : CallF (fun _ => Tryz.prog) 14 [.ptr 0 (.lit 0), .sl 8 3 1 (.lit 0) (.sym k)] [(0, .mix [.ptr 1 (.lit 0), .ptr 5 (.lit 0), .sl 6 3 1 (.lit 0) (.sym W), .p (.int .i64 (.sym ph)), .p (.int .i64 (.sym sp)), .p (.int .i64 (.sym cy))]), (1, .mix [.ptr 2 (.lit 0), .sl 4 3 1 (.lit 0) (.sym W)]), (2, .mix [.sl 3 157 2 (.lit 0) (.sym N)]), (3, .pure true L), (4, .pure true D), (5, .pure false [.str fun _ => z, .bool ov]), (6, .pure true Q), (7, .fix 0 o), (8, .pure true rs)] 9 (fun r h n => ∃ (C' G' : List Int) (ov' : Bool) (Q' : List PV) (z' : ByteArray), r = .p (.int .i64 (.lit 0)) ∧ h = [(0, .mix [.ptr 1 (.lit 0), .ptr 9 (.lit 0), .sl 6 3 1 (.lit 0) (.sym W), .p (.int .i64 (.sym 1)), .p (.int .i64 (.sym sp)), .p (.int .i64 (.sym cy))]), (1, .mix [.ptr 2 (.lit 0), .sl 4 3 1 (.lit 0) (.sym W)]), (2, .mix [.sl 3 157 2 (.lit 0) (.sym N)]), (3, .pure true L), (4, .pure true D), (9, .pure false [.str fun _ => z', .bool ov']), (6, .pure true Q'), (7, .fix 0 o), (8, .pure true rs)] ∧ n = 10 ∧ HM R ws C' G' N W L D Q' z' ∧ (C', G', ov') = begS R W A) := by
  have hCl := h.c; have hWn := h.w; have hNr := h.n; have hRr := h.r
  have hQl : Q.length = C.length := by rw [h.q, ipv_length]
  refine callF_of_body tok Tryz.func14 (by kernel_rfl) rfl rfl rfl ?_; conv => cbv
  refine callF_frame (arena_lx R ws C G N W ph sp cy L D Q z ov) [(0, 0), (1, 1), (2, 2), (3, 3), (4, 4), (5, 5), (6, 6)] rfl (by simp [hmapOk, nget, hget, renB, okB, renV, renVs, rn, okVs, okV]) rfl rfl (fun r h' n' ⟨e1, e2, e3⟩ => ?_)
  subst e1 e2 e3
  conv => cbv
  refine Br.mk (fun g => ?_) (fun g => ?_)
  case refine_1 =>
    have g : ph ≠ 0 := g
    exact absurd hph g
  conv => cbv
  refine Need.mk ⟨Int.le_refl _, by show 0 ≤ W; omega, by show 0 + W * 1 ≤ (Q.length : Int); omega⟩ ?_
  conv => cbv
  obtain ⟨Q0, hQ0⟩ : ∃ Q0, Q0 = ipv (List.replicate W.toNat 0) := ⟨_, rfl⟩
  refine Upd.mk fun Q2 hQ2 => ?_
  have hle : pvles Q2 Q0 := by
    have hQ2 : Q2 = updL Q 0 (repsP [.int .i64 (.lit 0)] W.toNat) := hQ2
    rw [hQ2, hQ0, h.q, show W.toNat = C.length by omega, ← zer_all]
    exact upd_zer _ _ _ _ (pvles_refl _)
  unfold pvles at hle
  clear hQ2
  conv => cbv
  refine callF_frame greyNew_lx [] rfl trivial rfl rfl (fun r h' n' hrr => ?_)
  obtain ⟨z1, e1, e2, e3, hz1⟩ := hrr
  subst e1 e2 e3
  have hM0 : HM R ws (List.replicate W.toNat 0) [] N W L D Q0 z1 := ⟨h.a, h.k, h.n, h.r, h.w, h.l, h.d, hQ0, by rw [List.length_replicate]; omega, hz1, fun x hx => (by cases hx), Nat.zero_le _⟩
  conv => cbv
  refine LoopF.mk (fun kk s => ∃ (i : Int) (C' G' : List Int) (ov' : Bool) (Q' : List PV) (z' : ByteArray), s = ⟨.ptr 0 (.lit 0) :: (undefs 25 ++ .sl 8 3 1 (.lit 0) (.sym k) :: .p (.int .i64 (.sym k)) :: .p (.int .i64 (.sym i)) :: undefs 7), [(0, .mix [.ptr 1 (.lit 0), .ptr 9 (.lit 0), .sl 6 3 1 (.lit 0) (.sym W), .p (.int .i64 (.sym 1)), .p (.int .i64 (.sym sp)), .p (.int .i64 (.sym cy))]), (1, .mix [.ptr 2 (.lit 0), .sl 4 3 1 (.lit 0) (.sym W)]), (2, .mix [.sl 3 157 2 (.lit 0) (.sym N)]), (3, .pure true L), (4, .pure true D), (9, .pure false [.str fun _ => z', .bool ov']), (6, .pure true Q'), (7, .fix 0 o), (8, .pure true rs)], 10⟩ ∧ 0 ≤ i ∧ i ≤ k ∧ HM R ws C' G' N W L D Q' z' ∧ (C', G', ov') = begS R W (A.take i.toNat) ∧ kk = (k - i).toNat) k.toNat _
    (Re.at [(0, 0), (1, 1), (2, 2), (3, 3), (4, 4), (6, 6), (7, 7), (8, 8), (9, 9)] []) ⟨0, _, _, _, Q0, z1, rfl, by omega, by omega, hM0, rfl, by omega⟩ ?_
  rintro kk s ⟨i, C', G', ov', Q', z', rfl, hi0, hi1, h2, hS, hk2⟩
  conv => cbv
  refine Br.mk (fun gi => ?_) (fun gi => ?_)
  · have gi : i < k := gi
    obtain ⟨k', rfl⟩ : ∃ k', kk = k' + 1 := ⟨kk - 1, by omega⟩
    obtain ⟨a, ha⟩ : ∃ a, A[i.toNat]? = some a := ⟨_, List.getElem?_eq_getElem (by omega)⟩
    have hc : rs[i.toNat]? = some (.int .i64 (.sym a)) := by rw [hrs]; exact ipv_get (by rw [List.getElem?_append_left (by omega)]; exact ha)
    conv => cbv
    refine Need.mk ⟨hi0, gi⟩ ?_
    conv => cbv
    refine Cell.at i _ hc (by simp [I.val]) rfl ?_
    conv => cbv
    refine callF_frame (shade_lx R ws C' G' N W 1 sp cy L D Q' z' ov' h2 o ho a) [(0, 0), (1, 1), (2, 2), (3, 3), (4, 4), (5, 9), (6, 6), (7, 7)] rfl (by simp [hmapOk, nget, hget, renB, okB, renV, renVs, rn, okVs, okV]) rfl rfl (fun r h' n' hrr => ?_)
    obtain ⟨C2, G2, ov2, Q2, z2, e1, e2, e3, h3, hS2⟩ := hrr
    subst e1 e2 e3
    have hS3 : (C2, G2, ov2) = begS R W (A.take (i.toNat + 1)) := by
      rw [hS2, hS]
      unfold begS
      rw [List.take_add_one, ha, Option.toList_some, List.foldl_append]; rfl
    conv => cbv
    refine Fit.mk (by show (-9223372036854775808 : Int) ≤ i + 1; omega) (by show i + 1 ≤ 9223372036854775807; omega) fun i2 hi2 => ?_
    have hi2 : i2 = i + 1 := hi2
    rw [show i.toNat + 1 = i2.toNat by omega] at hS3
    conv => cbv
    refine Again.mk k' _ (Nat.lt_succ_self _) (Re.at [(0, 0), (1, 1), (2, 2), (3, 3), (4, 4), (6, 6), (7, 7), (8, 8), (9, 9)] []) ⟨i2, C2, G2, ov2, Q2, z2, rfl, by omega, by omega, h3, hS3, by omega⟩
  · have gi : ¬ i < k := gi
    rw [List.take_of_length_le (by omega)] at hS
    conv => cbv
    refine RetF.mk [.p (.int .i64 (.lit 0))] [(0, .mix [.ptr 1 (.lit 0), .ptr 9 (.lit 0), .sl 6 3 1 (.lit 0) (.sym W), .p (.int .i64 (.sym 1)), .p (.int .i64 (.sym sp)), .p (.int .i64 (.sym cy))]), (1, .mix [.ptr 2 (.lit 0), .sl 4 3 1 (.lit 0) (.sym W)]), (2, .mix [.sl 3 157 2 (.lit 0) (.sym N)]), (3, .pure true L), (4, .pure true D), (9, .pure false [.str fun _ => z', .bool ov']), (6, .pure true Q'), (7, .fix 0 o), (8, .pure true rs)] 10 (Re.at [(0, 0), (1, 1), (2, 2), (3, 3), (4, 4), (6, 6), (7, 7), (8, 8), (9, 9)] []) rfl ⟨C', G', ov', Q', z', rfl, rfl, rfl, h2, hS⟩
theorem keptOf_take {out : List Gn} {j : Nat} {g : Gn} (h : out[j]? = some g) : keptOf (out.take (j + 1)) = keptOf (out.take j) ++ (if g.2.2.2 = true then [g.2.1] else []) := by
  unfold keptOf
  rw [List.take_add_one, h, List.filter_append, List.map_append]
  congr 1
  cases hb : g.2.2.2 <;> simp [hb]
theorem goneOf_take {out : List Gn} {j : Nat} {g : Gn} (h : out[j]? = some g) : goneOf (out.take (j + 1)) = goneOf (out.take j) ++ (if g.2.2.2 = true then [] else [g.2.1]) := by
  unfold goneOf
  rw [List.take_add_one, h, List.filter_append, List.map_append]
  congr 1
  cases hb : g.2.2.2 <;> simp [hb]
theorem gpv_getK (l : List Gn) : ∀ (i : Nat) (g : Gn), l[i]? = some g → (gpv l)[4 * i + 3]? = some (.bool g.2.2.2) := by
  induction l with
  | nil => intro i g h; simp at h
  | cons a l ih =>
    intro i g h
    cases i with
    | zero => simp at h; subst h; rfl
    | succ i =>
      rw [show 4 * (i + 1) + 3 = 4 * i + 3 + 1 + 1 + 1 + 1 by omega]
      exact ih i g (by simpa using h)
theorem stepd_len {R R' : List Rw} {ws ws' C C' G G' : List Int} {ov ov' : Bool} {ph sp cy W p s y : Int} {out : List Gn} (hA : AOk R ws) (hs : Stepd R ws C G ov ph sp cy W out R' ws' C' G' ov' p s y) : out.length ≤ (objs R).length + 1 := by
  cases hs with
  | mark _ _ _ _ _ _ _ hp hm =>
    cases hm with
    | scan _ _ _ _ _ _ _ _ _ _ => exact Nat.zero_le _
    | keep _ _ _ _ _ _ _ _ _ _ _ _ _ => show 1 ≤ _; omega
    | sweep _ _ _ _ => exact Nat.zero_le _
  | sweep _ _ hp hs =>
    have f := hs.facts hA
    have hnd : (out.map fun g => g.2.1).Nodup := List.Pairwise.imp (fun {a b} (h : a < b) => Int.ne_of_lt h) f.asc
    have h1 := nodup_le (l := out.map fun g => g.2.1) (m := objs R) hnd (fun x hx => ((f.mem x).1 hx).2.2.1)
    rw [List.length_map] at h1
    omega
  | idle h1 h2 => exact Nat.zero_le _
theorem Sim.back9 {R : List Rw} {ws vs : List Int} (hS : Sim R ws vs) {a k l : Int} (h : Kept R vs a k l) : Kept R ws a k l := by
  obtain ⟨k2, l2, hk⟩ := Kept.of hS.a h.obj6
  have := (hS.hdr _ _ _ hk).det9 h
  rw [this.1, this.2] at hk
  exact hk
theorem Sim.ld {R : List Rw} {ws vs : List Int} (h : Sim R ws vs) {a i x : Int} (hl : Loaded R ws a i x 0) : Loaded R vs a i x 0 := by
  cases hl with
  | ok k l _ hK hi hx => exact .ok k l x (h.hdr a k l hK) hi (by rw [h.in_ a k l i hK hi.1 hi.2]; exact hx)
theorem Sim.ldb {R : List Rw} {ws vs : List Int} (h : Sim R ws vs) {a i x : Int} (hl : Loaded R vs a i x 0) : Loaded R ws a i x 0 := by
  cases hl with
  | ok k l _ hK hi hx =>
    have hK2 := h.back9 hK
    exact .ok k l x hK2 hi (by rw [← h.in_ a k l i hK2 hi.1 hi.2]; exact hx)
theorem Sim.rch {R : List Rw} {ws vs A : List Int} (h : Sim R ws vs) (x : Int) : Rch R vs A x ↔ Rch R ws A x := by
  constructor
  · intro hr
    induction hr with
    | root a ha ho => exact .root a ha ho
    | next a b _ hl ih => obtain ⟨i, y, h1, h2⟩ := hl; exact .next a b ih ⟨i, y, h.ldb h1, h2⟩
  · intro hr
    induction hr with
    | root a ha ho => exact .root a ha ho
    | next a b _ hl ih => obtain ⟨i, y, h1, h2⟩ := hl; exact .next a b ih ⟨i, y, h.ld h1, h2⟩
theorem RM.put {R : List Rw} {vs vs' C G : List Int} {N W m : Int} {P B V V' Q la : List PV} (h : RM R vs C G N W P B V Q la m) (hV : V' = ipv vs') (hA : AOk R vs') : RM R vs' C G N W P B V' Q la m := { h with a := hA, v := hV }
theorem kept_one {out : List Gn} {a gk ga : Int} {Y gw : List Int} {gb : Bool} {j : Nat} (h : out = [(5, a, Y, true)]) (hg : out[j]? = some (gk, ga, gw, gb)) : j = 0 ∧ ga = a := by
  subst h
  cases j with
  | zero => simp at hg; exact ⟨rfl, hg.2.1.symm⟩
  | succ j => simp at hg
theorem kept_mem {out : List Gn} {gk ga : Int} {gw : List Int} {j : Nat} (hg : out[j]? = some (gk, ga, gw, true)) : keptOf out ≠ [] := by
  intro e
  have : ga ∈ keptOf out := List.mem_map.2 ⟨(gk, ga, gw, true), List.mem_filter.2 ⟨List.mem_of_getElem? hg, rfl⟩, rfl⟩
  rw [e] at this
  cases this
theorem Sim.newC (n : Nat) : Sim (List.replicate n (0, [])) (List.replicate (32 * n) 0) (List.replicate (32 * n) 0) :=
  ⟨AOk.new n, AOk.new n, fun _ _ _ h => absurd h.obj6 (new_none n _), fun _ _ _ _ h => absurd h.obj6 (new_none n _)⟩
set_option maxHeartbeats 8000000 in
theorem heapCycles_law (o : Unit → Obj) (ho : IsPow o) (n k1 : Int) (ops : List (Int × Int × Int × Int × Int × Int)) (L1 : List PV) (k2 : Int) (rts : List Int) (L2 : List PV) (hn : -9223372036854775808 ≤ n ∧ n ≤ 9223372036854775807) (hk1 : k1 = ops.length) (hL1 : L1 = sixes ops) (hkb : k1 ≤ 9223372036854775807) (hob : ∀ o ∈ ops, (-9223372036854775808 ≤ o.1 ∧ o.1 ≤ 9223372036854775807) ∧ (-9223372036854775808 ≤ o.2.1 ∧ o.2.1 ≤ 9223372036854775807) ∧ (-9223372036854775808 ≤ o.2.2.1 ∧ o.2.2.1 ≤ 9223372036854775807) ∧ (-9223372036854775808 ≤ o.2.2.2.1 ∧ o.2.2.2.1 ≤ 9223372036854775807) ∧ (-9223372036854775808 ≤ o.2.2.2.2.1 ∧ o.2.2.2.2.1 ≤ 9223372036854775807) ∧ (-9223372036854775808 ≤ o.2.2.2.2.2 ∧ o.2.2.2.2.2 ≤ 9223372036854775807)) (hk2 : k2 = rts.length) (hL2 : L2 = ipv rts) (hrb : ∀ x ∈ rts, -9223372036854775808 ≤ x ∧ x ≤ 9223372036854775807) (hkb2 : k2 ≤ 9223372036854775807) :
    CallF (fun _ => Tryz.prog) 3 [.p (.int .i64 (.sym n)), .p (.vsl (.sym k1) true L1), .p (.vsl (.sym k2) true L2)] [(0, .fix 0 o)] 1 (fun r _ _ => r = .p (.bool true)) := by
  have hL1l : L1.length = 6 * ops.length := by rw [hL1, sixes_length]
  refine callF_of_bodyB tok Tryz.func3 (by kernel_rfl) rfl rfl rfl [6, 10] ?_; conv => cbv
  refine Fit.wrap fun xn hxn => ?_
  have hxn : xn = IntKind.u64.wrap n := hxn
  have hyn : 0 ≤ xn := by rw [hxn]; simp [IntKind.wrap, IntKind.bits, IntKind.signed]; omega
  clear hxn
  conv => cbv
  refine Sum.mk fun tn htn => ?_
  have htn : tn = xn % 5 := (show tn = xn.tmod 5 from htn).trans (Int.tmod_eq_emod_of_nonneg hyn)
  conv => cbv
  refine Fit.mk (by show (-9223372036854775808 : Int) ≤ tn; omega) (by show tn ≤ 9223372036854775807; omega) fun un hun => ?_
  have hun : un = tn := hun
  have h0n : 0 ≤ un := by omega
  have h1n : un < 5 := by omega
  clear hun htn hyn
  conv => cbv
  refine Fit.mk (by show (-9223372036854775808 : Int) ≤ 2 + un; omega) (by show 2 + un ≤ 9223372036854775807; omega) fun N hN => ?_
  have hN : N = 2 + un := hN
  have hN0 : 2 ≤ N := by omega
  have hN1 : N ≤ 6 := by omega
  clear hN h0n h1n
  obtain ⟨W, hW⟩ : ∃ W, W = 32 * N := ⟨_, rfl⟩
  obtain ⟨L0, hL0⟩ : ∃ L0, L0 = rpv (List.replicate N.toNat ((0, []) : Rw)) := ⟨_, rfl⟩
  obtain ⟨D0, hD0⟩ : ∃ D0, D0 = ipv (List.replicate W.toNat (0 : Int)) := ⟨_, rfl⟩
  obtain ⟨z0, hz0⟩ : ∃ z0 : ByteArray, z0 = ⟨(enc []).toArray⟩ := ⟨_, rfl⟩
  have hM0 := HM.new (by omega : 2 ≤ N) (by omega) hW hL0 hD0 hD0 hz0
  conv => cbv
  refine callF_frame (newH_lx N W hN0 (by omega) hW L0 D0 D0 z0 hL0 hD0 hD0 hz0) [] rfl trivial rfl rfl (fun r h' n' ⟨e1, e2, e3⟩ => ?_)
  subst e1 e2 e3
  conv => cbv
  refine callF_frame (rnewH_lx N W hN0 (by omega) hW) [] rfl trivial rfl rfl (fun r h' n' hrr => ?_)
  obtain ⟨P0, B0, V0, Q0, e1, e2, e3, hR0⟩ := hrr
  subst e1 e2 e3
  conv => cbv
  refine callF_frame (awake09_lx o ho) [(0, 0)] rfl (by simp [hmapOk, nget, hget, renB, okB, renV, renVs, rn, okVs, okV]) rfl rfl (fun r h' n' ⟨e1, e2, e3⟩ => ?_)
  subst e1 e2 e3
  conv => cbv
  refine callF_frame (arena_lx (List.replicate N.toNat ((0, []) : Rw)) (List.replicate W.toNat 0) (List.replicate W.toNat 0) [] N W 0 0 0 L0 D0 D0 z0 false) [(0, 1), (1, 2), (2, 3), (3, 4), (4, 5), (5, 6), (6, 7)] rfl (by simp [hmapOk, nget, hget, renB, okB, renV, renVs, rn, okVs, okV]) rfl rfl (fun r h' n' ⟨e1, e2, e3⟩ => ?_)
  subst e1 e2 e3
  conv => cbv
  have hS0 : Sim (List.replicate N.toNat ((0, []) : Rw)) (List.replicate W.toNat 0) (List.replicate W.toNat 0) := by rw [show W.toNat = 32 * N.toNat by omega]; exact Sim.newC _
  refine Br.mk (fun g20 => ?_) (fun g20 => ?_)
  · conv => cbv
    refine callF_frame (awake09_lx o ho) [(0, 0)] rfl (by simp [hmapOk, nget, hget, renB, okB, renV, renVs, rn, okVs, okV]) rfl rfl (fun r h' n' ⟨e1, e2, e3⟩ => ?_)
    subst e1 e2 e3
    conv => cbv
    refine RetF.mk [.p (.bool true)] [(0, .fix 0 o)] 1 (Re.at [(0, 0)] []) rfl rfl
  have g20 : ¬ k2 > 20 := g20
  conv => cbv
  refine JoinF.mk (fun s => ∃ (m : Int) (R : List Rw) (ws vs C G : List Int) (L D Q : List PV) (z : ByteArray) (ov : Bool) (P B V Qr la : List PV), s = ⟨.p (.int .i64 (.sym N)) :: .p (.vsl (.sym k1) true L1) :: .p (.vsl (.sym k2) true L2) :: (undefs 4 ++ .ptr 1 (.lit 0) :: .undef :: .ptr 8 (.lit 0) :: .undef :: undefs 190), [(1, .mix [.ptr 2 (.lit 0), .ptr 6 (.lit 0), .sl 7 3 1 (.lit 0) (.sym W), .p (.int .i64 (.sym 0)), .p (.int .i64 (.sym 0)), .p (.int .i64 (.sym 0))]), (2, .mix [.ptr 3 (.lit 0), .sl 5 3 1 (.lit 0) (.sym W)]), (3, .mix [.sl 4 157 2 (.lit 0) (.sym N)]), (4, .pure true L), (5, .pure true D), (6, .pure false [.str fun _ => z, .bool ov]), (7, .pure true Q), (8, .mix [.ptr 9 (.lit 0), .sl 14 3 1 (.lit 0) (.sym W), .ptr 15 (.lit 0), .p (.int .i64 (.sym 0)), .p (.int .i64 (.sym 0)), .p (.int .i64 (.sym 0))]), (9, .mix [.ptr 10 (.lit 0), .sl 13 3 1 (.lit 0) (.sym W)]), (10, .mix [.sl 11 3 1 (.lit 0) (.sym N), .sl 12 211 8 (.lit 0) (.sym N)]), (11, .pure true P), (12, .pure true B), (13, .pure true V), (14, .pure true Qr), (15, .mix [.p (.vsl (.sym m) true la), .p (.bool ov)]), (0, .fix 0 o)], 16⟩ ∧ HM R ws C G N W L D Q z ∧ RM R vs C G N W P B V Qr la m ∧ Sim R ws vs) ?_ ?_
  · conv => cbv
    refine LoopF.mk (fun kk s => ∃ (i : Int) (m : Int) (R : List Rw) (ws vs C G : List Int) (L D Q : List PV) (z : ByteArray) (ov : Bool) (P B V Qr la : List PV), s = ⟨.p (.int .i64 (.sym N)) :: .p (.vsl (.sym k1) true L1) :: .p (.vsl (.sym k2) true L2) :: (undefs 4 ++ .ptr 1 (.lit 0) :: .undef :: .ptr 8 (.lit 0) :: .undef :: .p (.int .i64 (.sym i)) :: undefs 189), [(1, .mix [.ptr 2 (.lit 0), .ptr 6 (.lit 0), .sl 7 3 1 (.lit 0) (.sym W), .p (.int .i64 (.sym 0)), .p (.int .i64 (.sym 0)), .p (.int .i64 (.sym 0))]), (2, .mix [.ptr 3 (.lit 0), .sl 5 3 1 (.lit 0) (.sym W)]), (3, .mix [.sl 4 157 2 (.lit 0) (.sym N)]), (4, .pure true L), (5, .pure true D), (6, .pure false [.str fun _ => z, .bool ov]), (7, .pure true Q), (8, .mix [.ptr 9 (.lit 0), .sl 14 3 1 (.lit 0) (.sym W), .ptr 15 (.lit 0), .p (.int .i64 (.sym 0)), .p (.int .i64 (.sym 0)), .p (.int .i64 (.sym 0))]), (9, .mix [.ptr 10 (.lit 0), .sl 13 3 1 (.lit 0) (.sym W)]), (10, .mix [.sl 11 3 1 (.lit 0) (.sym N), .sl 12 211 8 (.lit 0) (.sym N)]), (11, .pure true P), (12, .pure true B), (13, .pure true V), (14, .pure true Qr), (15, .mix [.p (.vsl (.sym m) true la), .p (.bool ov)]), (0, .fix 0 o)], 16⟩ ∧ HM R ws C G N W L D Q z ∧ RM R vs C G N W P B V Qr la m ∧ Sim R ws vs ∧ 0 ≤ i ∧ i ≤ 80 ∧ kk = (80 - i).toNat) 80 _
      (Re.at [(0, 0), (1, 1), (2, 2), (3, 3), (4, 4), (5, 5), (6, 6), (7, 7), (8, 8), (9, 9), (10, 10), (11, 11), (12, 12), (13, 13), (14, 14), (15, 15)] []) ⟨0, 0, _, _, _, _, [], L0, D0, D0, z0, false, P0, B0, V0, Q0, [], rfl, hM0, hR0, hS0, by omega, by omega, by omega⟩ ?_
    clear hM0 hR0 hS0 hL0 hD0 hz0
    rintro kk s ⟨i, m, R, ws, vs, C, G, L, D, Q, z, ov, P, B, V, Qr, la, rfl, h, hr, hS, hi0, hi1, hkk⟩
    conv => cbv
    refine Br.mk (fun gi => ?_) (fun gi => ?_)
    case refine_2 =>
      conv => cbv
      refine Joined.mk _ (Re.at [(0, 0), (1, 1), (2, 2), (3, 3), (4, 4), (5, 5), (6, 6), (7, 7), (8, 8), (9, 9), (10, 10), (11, 11), (12, 12), (13, 13), (14, 14), (15, 15)] []) ⟨m, R, ws, vs, C, G, L, D, Q, z, ov, P, B, V, Qr, la, rfl, h, hr, hS⟩
    have gi : i < k1 := gi
    conv => cbv
    refine Br.mk (fun gi2 => ?_) (fun gi2 => ?_)
    case refine_2 =>
      conv => cbv
      refine Joined.mk _ (Re.at [(0, 0), (1, 1), (2, 2), (3, 3), (4, 4), (5, 5), (6, 6), (7, 7), (8, 8), (9, 9), (10, 10), (11, 11), (12, 12), (13, 13), (14, 14), (15, 15)] []) ⟨m, R, ws, vs, C, G, L, D, Q, z, ov, P, B, V, Qr, la, rfl, h, hr, hS⟩
    have gi2 : i < 80 := gi2
    obtain ⟨k', rfl⟩ : ∃ k', kk = k' + 1 := ⟨kk - 1, by omega⟩
    obtain ⟨⟨kd, oo, oa, oi, ow, ot⟩, ho6⟩ : ∃ o, ops[i.toNat]? = some o := ⟨_, List.getElem?_eq_getElem (by omega)⟩
    have hb6 := hob _ (List.mem_of_getElem? ho6)
    obtain ⟨c0, c1, c2, c3, c4, c5⟩ := sixes_get ops i.toNat _ ho6
    rw [← hL1] at c0 c1 c2 c3 c4 c5
    dsimp only at c0 c1 c2 c3 c4 c5 hb6
    conv => cbv
    refine Need.mk ⟨hi0, by show i < k1; omega⟩ ?_
    conv => cbv
    refine Sum.mk fun w hw => ?_
    have hw : w = i * 6 := hw
    conv => cbv
    refine Cell.at (w + 0) _ c0 rfl (by omega) ?_
    conv => cbv
    refine Cell.at (w + 1) _ c1 rfl (by omega) ?_
    conv => cbv
    refine Cell.at (w + 2) _ c2 rfl (by omega) ?_
    conv => cbv
    refine Cell.at (w + 3) _ c3 rfl (by omega) ?_
    conv => cbv
    refine Cell.at (w + 4) _ c4 rfl (by omega) ?_
    conv => cbv
    refine Cell.at (w + 5) _ c5 rfl (by omega) ?_
    conv => cbv
    refine JoinF.mk (fun s => ∃ kd2 : Int, s = ⟨.p (.int .i64 (.sym N)) :: .p (.vsl (.sym k1) true L1) :: .p (.vsl (.sym k2) true L2) :: (undefs 4 ++ .ptr 1 (.lit 0) :: .undef :: .ptr 8 (.lit 0) :: .undef :: .p (.int .i64 (.sym i)) :: .ptr 16 (.lit 0) :: undefs 188), [(1, .mix [.ptr 2 (.lit 0), .ptr 6 (.lit 0), .sl 7 3 1 (.lit 0) (.sym W), .p (.int .i64 (.sym 0)), .p (.int .i64 (.sym 0)), .p (.int .i64 (.sym 0))]), (2, .mix [.ptr 3 (.lit 0), .sl 5 3 1 (.lit 0) (.sym W)]), (3, .mix [.sl 4 157 2 (.lit 0) (.sym N)]), (4, .pure true L), (5, .pure true D), (6, .pure false [.str fun _ => z, .bool ov]), (7, .pure true Q), (8, .mix [.ptr 9 (.lit 0), .sl 14 3 1 (.lit 0) (.sym W), .ptr 15 (.lit 0), .p (.int .i64 (.sym 0)), .p (.int .i64 (.sym 0)), .p (.int .i64 (.sym 0))]), (9, .mix [.ptr 10 (.lit 0), .sl 13 3 1 (.lit 0) (.sym W)]), (10, .mix [.sl 11 3 1 (.lit 0) (.sym N), .sl 12 211 8 (.lit 0) (.sym N)]), (11, .pure true P), (12, .pure true B), (13, .pure true V), (14, .pure true Qr), (15, .mix [.p (.vsl (.sym m) true la), .p (.bool ov)]), (0, .fix 0 o), (16, .pure false [.int .i64 (.sym kd2), .int .i64 (.sym oo), .int .i64 (.sym oa), .int .i64 (.sym oi), .int .i64 (.sym ow), .int .i64 (.sym ot)])], 17⟩ ∧ kd2 ≠ 1 ∧ kd2 ≠ 2 ∧ kd2 ≠ 3 ∧ kd2 ≠ 4) ?_ ?_
    · conv => cbv
      refine Br.mk (fun g1 => ?_) (fun g1 => ?_)
      · have g1 : kd ≥ 1 := g1
        conv => cbv
        refine Br.mk (fun g2 => ?_) (fun g2 => ?_)
        · conv => cbv
          refine Joined.mk _ (Re.at [(0, 0), (1, 1), (2, 2), (3, 3), (4, 4), (5, 5), (6, 6), (7, 7), (8, 8), (9, 9), (10, 10), (11, 11), (12, 12), (13, 13), (14, 14), (15, 15), (16, 16)] []) ⟨5, rfl, by decide, by decide, by decide, by decide⟩
        · have g2 : ¬ kd ≤ 4 := g2
          conv => cbv
          refine Joined.mk _ (Re.at [(0, 0), (1, 1), (2, 2), (3, 3), (4, 4), (5, 5), (6, 6), (7, 7), (8, 8), (9, 9), (10, 10), (11, 11), (12, 12), (13, 13), (14, 14), (15, 15), (16, 16)] []) ⟨kd, rfl, by omega, by omega, by omega, by omega⟩
      · have g1 : ¬ kd ≥ 1 := g1
        conv => cbv
        refine Joined.mk _ (Re.at [(0, 0), (1, 1), (2, 2), (3, 3), (4, 4), (5, 5), (6, 6), (7, 7), (8, 8), (9, 9), (10, 10), (11, 11), (12, 12), (13, 13), (14, 14), (15, 15), (16, 16)] []) ⟨kd, rfl, by omega, by omega, by omega, by omega⟩
    rintro s ⟨kd2, rfl, hk1, hk2', hk3, hk4⟩
    conv => cbv
    refine callF_frame (play0_lx R ws vs C G N W 0 0 0 L D Q z ov P B V Qr la m h hr hS o ho kd2 oo oa oi ow ot hb6.2.1 hb6.2.2.1 hb6.2.2.2.1 hb6.2.2.2.2.1 hb6.2.2.2.2.2 ⟨by omega, by omega⟩ ⟨by omega, by omega⟩ hk1 hk2' hk3 hk4) [(0, 1), (1, 2), (2, 3), (3, 4), (4, 5), (5, 6), (6, 7), (7, 8), (8, 9), (9, 10), (10, 11), (11, 12), (12, 13), (13, 14), (14, 15), (15, 0)] rfl (by simp [hmapOk, nget, hget, renB, okB, renV, renVs, rn, okVs, okV]) rfl rfl (fun r h' n' hrr => ?_)
    obtain ⟨R', ws', vs', C', G', L', D', Q', z', ov', P', B', V', Qr', la', m', e1, e2, e3, h2, h3, hS2⟩ := hrr
    subst e1 e2 e3
    conv => cbv
    refine Fit.mk (by show (-9223372036854775808 : Int) ≤ i + 1; omega) (by show i + 1 ≤ 9223372036854775807; omega) fun i2 hi2 => ?_
    have hi2 : i2 = i + 1 := hi2
    conv => cbv
    refine Again.mk k' _ (Nat.lt_succ_self _) (Re.at [(0, 0), (1, 1), (2, 2), (3, 3), (4, 4), (5, 5), (6, 6), (7, 7), (8, 8), (9, 9), (10, 10), (11, 11), (12, 12), (13, 13), (14, 14), (15, 15)] []) ⟨i2, m', R', ws', vs', C', G', L', D', Q', z', ov', P', B', V', Qr', la', rfl, h2, h3, hS2, by omega, by omega, by omega⟩
  clear hM0 hR0 hS0 hL0 hD0 hz0
  rintro s ⟨m, R, ws, vs, C, G, L, D, Q, z, ov, P, B, V, Qr, la, rfl, h, hr, hS⟩
  conv => cbv
  have hk2b : k2 ≤ 20 := by omega
  refine LoopF.mk (fun kk s => ∃ (i j : Int) (A : List Int) (ca : List PV), s = ⟨.p (.int .i64 (.sym N)) :: .p (.vsl (.sym k1) true L1) :: .p (.vsl (.sym k2) true L2) :: (undefs 4 ++ .ptr 1 (.lit 0) :: .undef :: .ptr 8 (.lit 0) :: .undef :: undefs 2 ++ .sl 16 3 1 (.lit 0) (.sym j) :: .p (.int .i64 (.sym i)) :: undefs 186), [(1, .mix [.ptr 2 (.lit 0), .ptr 6 (.lit 0), .sl 7 3 1 (.lit 0) (.sym W), .p (.int .i64 (.sym 0)), .p (.int .i64 (.sym 0)), .p (.int .i64 (.sym 0))]), (2, .mix [.ptr 3 (.lit 0), .sl 5 3 1 (.lit 0) (.sym W)]), (3, .mix [.sl 4 157 2 (.lit 0) (.sym N)]), (4, .pure true L), (5, .pure true D), (6, .pure false [.str fun _ => z, .bool ov]), (7, .pure true Q), (8, .mix [.ptr 9 (.lit 0), .sl 14 3 1 (.lit 0) (.sym W), .ptr 15 (.lit 0), .p (.int .i64 (.sym 0)), .p (.int .i64 (.sym 0)), .p (.int .i64 (.sym 0))]), (9, .mix [.ptr 10 (.lit 0), .sl 13 3 1 (.lit 0) (.sym W)]), (10, .mix [.sl 11 3 1 (.lit 0) (.sym N), .sl 12 211 8 (.lit 0) (.sym N)]), (11, .pure true P), (12, .pure true B), (13, .pure true V), (14, .pure true Qr), (15, .mix [.p (.vsl (.sym m) true la), .p (.bool ov)]), (0, .fix 0 o), (16, .pure true ca)], 17⟩ ∧ 0 ≤ i ∧ i ≤ k2 ∧ kk = (k2 - i).toNat ∧ ca = ipv A ∧ j = A.length ∧ j = i) k2.toNat _
    (Re.at [(0, 0), (1, 1), (2, 2), (3, 3), (4, 4), (5, 5), (6, 6), (7, 7), (8, 8), (9, 9), (10, 10), (11, 11), (12, 12), (13, 13), (14, 14), (15, 15)] [16]) ⟨0, 0, [], [], rfl, by omega, by omega, by omega, rfl, rfl, rfl⟩ ?_
  rintro kk s ⟨i, j, A, ca, rfl, hi0, hi1, hkk, hca, hjA, hji⟩
  have hcal : ca.length = A.length := by rw [hca, ipv_length]
  have hL2l : L2.length = rts.length := by rw [hL2, ipv_length]
  conv => cbv
  refine Br.mk (fun gi => ?_) (fun gi => ?_)
  · have gi : i < k2 := gi
    obtain ⟨rv, hrv⟩ : ∃ rv, rts[i.toNat]? = some rv := ⟨_, List.getElem?_eq_getElem (by omega)⟩
    have hrc : L2[i.toNat]? = some (.int .i64 (.sym rv)) := by rw [hL2]; exact ipv_get hrv
    conv => cbv
    refine Need.mk (show 0 ≤ i ∧ i < k2 by omega) ?_
    conv => cbv
    refine Cell.at i _ hrc (by simp [I.val]) rfl ?_
    conv => cbv
    refine callF_frame (pick_lx R vs C G N W 0 0 0 P B V Qr la m ov hr rv (hrb rv (List.mem_of_getElem? hrv))) [(0, 8), (1, 9), (2, 10), (3, 11), (4, 12), (5, 13), (6, 14), (7, 15)] rfl (by simp [hmapOk, nget, hget, renB, okB, renV, renVs, rn, okVs, okV]) rfl rfl (fun r h' n' hrr => ?_)
    obtain ⟨a, e1, e2, e3, ha⟩ := hrr
    subst e1 e2 e3
    conv => cbv
    refine Room.new rfl ?_
    conv => cbv
    refine Room.new ⟨?_, ?_, ?_⟩ ?_
    · show (ca.length : Int) = j * 1; omega
    · show (j + 1) * 8 ≤ 140737488355328; omega
    · show j + 1 ≤ 9223372036854775807; omega
    conv => cbv
    refine Upd.mk fun ca2 hca2 => ?_
    have hca2 : ca2 = ca ++ [.int .i64 (.sym a)] := hca2
    have hca2i : ca2 = ipv (A ++ [a]) := by rw [hca2, hca]; exact ipv_app (A) [a]
    conv => cbv
    refine Sum.mk fun j2 hj2 => ?_
    have hj2 : j2 = j + 1 := hj2
    conv => cbv
    refine Fit.mk (by show (-9223372036854775808 : Int) ≤ i + 1; omega) (by show i + 1 ≤ 9223372036854775807; omega) fun i2 hi2 => ?_
    have hi2 : i2 = i + 1 := hi2
    conv => cbv
    refine Again.mk (k2 - i2).toNat _ (by omega) (Re.at [(0, 0), (1, 1), (2, 2), (3, 3), (4, 4), (5, 5), (6, 6), (7, 7), (8, 8), (9, 9), (10, 10), (11, 11), (12, 12), (13, 13), (14, 14), (15, 15), (18, 16)] []) ⟨i2, j2, A ++ [a], ca2, rfl, by omega, by omega, rfl, hca2i, by rw [List.length_append]; show j2 = ((A.length + 1 : Nat) : Int); omega, by omega⟩
  have gi : ¬ i < k2 := gi
  obtain ⟨mo, hmo⟩ : ∃ m : Int, m = objCount R := ⟨_, rfl⟩
  conv => cbv
  refine callF_frame (arena_lx R ws C G N W 0 0 0 L D Q z ov) [(0, 1), (1, 2), (2, 3), (3, 4), (4, 5), (5, 6), (6, 7)] rfl (by simp [hmapOk, nget, hget, renB, okB, renV, renVs, rn, okVs, okV]) rfl rfl (fun r h' n' ⟨e1, e2, e3⟩ => ?_)
  subst e1 e2 e3
  conv => cbv
  refine callF_frame (objects_lx mo R N W L D h.l h.n h.r h.a.rows h.w hmo) [(0, 2), (1, 3), (2, 4), (3, 5)] rfl (by simp [hmapOk, nget, hget, renB, okB, renV, renVs, rn, okVs, okV]) rfl rfl (fun r h' n' hrr => ?_)
  obtain ⟨O, e1, e2, e3, hO⟩ := hrr
  subst e1 e2 e3
  have hOl : (O.length : Int) = mo := by rw [hO, ipv_length, objs_length h.a.rows, hmo]
  have hO : O = ipv (objs R) := hO
  have hol : ((objs R).length : Int) = mo := by rw [← hOl, hO, ipv_length]
  have hRr := h.r
  have hNR := h.n
  have hob2 : mo ≤ 48 := by have := objsTo_le R R.length; rw [objs_length h.a.rows] at this; omega
  conv => cbv
  refine callF_frame (beginC_lx R ws C G N W 0 0 0 L D Q z ov h o ho A j ca [] (by rw [hca, List.append_nil]) hjA (by omega) rfl) [(0, 1), (1, 2), (2, 3), (3, 4), (4, 5), (5, 6), (6, 7), (7, 0), (8, 16)] rfl (by simp [hmapOk, nget, hget, renB, okB, renV, renVs, rn, okVs, okV]) rfl rfl (fun r h' n' hrr => ?_)
  obtain ⟨C3, G3, ov3, Q3, z3, e1, e2, e3, h3, hb1⟩ := hrr
  subst e1 e2 e3
  have hb := Cy1.begin (ws := ws) h3.a (by have := h3.n; have := h3.w; omega) hb1
  conv => cbv
  have hcal2 : (ca.length : Int) = j * 1 := by rw [hca, ipv_length]; omega
  refine Room.new hcal2 ?_
  conv => cbv
  refine Need.mk ⟨by show j * 8 ≤ 140737488355328; omega, by show j ≤ 9223372036854775807; omega⟩ ?_
  conv => cbv
  have hcyc0 : Cyc R R ws C3 G3 ov3 1 0 N A [] [] := .inl ⟨rfl, rfl, rfl, by rw [List.append_nil]; exact hb⟩
  have hcyI0 : CyI R C3 G3 1 0 0 N := .inl ⟨rfl, hb.g, rfl⟩
  have hlft := left_le (R := R) (C := C3) (ph := 1) (sp := 0) (N := N) (by omega) (by omega)
  have hN0 : N = R.length := h.n
  have hAl20 : A.length ≤ 20 := by omega
  clear hb hb1 hcal hcal2
  refine LoopF.mk (fun kk s => ∃ (i ph sp cy gl kl : Int) (Rh : List Rw) (wh vh Ch Gh K X : List Int) (Lh Dh Qh : List PV) (zh : ByteArray) (ovh : Bool) (Vh cg ck : List PV), s = ⟨.p (.int .i64 (.sym N)) :: .p (.vsl (.sym k1) true L1) :: .p (.vsl (.sym k2) true L2) :: (undefs 4 ++ .ptr 1 (.lit 0) :: .undef :: .ptr 8 (.lit 0) :: .undef :: undefs 4 ++ .sl 16 3 1 (.lit 0) (.sym mo) :: .sl 17 3 1 (.lit 0) (.sym gl) :: .sl 18 3 1 (.lit 0) (.sym kl) :: .p (.int .i64 (.sym i)) :: undefs 182), [(1, .mix [.ptr 2 (.lit 0), .ptr 6 (.lit 0), .sl 7 3 1 (.lit 0) (.sym W), .p (.int .i64 (.sym ph)), .p (.int .i64 (.sym sp)), .p (.int .i64 (.sym cy))]), (2, .mix [.ptr 3 (.lit 0), .sl 5 3 1 (.lit 0) (.sym W)]), (3, .mix [.sl 4 157 2 (.lit 0) (.sym N)]), (4, .pure true Lh), (5, .pure true Dh), (6, .pure false [.str fun _ => zh, .bool ovh]), (7, .pure true Qh), (8, .mix [.ptr 9 (.lit 0), .sl 14 3 1 (.lit 0) (.sym W), .ptr 15 (.lit 0), .p (.int .i64 (.sym 0)), .p (.int .i64 (.sym 0)), .p (.int .i64 (.sym 0))]), (9, .mix [.ptr 10 (.lit 0), .sl 13 3 1 (.lit 0) (.sym W)]), (10, .mix [.sl 11 3 1 (.lit 0) (.sym N), .sl 12 211 8 (.lit 0) (.sym N)]), (11, .pure true P), (12, .pure true B), (13, .pure true Vh), (14, .pure true Qr), (15, .mix [.p (.vsl (.sym m) true la), .p (.bool ov)]), (0, .fix 0 o), (16, .pure true O), (17, .pure true cg), (18, .pure true ck)], 19⟩ ∧ 0 ≤ i ∧ i ≤ 3000 ∧ kk = (3000 - i).toNat ∧ HM Rh wh Ch Gh N W Lh Dh Qh zh ∧ CyI Rh Ch Gh ph sp cy N ∧ 0 ≤ sp ∧ sp ≤ N ∧ left_ Rh Ch ph sp N + i ≤ 2 * mo + 1 + N ∧ Cyc R Rh wh Ch Gh ovh ph sp N A K X ∧ Sim R wh vh ∧ RM R vh C G N W P B Vh Qr la m ∧ cg = ipv X ∧ gl = X.length ∧ ck = ipv (A ++ K) ∧ kl = (A ++ K).length ∧ gl ≤ 50 * i ∧ kl ≤ 20 + 50 * i) 3000 _
    (Re.at [(0, 0), (1, 1), (2, 2), (3, 3), (4, 4), (5, 5), (18, 6), (7, 7), (8, 8), (9, 9), (10, 10), (11, 11), (12, 12), (13, 13), (14, 14), (15, 15), (17, 16), (19, 18)] [17]) ⟨0, 1, 0, 0, 0, j, R, ws, vs, C3, G3, [], [], L, D, Q3, z3, ov3, V, [], ca, rfl, by omega, by omega, by omega, h3, hcyI0, by omega, by omega, by omega, hcyc0, hS, hr, rfl, rfl, by rw [List.append_nil]; exact hca, by rw [List.append_nil]; exact hjA, by omega, by omega⟩ ?_
  clear h3 hcyI0 hcyc0 hlft
  rintro kk s ⟨i, ph, sp, cy, gl, kl, Rh, wh, vh, Ch, Gh, K, X, Lh, Dh, Qh, zh, ovh, Vh, cg, ck, rfl, hi0, hi1, hkk, hh, hI, hs0, hs1, hl, hcyc, hSh, hrh, hcg, hgl, hck, hkl, hgb, hkb9⟩
  have hNRh := hh.n
  conv => cbv
  refine callF_frame (phase_lx Rh wh Ch Gh N W ph sp cy Lh Dh Qh zh ovh) [(0, 1), (1, 2), (2, 3), (3, 4), (4, 5), (5, 6), (6, 7)] rfl (by simp [hmapOk, nget, hget, renB, okB, renV, renVs, rn, okVs, okV]) rfl rfl (fun r h' n' ⟨e1, e2, e3⟩ => ?_)
  subst e1 e2 e3
  conv => cbv
  refine Br.mk (fun q2 => ?_) (fun q2 => ?_)
  case refine_1 =>
    have q2 : ¬ ph = 0 := q2
    have hlp : 1 ≤ left_ Rh Ch ph sp N := by
      unfold left_
      rcases hI with ⟨k, _⟩ | ⟨k, _, _, k2⟩ | ⟨k, _⟩
      · rw [if_pos k]; omega
      · rw [if_neg (by omega), if_pos k]; omega
      · exact absurd k q2
    conv => cbv
    refine Br.yes (show i < 3000 by omega) ?_
    conv => cbv
    refine callF_frame (step_lx Rh wh Ch Gh N W ph sp cy Lh Dh Qh zh ovh hh o ho ⟨hs0, by omega⟩ (by have := hI.cybC; omega)) [(0, 1), (1, 2), (2, 3), (3, 4), (4, 5), (5, 6), (6, 7), (7, 0)] rfl (by simp [hmapOk, nget, hget, renB, okB, renV, renVs, rn, okVs, okV]) rfl rfl (fun r h' n' hrr => ?_)
    obtain ⟨out, kx, ph', sp', cy', R2, w2, C2, G2, ov2, cells', Lx, Dx, Qx, z2, e1, e2, e3, h2, hcs2, hkx, hst⟩ := hrr
    subst e1 e2 e3
    have hgo := stepd_cy (at_ := []) hh.a (by have := hh.c; have := hh.w; omega) (by omega) hh.w hI (fun x hx => by cases hx) hst
    have hsp := stepd_spC hI ⟨hs0, hs1⟩ hst
    have hl2 := hgo.2.1 q2
    obtain ⟨hc2, _, hc3⟩ := hcyc.stepd hh.a hNRh hh.w hh.c ⟨hs0, hs1⟩ (fun hp => by rcases hI with ⟨k, _⟩ | ⟨_, _, _, k⟩ | ⟨k, _⟩ <;> omega) hst
    have hol9 : out.length ≤ 49 := by
      have h1 := stepd_len hh.a hst
      have h2 := objsTo_le Rh Rh.length
      have h3 : (objs Rh).length ≤ 8 * Rh.length := h2
      omega
    have hcl9 : cells'.length = 4 * out.length := by rw [hcs2, gpv_length]
    conv => cbv
    refine LoopF.mk (fun kk s => ∃ (q gj kj : Int) (vi : List Int) (Vi ci di : List PV), s = ⟨.p (.int .i64 (.sym N)) :: .p (.vsl (.sym k1) true L1) :: .p (.vsl (.sym k2) true L2) :: (undefs 4 ++ .ptr 1 (.lit 0) :: .undef :: .ptr 8 (.lit 0) :: .undef :: undefs 4 ++ .sl 16 3 1 (.lit 0) (.sym mo) :: .sl 17 3 1 (.lit 0) (.sym gj) :: .sl 18 3 1 (.lit 0) (.sym kj) :: .p (.int .i64 (.sym i)) :: .p (.vsl (.sym kx) true cells') :: .p (.int .i64 (.sym q)) :: undefs 180), [(1, .mix [.ptr 2 (.lit 0), .ptr 6 (.lit 0), .sl 7 3 1 (.lit 0) (.sym W), .p (.int .i64 (.sym ph')), .p (.int .i64 (.sym sp')), .p (.int .i64 (.sym cy'))]), (2, .mix [.ptr 3 (.lit 0), .sl 5 3 1 (.lit 0) (.sym W)]), (3, .mix [.sl 4 157 2 (.lit 0) (.sym N)]), (4, .pure true Lx), (5, .pure true Dx), (6, .pure false [.str fun _ => z2, .bool ov2]), (7, .pure true Qx), (8, .mix [.ptr 9 (.lit 0), .sl 14 3 1 (.lit 0) (.sym W), .ptr 15 (.lit 0), .p (.int .i64 (.sym 0)), .p (.int .i64 (.sym 0)), .p (.int .i64 (.sym 0))]), (9, .mix [.ptr 10 (.lit 0), .sl 13 3 1 (.lit 0) (.sym W)]), (10, .mix [.sl 11 3 1 (.lit 0) (.sym N), .sl 12 211 8 (.lit 0) (.sym N)]), (11, .pure true P), (12, .pure true B), (13, .pure true Vi), (14, .pure true Qr), (15, .mix [.p (.vsl (.sym m) true la), .p (.bool ov)]), (0, .fix 0 o), (16, .pure true O), (17, .pure true ci), (18, .pure true di)], 19⟩ ∧ 0 ≤ q ∧ q ≤ kx ∧ kk = (kx - q).toNat ∧ RM R vi C G N W P B Vi Qr la m ∧ ci = ipv (X ++ goneOf (out.take q.toNat)) ∧ gj = (X ++ goneOf (out.take q.toNat)).length ∧ di = ipv (A ++ (K ++ keptOf (out.take q.toNat))) ∧ kj = (A ++ (K ++ keptOf (out.take q.toNat))).length ∧ gj ≤ 50 * i + q ∧ kj ≤ 20 + 50 * i + q ∧ ((keptOf (out.take q.toNat) = [] ∧ vi = vh) ∨ (keptOf (out.take q.toNat) ≠ [] ∧ Sim R w2 vi))) kx.toNat _
      (Re.at [(0, 0), (1, 1), (2, 2), (3, 3), (4, 4), (5, 5), (6, 6), (7, 7), (8, 8), (9, 9), (10, 10), (11, 11), (12, 12), (13, 13), (14, 14), (15, 15), (16, 16), (17, 17), (18, 18)] []) ⟨0, gl, kl, vh, Vh, cg, ck, rfl, by omega, by omega, by omega, hrh, by rw [show goneOf (out.take (0 : Int).toNat) = [] from rfl, List.append_nil]; exact hcg, by rw [show goneOf (out.take (0 : Int).toNat) = [] from rfl, List.append_nil]; exact hgl, by rw [show keptOf (out.take (0 : Int).toNat) = [] from rfl, List.append_nil]; exact hck, by rw [show keptOf (out.take (0 : Int).toNat) = [] from rfl, List.append_nil]; exact hkl, by omega, by omega, .inl ⟨rfl, rfl⟩⟩ ?_
    clear hrh hcg hgl hck hkl
    rintro kk s ⟨q, gj, kj, vi, Vi, ci, di, rfl, hq0, hq1, hkk', hri, hci, hgj, hdi, hkj, hgb', hkb', hvi⟩
    conv => cbv
    refine Br.mk (fun q3 => ?_) (fun q3 => ?_)
    case refine_1 =>
      have q3 : q < kx := q3
      obtain ⟨g, hg⟩ : ∃ g, out[q.toNat]? = some g := ⟨_, List.getElem?_eq_getElem (by omega)⟩
      conv => cbv
      refine Need.mk (show 0 ≤ q ∧ q < kx by omega) ?_
      conv => cbv
      refine Sum.mk fun w9 hw9 => ?_
      have hw9 : w9 = q * 4 := hw9
      obtain ⟨gk, ga, gw, gb⟩ := g
      have hcK : cells'[4 * q.toNat + 3]? = some (.bool gb) := by rw [hcs2]; exact gpv_getK out _ _ hg
      have hcA : cells'[4 * q.toNat + 1]? = some (.int .i64 (.sym ga)) := by rw [hcs2]; exact gpv_get out _ _ hg
      have hcil : ci.length = (X ++ goneOf (out.take q.toNat)).length := by rw [hci, ipv_length]
      have hdil : di.length = (A ++ (K ++ keptOf (out.take q.toNat))).length := by rw [hdi, ipv_length]
      conv => cbv
      refine Sum.mk fun w3 hw3 => ?_
      have hw3 : w3 = w9 + 3 := hw3
      conv => cbv
      refine Cell.at w3 _ hcK (by simp [I.val]) (by omega) ?_
      cases gb with
      | false =>
        conv => cbv
        refine Need.mk (show 0 ≤ q ∧ q < kx by omega) ?_
        conv => cbv
        refine Sum.mk fun wA hwA => ?_
        have hwA : wA = q * 4 := hwA
        conv => cbv
        refine Sum.mk fun wA1 hwA1 => ?_
        have hwA1 : wA1 = wA + 1 := hwA1
        conv => cbv
        refine Cell.at wA1 _ hcA (by simp [I.val]) (by omega) ?_
        conv => cbv
        have htk : keptOf (out.take (q.toNat + 1)) = keptOf (out.take q.toNat) ++ [] := keptOf_take hg
        have htg : goneOf (out.take (q.toNat + 1)) = goneOf (out.take q.toNat) ++ [ga] := goneOf_take hg
        refine Room.new rfl ?_
        conv => cbv
        refine Room.new ⟨?_, ?_, ?_⟩ ?_
        · show (ci.length : Int) = gj * 1; omega
        · show (gj + 1) * 8 ≤ 140737488355328; omega
        · show gj + 1 ≤ 9223372036854775807; omega
        conv => cbv
        refine Upd.mk fun ci2 hci2 => ?_
        have hci2 : ci2 = ci ++ [.int .i64 (.sym ga)] := hci2
        have hci2i : ci2 = ipv ((X ++ goneOf (out.take q.toNat)) ++ [ga]) := by rw [hci2, hci]; exact ipv_app ((X ++ goneOf (out.take q.toNat))) [ga]
        conv => cbv
        refine Sum.mk fun gj2 hgj2 => ?_
        have hgj2 : gj2 = gj + 1 := hgj2
        conv => cbv
        refine Fit.mk (by show (-9223372036854775808 : Int) ≤ q + 1; omega) (by show q + 1 ≤ 9223372036854775807; omega) fun q9 hq9 => ?_
        have hq9 : q9 = q + 1 := hq9
        conv => cbv
        have e9 : q.toNat + 1 = q9.toNat := by omega
        rw [e9] at htg htk
        refine Again.mk (kx - q9).toNat _ (by omega) (Re.at [(0, 0), (1, 1), (2, 2), (3, 3), (4, 4), (5, 5), (6, 6), (7, 7), (8, 8), (9, 9), (10, 10), (11, 11), (12, 12), (13, 13), (14, 14), (15, 15), (16, 16), (20, 17), (18, 18)] []) ⟨q9, gj2, kj, vi, Vi, ci2, di, rfl, by omega, by omega, rfl, hri, (by rw [htg, ← List.append_assoc]; exact hci2i), (by rw [htg, ← List.append_assoc, List.length_append]; show gj2 = (((X ++ goneOf (out.take q.toNat)).length + 1 : Nat) : Int); omega), (by rw [htk, List.append_nil]; exact hdi), (by rw [htk, List.append_nil]; exact hkj), by omega, by omega, (by rw [htk, List.append_nil]; exact hvi)⟩
      | true =>
        conv => cbv
        refine Need.mk (show 0 ≤ q ∧ q < kx by omega) ?_
        conv => cbv
        refine Sum.mk fun wA hwA => ?_
        have hwA : wA = q * 4 := hwA
        conv => cbv
        refine Sum.mk fun wA1 hwA1 => ?_
        have hwA1 : wA1 = wA + 1 := hwA1
        conv => cbv
        refine Cell.at wA1 _ hcA (by simp [I.val]) (by omega) ?_
        conv => cbv
        have htk : keptOf (out.take (q.toNat + 1)) = keptOf (out.take q.toNat) ++ [ga] := keptOf_take hg
        have htg : goneOf (out.take (q.toNat + 1)) = goneOf (out.take q.toNat) ++ [] := goneOf_take hg
        refine Room.new rfl ?_
        conv => cbv
        refine Room.new ⟨?_, ?_, ?_⟩ ?_
        · show (di.length : Int) = kj * 1; omega
        · show (kj + 1) * 8 ≤ 140737488355328; omega
        · show kj + 1 ≤ 9223372036854775807; omega
        conv => cbv
        refine Upd.mk fun di2 hdi2 => ?_
        have hdi2 : di2 = di ++ [.int .i64 (.sym ga)] := hdi2
        have hdi2i : di2 = ipv ((A ++ (K ++ keptOf (out.take q.toNat))) ++ [ga]) := by rw [hdi2, hdi]; exact ipv_app ((A ++ (K ++ keptOf (out.take q.toNat)))) [ga]
        conv => cbv
        refine Sum.mk fun kj2 hkj2 => ?_
        have hkj2 : kj2 = kj + 1 := hkj2
        conv => cbv
        refine drawn_sound tok (by kernel_rfl) [(9, [])] [0, 1, 2, 3, 4, 5, 6, 7, 8, 9] (by kernel_rfl) ?_; conv => cbv
        refine Need.mk (show 0 ≤ q ∧ q < kx by omega) ?_
        conv => cbv
        refine Sum.mk fun wB hwB => ?_
        have hwB : wB = q * 4 := hwB
        conv => cbv
        refine Sum.mk fun wB1 hwB1 => ?_
        have hwB1 : wB1 = wB + 1 := hwB1
        conv => cbv
        refine Cell.at wB1 _ hcA (by simp [I.val]) (by omega) ?_
        conv => cbv
        refine CallF.le (args0 := [.ptr 9 (.lit 0), .p (.int .i64 (.sym ga)), .p (.int .i64 (.sym 1)), .p (.int .i64 (.sym 0))]) (callF_frame (rstore_lx 1 0 R vi N ga W P B Vi hri.p hri.b hri.v hri.n hri.r hri.a hri.w) [(0, 9), (1, 10), (2, 11), (3, 12), (4, 13)] rfl (by simp [hmapOk, nget, hget, renB, okB, renV, renVs, rn, okVs, okV]) rfl rfl (fun r h' n' hrr => ?_)) (by simp [ales, ale, pvle, I.val])
        obtain ⟨es, v2, V2, e1, e2, e3, hV2, hs2⟩ := hrr
        subst e1 e2 e3
        conv => cbv
        refine Fit.mk (by show (-9223372036854775808 : Int) ≤ q + 1; omega) (by show q + 1 ≤ 9223372036854775807; omega) fun q9 hq9 => ?_
        have hq9 : q9 = q + 1 := hq9
        conv => cbv
        have e9 : q.toNat + 1 = q9.toNat := by omega
        rcases hc3 with ⟨_, hk0⟩ | ⟨hp1, a, Y, hout, _, hstw, _⟩
        · exact absurd hk0 (kept_mem hg)
        obtain ⟨hj0, hga⟩ := kept_one hout hg
        have hvv : vi = vh := by
          rcases hvi with ⟨_, e⟩ | ⟨k, _⟩
          · exact e
          · exact absurd (by rw [hj0]; rfl) k
        have hRR : Rh = R := by rcases hcyc with ⟨_, e, _⟩ | ⟨k, _⟩ | ⟨k, _⟩ <;> first | exact e | omega
        rw [hvv, hga] at hs2
        rw [hRR] at hstw
        obtain ⟨_, hSn⟩ := hSh.store (by decide) hstw hs2
        rw [e9] at htg htk
        refine Again.mk (kx - q9).toNat _ (by omega) (Re.at [(0, 0), (1, 1), (2, 2), (3, 3), (4, 4), (5, 5), (6, 6), (7, 7), (8, 8), (9, 9), (10, 10), (11, 11), (12, 12), (13, 13), (14, 14), (15, 15), (16, 16), (17, 17), (20, 18)] []) ⟨q9, gj, kj2, v2, V2, ci, di2, rfl, by omega, by omega, rfl, hri.put hV2 hSn.b, (by rw [htg, List.append_nil]; exact hci), (by rw [htg, List.append_nil]; exact hgj), (by rw [htk]; simpa only [List.append_assoc] using hdi2i), (by rw [htk, ← List.append_assoc, ← List.append_assoc, List.length_append, List.append_assoc]; show kj2 = (((A ++ (K ++ keptOf (out.take q.toNat))).length + 1 : Nat) : Int); omega), by omega, by omega, .inr ⟨by rw [htk]; simp, hSn⟩⟩
    have q3 : ¬ q < kx := q3
    have hqk : q.toNat = out.length := by omega
    rw [hqk, List.take_length] at hci hgj hdi hkj hvi
    have hS2 : Sim R w2 vi := by
      rcases hvi with ⟨hk0, e⟩ | ⟨_, e⟩
      · rcases hc3 with ⟨hw, _⟩ | ⟨_, a, Y, hout, _⟩
        · rw [hw, e]; exact hSh
        · rw [hout] at hk0; cases hk0
      · exact e
    conv => cbv
    refine Fit.mk (by show (-9223372036854775808 : Int) ≤ i + 1; omega) (by show i + 1 ≤ 9223372036854775807; omega) fun i2 hi2 => ?_
    have hi2 : i2 = i + 1 := hi2
    conv => cbv
    refine Again.mk (3000 - i2).toNat _ (by omega) (Re.at [(0, 0), (1, 1), (2, 2), (3, 3), (4, 4), (5, 5), (6, 6), (7, 7), (8, 8), (9, 9), (10, 10), (11, 11), (12, 12), (13, 13), (14, 14), (15, 15), (16, 16), (17, 17), (18, 18)] []) ⟨i2, ph', sp', cy', gj, kj, R2, w2, vi, C2, G2, K ++ keptOf out, X ++ goneOf out, Lx, Dx, Qx, z2, ov2, Vi, ci, di, rfl, by omega, by omega, rfl, h2, hgo.1, hsp.1, hsp.2, by omega, hc2, hS2, hri, hci, hgj, hdi, hkj, by omega, by omega⟩
  have q2 : ph = 0 := Classical.byContradiction q2
  have hc1 : cy = 1 := by rcases hI with ⟨k, _⟩ | ⟨k, _⟩ | ⟨_, k⟩ <;> omega
  conv => cbv
  have hl0 : left_ Rh Ch ph sp N = 0 := by unfold left_; rw [if_neg (by omega), if_neg (by omega)]
  have hst9 : i ≤ 2 * mo + 1 + N := by omega
  refine CallF.re (args0 := [.ptr 8 (.lit 0), .p (.vsl (.sym kl) true ck)]) (h' := [(1, .mix [.ptr 2 (.lit 0), .ptr 6 (.lit 0), .sl 7 3 1 (.lit 0) (.sym W), .p (.int .i64 (.sym ph)), .p (.int .i64 (.sym sp)), .p (.int .i64 (.sym cy))]), (2, .mix [.ptr 3 (.lit 0), .sl 5 3 1 (.lit 0) (.sym W)]), (3, .mix [.sl 4 157 2 (.lit 0) (.sym N)]), (4, .pure true Lh), (5, .pure true Dh), (6, .pure false [.str fun _ => zh, .bool ovh]), (7, .pure true Qh), (8, .mix [.ptr 9 (.lit 0), .sl 14 3 1 (.lit 0) (.sym W), .ptr 15 (.lit 0), .p (.int .i64 (.sym 0)), .p (.int .i64 (.sym 0)), .p (.int .i64 (.sym 0))]), (9, .mix [.ptr 10 (.lit 0), .sl 13 3 1 (.lit 0) (.sym W)]), (10, .mix [.sl 11 3 1 (.lit 0) (.sym N), .sl 12 211 8 (.lit 0) (.sym N)]), (11, .pure true P), (12, .pure true B), (13, .pure true Vh), (14, .pure true Qr), (15, .mix [.p (.vsl (.sym m) true la), .p (.bool ov)]), (0, .fix 0 o), (16, .pure true O), (17, .pure true cg)]) (Re.at [(0, 0), (1, 1), (2, 2), (3, 3), (4, 4), (5, 5), (6, 6), (7, 7), (8, 8), (9, 9), (10, 10), (11, 11), (12, 12), (13, 13), (14, 14), (15, 15), (16, 16), (17, 17)] []) ?_
  refine callF_frame (rreach_lx R vh C G N W 0 0 0 P B Vh Qr la m ov hrh (A ++ K) kl ck hkl hck (by omega) (fun a i w hw => by cases hw with | ok _ _ _ _ _ hx => exact hrh.a.bd w (List.mem_of_getElem? hx))) [(0, 8), (1, 9), (2, 10), (3, 11), (4, 12), (5, 13), (6, 14), (7, 15)] rfl (by simp [hmapOk, nget, hget, renB, okB, renV, renVs, rn, okVs, okV]) rfl rfl (fun r h' n' hrr => ?_)
  obtain ⟨Xl, jx, Ol, e1, e2, e3, hOl, hjx, hasc, hmx⟩ := hrr
  subst e1 e2 e3
  conv => cbv
  have hst9' : i ≤ 103 := by omega
  have hgb9 : gl ≤ 10000 := by omega
  have hfin := hcyc.left0 hSh.a hN0 q2
  have hmx2 : ∀ x, x ∈ Xl ↔ x ∈ objs Rh := fun x => by rw [hmx x, hSh.rch x, hfin x]
  have hrest : ∀ x, x ∈ objs Rh ↔ x ∈ objs R ∧ x ∉ X := by
    rcases hcyc with ⟨k, _⟩ | ⟨k, _⟩ | ⟨_, k⟩
    · omega
    · omega
    · exact k.rest
  have hXl : Xl = objs Rh := asc_eq hasc (objsTo_asc hh.a.rows Rh.length) hmx2
  have hjx2 : jx ≤ 48 := by
    have h1 := objsTo_le Rh Rh.length
    have h2 : (objs Rh).length ≤ 8 * Rh.length := h1
    rw [hXl] at hjx
    omega
  clear hcyc hI hl hl0
  refine LoopF.mk (fun kk s => ∃ y : Int, s = ⟨.p (.int .i64 (.sym N)) :: .p (.vsl (.sym k1) true L1) :: .p (.vsl (.sym k2) true L2) :: (undefs 4 ++ .ptr 1 (.lit 0) :: .undef :: .ptr 8 (.lit 0) :: .undef :: undefs 4 ++ .sl 16 3 1 (.lit 0) (.sym mo) :: .sl 17 3 1 (.lit 0) (.sym gl) :: .undef :: .p (.int .i64 (.sym i)) :: .undef :: .undef :: .p (.vsl (.sym jx) true Ol) :: .p (.int .i64 (.sym y)) :: undefs 178), [(1, .mix [.ptr 2 (.lit 0), .ptr 6 (.lit 0), .sl 7 3 1 (.lit 0) (.sym W), .p (.int .i64 (.sym ph)), .p (.int .i64 (.sym sp)), .p (.int .i64 (.sym cy))]), (2, .mix [.ptr 3 (.lit 0), .sl 5 3 1 (.lit 0) (.sym W)]), (3, .mix [.sl 4 157 2 (.lit 0) (.sym N)]), (4, .pure true Lh), (5, .pure true Dh), (6, .pure false [.str fun _ => zh, .bool ovh]), (7, .pure true Qh), (8, .mix [.ptr 9 (.lit 0), .sl 14 3 1 (.lit 0) (.sym W), .ptr 15 (.lit 0), .p (.int .i64 (.sym 0)), .p (.int .i64 (.sym 0)), .p (.int .i64 (.sym 0))]), (9, .mix [.ptr 10 (.lit 0), .sl 13 3 1 (.lit 0) (.sym W)]), (10, .mix [.sl 11 3 1 (.lit 0) (.sym N), .sl 12 211 8 (.lit 0) (.sym N)]), (11, .pure true P), (12, .pure true B), (13, .pure true Vh), (14, .pure true Qr), (15, .mix [.p (.vsl (.sym m) true la), .p (.bool ov)]), (0, .fix 0 o), (16, .pure true O), (17, .pure true cg)], 18⟩ ∧ 0 ≤ y ∧ y ≤ mo ∧ kk = (mo - y).toNat) mo.toNat _
    (Re.at [(0, 0), (1, 1), (2, 2), (3, 3), (4, 4), (5, 5), (6, 6), (7, 7), (8, 8), (9, 9), (10, 10), (11, 11), (12, 12), (13, 13), (14, 14), (15, 15), (16, 16), (17, 17)] []) ⟨0, rfl, by omega, by omega, by omega⟩ ?_
  rintro kk s ⟨y, rfl, hy0, hy1, hkky⟩
  have hOl9 : (O.length : Int) = mo := by rw [hO, ipv_length]; exact hol
  conv => cbv
  refine Br.mk (fun q3 => ?_) (fun q3 => ?_)
  case refine_1 =>
    have q3 : y < mo := q3
    obtain ⟨b, hb⟩ : ∃ b, (objs R)[y.toNat]? = some b := ⟨_, List.getElem?_eq_getElem (by omega)⟩
    have hbc : O[y.toNat]? = some (.int .i64 (.sym b)) := by rw [hO]; exact ipv_get hb
    have hbo : b ∈ objs R := List.mem_of_getElem? hb
    obtain ⟨b1, hb1⟩ : ∃ b1, b1 = decide (b ∈ Xl) := ⟨_, rfl⟩
    obtain ⟨b2, hb2⟩ : ∃ b2, b2 = decide (b ∈ X) := ⟨_, rfl⟩
    have hbb : (b1 = true ∧ b2 = false) ∨ (b1 = false ∧ b2 = true) := by
      rw [hb1, hb2]
      by_cases e : b ∈ X
      · exact .inr ⟨decide_eq_false fun k => ((hrest b).1 ((hmx2 b).1 k)).2 e, decide_eq_true e⟩
      · exact .inl ⟨decide_eq_true ((hmx2 b).2 ((hrest b).2 ⟨hbo, e⟩)), decide_eq_false e⟩
    rcases hbb with ⟨rfl, rfl⟩ | ⟨rfl, rfl⟩
    · conv => cbv
      refine drawn_sound tok (by kernel_rfl) [(5, [10, 9, 8, 7, 6]), (11, [])] [0, 1, 2, 3, 4, 6, 7, 8, 9, 10, 5, 11, 12] (by kernel_rfl) ?_; conv => cbv
      refine Need.mk (show 0 ≤ y ∧ y < mo by omega) ?_
      conv => cbv
      refine Cell.at y _ hbc (by simp [I.val]) rfl ?_
      conv => cbv
      refine Need.mk (show 0 ≤ y ∧ y < mo by omega) ?_
      conv => cbv
      refine Cell.at y _ hbc (by simp [I.val]) rfl ?_
      conv => cbv
      refine callF_frame (inC_lx Xl b jx Ol true hjx hOl (by omega) hb1) [] rfl trivial rfl rfl (fun r h' n' ⟨e1, e2, e3⟩ => ?_)
      subst e1 e2 e3
      conv => cbv
      refine callF_lend (inC_lx X b gl cg false hgl hcg (by omega) hb2) (by simp [lends, lendV, hget, I.val, pvle]) (fun r h' n' ⟨e1, e2, e3⟩ => by subst e1 e2; exact ⟨trivial, trivial⟩) (fun r h' n' ⟨e1, e2, e3⟩ => ?_)
      subst e1 e2 e3
      conv => cbv
      refine Fit.mk (by show (-9223372036854775808 : Int) ≤ y + 1; omega) (by show y + 1 ≤ 9223372036854775807; omega) fun y2 hy2 => ?_
      have hy2 : y2 = y + 1 := hy2
      conv => cbv
      refine Again.mk (mo - y2).toNat _ (by omega) (Re.at [(0, 0), (1, 1), (2, 2), (3, 3), (4, 4), (5, 5), (6, 6), (7, 7), (8, 8), (9, 9), (10, 10), (11, 11), (12, 12), (13, 13), (14, 14), (15, 15), (16, 16), (17, 17)] []) ⟨y2, rfl, by omega, by omega, rfl⟩
    · conv => cbv
      refine drawn_sound tok (by kernel_rfl) [(5, [10, 9, 8, 7, 6]), (11, [])] [0, 1, 2, 3, 4, 6, 7, 8, 9, 10, 5, 11, 12] (by kernel_rfl) ?_; conv => cbv
      refine Need.mk (show 0 ≤ y ∧ y < mo by omega) ?_
      conv => cbv
      refine Cell.at y _ hbc (by simp [I.val]) rfl ?_
      conv => cbv
      refine Need.mk (show 0 ≤ y ∧ y < mo by omega) ?_
      conv => cbv
      refine Cell.at y _ hbc (by simp [I.val]) rfl ?_
      conv => cbv
      refine callF_frame (inC_lx Xl b jx Ol false hjx hOl (by omega) hb1) [] rfl trivial rfl rfl (fun r h' n' ⟨e1, e2, e3⟩ => ?_)
      subst e1 e2 e3
      conv => cbv
      refine callF_lend (inC_lx X b gl cg true hgl hcg (by omega) hb2) (by simp [lends, lendV, hget, I.val, pvle]) (fun r h' n' ⟨e1, e2, e3⟩ => by subst e1 e2; exact ⟨trivial, trivial⟩) (fun r h' n' ⟨e1, e2, e3⟩ => ?_)
      subst e1 e2 e3
      conv => cbv
      refine Fit.mk (by show (-9223372036854775808 : Int) ≤ y + 1; omega) (by show y + 1 ≤ 9223372036854775807; omega) fun y2 hy2 => ?_
      have hy2 : y2 = y + 1 := hy2
      conv => cbv
      refine Again.mk (mo - y2).toNat _ (by omega) (Re.at [(0, 0), (1, 1), (2, 2), (3, 3), (4, 4), (5, 5), (6, 6), (7, 7), (8, 8), (9, 9), (10, 10), (11, 11), (12, 12), (13, 13), (14, 14), (15, 15), (16, 16), (17, 17)] []) ⟨y2, rfl, by omega, by omega, rfl⟩
  have q3 : ¬ y < mo := q3
  obtain ⟨mo2, hmo2⟩ : ∃ m : Int, m = objCount Rh := ⟨_, rfl⟩
  have hjm : jx = mo2 := by rw [hjx, hXl, hmo2]; exact congrArg Int.ofNat (objs_length hh.a.rows)
  conv => cbv
  refine Fit.mk (by show (-9223372036854775808 : Int) ≤ 2 * mo; omega) (by show 2 * mo ≤ 9223372036854775807; omega) fun f1 hf1 => ?_
  have hf1 : f1 = 2 * mo := hf1
  conv => cbv
  refine Fit.mk (by show (-9223372036854775808 : Int) ≤ f1 + N; omega) (by show f1 + N ≤ 9223372036854775807; omega) fun f2 hf2 => ?_
  have hf2 : f2 = f1 + N := hf2
  conv => cbv
  refine Fit.mk (by show (-9223372036854775808 : Int) ≤ f2 + 2; omega) (by show f2 + 2 ≤ 9223372036854775807; omega) fun f3 hf3 => ?_
  have hf3 : f3 = f2 + 2 := hf3
  conv => cbv
  refine Br.yes (show i ≤ f3 by omega) ?_
  conv => cbv
  refine callF_frame (cyclesH_lx Rh wh Ch Gh N W ph sp cy Lh Dh Qh zh ovh) [(0, 1), (1, 2), (2, 3), (3, 4), (4, 5), (5, 6), (6, 7)] rfl (by simp [hmapOk, nget, hget, renB, okB, renV, renVs, rn, okVs, okV]) rfl rfl (fun r h' n' ⟨e1, e2, e3⟩ => ?_)
  subst e1 e2 e3
  conv => cbv
  refine Br.yes (show cy = 1 from hc1) ?_
  conv => cbv
  refine callF_frame (arena_lx Rh wh Ch Gh N W ph sp cy Lh Dh Qh zh ovh) [(0, 1), (1, 2), (2, 3), (3, 4), (4, 5), (5, 6), (6, 7)] rfl (by simp [hmapOk, nget, hget, renB, okB, renV, renVs, rn, okVs, okV]) rfl rfl (fun r h' n' ⟨e1, e2, e3⟩ => ?_)
  subst e1 e2 e3
  conv => cbv
  refine callF_frame (objects_lx mo2 Rh N W Lh Dh hh.l hh.n hh.r hh.a.rows hh.w hmo2) [(0, 2), (1, 3), (2, 4), (3, 5)] rfl (by simp [hmapOk, nget, hget, renB, okB, renV, renVs, rn, okVs, okV]) rfl rfl (fun r h' n' hrr => ?_)
  obtain ⟨O2, e1, e2, e3, hO2⟩ := hrr
  subst e1 e2 e3
  have hO2 : O2 = ipv Xl := by rw [hXl]; exact hO2
  obtain rfl := hjm
  conv => cbv
  refine callF_lend (plainE_true Xl jx O2 Ol hjx hO2 hOl (by omega)) (by simp [lends, lendV, hget, I.val, pvle]) (fun r h' n' ⟨e1, e2, e3⟩ => by subst e1 e2; exact ⟨trivial, trivial⟩) (fun r h' n' ⟨e1, e2, e3⟩ => ?_)
  subst e1 e2 e3
  conv => cbv
  refine RetF.mk [.p (.bool true)] [(0, .fix 0 o)] 1 (Re.at [(0, 0)] []) rfl rfl
end Go.Proofs.YtgoflehllhccgaaGreatDoor
