/-
  Layer 9: what is gone, held against each other; a reference's heap made.
-/
import Derived.Test.YtllafhhnciobhaaGreatDoorHz
namespace Go.Proofs.YtllafhhnciobhaaGreatDoor

open Go Go.LX
set_option maxRecDepth 100000
set_option linter.unusedVariables false
set_option linter.unusedSimpArgs false

theorem gpv_cells (l : List Gn) : ∀ (i : Nat) (g : Gn), l[i]? = some g → (gpv l)[4 * i]? = some (.int .i64 (.sym g.1)) ∧ (gpv l)[4 * i + 1]? = some (.int .i64 (.sym g.2.1)) ∧ (gpv l)[4 * i + 2]? = some (.vsl (.sym (g.2.2.1.length : Int)) true (ipv g.2.2.1)) ∧ (gpv l)[4 * i + 3]? = some (.bool g.2.2.2) := by
  induction l with
  | nil => intro i g h; simp at h
  | cons x l ih =>
    intro i g h
    cases i with
    | zero => simp at h; subst h; exact ⟨rfl, rfl, rfl, rfl⟩
    | succ i =>
      have h2 := ih i g (by simpa using h)
      rw [show 4 * (i + 1) = (4 * i) + 4 by omega]
      exact h2
set_option maxHeartbeats 2000000 in
theorem gone_lx (X : List Int) (k a m : Int) (O : List PV) (q : Bool) (hm : m = X.length) (hO : O = ipv X) (hX : (X.length : Int) < 1000000) : CallF (fun _ => Tryz.prog) 49 [.agg [.p (.int .i64 (.sym k)), .p (.int .i64 (.sym a)), .p (.vsl (.sym m) true O), .p (.bool q)], .agg [.p (.int .i64 (.sym k)), .p (.int .i64 (.sym a)), .p (.vsl (.sym m) true O), .p (.bool q)]] [] 0 (fun r h n => r = .p (.bool true) ∧ h = [] ∧ n = 0) := by
  have hp := plaini64_lx X X m m O O hm hm (by rw [hO]; exact preI_ints X) (by rw [hO]; exact preI_ints X) hX
  have hp := hp.mono (K' := fun r h n => r = .p (.bool true) ∧ h = [] ∧ n = 0) fun r h n ⟨⟨b, e1, h1⟩, e2, e3⟩ => ⟨by rw [e1, h1.2 rfl], e2, e3⟩
  cases q with
  | false =>
    refine callF_of_body tok Tryz.func49 (by kernel_rfl) rfl rfl rfl ?_; conv => cbv
    refine Br.yes (show k = k from rfl) ?_
    conv => cbv
    refine Br.yes (show a = a from rfl) ?_
    conv => cbv
    refine callF_frame hp [] rfl trivial rfl rfl (fun r h' n' ⟨e1, e2, e3⟩ => ?_)
    subst e1 e2 e3
    conv => cbv
    refine RetF.mk [.p (.bool true)] [] 0 (Re.at [] []) rfl ⟨rfl, rfl, rfl⟩
  | true =>
    refine callF_of_body tok Tryz.func49 (by kernel_rfl) rfl rfl rfl ?_; conv => cbv
    refine Br.yes (show k = k from rfl) ?_
    conv => cbv
    refine Br.yes (show a = a from rfl) ?_
    conv => cbv
    refine callF_frame hp [] rfl trivial rfl rfl (fun r h' n' ⟨e1, e2, e3⟩ => ?_)
    subst e1 e2 e3
    conv => cbv
    refine RetF.mk [.p (.bool true)] [] 0 (Re.at [] []) rfl ⟨rfl, rfl, rfl⟩
set_option maxHeartbeats 4000000 in
theorem sameGone_lx (out : List Gn) (k : Int) (c : List PV) (hk : k = out.length) (hc : c = gpv out) (ho : (out.length : Int) < 1000000) (hx : ∀ g ∈ out, (g.2.2.1.length : Int) < 1000000) : CallF (fun _ => Tryz.prog) 47 [.p (.vsl (.sym k) true c), .p (.vsl (.sym k) true c), .p (.fn 49)] [] 0 (fun r h n => r = .p (.bool true) ∧ h = [] ∧ n = 0) := by
  have hcl : c.length = 4 * out.length := by rw [hc, gpv_length]
  refine callF_of_body tok Tryz.func47 (by kernel_rfl) rfl rfl rfl ?_; conv => cbv
  refine Br.no (show ¬ (k ≠ k) from fun h => h rfl) ?_
  conv => cbv
  refine LoopF.mk (fun kk s => ∃ i : Int, s = ⟨.p (.vsl (.sym k) true c) :: .p (.vsl (.sym k) true c) :: .p (.fn 49) :: .undef :: .undef :: .undef :: .undef :: .p (.int .i64 (.sym i)) :: undefs 22, [], 0⟩ ∧ 0 ≤ i ∧ i ≤ k ∧ kk = (k - i).toNat) k.toNat _
    (Re.at [] []) ⟨0, rfl, by omega, by omega, by omega⟩ ?_
  rintro kk s ⟨i, rfl, hi0, him, hkk⟩
  conv => cbv
  refine Br.mk (fun gi => ?_) (fun gi => ?_)
  · have gi : i < k := gi
    obtain ⟨k', rfl⟩ : ∃ k', kk = k' + 1 := ⟨kk - 1, by omega⟩
    obtain ⟨g, hg⟩ : ∃ g, out[i.toNat]? = some g := ⟨_, List.getElem?_eq_getElem (by omega)⟩
    have hgx := hx g (List.mem_of_getElem? hg)
    have hcs := gpv_cells out i.toNat g hg
    rw [← hc] at hcs
    obtain ⟨gk, ga, gX, gq⟩ := g
    dsimp only at hcs hgx
    obtain ⟨gm, hgm⟩ : ∃ gm, gm = (gX.length : Int) := ⟨_, rfl⟩
    obtain ⟨gO, hgO⟩ : ∃ gO, gO = ipv gX := ⟨_, rfl⟩
    rw [← hgm, ← hgO] at hcs
    conv => cbv
    refine drawn_sound tok (by kernel_rfl) [(9, [])] [0, 1, 2, 3, 4, 5, 6, 7, 8, 9, 10] (by kernel_rfl) ?_; conv => cbv
    refine Need.mk ⟨hi0, gi⟩ ?_
    conv => cbv
    refine Sum.mk fun w hw => ?_
    have hw : w = i * 4 := hw
    conv => cbv
    refine Cell.at (w + 0) (4 * i.toNat) hcs.1 rfl (by omega) ?_
    conv => cbv
    refine Cell.at (w + 1) (4 * i.toNat + 1) hcs.2.1 rfl (by omega) ?_
    conv => cbv
    refine Cell.at (w + 2) (4 * i.toNat + 2) hcs.2.2.1 rfl (by omega) ?_
    conv => cbv
    refine Cell.at (w + 3) (4 * i.toNat + 3) hcs.2.2.2 rfl (by omega) ?_
    conv => cbv
    refine Need.mk ⟨hi0, gi⟩ ?_
    conv => cbv
    refine Sum.mk fun w3 hw33 => ?_
    have hw33 : w3 = i * 4 := hw33
    conv => cbv
    refine Cell.at (w3 + 0) (4 * i.toNat) hcs.1 rfl (by omega) ?_
    conv => cbv
    refine Cell.at (w3 + 1) (4 * i.toNat + 1) hcs.2.1 rfl (by omega) ?_
    conv => cbv
    refine Cell.at (w3 + 2) (4 * i.toNat + 2) hcs.2.2.1 rfl (by omega) ?_
    conv => cbv
    refine Cell.at (w3 + 3) (4 * i.toNat + 3) hcs.2.2.2 rfl (by omega) ?_
    conv => cbv
    refine callF_val (R := fun r => r = .p (.bool true)) ((gone_lx gX gk ga gm gO gq hgm hgO hgx).mono fun r h n h3 => h3) (by simp [ales, ale, renVs, renV, pvle, I.val]) rfl (fun r hr => by subst hr; rfl) (fun r hr => ?_)
    subst hr
    conv => cbv
    refine Fit.mk (by show (-9223372036854775808 : Int) ≤ i + 1; omega) (by show i + 1 ≤ 9223372036854775807; omega) fun i2 hi2 => ?_
    have hi2 : i2 = i + 1 := hi2
    conv => cbv
    refine Again.mk k' _ (Nat.lt_succ_self _) (Re.at [] []) ⟨i2, rfl, by omega, by omega, by omega⟩
  · have gi : ¬ i < k := gi
    conv => cbv
    refine RetF.mk [.p (.bool true)] [] 0 (Re.at [] []) rfl ⟨rfl, rfl, rfl⟩
set_option maxHeartbeats 4000000 in
theorem rnewH_lx (N W : Int) (h2 : 2 ≤ N) (h8 : N ≤ 128) (hW : W = 32 * N) : CallF (fun _ => Tryz.prog) 12 [.p (.int .i64 (.sym N))] [] 0 (fun r h n => ∃ P B V Q : List PV, r = .tup [.ptr 0 (.lit 0), .p (.int .i64 (.lit 0))] ∧ h = [(0, .mix [.ptr 1 (.lit 0), .sl 6 3 1 (.lit 0) (.sym W), .ptr 7 (.lit 0), .p (.int .i64 (.sym 0)), .p (.int .i64 (.sym 0)), .p (.int .i64 (.sym 0))]), (1, .mix [.ptr 2 (.lit 0), .sl 5 3 1 (.lit 0) (.sym W)]), (2, .mix [.sl 3 3 1 (.lit 0) (.sym N), .sl 4 120 8 (.lit 0) (.sym N)]), (3, .pure true P), (4, .pure true B), (5, .pure true V), (6, .pure true Q), (7, .mix [.p (.vsl (.sym 0) true []), .p (.bool false)])] ∧ n = 8 ∧ RM (List.replicate N.toNat (0, [])) (List.replicate W.toNat 0) (List.replicate W.toNat 0) [] N W P B V Q [] 0) := by
  refine callF_of_body tok Tryz.func12 (by kernel_rfl) rfl rfl rfl ?_; conv => cbv
  refine callF_frame (rnewA_lx N W h2 h8 hW) [] rfl trivial rfl rfl (fun r h' n' hrr => ?_)
  obtain ⟨P, B, V, e1, e2, e3, hP, hB, hV⟩ := hrr
  subst e1 e2 e3
  conv => cbv
  refine Need.mk ⟨by show 0 ≤ W; omega, Int.le_refl _, by show W * 8 ≤ 140737488355328; omega, by show W ≤ 9223372036854775807; omega⟩ ?_
  conv => cbv
  obtain ⟨Q, hQ⟩ : ∃ Q, Q = ipv (List.replicate W.toNat 0) := ⟨_, rfl⟩
  refine Upd.mk fun Q0 hQ0 => ?_
  have hle : pvles Q0 Q := by
    have hQ0 : Q0 = repsP [.int .i64 (.lit 0)] W.toNat := hQ0
    rw [hQ0, hQ]; exact zero_ipv _
  unfold pvles at hle
  clear hQ0
  conv => cbv
  refine RetF.mk [.ptr 0 (.lit 0), .p (.int .i64 (.lit 0))] [(0, .mix [.ptr 1 (.lit 0), .sl 6 3 1 (.lit 0) (.sym W), .ptr 7 (.lit 0), .p (.int .i64 (.sym 0)), .p (.int .i64 (.sym 0)), .p (.int .i64 (.sym 0))]), (1, .mix [.ptr 2 (.lit 0), .sl 5 3 1 (.lit 0) (.sym W)]), (2, .mix [.sl 3 3 1 (.lit 0) (.sym N), .sl 4 120 8 (.lit 0) (.sym N)]), (3, .pure true P), (4, .pure true B), (5, .pure true V), (6, .pure true Q), (7, .mix [.p (.vsl (.sym 0) true []), .p (.bool false)])] 8 (Re.at [(7, 0), (0, 1), (1, 2), (2, 3), (3, 4), (4, 5), (5, 6), (6, 7)] []) rfl ⟨P, B, V, Q, rfl, rfl, rfl, ⟨by rw [show W.toNat = 32 * N.toNat by omega]; exact AOk.new _, by rw [List.length_replicate]; omega, by rw [List.length_replicate]; omega, hW, hP, hB, hV, hQ, by rw [List.length_replicate]; omega, rfl, rfl, fun x hx => (by cases hx), Nat.zero_le _⟩⟩
end Go.Proofs.YtllafhhnciobhaaGreatDoor
/-
  Layer 9: HeapPlays' parts.
-/
namespace Go.Proofs.YtllafhhnciobhaaGreatDoor

open Go Go.LX
set_option maxRecDepth 100000
set_option linter.unusedVariables false
set_option linter.unusedSimpArgs false

theorem rPtr_lx (a : Int) (ha : -1000000 ≤ a ∧ a ≤ 1000000) : CallF (fun _ => Tryz.prog) 37 [.p (.int .i64 (.sym a))] [] 0 (fun r h n => ∃ x : Int, r = .p (.int .i64 (.sym x)) ∧ h = [] ∧ n = 0 ∧ x = a * 2 + 1) := by
  refine callF_of_body tok Tryz.func37 (by kernel_rfl) rfl rfl rfl ?_; conv => cbv
  refine Fit.mk (by show (-9223372036854775808 : Int) ≤ a * 2; omega) (by show a * 2 ≤ 9223372036854775807; omega) fun x hx => ?_
  have hx : x = a * 2 := hx
  conv => cbv
  refine Fit.mk (by show (-9223372036854775808 : Int) ≤ x + 1; omega) (by show x + 1 ≤ 9223372036854775807; omega) fun y hy => ?_
  have hy : y = x + 1 := hy
  conv => cbv
  refine RetF.mk [.p (.int .i64 (.sym y))] [] 0 (Re.at [] []) rfl ⟨y, rfl, rfl, rfl, by omega⟩
theorem rInt_lx (a : Int) (ha : -1000000 ≤ a ∧ a ≤ 1000000) : CallF (fun _ => Tryz.prog) 38 [.p (.int .i64 (.sym a))] [] 0 (fun r h n => ∃ x : Int, r = .p (.int .i64 (.sym x)) ∧ h = [] ∧ n = 0 ∧ x = a * 2) := by
  refine callF_of_body tok Tryz.func38 (by kernel_rfl) rfl rfl rfl ?_; conv => cbv
  refine Fit.mk (by show (-9223372036854775808 : Int) ≤ a * 2; omega) (by show a * 2 ≤ 9223372036854775807; omega) fun x hx => ?_
  have hx : x = a * 2 := hx
  conv => cbv
  refine RetF.mk [.p (.int .i64 (.sym x))] [] 0 (Re.at [] []) rfl ⟨x, rfl, rfl, rfl, hx⟩
def sizeF (k : Int) : Int := if k = 1 then 9 else if k = 2 then 3 else if k = 3 then 7 else if k = 4 then 10 else 2
theorem sizes_lx (k : Int) (h1 : 1 ≤ k) (h6 : k ≤ 6) : CallF (fun _ => Tryz.prog) 34 [.p (.int .i64 (.sym k))] [] 0 (fun r h n => ∃ x : Int, r = .p (.int .i64 (.sym x)) ∧ h = [] ∧ n = 0 ∧ x = sizeF k) := by
  have hk : k = 1 ∨ k = 2 ∨ k = 3 ∨ k = 4 ∨ k = 5 ∨ k = 6 := by omega
  rcases hk with rfl | rfl | rfl | rfl | rfl | rfl
  · refine callF_of_body tok Tryz.func34 (by kernel_rfl) rfl rfl rfl ?_; conv => cbv
    refine Need.mk ⟨by show (0 : Int) ≤ 1; omega, by show (1 : Int) < 7; omega⟩ ?_
    conv => cbv
    refine Cell.at 1 1 rfl rfl rfl ?_
    conv => cbv
    refine RetF.mk [.p (.int .i64 (.sym 9))] [] 0 (Re.at [] []) rfl ⟨9, rfl, rfl, rfl, rfl⟩
  · refine callF_of_body tok Tryz.func34 (by kernel_rfl) rfl rfl rfl ?_; conv => cbv
    refine Need.mk ⟨by show (0 : Int) ≤ 2; omega, by show (2 : Int) < 7; omega⟩ ?_
    conv => cbv
    refine Cell.at 2 2 rfl rfl rfl ?_
    conv => cbv
    refine RetF.mk [.p (.int .i64 (.sym 3))] [] 0 (Re.at [] []) rfl ⟨3, rfl, rfl, rfl, rfl⟩
  · refine callF_of_body tok Tryz.func34 (by kernel_rfl) rfl rfl rfl ?_; conv => cbv
    refine Need.mk ⟨by show (0 : Int) ≤ 3; omega, by show (3 : Int) < 7; omega⟩ ?_
    conv => cbv
    refine Cell.at 3 3 rfl rfl rfl ?_
    conv => cbv
    refine RetF.mk [.p (.int .i64 (.sym 7))] [] 0 (Re.at [] []) rfl ⟨7, rfl, rfl, rfl, rfl⟩
  · refine callF_of_body tok Tryz.func34 (by kernel_rfl) rfl rfl rfl ?_; conv => cbv
    refine Need.mk ⟨by show (0 : Int) ≤ 4; omega, by show (4 : Int) < 7; omega⟩ ?_
    conv => cbv
    refine Cell.at 4 4 rfl rfl rfl ?_
    conv => cbv
    refine RetF.mk [.p (.int .i64 (.sym 10))] [] 0 (Re.at [] []) rfl ⟨10, rfl, rfl, rfl, rfl⟩
  · refine callF_of_body tok Tryz.func34 (by kernel_rfl) rfl rfl rfl ?_; conv => cbv
    refine Need.mk ⟨by show (0 : Int) ≤ 5; omega, by show (5 : Int) < 7; omega⟩ ?_
    conv => cbv
    refine Cell.at 5 5 rfl rfl rfl ?_
    conv => cbv
    refine RetF.mk [.p (.int .i64 (.sym 2))] [] 0 (Re.at [] []) rfl ⟨2, rfl, rfl, rfl, rfl⟩
  · refine callF_of_body tok Tryz.func34 (by kernel_rfl) rfl rfl rfl ?_; conv => cbv
    refine Need.mk ⟨by show (0 : Int) ≤ 6; omega, by show (6 : Int) < 7; omega⟩ ?_
    conv => cbv
    refine Cell.at 6 6 rfl rfl rfl ?_
    conv => cbv
    refine RetF.mk [.p (.int .i64 (.sym 2))] [] 0 (Re.at [] []) rfl ⟨2, rfl, rfl, rfl, rfl⟩
set_option maxHeartbeats 2000000 in
theorem pick_lx (R : List Rw) (vs C G : List Int) (N W ph sp cy : Int) (P B V Q la : List PV) (m : Int) (ov : Bool) (h : RM R vs C G N W P B V Q la m) (x : Int) (hx : -9223372036854775808 ≤ x ∧ x ≤ 9223372036854775807) : CallF (fun _ => Tryz.prog) 25 [.ptr 0 (.lit 0), .p (.int .i64 (.sym x))] [(0, .mix [.ptr 1 (.lit 0), .sl 6 3 1 (.lit 0) (.sym W), .ptr 7 (.lit 0), .p (.int .i64 (.sym ph)), .p (.int .i64 (.sym sp)), .p (.int .i64 (.sym cy))]), (1, .mix [.ptr 2 (.lit 0), .sl 5 3 1 (.lit 0) (.sym W)]), (2, .mix [.sl 3 3 1 (.lit 0) (.sym N), .sl 4 120 8 (.lit 0) (.sym N)]), (3, .pure true P), (4, .pure true B), (5, .pure true V), (6, .pure true Q), (7, .mix [.p (.vsl (.sym m) true la), .p (.bool ov)])] 8 (fun r h n => ∃ a : Int, r = .p (.int .i64 (.sym a)) ∧ h = [(0, .mix [.ptr 1 (.lit 0), .sl 6 3 1 (.lit 0) (.sym W), .ptr 7 (.lit 0), .p (.int .i64 (.sym ph)), .p (.int .i64 (.sym sp)), .p (.int .i64 (.sym cy))]), (1, .mix [.ptr 2 (.lit 0), .sl 5 3 1 (.lit 0) (.sym W)]), (2, .mix [.sl 3 3 1 (.lit 0) (.sym N), .sl 4 120 8 (.lit 0) (.sym N)]), (3, .pure true P), (4, .pure true B), (5, .pure true V), (6, .pure true Q), (7, .mix [.p (.vsl (.sym m) true la), .p (.bool ov)])] ∧ n = 8 ∧ -1 ≤ a ∧ a < W) := by
  have hCl := h.c; have hWn := h.w; have hNr := h.n; have hRr := h.r
  obtain ⟨mo, hmo⟩ : ∃ m : Int, m = objCount R := ⟨_, rfl⟩
  refine callF_of_body tok Tryz.func25 (by kernel_rfl) rfl rfl rfl ?_; conv => cbv
  refine callF_frame (robjects_lx mo R vs N W P B V h.p h.b h.v h.n h.r h.a h.w hmo) [(0, 1), (1, 2), (2, 3), (3, 4), (4, 5)] rfl (by simp [hmapOk, nget, hget, renB, okB, renV, renVs, rn, okVs, okV]) rfl rfl (fun r h' n' hrr => ?_)
  obtain ⟨O, e1, e2, e3, hO⟩ := hrr
  subst e1 e2 e3
  have hOl : (O.length : Int) = mo := by rw [hO, ipv_length, objs_length h.a.rows, hmo]
  have hO : O = ipv (objs R) := hO
  have hol : ((objs R).length : Int) = mo := by rw [← hOl, hO, ipv_length]
  have hob : mo ≤ 8000 := by have := objsTo_le R R.length; rw [objs_length h.a.rows] at this; omega
  conv => cbv
  refine Br.mk (fun g => ?_) (fun g => ?_)
  · have g : mo = 0 := g
    conv => cbv
    refine RetF.mk [.p (.int .i64 (.sym (-1)))] [(0, .mix [.ptr 1 (.lit 0), .sl 6 3 1 (.lit 0) (.sym W), .ptr 7 (.lit 0), .p (.int .i64 (.sym ph)), .p (.int .i64 (.sym sp)), .p (.int .i64 (.sym cy))]), (1, .mix [.ptr 2 (.lit 0), .sl 5 3 1 (.lit 0) (.sym W)]), (2, .mix [.sl 3 3 1 (.lit 0) (.sym N), .sl 4 120 8 (.lit 0) (.sym N)]), (3, .pure true P), (4, .pure true B), (5, .pure true V), (6, .pure true Q), (7, .mix [.p (.vsl (.sym m) true la), .p (.bool ov)])] 8 (Re.at [(0, 0), (1, 1), (2, 2), (3, 3), (4, 4), (5, 5), (6, 6), (7, 7)] []) rfl ⟨-1, rfl, rfl, rfl, by omega, by omega⟩
  · have g : ¬ mo = 0 := g
    conv => cbv
    refine Fit.wrap fun xa hxa => ?_
    have hxa : xa = IntKind.u64.wrap x := hxa
    have hxa0 : 0 ≤ xa := by rw [hxa]; simp [IntKind.wrap, IntKind.bits, IntKind.signed]; omega
    clear hxa
    conv => cbv
    refine Fit.mk (by show (0 : Int) ≤ mo; omega) (by show mo ≤ 18446744073709551615; omega) fun mu hmu => ?_
    have hmu : mu = mo := hmu
    conv => cbv
    refine Need.mk (show mu ≠ 0 by omega) ?_
    conv => cbv
    refine Sum.mk fun ya hya => ?_
    have hya : ya = xa % mu := (show ya = xa.tmod mu from hya).trans (Int.tmod_eq_emod_of_nonneg hxa0)
    have hya0 : 0 ≤ ya := by rw [hya]; exact Int.emod_nonneg _ (by omega)
    have hya1 : ya < mo := by rw [hya, ← hmu]; exact Int.emod_lt_of_pos _ (by omega)
    conv => cbv
    refine Fit.mk (by show (-9223372036854775808 : Int) ≤ ya; omega) (by show ya ≤ 9223372036854775807; omega) fun za hza => ?_
    have hza : za = ya := hza
    obtain ⟨a, hat⟩ : ∃ a, (objs R)[za.toNat]? = some a := ⟨_, List.getElem?_eq_getElem (by omega)⟩
    have hab := obj_bd h.a (List.mem_of_getElem? hat)
    have hcO : O[za.toNat]? = some (.int .i64 (.sym a)) := by rw [hO]; exact ipv_get hat
    conv => cbv
    refine Need.mk ⟨by show 0 ≤ za; omega, by show za < mo; omega⟩ ?_
    conv => cbv
    refine Cell.at za _ hcO (by simp [I.val]) rfl ?_
    conv => cbv
    refine RetF.mk [.p (.int .i64 (.sym a))] [(0, .mix [.ptr 1 (.lit 0), .sl 6 3 1 (.lit 0) (.sym W), .ptr 7 (.lit 0), .p (.int .i64 (.sym ph)), .p (.int .i64 (.sym sp)), .p (.int .i64 (.sym cy))]), (1, .mix [.ptr 2 (.lit 0), .sl 5 3 1 (.lit 0) (.sym W)]), (2, .mix [.sl 3 3 1 (.lit 0) (.sym N), .sl 4 120 8 (.lit 0) (.sym N)]), (3, .pure true P), (4, .pure true B), (5, .pure true V), (6, .pure true Q), (7, .mix [.p (.vsl (.sym m) true la), .p (.bool ov)])] 8 (Re.at [(0, 0), (1, 1), (2, 2), (3, 3), (4, 4), (5, 5), (6, 6), (7, 7)] []) rfl ⟨a, rfl, rfl, rfl, by omega, by omega⟩
end Go.Proofs.YtllafhhnciobhaaGreatDoor
/-
  Layer 9: a cycle begun, the roots' list known by name.
-/
namespace Go.Proofs.YtllafhhnciobhaaGreatDoor

open Go Go.LX
set_option maxRecDepth 100000
set_option linter.unusedVariables false
set_option linter.unusedSimpArgs false

set_option maxHeartbeats 4000000 in
theorem beginS_lx (R : List Rw) (ws C G : List Int) (N W ph sp cy : Int) (L D Q : List PV) (z : ByteArray) (ov : Bool) (h : HM R ws C G N W L D Q z) (o : Unit → Obj) (ho : IsPow o) (A : List Int) (k : Int) (rs : List PV) (hrs : rs = ipv A) (hk : k = A.length) (hA : (A.length : Int) < 1000000) (hph : ph = 0) : CallF (fun _ => Tryz.prog) 26 [.ptr 0 (.lit 0), .sl 8 3 1 (.lit 0) (.sym k)] [(0, .mix [.ptr 1 (.lit 0), .ptr 5 (.lit 0), .sl 6 3 1 (.lit 0) (.sym W), .p (.int .i64 (.sym ph)), .p (.int .i64 (.sym sp)), .p (.int .i64 (.sym cy))]), (1, .mix [.ptr 2 (.lit 0), .sl 4 3 1 (.lit 0) (.sym W)]), (2, .mix [.sl 3 101 2 (.lit 0) (.sym N)]), (3, .pure true L), (4, .pure true D), (5, .pure false [.str fun _ => z, .bool ov]), (6, .pure true Q), (7, .fix 0 o), (8, .pure false rs)] 9 (fun r h n => ∃ (C' G' : List Int) (ov' : Bool) (Q' : List PV) (z' : ByteArray), r = .p (.int .i64 (.lit 0)) ∧ h = [(0, .mix [.ptr 1 (.lit 0), .ptr 9 (.lit 0), .sl 6 3 1 (.lit 0) (.sym W), .p (.int .i64 (.sym 1)), .p (.int .i64 (.sym sp)), .p (.int .i64 (.sym cy))]), (1, .mix [.ptr 2 (.lit 0), .sl 4 3 1 (.lit 0) (.sym W)]), (2, .mix [.sl 3 101 2 (.lit 0) (.sym N)]), (3, .pure true L), (4, .pure true D), (9, .pure false [.str fun _ => z', .bool ov']), (6, .pure true Q'), (7, .fix 0 o), (8, .pure false rs)] ∧ n = 10 ∧ HM R ws C' G' N W L D Q' z' ∧ (C', G', ov') = begS R W A) := by
  have hCl := h.c; have hWn := h.w; have hNr := h.n; have hRr := h.r
  have hQl : Q.length = C.length := by rw [h.q, ipv_length]
  refine callF_of_body tok Tryz.func26 (by kernel_rfl) rfl rfl rfl ?_; conv => cbv
  refine callF_frame (arena_lx R ws C G N W ph sp cy L D Q z ov) [(0, 0), (1, 1), (2, 2), (3, 3), (4, 4), (5, 5), (6, 6)] rfl (by simp [hmapOk, nget, hget, renB, okB, renV, renVs, rn, okVs, okV]) rfl rfl (fun r h' n' ⟨e1, e2, e3⟩ => ?_)
  subst e1 e2 e3
  conv => cbv
  refine Br.mk (fun g => ?_) (fun g => ?_)
  case refine_1 =>
    have g : ph ≠ 0 := g
    exact absurd hph g
  conv => cbv
  refine Need.mk ⟨Int.le_refl _, by show 0 ≤ W; omega, by show 0 + W * 1 ≤ (Q.length : Int); omega⟩ ?_
  conv => cbv
  obtain ⟨Q0, hQ0⟩ : ∃ Q0, Q0 = ipv (List.replicate W.toNat 0) := ⟨_, rfl⟩
  refine Upd.mk fun Q2 hQ2 => ?_
  have hle : pvles Q2 Q0 := by
    have hQ2 : Q2 = updL Q 0 (repsP [.int .i64 (.lit 0)] W.toNat) := hQ2
    rw [hQ2, hQ0, h.q, show W.toNat = C.length by omega, ← zer_all]
    exact upd_zer _ _ _ _ (pvles_refl _)
  unfold pvles at hle
  clear hQ2
  conv => cbv
  refine callF_frame greyNew_lx [] rfl trivial rfl rfl (fun r h' n' hrr => ?_)
  obtain ⟨z1, e1, e2, e3, hz1⟩ := hrr
  subst e1 e2 e3
  have hM0 : HM R ws (List.replicate W.toNat 0) [] N W L D Q0 z1 := ⟨h.a, h.k, h.n, h.r, h.w, h.l, h.d, hQ0, by rw [List.length_replicate]; omega, hz1, fun x hx => (by cases hx), Nat.zero_le _⟩
  conv => cbv
  refine LoopF.mk (fun kk s => ∃ (i : Int) (C' G' : List Int) (ov' : Bool) (Q' : List PV) (z' : ByteArray), s = ⟨.ptr 0 (.lit 0) :: (undefs 25 ++ .sl 8 3 1 (.lit 0) (.sym k) :: .p (.int .i64 (.sym k)) :: .p (.int .i64 (.sym i)) :: undefs 7), [(0, .mix [.ptr 1 (.lit 0), .ptr 9 (.lit 0), .sl 6 3 1 (.lit 0) (.sym W), .p (.int .i64 (.sym 1)), .p (.int .i64 (.sym sp)), .p (.int .i64 (.sym cy))]), (1, .mix [.ptr 2 (.lit 0), .sl 4 3 1 (.lit 0) (.sym W)]), (2, .mix [.sl 3 101 2 (.lit 0) (.sym N)]), (3, .pure true L), (4, .pure true D), (9, .pure false [.str fun _ => z', .bool ov']), (6, .pure true Q'), (7, .fix 0 o), (8, .pure false rs)], 10⟩ ∧ 0 ≤ i ∧ i ≤ k ∧ HM R ws C' G' N W L D Q' z' ∧ (C', G', ov') = begS R W (A.take i.toNat) ∧ kk = (k - i).toNat) k.toNat _
    (Re.at [(0, 0), (1, 1), (2, 2), (3, 3), (4, 4), (6, 6), (7, 7), (8, 8), (9, 9)] []) ⟨0, _, _, _, Q0, z1, rfl, by omega, by omega, hM0, rfl, by omega⟩ ?_
  rintro kk s ⟨i, C', G', ov', Q', z', rfl, hi0, hi1, h2, hS, hk2⟩
  conv => cbv
  refine Br.mk (fun gi => ?_) (fun gi => ?_)
  · have gi : i < k := gi
    obtain ⟨k', rfl⟩ : ∃ k', kk = k' + 1 := ⟨kk - 1, by omega⟩
    obtain ⟨a, ha⟩ : ∃ a, A[i.toNat]? = some a := ⟨_, List.getElem?_eq_getElem (by omega)⟩
    have hc : rs[i.toNat]? = some (.int .i64 (.sym a)) := by rw [hrs]; exact ipv_get ha
    conv => cbv
    refine Need.mk ⟨hi0, gi⟩ ?_
    conv => cbv
    refine Cell.at i _ hc (by simp [I.val]) rfl ?_
    conv => cbv
    refine callF_frame (shade_lx R ws C' G' N W 1 sp cy L D Q' z' ov' h2 o ho a) [(0, 0), (1, 1), (2, 2), (3, 3), (4, 4), (5, 9), (6, 6), (7, 7)] rfl (by simp [hmapOk, nget, hget, renB, okB, renV, renVs, rn, okVs, okV]) rfl rfl (fun r h' n' hrr => ?_)
    obtain ⟨C2, G2, ov2, Q2, z2, e1, e2, e3, h3, hS2⟩ := hrr
    subst e1 e2 e3
    have hS3 : (C2, G2, ov2) = begS R W (A.take (i.toNat + 1)) := by
      rw [hS2, hS]
      unfold begS
      rw [List.take_add_one, ha, Option.toList_some, List.foldl_append]; rfl
    conv => cbv
    refine Fit.mk (by show (-9223372036854775808 : Int) ≤ i + 1; omega) (by show i + 1 ≤ 9223372036854775807; omega) fun i2 hi2 => ?_
    have hi2 : i2 = i + 1 := hi2
    rw [show i.toNat + 1 = i2.toNat by omega] at hS3
    conv => cbv
    refine Again.mk k' _ (Nat.lt_succ_self _) (Re.at [(0, 0), (1, 1), (2, 2), (3, 3), (4, 4), (6, 6), (7, 7), (8, 8), (9, 9)] []) ⟨i2, C2, G2, ov2, Q2, z2, rfl, by omega, by omega, h3, hS3, by omega⟩
  · have gi : ¬ i < k := gi
    rw [List.take_of_length_le (by omega)] at hS
    conv => cbv
    refine RetF.mk [.p (.int .i64 (.lit 0))] [(0, .mix [.ptr 1 (.lit 0), .ptr 9 (.lit 0), .sl 6 3 1 (.lit 0) (.sym W), .p (.int .i64 (.sym 1)), .p (.int .i64 (.sym sp)), .p (.int .i64 (.sym cy))]), (1, .mix [.ptr 2 (.lit 0), .sl 4 3 1 (.lit 0) (.sym W)]), (2, .mix [.sl 3 101 2 (.lit 0) (.sym N)]), (3, .pure true L), (4, .pure true D), (9, .pure false [.str fun _ => z', .bool ov']), (6, .pure true Q'), (7, .fix 0 o), (8, .pure false rs)] 10 (Re.at [(0, 0), (1, 1), (2, 2), (3, 3), (4, 4), (6, 6), (7, 7), (8, 8), (9, 9)] []) rfl ⟨C', G', ov', Q', z', rfl, rfl, rfl, h2, hS⟩
set_option maxHeartbeats 4000000 in
theorem rbeginS_lx (R : List Rw) (vs C G : List Int) (N W ph sp cy : Int) (P B V Q la : List PV) (m : Int) (ov : Bool) (h : RM R vs C G N W P B V Q la m) (A : List Int) (k : Int) (rs : List PV) (hrs : rs = ipv A) (hk : k = A.length) (hA : (A.length : Int) < 1000000) (hph : ph = 0) : CallF (fun _ => Tryz.prog) 46 [.ptr 0 (.lit 0), .sl 8 3 1 (.lit 0) (.sym k)] [(0, .mix [.ptr 1 (.lit 0), .sl 6 3 1 (.lit 0) (.sym W), .ptr 7 (.lit 0), .p (.int .i64 (.sym ph)), .p (.int .i64 (.sym sp)), .p (.int .i64 (.sym cy))]), (1, .mix [.ptr 2 (.lit 0), .sl 5 3 1 (.lit 0) (.sym W)]), (2, .mix [.sl 3 3 1 (.lit 0) (.sym N), .sl 4 120 8 (.lit 0) (.sym N)]), (3, .pure true P), (4, .pure true B), (5, .pure true V), (6, .pure true Q), (7, .mix [.p (.vsl (.sym m) true la), .p (.bool ov)]), (8, .pure false rs)] 9 (fun r h n => ∃ (C' G' : List Int) (ov' : Bool) (Q' la' : List PV) (m' : Int), r = .p (.int .i64 (.lit 0)) ∧ h = [(0, .mix [.ptr 1 (.lit 0), .sl 6 3 1 (.lit 0) (.sym W), .ptr 9 (.lit 0), .p (.int .i64 (.sym 1)), .p (.int .i64 (.sym sp)), .p (.int .i64 (.sym cy))]), (1, .mix [.ptr 2 (.lit 0), .sl 5 3 1 (.lit 0) (.sym W)]), (2, .mix [.sl 3 3 1 (.lit 0) (.sym N), .sl 4 120 8 (.lit 0) (.sym N)]), (3, .pure true P), (4, .pure true B), (5, .pure true V), (6, .pure true Q'), (9, .mix [.p (.vsl (.sym m') true la'), .p (.bool ov')]), (8, .pure false rs)] ∧ n = 10 ∧ RM R vs C' G' N W P B V Q' la' m' ∧ (C', G', ov') = begS R W A) := by
  have hCl := h.c; have hWn := h.w; have hNr := h.n; have hRr := h.r
  have hQl : Q.length = C.length := by rw [h.q, ipv_length]
  refine callF_of_body tok Tryz.func46 (by kernel_rfl) rfl rfl rfl ?_; conv => cbv
  refine Br.no (show ¬ (ph ≠ 0) by omega) ?_
  conv => cbv
  refine LoopF.mk (fun kk s => ∃ (i : Int) (C' : List Int) (Q' : List PV), s = ⟨.ptr 0 (.lit 0) :: .sl 8 3 1 (.lit 0) (.sym k) :: (undefs 3 ++ .p (.int .i64 (.sym i)) :: undefs 41), [(0, .mix [.ptr 1 (.lit 0), .sl 6 3 1 (.lit 0) (.sym W), .ptr 7 (.lit 0), .p (.int .i64 (.sym ph)), .p (.int .i64 (.sym sp)), .p (.int .i64 (.sym cy))]), (1, .mix [.ptr 2 (.lit 0), .sl 5 3 1 (.lit 0) (.sym W)]), (2, .mix [.sl 3 3 1 (.lit 0) (.sym N), .sl 4 120 8 (.lit 0) (.sym N)]), (3, .pure true P), (4, .pure true B), (5, .pure true V), (6, .pure true Q'), (7, .mix [.p (.vsl (.sym m) true la), .p (.bool ov)]), (8, .pure false rs)], 9⟩ ∧ 0 ≤ i ∧ i ≤ W ∧ Q' = ipv C' ∧ C' = List.replicate i.toNat 0 ++ C.drop i.toNat ∧ kk = (W - i).toNat) W.toNat _
    (Re.at [(0, 0), (1, 1), (2, 2), (3, 3), (4, 4), (5, 5), (6, 6), (7, 7), (8, 8)] []) ⟨0, C, Q, rfl, by omega, by omega, h.q, by simp, by omega⟩ ?_
  rintro kk s ⟨i, C', Q', rfl, hi0, hi1, hQ', hC', hkk⟩
  have hC'l : C'.length = C.length := by rw [hC', List.length_append, List.length_replicate, List.length_drop]; omega
  have hQ'l : Q'.length = C.length := by rw [hQ', ipv_length]; exact hC'l
  conv => cbv
  refine Br.mk (fun gi => ?_) (fun gi => ?_)
  · have gi : i < W := gi
    obtain ⟨k', rfl⟩ : ∃ k', kk = k' + 1 := ⟨kk - 1, by omega⟩
    conv => cbv
    refine Need.mk ⟨hi0, gi⟩ ?_
    conv => cbv
    refine Need.mk (by show i + 1 ≤ (Q'.length : Int); omega) ?_
    conv => cbv
    obtain ⟨C2, hC2⟩ : ∃ C2, C2 = C'.set i.toNat 0 := ⟨_, rfl⟩
    obtain ⟨Q3, hQ3⟩ : ∃ Q3, Q3 = ipv C2 := ⟨_, rfl⟩
    refine Upd.mk fun Q2 hQ2 => ?_
    have hle : pvles Q2 Q3 := by
      have hQ2 : Q2 = Q'.set i.toNat (.int .i64 (.lit 0)) := hQ2
      rw [hQ2, hQ3, hC2, hQ', ← ipv_set]
      exact pvles_set _ _ _ _ _ (pvles_refl _) (by simp [pvle, I.val])
    unfold pvles at hle
    clear hQ2
    have hC3 : C2 = List.replicate (i.toNat + 1) 0 ++ C.drop (i.toNat + 1) := by
      rw [hC2, hC', List.set_append_right _ _ (by rw [List.length_replicate]; omega), List.length_replicate, Nat.sub_self, List.drop_eq_getElem_cons (by omega), List.set_cons_zero, List.replicate_succ', List.append_assoc]
      rfl
    conv => cbv
    refine Fit.mk (by show (-9223372036854775808 : Int) ≤ i + 1; omega) (by show i + 1 ≤ 9223372036854775807; omega) fun i2 hi2 => ?_
    have hi2 : i2 = i + 1 := hi2
    rw [show i.toNat + 1 = i2.toNat by omega] at hC3
    conv => cbv
    refine Again.mk k' _ (Nat.lt_succ_self _) (Re.at [(0, 0), (1, 1), (2, 2), (3, 3), (4, 4), (5, 5), (6, 6), (7, 7), (8, 8)] []) ⟨i2, C2, Q3, rfl, by omega, by omega, hQ3, hC3, by omega⟩
  · have gi : ¬ i < W := gi
    have hC' : C' = List.replicate W.toNat 0 := by rw [hC', show i.toNat = W.toNat by omega, List.drop_of_length_le (by omega), List.append_nil]
    have hM0 : RM R vs (List.replicate W.toNat 0) [] N W P B V Q' [] 0 := ⟨h.a, h.n, h.r, h.w, h.p, h.b, h.v, by rw [hQ', hC'], by rw [List.length_replicate]; omega, rfl, rfl, fun x hx => (by cases hx), Nat.zero_le _⟩
    clear hQ' hC' hC'l hQ'l
    conv => cbv
    refine LoopF.mk (fun kk s => ∃ (i : Int) (C' G' : List Int) (ov' : Bool) (Q' la' : List PV) (m' : Int), s = ⟨.ptr 0 (.lit 0) :: .sl 8 3 1 (.lit 0) (.sym k) :: (undefs 4 ++ .p (.int .i64 (.sym i)) :: undefs 40), [(0, .mix [.ptr 1 (.lit 0), .sl 6 3 1 (.lit 0) (.sym W), .ptr 9 (.lit 0), .p (.int .i64 (.sym 1)), .p (.int .i64 (.sym sp)), .p (.int .i64 (.sym cy))]), (1, .mix [.ptr 2 (.lit 0), .sl 5 3 1 (.lit 0) (.sym W)]), (2, .mix [.sl 3 3 1 (.lit 0) (.sym N), .sl 4 120 8 (.lit 0) (.sym N)]), (3, .pure true P), (4, .pure true B), (5, .pure true V), (6, .pure true Q'), (9, .mix [.p (.vsl (.sym m') true la'), .p (.bool ov')]), (8, .pure false rs)], 10⟩ ∧ 0 ≤ i ∧ i ≤ k ∧ RM R vs C' G' N W P B V Q' la' m' ∧ (C', G', ov') = begS R W (A.take i.toNat) ∧ kk = (k - i).toNat) k.toNat _
      (Re.at [(0, 0), (1, 1), (2, 2), (3, 3), (4, 4), (5, 5), (6, 6), (8, 8), (9, 9)] []) ⟨0, _, _, _, Q', [], 0, rfl, by omega, by omega, hM0, rfl, by omega⟩ ?_
    clear hM0
    rintro kk s ⟨i, C', G', ov', Q', la', m', rfl, hi0, hi1, h2, hS, hk2⟩
    conv => cbv
    refine Br.mk (fun gi => ?_) (fun gi => ?_)
    · have gi : i < k := gi
      obtain ⟨k', rfl⟩ : ∃ k', kk = k' + 1 := ⟨kk - 1, by omega⟩
      obtain ⟨a, ha⟩ : ∃ a, A[i.toNat]? = some a := ⟨_, List.getElem?_eq_getElem (by omega)⟩
      have hc : rs[i.toNat]? = some (.int .i64 (.sym a)) := by rw [hrs]; exact ipv_get ha
      conv => cbv
      refine Need.mk ⟨hi0, gi⟩ ?_
      conv => cbv
      refine Cell.at i _ hc (by simp [I.val]) rfl ?_
      conv => cbv
      refine callF_frame (rshade_lx R vs C' G' N W 1 sp cy P B V Q' la' m' ov' h2 a) [(0, 0), (1, 1), (2, 2), (3, 3), (4, 4), (5, 5), (6, 6), (7, 9)] rfl (by simp [hmapOk, nget, hget, renB, okB, renV, renVs, rn, okVs, okV]) rfl rfl (fun r h' n' hrr => ?_)
      obtain ⟨C2, G2, ov2, Q2, la2, m2, e1, e2, e3, h3, hS2⟩ := hrr
      subst e1 e2 e3
      have hS3 : (C2, G2, ov2) = begS R W (A.take (i.toNat + 1)) := by
        rw [hS2, hS]
        unfold begS
        rw [List.take_add_one, ha, Option.toList_some, List.foldl_append]; rfl
      conv => cbv
      refine Fit.mk (by show (-9223372036854775808 : Int) ≤ i + 1; omega) (by show i + 1 ≤ 9223372036854775807; omega) fun i2 hi2 => ?_
      have hi2 : i2 = i + 1 := hi2
      rw [show i.toNat + 1 = i2.toNat by omega] at hS3
      conv => cbv
      refine Again.mk k' _ (Nat.lt_succ_self _) (Re.at [(0, 0), (1, 1), (2, 2), (3, 3), (4, 4), (5, 5), (6, 6), (8, 8), (9, 9)] []) ⟨i2, C2, G2, ov2, Q2, la2, m2, rfl, by omega, by omega, h3, hS3, by omega⟩
    · have gi : ¬ i < k := gi
      rw [List.take_of_length_le (by omega)] at hS
      conv => cbv
      refine RetF.mk [.p (.int .i64 (.lit 0))] [(0, .mix [.ptr 1 (.lit 0), .sl 6 3 1 (.lit 0) (.sym W), .ptr 9 (.lit 0), .p (.int .i64 (.sym 1)), .p (.int .i64 (.sym sp)), .p (.int .i64 (.sym cy))]), (1, .mix [.ptr 2 (.lit 0), .sl 5 3 1 (.lit 0) (.sym W)]), (2, .mix [.sl 3 3 1 (.lit 0) (.sym N), .sl 4 120 8 (.lit 0) (.sym N)]), (3, .pure true P), (4, .pure true B), (5, .pure true V), (6, .pure true Q'), (9, .mix [.p (.vsl (.sym m') true la'), .p (.bool ov')]), (8, .pure false rs)] 10 (Re.at [(0, 0), (1, 1), (2, 2), (3, 3), (4, 4), (5, 5), (6, 6), (8, 8), (9, 9)] []) rfl ⟨C', G', ov', Q', la', m', rfl, rfl, rfl, h2, hS⟩
end Go.Proofs.YtllafhhnciobhaaGreatDoor
