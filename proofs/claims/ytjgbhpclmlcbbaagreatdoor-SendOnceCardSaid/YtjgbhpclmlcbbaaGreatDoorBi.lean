/-
  The ground of the proof, part 9: the calculus and what is proved with it.
-/
import Derived.Test.YtjgbhpclmlcbbaaGreatDoorBh
import Derived.Test.YtjgbhpclmlcbbaaGreatDoorBg
import Derived.Test.YtjgbhpclmlcbbaaGreatDoorBc
namespace Go.Proofs.YtjgbhpclmlcbbaaGreatDoor
open Go Go.LX
set_option maxRecDepth 100000
set_option linter.unusedVariables false
set_option linter.unusedSimpArgs false
set_option maxHeartbeats 32000000
theorem inN_lx (l : List Int) (x m : Int) (ZL : List PV) (b : Bool) (hm : m = l.length) (hZ : ZL = ipv l) (hml : m ≤ 9223372036854775806) (hb : b = decide (x ∈ l)) : CallF (fun _ => Tryz.prog) 170 [.p (.vsl (.sym m) true ZL), i6 x] [] 0 (fun r h n => r = .p (.bool b) ∧ h = [] ∧ n = 0) := by
 refine callF_of_body tok Tryz.func170 (by kernel_rfl) rfl rfl rfl ?_; conv => cbv
 refine LoopF.mk (fun k s => ∃ i : Int, s = ⟨.p (.vsl (.sym m) true ZL) :: .p (.int .i64 (.sym x)) :: (undefs 3 ++ .p (.int .i64 (.sym i)) :: undefs 12), [], 0⟩ ∧ 0 ≤ i ∧ i ≤ m ∧ x ∉ l.take i.toNat ∧ k = (m - i).toNat) m.toNat _
  (Re.at [] []) ⟨0, rfl, by omega, by omega, by simp, by omega⟩ ?_
 rintro k s ⟨i, rfl, hi0, hi1, hnot, hk⟩
 conv => cbv
 refine Br.mk (fun gi => ?_) (fun gi => ?_)
 ·have gi : i < m := gi
  obtain ⟨k', rfl⟩ : ∃ k', k = k' + 1 := ⟨k - 1, by omega⟩
  obtain ⟨z, hz⟩ : ∃ z, l[i.toNat]? = some z := ⟨_, List.getElem?_eq_getElem (by omega)⟩
  have hc : ZL[i.toNat]? = some (.int .i64 (.sym z)) := by rw [hZ]; exact ipv_get hz
  conv => cbv
  refine Need.mk ⟨hi0, by show i < m; omega⟩ ?_
  conv => cbv
  refine Cell.at i _ hc (by simp [I.val]) rfl ?_
  conv => cbv
  refine Br.mk (fun ge => ?_) (fun ge => ?_)
  ·have ge : z = x := ge
   have hbt : b = true := by rw [hb]; exact decide_eq_true (by rw [← ge]; exact List.mem_of_getElem? hz)
   subst hbt
   conv => cbv
   refine RetF.mk [.p (.bool true)] [] 0 (Re.at [] []) rfl ⟨rfl, rfl, rfl⟩
  ·have ge : ¬ z = x := ge
   conv => cbv
   refine Fit.mk (by show (-9223372036854775808 : Int) ≤ i + 1; omega) (by show i + 1 ≤ 9223372036854775807; omega) fun i2 hi2 => ?_
   have hi2 : i2 = i + 1 := hi2
   have hn2 : x ∉ l.take i2.toNat := by
    rw [show i2.toNat = i.toNat + 1 by omega, List.take_add_one, hz]
    intro h
    rcases List.mem_append.1 h with h | h
    ·exact hnot h
    ·exact ge (by simp at h; exact h.symm)
   conv => cbv
   refine Again.mk k' _ (Nat.lt_succ_self _) (Re.at [] []) ⟨i2, rfl, by omega, by omega, hn2, by omega⟩
 ·have gi : ¬ i < m := gi
  have hbt : b = false := by
   rw [hb]
   rw [List.take_of_length_le (by omega)] at hnot
   exact decide_eq_false hnot
  subst hbt
  conv => cbv
  refine RetF.mk [.p (.bool false)] [] 0 (Re.at [] []) rfl ⟨rfl, rfl, rfl⟩
theorem rends_lx (y0 y1 y2 y3 y4 y5 y6 y7 y8 : Int) (d : Bool) : CallF (fun _ => Tryz.prog) 131 [.agg [i6 y0, i6 y1, i6 y2, i6 y3, i6 y4, i6 y5, i6 y6, i6 y7, i6 y8], .p (.bool d)] [] 0 (fun r h n => (∃ a b : Int, r = .tup [i6 a, i6 b] ∧ a = (if d then y7 else y5) ∧ b = (if d then y8 else y6)) ∧ h = [] ∧ n = 0) := by
 cases d with
 | false =>
  refine callF_of_body tok Tryz.func131 (by kernel_rfl) rfl rfl rfl ?_; conv => cbv
  refine drawn_sound tok (by kernel_rfl) [] [0, 1, 2, 3, 4, 5] (by kernel_rfl) ?_; conv => cbv
  refine RetF.mk [i6 y5, i6 y6] [] 0 (Re.at [] []) rfl ⟨⟨y5, y6, rfl, rfl, rfl⟩, rfl, rfl⟩
 | true =>
  refine callF_of_body tok Tryz.func131 (by kernel_rfl) rfl rfl rfl ?_; conv => cbv
  refine drawn_sound tok (by kernel_rfl) [] [0, 1, 2, 3, 4, 5] (by kernel_rfl) ?_; conv => cbv
  refine RetF.mk [i6 y7, i6 y8] [] 0 (Re.at [] []) rfl ⟨⟨y7, y8, rfl, rfl, rfl⟩, rfl, rfl⟩
theorem turned0_lx (hd tl y0 y1 y2 y3 y4 y5 y6 y7 y8 : Int) : CallF (fun _ => Tryz.prog) 134 [.agg [i6 y0, i6 y1, i6 y2, i6 y3, i6 y4, i6 y5, i6 y6, i6 y7, i6 y8], .p (.bool false), i6 hd, i6 tl] [] 0 (fun r h n => r = .agg [i6 y0, i6 y1, i6 y2, i6 y3, i6 y4, i6 hd, i6 tl, i6 y7, i6 y8] ∧ h = [] ∧ n = 0) := by
 refine callF_of_body tok Tryz.func134 (by kernel_rfl) rfl rfl rfl ?_; conv => cbv
 refine RetF.mk [.agg [i6 y0, i6 y1, i6 y2, i6 y3, i6 y4, i6 hd, i6 tl, i6 y7, i6 y8]] [] 0 (Re.at [] []) rfl ⟨rfl, rfl, rfl⟩
theorem turned1_lx (hd tl y0 y1 y2 y3 y4 y5 y6 y7 y8 : Int) : CallF (fun _ => Tryz.prog) 134 [.agg [i6 y0, i6 y1, i6 y2, i6 y3, i6 y4, i6 y5, i6 y6, i6 y7, i6 y8], .p (.bool true), i6 hd, i6 tl] [] 0 (fun r h n => r = .agg [i6 y0, i6 y1, i6 y2, i6 y3, i6 y4, i6 y5, i6 y6, i6 hd, i6 tl] ∧ h = [] ∧ n = 0) := by
 refine callF_of_body tok Tryz.func134 (by kernel_rfl) rfl rfl rfl ?_; conv => cbv
 refine RetF.mk [.agg [i6 y0, i6 y1, i6 y2, i6 y3, i6 y4, i6 y5, i6 y6, i6 hd, i6 tl]] [] 0 (Re.at [] []) rfl ⟨rfl, rfl, rfl⟩
theorem rnextM_lx (R : List Rw) (vs C G : List Int) (N W ph sp cy : Int) (P B V Q la : List PV) (m : Int) (ov : Bool) (h : RM R vs C G N W P B V Q la m) (M : Hp) (hM : Cont R vs M) (hph : ph = 0) (a x z0 z1 z2 z3 z4 z5 z6 : Int) (hMa : M a = some (3, [z0, z1, z2, z3, z4, z5, z6])) (hx : -1 ≤ x) (hx2 : b62 x) : CallF (fun _ => Tryz.prog) 133 [.ptr 0 (.lit 0), i6 a, i6 x] [hpR 0 1 6 3 W 7 ph sp cy, hpB 1 2 5 3 W, hpD 2 3 3 1 N 4 209 8 N, hpP 3 P, hpP 4 B, hpP 5 V, hpP 6 Q, (7, .mix [.p (.vsl (.sym m) true la), .p (.bool ov)])] 8 (fun r h n => ∃ (vs' : List Int) (V' : List PV), r = .tup [] ∧ h = [hpR 0 1 6 3 W 7 ph sp cy, hpB 1 2 5 3 W, hpD 2 3 3 1 N 4 209 8 N, hpP 3 P, hpP 4 B, hpP 5 V', hpP 6 Q, (7, .mix [.p (.vsl (.sym m) true la), .p (.bool ov)])] ∧ n = 8 ∧ RM R vs' C G N W P B V' Q la m ∧ Cont R vs' (upd M a (3, [z0, z1, z2, x, z4, z5, z6]))) := by
 obtain ⟨hp, hb, hw⟩ := hM.sudog h.a hMa
 have hp' : ∀ q ∈ [z0, z1, x, z6], -1 ≤ q := by
  simp only [List.forall_mem_cons] at hp ⊢
  obtain ⟨p0, p1, p3, p6, _⟩ := hp
  exact ⟨p0, p1, hx, p6, fun q hq => by cases hq⟩
 have hb' : ∀ q ∈ [z0, z1, x, z4, z5, z6], b62 q := by
  simp only [List.forall_mem_cons] at hb ⊢
  obtain ⟨b0, b1, b3, b4, b5, b6, _⟩ := hb
  exact ⟨b0, b1, hx2, b4, b5, b6, fun q hq => by cases hq⟩
 refine callF_of_body tok Tryz.func133 (by kernel_rfl) rfl rfl rfl ?_; conv => cbv
 refine cfr (rsudogM_lx R vs C G N W ph sp cy P B V Q la m ov h M hM a z0 z1 z2 z3 z4 z5 z6 hMa) [(0, 0), (1, 1), (2, 2), (3, 3), (4, 4), (5, 5), (6, 6), (7, 7)] (fun r h' n' hrr => ?_)
 obtain ⟨⟨e0, e1, he0⟩, e2, e3⟩ := hrr
 subst e1 e2 e3
 conv => cbv
 refine Br.yes (show e0 = 0 from he0) ?_
 conv => cbv
 refine cfr (rPutSudogM_lx R vs C G N W ph sp cy P B V Q la m ov h M hM hph a z0 z1 z2 x z4 z5 z6 [z0, z1, z2, z3, z4, z5, z6] hMa rfl hb' hw hp') [(0, 0), (1, 1), (2, 2), (3, 3), (4, 4), (5, 5), (6, 6), (7, 7)] (fun r h' n' hrr => ?_)
 obtain ⟨e, vs', V', e1, he, e2, e3, h1, hM'⟩ := hrr
 subst e1 e2 e3
 conv => cbv
 refine RetF.mk [] [hpR 0 1 6 3 W 7 ph sp cy, hpB 1 2 5 3 W, hpD 2 3 3 1 N 4 209 8 N, hpP 3 P, hpP 4 B, hpP 5 V', hpP 6 Q, (7, .mix [.p (.vsl (.sym m) true la), .p (.bool ov)])] 8 (Re.at [(0, 0), (1, 1), (2, 2), (3, 3), (4, 4), (5, 5), (6, 6), (7, 7)] []) rfl ⟨vs', V', rfl, rfl, rfl, h1, hM'⟩
theorem rAllList_lx (R : List Rw) (vs C G : List Int) (N W ph sp cy : Int) (P B V Q la : List PV) (m : Int) (ov : Bool) (h : RM R vs C G N W P B V Q la m) (M : Hp) (hM : Cont R vs M) (q : Qs) (hY : Sys M q) (c : Int) (d : Bool) (hc : ∃ F, M c = some (1, F)) : CallF (fun _ => Tryz.prog) 132 [.ptr 0 (.lit 0), i6 c, .p (.bool d)] [hpR 0 1 6 3 W 7 ph sp cy, hpB 1 2 5 3 W, hpD 2 3 3 1 N 4 209 8 N, hpP 3 P, hpP 4 B, hpP 5 V, hpP 6 Q, (7, .mix [.p (.vsl (.sym m) true la), .p (.bool ov)])] 8 (fun r h n => ∃ (ml : Int) (cells : List PV), r = .sl 8 3 1 (.lit 0) (.sym ml) ∧ h = [hpR 0 1 6 3 W 7 ph sp cy, hpB 1 2 5 3 W, hpD 2 3 3 1 N 4 209 8 N, hpP 3 P, hpP 4 B, hpP 5 V, hpP 6 Q, (7, .mix [.p (.vsl (.sym m) true la), .p (.bool ov)]), hpP 8 cells] ∧ n = 9 ∧ ml = (q c d).length ∧ cells = ipv (q c d)) := by
 have hlen := hY.len h.a hM c d
 have hNR := h.n; have hRr := h.r
 obtain ⟨F, hF⟩ := hc
 obtain ⟨y0, y1, y2, y3, y4, y5, y6, y7, y8, rfl⟩ := hch9 hY c F hF
 refine callF_of_body tok Tryz.func132 (by kernel_rfl) rfl rfl rfl ?_; conv => cbv
 refine cfr (rchanM_lx R vs C G N W ph sp cy P B V Q la m ov h M hM c y0 y1 y2 y3 y4 y5 y6 y7 y8 hF) [(0, 0), (1, 1), (2, 2), (3, 3), (4, 4), (5, 5), (6, 6), (7, 7)] (fun r h' n' hrr => ?_)
 obtain ⟨⟨e, e1, he⟩, e2, e3⟩ := hrr
 subst e1 e2 e3
 conv => cbv
 refine Br.no (show ¬ ¬ (e = 0) from fun q => q he) ?_
 conv => cbv
 refine callF_frame (rends_lx y0 y1 y2 y3 y4 y5 y6 y7 y8 d) [] rfl trivial rfl rfl (fun r h' n' hrr => ?_)
 obtain ⟨⟨at0, at1, e1, hat0, hat1⟩, e2, e3⟩ := hrr
 subst e1 e2 e3
 conv => cbv
 have hlk := hY.lnk hF
 rw [lnk_chan] at hlk
 simp only [Prod.mk.injEq, List.cons.injEq, true_and, and_true] at hlk
 obtain ⟨hl5, hl6, hl7, hl8⟩ := hlk
 obtain ⟨l0, hl0⟩ : ∃ l0, l0 = q c d := ⟨_, rfl⟩
 have hat : at0 = (l0[0]?).getD (-1) := by
  have hh : hdQ l0 = (l0[0]?).getD (-1) := by unfold hdQ; rw [List.head?_eq_getElem?]
  rw [hat0, ← hh, hl0]
  cases d with
  | false => exact hl5.symm
  | true => exact hl7.symm
 rw [← hl0] at hlen ⊢
 have hnd : l0.Nodup := hl0 ▸ hY.nd c d
 have hneg := neg_none h.a hM
 refine LoopF.mk (fun kk s => ∃ (i at_ : Int) (dn : List Int) (cells : List PV), s = ⟨.ptr 0 (.lit 0) :: (undefs 8 ++ .sl 9 3 1 (.lit 0) (.sym i) :: .p (.int .i64 (.sym at_)) :: undefs 37), [hpR 0 1 6 3 W 7 ph sp cy, hpB 1 2 5 3 W, hpD 2 3 3 1 N 4 209 8 N, hpP 3 P, hpP 4 B, hpP 5 V, hpP 6 Q, (7, .mix [.p (.vsl (.sym m) true la), .p (.bool ov)]), hpP 9 cells], 10⟩ ∧ 0 ≤ i ∧ i ≤ l0.length ∧ kk = ((l0.length : Int) - i).toNat ∧ dn = l0.take i.toNat ∧ cells = ipv dn ∧ at_ = (l0[i.toNat]?).getD (-1)) l0.length _
  (Re.at [(0, 0), (1, 1), (2, 2), (3, 3), (4, 4), (5, 5), (6, 6), (7, 7)] [9]) ⟨0, at0, [], [], rfl, by omega, by omega, by omega, rfl, rfl, hat⟩ ?_
 rintro kk s ⟨i, at_, dn, cells, rfl, hi0, hi1, hkk, hdn, hcs, hat_⟩
 have hi1 : i ≤ (l0.length : Int) := hi1
 have hkk : kk = ((l0.length : Int) - i).toNat := hkk
 have hdl : dn.length = i.toNat := by rw [hdn, List.length_take]; omega
 by_cases hz : ∃ F, M at_ = some (3, F)
 ·obtain ⟨Fz, hFz⟩ := hz
  obtain ⟨z0, z1, z2, z3, z4, z5, z6, rfl⟩ := hsu7 hY at_ Fz hFz
  have hil : i < (l0.length : Int) := by
   rcases Int.lt_or_le i l0.length with h1 | h1
   ·exact h1
   ·rw [List.getElem?_eq_none (by omega)] at hat_
    rw [show at_ = -1 from hat_, hneg] at hFz
    cases hFz
  obtain ⟨x, hx⟩ : ∃ x, l0[i.toNat]? = some x := ⟨_, List.getElem?_eq_getElem (by omega)⟩
  obtain rfl : at_ = x := by rw [hat_, hx]; rfl
  have hni : at_ ∉ dn := by
   rw [hdn]
   intro hm
   obtain ⟨k, hk⟩ := List.getElem?_of_mem hm
   rw [List.getElem?_take] at hk
   split at hk
   ·rename_i hkl
    have := (List.getElem?_inj (by have := (List.getElem?_eq_some_iff.1 hk).1; omega) hnd).1 (hk.trans hx.symm)
    omega
   ·cases hk
  conv => cbv
  refine cfr (rsudogM_lx R vs C G N W ph sp cy P B V Q la m ov h M hM at_ z0 z1 z2 z3 z4 z5 z6 hFz) [(0, 0), (1, 1), (2, 2), (3, 3), (4, 4), (5, 5), (6, 6), (7, 7)] (fun r h' n' hrr => ?_)
  obtain ⟨⟨e5, e1, he5⟩, e2, e3⟩ := hrr
  subst e1 e2 e3
  conv => cbv
  refine Br.no (show ¬ ¬ (e5 = 0) from fun q => q he5) ?_
  conv => cbv
  refine callF_lend (inN_lx dn at_ i cells false (by omega) hcs (by omega) (decide_eq_false hni).symm) (by simp [lends, lendV, hget, I.val, pvle]) (fun r h' n' ⟨e1, e2, e3⟩ => by subst e1 e2; exact ⟨trivial, trivial⟩) (fun r h' n' ⟨e1, e2, e3⟩ => ?_)
  subst e1 e2 e3
  conv => cbv
  refine drawn_sound tok (by kernel_rfl) [(2, [5, 4, 0]), (3, [5, 4])] [0, 1, 4, 5, 2, 3, 6, 7] (by kernel_rfl) ?_; conv => cbv
  have hcl : cells.length = dn.length := by rw [hcs, ipv_length]
  refine Room.new rfl ?_
  conv => cbv
  refine Room.new ⟨?_, ?_, ?_⟩ ?_
  ·show (cells.length : Int) = i * 1; omega
  ·show (i + 1) * 8 ≤ 140737488355328; omega
  ·show i + 1 ≤ 9223372036854775807; omega
  conv => cbv
  refine Upd.mk fun cells2 hcs2 => ?_
  have hcs2 : cells2 = cells ++ [.int .i64 (.sym at_)] := hcs2
  have hcs3 : cells2 = ipv (dn ++ [at_]) := by rw [hcs2, hcs, ← ipv_app]; rfl
  conv => cbv
  refine Sum.mk fun j2 hj2 => ?_
  have hj2 : j2 = i + 1 := hj2
  conv => cbv
  have hdn3 : dn ++ [at_] = l0.take j2.toNat := by rw [hdn, show j2.toNat = i.toNat + 1 by omega, List.take_add_one, hx]; rfl
  have hnx : z3 = (l0[j2.toNat]?).getD (-1) := by
   have h1 := hY.lnk hFz
   have hsm : at_ ∈ q c d := hl0 ▸ List.mem_of_getElem? hx
   obtain ⟨g, w, n, p, r, m, e⟩ := hY.sg c d at_ hsm
   rw [hFz] at e
   simp only [Option.some.injEq, Prod.mk.injEq, List.cons.injEq, true_and, and_true] at e
   obtain ⟨_, ec, _⟩ := e
   rw [lnk_sudog, ec, hY.nxt hsm, sucL_get _ _ (hY.nd c d) (hl0 ▸ hx)] at h1
   simp only [Prod.mk.injEq, List.cons.injEq, true_and, and_true] at h1
   rw [show j2.toNat = i.toNat + 1 by omega, hl0]
   exact h1.symm
  refine Again.mk ((l0.length : Int) - j2).toNat _ (by omega) (Re.at [(0, 0), (1, 1), (2, 2), (3, 3), (4, 4), (5, 5), (6, 6), (7, 7), (12, 9)] []) ⟨j2, z3, dn ++ [at_], cells2, rfl, (show (0 : Int) ≤ j2 by omega), (show j2 ≤ (l0.length : Int) by omega), rfl, hdn3, hcs3, hnx⟩
 ·have hno : ∀ F, M at_ ≠ some (3, F) := fun F e => hz ⟨F, e⟩
  have hil : i = (l0.length : Int) := by
   rcases Int.lt_or_le i l0.length with h1 | h1
   ·obtain ⟨x, hx⟩ : ∃ x, l0[i.toNat]? = some x := ⟨_, List.getElem?_eq_getElem (by omega)⟩
    obtain ⟨g, w, n, p, r, m, e⟩ := hY.sg c d x (hl0 ▸ List.mem_of_getElem? hx)
    rw [hat_, hx] at hno
    exact absurd e (hno _)
   ·omega
  have hdn2 : dn = l0 := by rw [hdn, hil]; simp
  conv => cbv
  refine cfr (rsudogNoM_lx R vs C G N W ph sp cy P B V Q la m ov h M hM at_ hno) [(0, 0), (1, 1), (2, 2), (3, 3), (4, 4), (5, 5), (6, 6), (7, 7)] (fun r h' n' hrr => ?_)
  obtain ⟨⟨u0, u1, u2, u3, u4, u5, u6, e5, e1, he5, hzz⟩, e2, e3⟩ := hrr
  subst e1 e2 e3
  conv => cbv
  refine Br.yes (show ¬ (e5 = 0) by omega) ?_
  conv => cbv
  refine RetF.mk [.sl 8 3 1 (.lit 0) (.sym i)] [hpR 0 1 6 3 W 7 ph sp cy, hpB 1 2 5 3 W, hpD 2 3 3 1 N 4 209 8 N, hpP 3 P, hpP 4 B, hpP 5 V, hpP 6 Q, (7, .mix [.p (.vsl (.sym m) true la), .p (.bool ov)]), hpP 8 cells] 9 (Re.at [(0, 0), (1, 1), (2, 2), (3, 3), (4, 4), (5, 5), (6, 6), (7, 7), (9, 8)] []) rfl ⟨i, cells, rfl, rfl, rfl, hil, by rw [hcs, hdn2]⟩
theorem upd_comm {M : Hp} {a b : Int} {v w : Int × List Int} (h : a ≠ b) : upd (upd M a v) b w = upd (upd M b w) a v := by
 funext x
 unfold upd
 by_cases e1 : x = a
 ·subst e1; rw [if_neg h, if_pos rfl, if_pos rfl]
 ·by_cases e2 : x = b
  ·subst e2; rw [if_pos rfl, if_neg e1, if_pos rfl]
  ·rw [if_neg e2, if_neg e1, if_neg e1, if_neg e2]
theorem rPush0_lx (R : List Rw) (vs C G : List Int) (N W ph sp cy : Int) (P B V Q la : List PV) (m : Int) (ov : Bool) (h : RM R vs C G N W P B V Q la m) (M : Hp) (hM : Cont R vs M) (q : Qs) (hY : Sys M q) (hph : ph = 0) (c s y0 y1 y2 y3 y4 y5 y6 y7 y8 g w n p r_ m_ : Int) (hMc : M c = some (1, [y0, y1, y2, y3, y4, y5, y6, y7, y8])) (hMs : M s = some (3, [g, c, w, n, p, r_, m_])) (hns : ∀ d, s ∉ q c d) : CallF (fun _ => Tryz.prog) 79 [.ptr 0 (.lit 0), i6 c, .p (.bool false), i6 s] [hpR 0 1 6 3 W 7 ph sp cy, hpB 1 2 5 3 W, hpD 2 3 3 1 N 4 209 8 N, hpP 3 P, hpP 4 B, hpP 5 V, hpP 6 Q, (7, .mix [.p (.vsl (.sym m) true la), .p (.bool ov)])] 8 (fun r h n => ∃ (e : Int) (vs' : List Int) (V' : List PV), r = .p (.int .i64 (.sym e)) ∧ e = 0 ∧ h = [hpR 0 1 6 3 W 7 ph sp cy, hpB 1 2 5 3 W, hpD 2 3 3 1 N 4 209 8 N, hpP 3 P, hpP 4 B, hpP 5 V', hpP 6 Q, (7, .mix [.p (.vsl (.sym m) true la), .p (.bool ov)])] ∧ n = 8 ∧ RM R vs' C G N W P B V' Q la m ∧ Cont R vs' (relink M (updQ q c false (q c false ++ [s])))) := by
 obtain ⟨hY2, hpe, hpn⟩ := hY.push (d := false) hMc hMs hns
 obtain ⟨hp, hb⟩ := hM.chan h.a hMc
 have hsl := hM.len h.a hMs
 have hRr := h.r
 have hcl := hY.len h.a hM c false
 have hs1 : -1 ≤ s := by omega
 have hs2 : b62 s := by unfold b62; omega
 have hsc : s ≠ c := fun e => by rw [e, hMc] at hMs; cases hMs
 have hh1 : -1 ≤ y5 := hp _ (by simp)
 have hh2 : b62 y5 := hb _ (by simp)
 have hm2 : b62 (-1) := by unfold b62; omega
 refine callF_of_body tok Tryz.func79 (by kernel_rfl) rfl rfl rfl ?_; conv => cbv
 refine cfr (rchanM_lx R vs C G N W ph sp cy P B V Q la m ov h M hM c y0 y1 y2 y3 y4 y5 y6 y7 y8 hMc) [(0, 0), (1, 1), (2, 2), (3, 3), (4, 4), (5, 5), (6, 6), (7, 7)] (fun r h' n' hrr => ?_)
 obtain ⟨⟨e0, e1, he0⟩, e2, e3⟩ := hrr
 subst e1 e2 e3
 conv => cbv
 refine Br.no (show ¬ ¬ (e0 = 0) from fun q => q he0) ?_
 conv => cbv
 refine cfr (rsudogM_lx R vs C G N W ph sp cy P B V Q la m ov h M hM s g c w n p r_ m_ hMs) [(0, 0), (1, 1), (2, 2), (3, 3), (4, 4), (5, 5), (6, 6), (7, 7)] (fun r h' n' hrr => ?_)
 obtain ⟨⟨e5, e1, he5⟩, e2, e3⟩ := hrr
 subst e1 e2 e3
 conv => cbv
 refine Br.no (show ¬ ¬ (e5 = 0) from fun q => q he5) ?_
 conv => cbv
 refine callF_frame (rends_lx y0 y1 y2 y3 y4 y5 y6 y7 y8 false) [] rfl trivial rfl rfl (fun r h' n' hrr => ?_)
 obtain ⟨⟨hd, tl, e1, hhd, htl⟩, e2, e3⟩ := hrr
 subst e1 e2 e3
 obtain rfl : y5 = hd := hhd.symm
 conv => cbv
 refine cfr (rAllList_lx R vs C G N W ph sp cy P B V Q la m ov h M hM q hY c false ⟨_, hMc⟩) [(0, 0), (1, 1), (2, 2), (3, 3), (4, 4), (5, 5), (6, 6), (7, 7)] (fun r h' n' hrr => ?_)
 obtain ⟨ml, cells, e1, e2, e3, hml, hcel⟩ := hrr
 subst e1 e2 e3
 conv => cbv
 refine Br.mk (fun gm => ?_) (fun gm => ?_)
 ·have gm : ml = 0 := gm
  have he : q c false = [] := List.eq_nil_of_length_eq_zero (by omega)
  have hp2 : ∀ q ∈ [y4, s, s, y7, y8], -1 ≤ q := by
   simp only [List.forall_mem_cons] at hp ⊢
   obtain ⟨p4, p5, p6, p7, p8, _⟩ := hp
   exact ⟨p4, hs1, hs1, p7, p8, fun q hq => by cases hq⟩
  have hb2 : ∀ q ∈ [y0, y1, y2, y3, y4, s, s, y7, y8], b62 q := by
   simp only [List.forall_mem_cons] at hb ⊢
   obtain ⟨b0, b1, b2, b3, b4, b5, b6, b7, b8, _⟩ := hb
   exact ⟨b0, b1, b2, b3, b4, hs2, hs2, b7, b8, fun q hq => by cases hq⟩
  conv => cbv
  refine CallF.le (args0 := [.ptr 0 (.lit 0), i6 s, i6 (-1)]) (cfr (rnextM_lx R vs C G N W ph sp cy P B V Q la m ov h M hM hph s (-1) g c w n p r_ m_ hMs (by decide) hm2) [(0, 0), (1, 1), (2, 2), (3, 3), (4, 4), (5, 5), (6, 6), (7, 7)] (fun r h' n' hrr => ?_)) (by simp [ales, ale, pvle, I.val])
  obtain ⟨vs1, V1, e1, e2, e3, h1, c1⟩ := hrr
  subst e1 e2 e3
  conv => cbv
  refine CallF.le (args0 := [.agg [i6 y0, i6 y1, i6 y2, i6 y3, i6 y4, i6 y5, i6 y6, i6 y7, i6 y8], .p (.bool false), i6 s, i6 s]) (callF_frame (turned0_lx s s y0 y1 y2 y3 y4 y5 y6 y7 y8) [] rfl trivial rfl rfl (fun r h' n' ⟨e1, e2, e3⟩ => ?_)) (by simp [ales, ale, pvle, I.val])
  subst e1 e2 e3
  conv => cbv
  refine CallF.le (args0 := [.ptr 0 (.lit 0), i6 c, .agg [i6 y0, i6 y1, i6 y2, i6 y3, i6 y4, i6 s, i6 s, i6 y7, i6 y8]]) (cfr (rPutChanM_lx R vs1 C G N W ph sp cy P B V1 Q la m ov h1 _ c1 hph c y0 y1 y2 y3 y4 s s y7 y8 [y0, y1, y2, y3, y4, y5, y6, y7, y8] ((upd_ne hsc.symm).trans hMc) rfl hb2 hp2) [(0, 0), (1, 1), (2, 2), (3, 3), (4, 4), (5, 5), (6, 6), (7, 7)] (fun r h' n' hrr => ?_)) (by simp [ales, ale, pvle, I.val])
  obtain ⟨e, vs2, V2, e1, he_, e2, e3, h2, c2⟩ := hrr
  subst e1 e2 e3
  conv => cbv
  refine RetF.mk [i6 e] [hpR 0 1 6 3 W 7 ph sp cy, hpB 1 2 5 3 W, hpD 2 3 3 1 N 4 209 8 N, hpP 3 P, hpP 4 B, hpP 5 V2, hpP 6 Q, (7, .mix [.p (.vsl (.sym m) true la), .p (.bool ov)])] 8 (Re.at [(0, 0), (1, 1), (2, 2), (3, 3), (4, 4), (5, 5), (6, 6), (7, 7)] []) rfl ⟨e, vs2, V2, rfl, he_, rfl, rfl, h2, by rw [hpe he, upd_comm hsc.symm]; exact c2⟩
 ·have gm : ¬ ml = 0 := gm
  have he : q c false ≠ [] := fun e => gm (by rw [hml, e]; rfl)
  obtain ⟨gx, wx, nx, px, rx, mx, hMx, hxs, heq⟩ := hpn he
  obtain ⟨x, hx⟩ : ∃ x, x = ltQ (q c false) := ⟨_, rfl⟩
  rw [← hx] at hMx hxs heq
  have hxc : x ≠ c := fun e => by rw [e, hMc] at hMx; cases hMx
  obtain ⟨k1, hk1⟩ : ∃ k1, k1 = ml - 1 := ⟨_, rfl⟩
  have hcell : cells[k1.toNat]? = some (.int .i64 (.sym x)) := by
   rw [hcel]
   refine ipv_get ?_
   rw [hx]
   unfold ltQ
   rw [List.getLast?_eq_getElem?, show (q c false).length - 1 = k1.toNat by omega]
   obtain ⟨v, hv⟩ : ∃ v, (q c false)[k1.toNat]? = some v := ⟨_, List.getElem?_eq_getElem (by omega)⟩
   rw [hv]; rfl
  have hp2 : ∀ q ∈ [y4, y5, s, y7, y8], -1 ≤ q := by
   simp only [List.forall_mem_cons] at hp ⊢
   obtain ⟨p4, p5, p6, p7, p8, _⟩ := hp
   exact ⟨p4, hh1, hs1, p7, p8, fun q hq => by cases hq⟩
  have hb2 : ∀ q ∈ [y0, y1, y2, y3, y4, y5, s, y7, y8], b62 q := by
   simp only [List.forall_mem_cons] at hb ⊢
   obtain ⟨b0, b1, b2, b3, b4, b5, b6, b7, b8, _⟩ := hb
   exact ⟨b0, b1, b2, b3, b4, hh2, hs2, b7, b8, fun q hq => by cases hq⟩
  conv => cbv
  refine Fit.mk (by show (-9223372036854775808 : Int) ≤ ml - 1; omega) (by show ml - 1 ≤ 9223372036854775807; omega) fun k2 hk2 => ?_
  obtain rfl : k1 = k2 := hk1.trans (show k2 = ml - 1 from hk2).symm
  conv => cbv
  refine Need.mk (show 0 ≤ k1 ∧ k1 < ml by omega) ?_
  conv => cbv
  refine Cell.at k1 _ hcell (by simp [I.val]) rfl ?_
  conv => cbv
  refine CallF.le (args0 := [.ptr 0 (.lit 0), i6 x, i6 s]) (cfr (rnextM_lx R vs C G N W ph sp cy P B V Q la m ov h M hM hph x s gx c wx nx px rx mx hMx hs1 hs2) [(0, 0), (1, 1), (2, 2), (3, 3), (4, 4), (5, 5), (6, 6), (7, 7)] (fun r h' n' hrr => ?_)) (by simp [ales, ale, pvle, I.val])
  obtain ⟨vs1, V1, e1, e2, e3, h1, c1⟩ := hrr
  subst e1 e2 e3
  conv => cbv
  refine CallF.le (args0 := [.ptr 0 (.lit 0), i6 s, i6 (-1)]) (cfr (rnextM_lx R vs1 C G N W ph sp cy P B V1 Q la m ov h1 _ c1 hph s (-1) g c w n p r_ m_ ((upd_ne hxs.symm).trans hMs) (by decide) hm2) [(0, 0), (1, 1), (2, 2), (3, 3), (4, 4), (5, 5), (6, 6), (7, 7)] (fun r h' n' hrr => ?_)) (by simp [ales, ale, pvle, I.val])
  obtain ⟨vs2, V2, e1, e2, e3, h2, c2⟩ := hrr
  subst e1 e2 e3
  conv => cbv
  refine CallF.le (args0 := [.agg [i6 y0, i6 y1, i6 y2, i6 y3, i6 y4, i6 y5, i6 y6, i6 y7, i6 y8], .p (.bool false), i6 y5, i6 s]) (callF_frame (turned0_lx y5 s y0 y1 y2 y3 y4 y5 y6 y7 y8) [] rfl trivial rfl rfl (fun r h' n' ⟨e1, e2, e3⟩ => ?_)) (by simp [ales, ale, pvle, I.val])
  subst e1 e2 e3
  conv => cbv
  refine CallF.le (args0 := [.ptr 0 (.lit 0), i6 c, .agg [i6 y0, i6 y1, i6 y2, i6 y3, i6 y4, i6 y5, i6 s, i6 y7, i6 y8]]) (cfr (rPutChanM_lx R vs2 C G N W ph sp cy P B V2 Q la m ov h2 _ c2 hph c y0 y1 y2 y3 y4 y5 s y7 y8 [y0, y1, y2, y3, y4, y5, y6, y7, y8] ((upd_ne hsc.symm).trans ((upd_ne hxc.symm).trans hMc)) rfl hb2 hp2) [(0, 0), (1, 1), (2, 2), (3, 3), (4, 4), (5, 5), (6, 6), (7, 7)] (fun r h' n' hrr => ?_)) (by simp [ales, ale, pvle, I.val])
  obtain ⟨e, vs3, V3, e1, he_, e2, e3, h3, c3⟩ := hrr
  subst e1 e2 e3
  conv => cbv
  refine RetF.mk [i6 e] [hpR 0 1 6 3 W 7 ph sp cy, hpB 1 2 5 3 W, hpD 2 3 3 1 N 4 209 8 N, hpP 3 P, hpP 4 B, hpP 5 V3, hpP 6 Q, (7, .mix [.p (.vsl (.sym m) true la), .p (.bool ov)])] 8 (Re.at [(0, 0), (1, 1), (2, 2), (3, 3), (4, 4), (5, 5), (6, 6), (7, 7)] []) rfl ⟨e, vs3, V3, rfl, he_, rfl, rfl, h3, by rw [heq, upd_comm hsc.symm]; exact c3⟩
theorem rPush1_lx (R : List Rw) (vs C G : List Int) (N W ph sp cy : Int) (P B V Q la : List PV) (m : Int) (ov : Bool) (h : RM R vs C G N W P B V Q la m) (M : Hp) (hM : Cont R vs M) (q : Qs) (hY : Sys M q) (hph : ph = 0) (c s y0 y1 y2 y3 y4 y5 y6 y7 y8 g w n p r_ m_ : Int) (hMc : M c = some (1, [y0, y1, y2, y3, y4, y5, y6, y7, y8])) (hMs : M s = some (3, [g, c, w, n, p, r_, m_])) (hns : ∀ d, s ∉ q c d) : CallF (fun _ => Tryz.prog) 79 [.ptr 0 (.lit 0), i6 c, .p (.bool true), i6 s] [hpR 0 1 6 3 W 7 ph sp cy, hpB 1 2 5 3 W, hpD 2 3 3 1 N 4 209 8 N, hpP 3 P, hpP 4 B, hpP 5 V, hpP 6 Q, (7, .mix [.p (.vsl (.sym m) true la), .p (.bool ov)])] 8 (fun r h n => ∃ (e : Int) (vs' : List Int) (V' : List PV), r = .p (.int .i64 (.sym e)) ∧ e = 0 ∧ h = [hpR 0 1 6 3 W 7 ph sp cy, hpB 1 2 5 3 W, hpD 2 3 3 1 N 4 209 8 N, hpP 3 P, hpP 4 B, hpP 5 V', hpP 6 Q, (7, .mix [.p (.vsl (.sym m) true la), .p (.bool ov)])] ∧ n = 8 ∧ RM R vs' C G N W P B V' Q la m ∧ Cont R vs' (relink M (updQ q c true (q c true ++ [s])))) := by
 obtain ⟨hY2, hpe, hpn⟩ := hY.push (d := true) hMc hMs hns
 obtain ⟨hp, hb⟩ := hM.chan h.a hMc
 have hsl := hM.len h.a hMs
 have hRr := h.r
 have hcl := hY.len h.a hM c true
 have hs1 : -1 ≤ s := by omega
 have hs2 : b62 s := by unfold b62; omega
 have hsc : s ≠ c := fun e => by rw [e, hMc] at hMs; cases hMs
 have hh1 : -1 ≤ y7 := hp _ (by simp)
 have hh2 : b62 y7 := hb _ (by simp)
 have hm2 : b62 (-1) := by unfold b62; omega
 refine callF_of_body tok Tryz.func79 (by kernel_rfl) rfl rfl rfl ?_; conv => cbv
 refine cfr (rchanM_lx R vs C G N W ph sp cy P B V Q la m ov h M hM c y0 y1 y2 y3 y4 y5 y6 y7 y8 hMc) [(0, 0), (1, 1), (2, 2), (3, 3), (4, 4), (5, 5), (6, 6), (7, 7)] (fun r h' n' hrr => ?_)
 obtain ⟨⟨e0, e1, he0⟩, e2, e3⟩ := hrr
 subst e1 e2 e3
 conv => cbv
 refine Br.no (show ¬ ¬ (e0 = 0) from fun q => q he0) ?_
 conv => cbv
 refine cfr (rsudogM_lx R vs C G N W ph sp cy P B V Q la m ov h M hM s g c w n p r_ m_ hMs) [(0, 0), (1, 1), (2, 2), (3, 3), (4, 4), (5, 5), (6, 6), (7, 7)] (fun r h' n' hrr => ?_)
 obtain ⟨⟨e5, e1, he5⟩, e2, e3⟩ := hrr
 subst e1 e2 e3
 conv => cbv
 refine Br.no (show ¬ ¬ (e5 = 0) from fun q => q he5) ?_
 conv => cbv
 refine callF_frame (rends_lx y0 y1 y2 y3 y4 y5 y6 y7 y8 true) [] rfl trivial rfl rfl (fun r h' n' hrr => ?_)
 obtain ⟨⟨hd, tl, e1, hhd, htl⟩, e2, e3⟩ := hrr
 subst e1 e2 e3
 obtain rfl : y7 = hd := hhd.symm
 conv => cbv
 refine cfr (rAllList_lx R vs C G N W ph sp cy P B V Q la m ov h M hM q hY c true ⟨_, hMc⟩) [(0, 0), (1, 1), (2, 2), (3, 3), (4, 4), (5, 5), (6, 6), (7, 7)] (fun r h' n' hrr => ?_)
 obtain ⟨ml, cells, e1, e2, e3, hml, hcel⟩ := hrr
 subst e1 e2 e3
 conv => cbv
 refine Br.mk (fun gm => ?_) (fun gm => ?_)
 ·have gm : ml = 0 := gm
  have he : q c true = [] := List.eq_nil_of_length_eq_zero (by omega)
  have hp2 : ∀ q ∈ [y4, y5, y6, s, s], -1 ≤ q := by
   simp only [List.forall_mem_cons] at hp ⊢
   obtain ⟨p4, p5, p6, p7, p8, _⟩ := hp
   exact ⟨p4, p5, p6, hs1, hs1, fun q hq => by cases hq⟩
  have hb2 : ∀ q ∈ [y0, y1, y2, y3, y4, y5, y6, s, s], b62 q := by
   simp only [List.forall_mem_cons] at hb ⊢
   obtain ⟨b0, b1, b2, b3, b4, b5, b6, b7, b8, _⟩ := hb
   exact ⟨b0, b1, b2, b3, b4, b5, b6, hs2, hs2, fun q hq => by cases hq⟩
  conv => cbv
  refine CallF.le (args0 := [.ptr 0 (.lit 0), i6 s, i6 (-1)]) (cfr (rnextM_lx R vs C G N W ph sp cy P B V Q la m ov h M hM hph s (-1) g c w n p r_ m_ hMs (by decide) hm2) [(0, 0), (1, 1), (2, 2), (3, 3), (4, 4), (5, 5), (6, 6), (7, 7)] (fun r h' n' hrr => ?_)) (by simp [ales, ale, pvle, I.val])
  obtain ⟨vs1, V1, e1, e2, e3, h1, c1⟩ := hrr
  subst e1 e2 e3
  conv => cbv
  refine CallF.le (args0 := [.agg [i6 y0, i6 y1, i6 y2, i6 y3, i6 y4, i6 y5, i6 y6, i6 y7, i6 y8], .p (.bool true), i6 s, i6 s]) (callF_frame (turned1_lx s s y0 y1 y2 y3 y4 y5 y6 y7 y8) [] rfl trivial rfl rfl (fun r h' n' ⟨e1, e2, e3⟩ => ?_)) (by simp [ales, ale, pvle, I.val])
  subst e1 e2 e3
  conv => cbv
  refine CallF.le (args0 := [.ptr 0 (.lit 0), i6 c, .agg [i6 y0, i6 y1, i6 y2, i6 y3, i6 y4, i6 y5, i6 y6, i6 s, i6 s]]) (cfr (rPutChanM_lx R vs1 C G N W ph sp cy P B V1 Q la m ov h1 _ c1 hph c y0 y1 y2 y3 y4 y5 y6 s s [y0, y1, y2, y3, y4, y5, y6, y7, y8] ((upd_ne hsc.symm).trans hMc) rfl hb2 hp2) [(0, 0), (1, 1), (2, 2), (3, 3), (4, 4), (5, 5), (6, 6), (7, 7)] (fun r h' n' hrr => ?_)) (by simp [ales, ale, pvle, I.val])
  obtain ⟨e, vs2, V2, e1, he_, e2, e3, h2, c2⟩ := hrr
  subst e1 e2 e3
  conv => cbv
  refine RetF.mk [i6 e] [hpR 0 1 6 3 W 7 ph sp cy, hpB 1 2 5 3 W, hpD 2 3 3 1 N 4 209 8 N, hpP 3 P, hpP 4 B, hpP 5 V2, hpP 6 Q, (7, .mix [.p (.vsl (.sym m) true la), .p (.bool ov)])] 8 (Re.at [(0, 0), (1, 1), (2, 2), (3, 3), (4, 4), (5, 5), (6, 6), (7, 7)] []) rfl ⟨e, vs2, V2, rfl, he_, rfl, rfl, h2, by rw [hpe he, upd_comm hsc.symm]; exact c2⟩
 ·have gm : ¬ ml = 0 := gm
  have he : q c true ≠ [] := fun e => gm (by rw [hml, e]; rfl)
  obtain ⟨gx, wx, nx, px, rx, mx, hMx, hxs, heq⟩ := hpn he
  obtain ⟨x, hx⟩ : ∃ x, x = ltQ (q c true) := ⟨_, rfl⟩
  rw [← hx] at hMx hxs heq
  have hxc : x ≠ c := fun e => by rw [e, hMc] at hMx; cases hMx
  obtain ⟨k1, hk1⟩ : ∃ k1, k1 = ml - 1 := ⟨_, rfl⟩
  have hcell : cells[k1.toNat]? = some (.int .i64 (.sym x)) := by
   rw [hcel]
   refine ipv_get ?_
   rw [hx]
   unfold ltQ
   rw [List.getLast?_eq_getElem?, show (q c true).length - 1 = k1.toNat by omega]
   obtain ⟨v, hv⟩ : ∃ v, (q c true)[k1.toNat]? = some v := ⟨_, List.getElem?_eq_getElem (by omega)⟩
   rw [hv]; rfl
  have hp2 : ∀ q ∈ [y4, y5, y6, y7, s], -1 ≤ q := by
   simp only [List.forall_mem_cons] at hp ⊢
   obtain ⟨p4, p5, p6, p7, p8, _⟩ := hp
   exact ⟨p4, p5, p6, hh1, hs1, fun q hq => by cases hq⟩
  have hb2 : ∀ q ∈ [y0, y1, y2, y3, y4, y5, y6, y7, s], b62 q := by
   simp only [List.forall_mem_cons] at hb ⊢
   obtain ⟨b0, b1, b2, b3, b4, b5, b6, b7, b8, _⟩ := hb
   exact ⟨b0, b1, b2, b3, b4, b5, b6, hh2, hs2, fun q hq => by cases hq⟩
  conv => cbv
  refine Fit.mk (by show (-9223372036854775808 : Int) ≤ ml - 1; omega) (by show ml - 1 ≤ 9223372036854775807; omega) fun k2 hk2 => ?_
  obtain rfl : k1 = k2 := hk1.trans (show k2 = ml - 1 from hk2).symm
  conv => cbv
  refine Need.mk (show 0 ≤ k1 ∧ k1 < ml by omega) ?_
  conv => cbv
  refine Cell.at k1 _ hcell (by simp [I.val]) rfl ?_
  conv => cbv
  refine CallF.le (args0 := [.ptr 0 (.lit 0), i6 x, i6 s]) (cfr (rnextM_lx R vs C G N W ph sp cy P B V Q la m ov h M hM hph x s gx c wx nx px rx mx hMx hs1 hs2) [(0, 0), (1, 1), (2, 2), (3, 3), (4, 4), (5, 5), (6, 6), (7, 7)] (fun r h' n' hrr => ?_)) (by simp [ales, ale, pvle, I.val])
  obtain ⟨vs1, V1, e1, e2, e3, h1, c1⟩ := hrr
  subst e1 e2 e3
  conv => cbv
  refine CallF.le (args0 := [.ptr 0 (.lit 0), i6 s, i6 (-1)]) (cfr (rnextM_lx R vs1 C G N W ph sp cy P B V1 Q la m ov h1 _ c1 hph s (-1) g c w n p r_ m_ ((upd_ne hxs.symm).trans hMs) (by decide) hm2) [(0, 0), (1, 1), (2, 2), (3, 3), (4, 4), (5, 5), (6, 6), (7, 7)] (fun r h' n' hrr => ?_)) (by simp [ales, ale, pvle, I.val])
  obtain ⟨vs2, V2, e1, e2, e3, h2, c2⟩ := hrr
  subst e1 e2 e3
  conv => cbv
  refine CallF.le (args0 := [.agg [i6 y0, i6 y1, i6 y2, i6 y3, i6 y4, i6 y5, i6 y6, i6 y7, i6 y8], .p (.bool true), i6 y7, i6 s]) (callF_frame (turned1_lx y7 s y0 y1 y2 y3 y4 y5 y6 y7 y8) [] rfl trivial rfl rfl (fun r h' n' ⟨e1, e2, e3⟩ => ?_)) (by simp [ales, ale, pvle, I.val])
  subst e1 e2 e3
  conv => cbv
  refine CallF.le (args0 := [.ptr 0 (.lit 0), i6 c, .agg [i6 y0, i6 y1, i6 y2, i6 y3, i6 y4, i6 y5, i6 y6, i6 y7, i6 s]]) (cfr (rPutChanM_lx R vs2 C G N W ph sp cy P B V2 Q la m ov h2 _ c2 hph c y0 y1 y2 y3 y4 y5 y6 y7 s [y0, y1, y2, y3, y4, y5, y6, y7, y8] ((upd_ne hsc.symm).trans ((upd_ne hxc.symm).trans hMc)) rfl hb2 hp2) [(0, 0), (1, 1), (2, 2), (3, 3), (4, 4), (5, 5), (6, 6), (7, 7)] (fun r h' n' hrr => ?_)) (by simp [ales, ale, pvle, I.val])
  obtain ⟨e, vs3, V3, e1, he_, e2, e3, h3, c3⟩ := hrr
  subst e1 e2 e3
  conv => cbv
  refine RetF.mk [i6 e] [hpR 0 1 6 3 W 7 ph sp cy, hpB 1 2 5 3 W, hpD 2 3 3 1 N 4 209 8 N, hpP 3 P, hpP 4 B, hpP 5 V3, hpP 6 Q, (7, .mix [.p (.vsl (.sym m) true la), .p (.bool ov)])] 8 (Re.at [(0, 0), (1, 1), (2, 2), (3, 3), (4, 4), (5, 5), (6, 6), (7, 7)] []) rfl ⟨e, vs3, V3, rfl, he_, rfl, rfl, h3, by rw [heq, upd_comm hsc.symm]; exact c3⟩
theorem upd_upd2 (M : Hp) (a : Int) (v w : Int × List Int) : upd (upd M a v) a w = upd M a w := by
 funext b
 unfold upd
 split <;> rfl
theorem rl_ot {B : Hp} {q : Qs} {a k : Int} {F : List Int} (hk : k ≠ 1 ∧ k ≠ 3) : upd (relink B q) a (k, F) = relink (upd B a (k, F)) q := by rw [relink_upd, lnk_other _ _ _ hk]
theorem rl_su {B : Hp} {q : Qs} {x g c w p r m : Int} (hn : ∀ d, x ∉ q c d) : upd (relink B q) x (3, [g, c, w, -1, p, r, m]) = relink (upd B x (3, [g, c, w, -1, p, r, m])) q := by rw [relink_upd, lnk_sudog, nxtQ_not hn]
theorem rl_setM {B : Hp} {q : Qs} {x m : Int} (h : IsSu B x) : setM (relink B q) x m = relink (setM B x m) q := by
 obtain ⟨g, c, w, n, p, r, m', e⟩ := h
 have e2 : relink B q x = some (3, [g, c, w, nxtQ q c x, p, r, m']) := by rw [relink_get e, lnk_sudog]
 rw [setM_eq e, setM_eq e2, relink_upd, lnk_sudog]
theorem rl_parkM {q : Qs} : ∀ {l : List Int} {B : Hp}, (∀ x ∈ l, IsSu B x) → parkM (relink B q) l = relink (parkM B l) q
 | [], _, _ => rfl
 | x :: l, B, h => by
  show parkM (setM (relink B q) x (hdQ l)) l = relink (parkM (setM B x (hdQ l)) l) q
  rw [rl_setM (h x List.mem_cons_self)]
  exact rl_parkM fun y hy => setM_su (h y (List.mem_cons_of_mem _ hy))
def addS (g v tq : Int) : Int → List (Int × Bool) → List Int → Hp → Hp
 | i, (c, d) :: ps, x :: xs, B => addS g v tq (i + 1) ps xs (upd B x (3, [g, c, v + 2 * i, -1, tq + i, if d then -1 else i, -1]))
 | _, _, _, B => B
def addQ : List (Int × Bool) → List Int → Qs → Qs
 | (c, d) :: ps, x :: xs, q => addQ ps xs (updQ q c d (q c d ++ [x]))
 | _, _, q => q
def waitB (g v tq : Int) (ps : List (Int × Bool)) (xs : List Int) (gF : List Int) (B : Hp) : Hp := upd (parkM (addS g v tq 0 ps xs B) xs) g (4, gF)
theorem newSu2 {M : Hp} {q : Qs} {x g c w p r m : Int} (h : Sys M q) (hx : M x = Option.none) : Sys (upd M x (3, [g, c, w, -1, p, r, m])) q ∧ ∀ c d, x ∉ q c d := by
 have hn : ∀ c d, x ∉ q c d := fun c d hs => by obtain ⟨g, w, n, p, r, m, e⟩ := h.sg c d x hs; rw [hx] at e; cases e
 refine ⟨h.updv ?_ (fun F e => by rw [hx] at e; cases e) (fun c d e => absurd e (hn c d)) ⟨fun q => absurd (show (3 : Int) = 1 from q) (by decide), fun _ => rfl⟩, hn⟩
 rw [lnk_sudog, nxtQ_not (fun d => hn _ d)]
structure Bs2 (R : List Rw) (ws vs C : List Int) (N W ph : Int) (L D Q : List PV) (z : ByteArray) (P B V Qr la : List PV) (m : Int) (M M2 : Hp) : Prop where
 h : HM R ws C [] N W L D Q z
 r : RM R vs C [] N W P B V Qr la m
 c : Cont R ws M
 d : Cont R vs M2
 ph : ph = 0
 w : C = List.replicate W.toNat 0
theorem Bst.two {R : List Rw} {ws vs C : List Int} {N W ph : Int} {L D Q : List PV} {z : ByteArray} {P B V Qr la : List PV} {m : Int} {M : Hp} (S : Bst R ws vs C N W ph L D Q z P B V Qr la m M) : Bs2 R ws vs C N W ph L D Q z P B V Qr la m M M := ⟨S.h, S.r, S.c, S.d, S.ph, S.w⟩
theorem Bs2.colour {R R' : List Rw} {ws vs ws' vs' C C' DC : List Int} {N W ph : Int} {L D Q L' D' Q' : List PV} {z : ByteArray} {P B V Qr la P' B' V' Qr' : List PV} {m : Int} {M M2 : Hp} {x e : Int} (S : Bs2 R ws vs C N W ph L D Q z P B V Qr la m M M2) (he : e = 0) (h1 : HM R' ws' C' [] N W L' D' Q' z) (g1 : RM R' vs' DC [] N W P' B' V' Qr' la m) (hC : C' = allocC ph x e C) (hD : DC = allocC ph x e C) : C = C' ∧ C = DC ∧ Q = Q' ∧ Qr = Qr' := by
 have : allocC ph x e C = C := by rw [S.ph, he, S.w]; exact allocC_white x
 rw [this] at hC hD
 exact ⟨hC.symm, hD.symm, by rw [h1.q, S.h.q, hC], by rw [g1.q, S.r.q, hD]⟩
theorem alloct_any {R R' : List Rw} {ws ws' vs : List Int} {kind n a e : Int} (h : Alloct R ws kind n a e R' ws') : ∃ vs', Alloct R vs kind n a e R' vs' := by
 cases h with
 | arg h => exact ⟨_, .arg h⟩
 | room i s R' h ha => exact ⟨_, .room i s R' h ha⟩
 | ok i s at_ R' h ha hi hat => exact ⟨_, .ok i s a R' h ha hi hat⟩
theorem Bs2.alloc {R R' Y : List Rw} {ws vs C ws' vs' : List Int} {N W ph : Int} {L D Q : List PV} {z : ByteArray} {P B V Qr la : List PV} {m kd n x e y f : Int} {M M2 : Hp} (S : Bs2 R ws vs C N W ph L D Q z P B V Qr la m M M2) (hroom : objCount R < R.length) (hk : 0 ≤ n ∧ n ≤ 31 ∧ 1 ≤ kd ∧ kd ≤ 6) (hlen : lenK kd n.toNat) (hT : Alloct R ws kd n x e R' ws') (hU : AlloctV R vs kd n y f Y vs') : e = 0 ∧ x = y ∧ e = f ∧ R' = Y ∧ Cont R' ws' (upd M x (kd, zerK kd n.toNat)) ∧ Cont R' vs' (upd M2 x (kd, zerK kd n.toNat)) ∧ objCount R' = objCount R + 1 ∧ M x = Option.none ∧ M2 x = Option.none ∧ 0 ≤ x ∧ x < 32 * R.length ∧ R'.length = R.length := by
 obtain ⟨wx, hTx⟩ := alloct_any (vs := vs) hT
 obtain ⟨q1, q2, q3, hS1, hl1⟩ := (S.d.toSim S.r.a S.r.a S.d).alloc hTx hU
 subst q1 q2 q3
 obtain ⟨he, hM1, hc1, hx0, hx1, hx2, hx3⟩ := S.c.alloc S.h.a hroom hk hlen hT
 obtain ⟨_, hM2, _, hy0, _, _, _⟩ := S.d.alloc S.r.a hroom hk hlen hTx
 exact ⟨he, rfl, rfl, rfl, hM1, hM2.sim hS1, hc1, hx0, hy0, hx1, hx2, hx3⟩
theorem capS {x : Int} (h : 0 ≤ x ∧ x < 4) : capW x = x := by
 unfold capW
 rw [show IntKind.u64.wrap x = x by simp [IntKind.wrap, IntKind.bits, IntKind.signed]; omega]
 omega
theorem chA1 {chs : List Int} {nc : Int} (hn : nc = (chs.length : Int)) (h1 : nc = 1) : ∃ c, chs = [c] := by
 match chs with
 | [c] => exact ⟨c, rfl⟩
 | [] => simp at hn; omega
 | _ :: _ :: _ => simp at hn; omega
theorem chA2 {chs : List Int} {nc : Int} (hn : nc = (chs.length : Int)) (h1 : nc = 2) : ∃ c d, chs = [c, d] := by
 match chs with
 | [c, d] => exact ⟨c, d, rfl⟩
 | [] => simp at hn; omega
 | [_] => simp at hn; omega
 | _ :: _ :: _ :: _ => simp at hn; omega
theorem ix0 {chs : List Int} {nc x c : Int} (h : chs[(IntKind.u64.wrap 0 % nc).toNat]? = some x) (hc : chs[0]? = some c) : x = c := by
 rw [show IntKind.u64.wrap 0 = 0 by decide, Int.zero_emod] at h
 exact Option.some.inj (h.symm.trans hc)
theorem rl_none {M : Hp} {q : Qs} {a : Int} (h : relink M q a = none) : M a = none := by
 unfold relink at h
 cases e : M a with
 | none => rfl
 | some v => rw [e] at h; cases h
theorem rl_isSu {M : Hp} {q : Qs} {a : Int} (h : IsSu M a) : IsSu (relink M q) a := by
 obtain ⟨g, c, w, n, p, r, m, e⟩ := h
 exact ⟨g, c, w, _, p, r, m, by rw [relink_get e, lnk_sudog]⟩
theorem rl_chan {M : Hp} {q : Qs} {a : Int} (h : ∃ F, M a = some (1, F)) : ∃ F, relink M q a = some (1, F) := by
 obtain ⟨F, e⟩ := h
 obtain ⟨G, h3, _⟩ := lnk_kind (q := q) (a := a) (k := 1) (F := F)
 exact ⟨G, by rw [relink_get e, h3]⟩
theorem suUpd {M : Hp} {x y g c w n p r m : Int} (h : IsSu M y) : IsSu (upd M x (3, [g, c, w, n, p, r, m])) y := by
 by_cases e : y = x
 ·subst e; exact ⟨g, c, w, n, p, r, m, upd_same _ _ _⟩
 ·obtain ⟨g', c', w', n', p', r', m', k⟩ := h
  exact ⟨g', c', w', n', p', r', m', by rw [upd_ne e]; exact k⟩
theorem chUpd {M : Hp} {x y : Int} {v : Int × List Int} (hx : M x = none) (h : ∃ F, M y = some (1, F)) : ∃ F, upd M x v y = some (1, F) := by
 obtain ⟨F, k⟩ := h
 have : y ≠ x := fun e => by rw [e, hx] at k; cases k
 exact ⟨F, by rw [upd_ne this]; exact k⟩
theorem noneUpd {M K : Hp} {x a : Int} {v : Int × List Int} (h : ∀ a, M a = none → K a = none) (ha : upd M x v a = none) : K a = none := by
 by_cases e : a = x
 ·subst e; rw [upd_same] at ha; cases ha
 ·rw [upd_ne e] at ha; exact h a ha
theorem sysRing {M : Hp} {q : Qs} (h : Sys M q) {a b y0 y1 y2 y3 y4 y5 y6 y7 y8 : Int} {X X' : List Int} (hMa : M a = some (1, [y0, y1, y2, y3, y4, y5, y6, y7, y8])) (hMb : M b = some (2, X)) (k' s' : Int) : Sys (upd (upd M b (2, X')) a (1, [y0, y1, k', s', y4, y5, y6, y7, y8])) q := by
 have hba : a ≠ b := fun e => by rw [e, hMb] at hMa; cases hMa
 have h1 := sysOther (F := X') h hMb ⟨by decide, by decide⟩
 have hl := h.lnk hMa
 rw [lnk_chan] at hl
 simp only [Prod.mk.injEq, List.cons.injEq, true_and, and_true] at hl
 refine h1.updv ?_ (fun F _ => rfl) (fun c d k => ?_) ⟨fun _ => rfl, fun k => absurd (show (1 : Int) = 3 from k) (by decide)⟩
 ·rw [lnk_chan, hl.1, hl.2.1, hl.2.2.1, hl.2.2.2]
 ·obtain ⟨g, w, n, p, r, m, e⟩ := h.sg c d a k
  rw [hMa] at e
  cases e
theorem waitB_g (g v tq : Int) (ps : List (Int × Bool)) (xs gF : List Int) (B : Hp) : waitB g v tq ps xs gF B g = some (4, gF) := upd_same _ _ _
theorem addS_ne {g v tq : Int} : ∀ {ps : List (Int × Bool)} {xs : List Int} {i : Int} {B : Hp} {a : Int}, a ∉ xs → addS g v tq i ps xs B a = B a
 | [], xs, _, _, _, _ => by cases xs <;> rfl
 | (c, d) :: ps, [], _, _, _, _ => rfl
 | (c, d) :: ps, x :: xs, i, B, a, h => by
  have hx : a ≠ x := fun e => h (by rw [e]; exact List.mem_cons_self)
  show addS g v tq (i + 1) ps xs (upd B x _) a = B a
  rw [addS_ne (fun k => h (List.mem_cons_of_mem _ k)), upd_ne hx]
theorem waitB_ne {g v tq a : Int} {ps : List (Int × Bool)} {xs gF : List Int} {B : Hp} (h1 : a ≠ g) (h2 : a ∉ xs) : waitB g v tq ps xs gF B a = B a := by
 unfold waitB
 rw [upd_ne h1, parkM_ne h2, addS_ne h2]
theorem waitB_2 {g v tq c c' x y : Int} {d d' : Bool} {gF : List Int} {B : Hp} (h1 : x ≠ g) (h2 : y ≠ g) (h3 : x ≠ y) : waitB g v tq [(c, d), (c', d')] [x, y] gF B x = some (3, [g, c, v, -1, tq, if d then -1 else 0, y]) ∧ waitB g v tq [(c, d), (c', d')] [x, y] gF B y = some (3, [g, c', v + 2, -1, tq + 1, if d' then -1 else 1, -1]) := by
 unfold waitB
 rw [upd_ne h1, upd_ne h2]
 have e1 : ∀ a, parkM (addS g v tq 0 [(c, d), (c', d')] [x, y] B) [x, y] a = setM (setM (upd (upd B x (3, [g, c, v + 2 * 0, -1, tq + 0, if d then -1 else 0, -1])) y (3, [g, c', v + 2 * 1, -1, tq + 1, if d' then -1 else 1, -1])) x y) y (-1) a := fun a => rfl
 have hx : upd (upd B x (3, [g, c, v + 2 * 0, -1, tq + 0, if d then -1 else 0, -1])) y (3, [g, c', v + 2 * 1, -1, tq + 1, if d' then -1 else 1, -1]) x = some (3, [g, c, v + 2 * 0, -1, tq + 0, if d then -1 else 0, -1]) := by rw [upd_ne h3, upd_same]
 refine ⟨?_, ?_⟩
 ·rw [e1, setM_ne h3, setM_eq hx, upd_same]
  simp
 ·rw [e1, setM_eq (x := y) (by rw [setM_ne h3.symm, upd_same]), upd_same]
  simp
theorem look_is_lx (R : List Rw) (ws C G : List Int) (N W ph sp cy : Int) (L D Q : List PV) (z : ByteArray) (ov : Bool) (h : HM R ws C G N W L D Q z) (M : Hp) (hM : Cont R ws M) (a x0 x1 x2 x3 x4 x5 x6 x7 x8 x9 : Int) (hMa : M a = some (4, [x0, x1, x2, x3, x4, x5, x6, x7, x8, x9])) : CallF (fun _ => Tryz.prog) 71 [.ptr 0 (.lit 0), i6 a] [hpA 0 1 5 6 3 W ph sp cy, hpB 1 2 4 3 W, hpC 2 3 214 2 N, hpP 3 L, hpP 4 D, hpF 5 z ov, hpP 6 Q] 7 (fun r h n => r = .iface 52 (.agg [i6 x0, i6 x1, i6 x2, i6 x3, i6 x4, i6 x5, i6 x6, i6 x7, i6 x8, i6 x9]) ∧ h = [hpA 0 1 5 6 3 W ph sp cy, hpB 1 2 4 3 W, hpC 2 3 214 2 N, hpP 3 L, hpP 4 D, hpF 5 z ov, hpP 6 Q] ∧ n = 7) := by
 refine callF_of_body tok Tryz.func71 (by kernel_rfl) rfl rfl rfl ?_; conv => cbv
 refine cfr (gorM_lx R ws C G N W ph sp cy L D Q z ov h M hM a x0 x1 x2 x3 x4 x5 x6 x7 x8 x9 hMa) [(0, 0), (1, 1), (2, 2), (3, 3), (4, 4), (5, 5), (6, 6)] (fun r h' n' hrr => ?_)
 obtain ⟨⟨e, e1, he⟩, e2, e3⟩ := hrr
 subst e1 e2 e3
 conv => cbv
 refine Br.no (show ¬ ¬ (e = 0) from fun q => q he) ?_
 conv => cbv
 refine RetF.mk [.iface 52 (.agg [i6 x0, i6 x1, i6 x2, i6 x3, i6 x4, i6 x5, i6 x6, i6 x7, i6 x8, i6 x9])] [hpA 0 1 5 6 3 W ph sp cy, hpB 1 2 4 3 W, hpC 2 3 214 2 N, hpP 3 L, hpP 4 D, hpF 5 z ov, hpP 6 Q] 7 (Re.at [(0, 0), (1, 1), (2, 2), (3, 3), (4, 4), (5, 5), (6, 6)] []) rfl ⟨rfl, rfl, rfl⟩
theorem setMoreM_lx (R : List Rw) (ws C G : List Int) (N W ph sp cy : Int) (L D Q : List PV) (z : ByteArray) (ov : Bool) (h : HM R ws C G N W L D Q z) (M : Hp) (hM : Cont R ws M) (o : Unit → Obj) (ho : IsPow o) (hph : ph = 0) (a x z0 z1 z2 z3 z4 z5 z6 : Int) (hMa : M a = some (3, [z0, z1, z2, z3, z4, z5, z6])) (hx : -1 ≤ x) (hx2 : b62 x) : CallF (fun _ => Tryz.prog) 73 [.ptr 0 (.lit 0), i6 a, i6 x] [hpA 0 1 5 6 3 W ph sp cy, hpB 1 2 4 3 W, hpC 2 3 214 2 N, hpP 3 L, hpP 4 D, hpF 5 z ov, hpP 6 Q, (7, .fix 0 o)] 8 (fun r h n => ∃ (ws' : List Int) (D' : List PV), r = .tup [] ∧ h = [hpA 0 1 5 6 3 W ph sp cy, hpB 1 2 4 3 W, hpC 2 3 214 2 N, hpP 3 L, hpP 4 D', hpF 5 z ov, hpP 6 Q, (7, .fix 0 o)] ∧ n = 8 ∧ HM R ws' C G N W L D' Q z ∧ Cont R ws' (setM M a x)) := by
 obtain ⟨hp, hb, hw⟩ := hM.sudog h.a hMa
 have hp' : ∀ q ∈ [z0, z1, z3, x], -1 ≤ q := by
  simp only [List.forall_mem_cons] at hp ⊢
  obtain ⟨p0, p1, p3, p6, _⟩ := hp
  exact ⟨p0, p1, p3, hx, fun q hq => by cases hq⟩
 have hb' : ∀ q ∈ [z0, z1, z3, z4, z5, x], b62 q := by
  simp only [List.forall_mem_cons] at hb ⊢
  obtain ⟨b0, b1, b3, b4, b5, b6, _⟩ := hb
  exact ⟨b0, b1, b3, b4, b5, hx2, fun q hq => by cases hq⟩
 rw [setM_eq hMa]
 refine callF_of_body tok Tryz.func73 (by kernel_rfl) rfl rfl rfl ?_; conv => cbv
 refine cfr (sudogM_lx R ws C G N W ph sp cy L D Q z ov h M hM a z0 z1 z2 z3 z4 z5 z6 hMa) [(0, 0), (1, 1), (2, 2), (3, 3), (4, 4), (5, 5), (6, 6)] (fun r h' n' hrr => ?_)
 obtain ⟨⟨e0, e1, he0⟩, e2, e3⟩ := hrr
 subst e1 e2 e3
 conv => cbv
 refine cfr (putSudogM_lx R ws C G N W ph sp cy L D Q z ov h M hM o ho hph a z0 z1 z2 z3 z4 z5 x [z0, z1, z2, z3, z4, z5, z6] hMa rfl hb' hw hp') [(0, 0), (1, 1), (2, 2), (3, 3), (4, 4), (5, 5), (6, 6), (7, 7)] (fun r h' n' hrr => ?_)
 obtain ⟨e, ws', D', e1, he, e2, e3, h1, hM'⟩ := hrr
 subst e1 e2 e3
 conv => cbv
 refine RetF.mk [] [hpA 0 1 5 6 3 W ph sp cy, hpB 1 2 4 3 W, hpC 2 3 214 2 N, hpP 3 L, hpP 4 D', hpF 5 z ov, hpP 6 Q, (7, .fix 0 o)] 8 (Re.at [(0, 0), (1, 1), (2, 2), (3, 3), (4, 4), (5, 5), (6, 6), (7, 7)] []) rfl ⟨ws', D', rfl, rfl, rfl, h1, hM'⟩
theorem shadeIdle_lx (R : List Rw) (ws C G : List Int) (N W ph sp cy : Int) (L D Q : List PV) (z : ByteArray) (ov : Bool) (h : HM R ws C G N W L D Q z) (o : Unit → Obj) (ho : IsPow o) (hph : ph = 0) (a : Int) : CallF (fun _ => Tryz.prog) 75 [.ptr 0 (.lit 0), i6 a] [hpA 0 1 5 6 3 W ph sp cy, hpB 1 2 4 3 W, hpC 2 3 214 2 N, hpP 3 L, hpP 4 D, hpF 5 z ov, hpP 6 Q, (7, .fix 0 o)] 8 (fun r h n => r = .tup [] ∧ h = [hpA 0 1 5 6 3 W ph sp cy, hpB 1 2 4 3 W, hpC 2 3 214 2 N, hpP 3 L, hpP 4 D, hpF 5 z ov, hpP 6 Q, (7, .fix 0 o)] ∧ n = 8) :=
 (shade_lx R ws C G N W ph sp cy L D Q z ov h o ho a).mono fun r h' n hrr => by
  obtain ⟨C', G', ov', Q', z', e1, e2, e3, h1, hs⟩ := hrr
  have : shade R ph a (C, G, ov) = (C, G, ov) := by unfold shade; rw [if_neg (fun k => by have := k.1; omega)]
  rw [this] at hs
  obtain ⟨q1, q2, q3, q4, q5⟩ := h.still h1 hs
  rw [q3, q4, q5] at e2
  exact ⟨e1, e2, e3⟩
def setR (r w : Int) (k : List Int) : List Int := if 0 ≤ r ∧ r < 6 then k.set r.toNat w else k
theorem setR_mem {r w q : Int} {k : List Int} (h : q ∈ setR r w k) : q = w ∨ q ∈ k := by
 unfold setR at h
 split at h
 ·rcases List.mem_or_eq_of_mem_set h with e | e
  ·exact .inr e
  ·exact .inl e
 ·exact .inr h
theorem wake_lx (R : List Rw) (ws C G : List Int) (N W ph sp cy : Int) (L D Q : List PV) (z : ByteArray) (ov : Bool) (h : HM R ws C G N W L D Q z) (M : Hp) (hM : Cont R ws M) (q : Qs) (hY : Sys M q) (o : Unit → Obj) (ho : IsPow o) (hph : ph = 0) (s w : Int) (hw : -9223372036854775808 ≤ w ∧ w ≤ 9223372036854775807) (g c v n p r_ m_ x0 x1 x2 x3 x4 x5 x6 x7 x8 x9 : Int) (l : List Int) (hMs : M s = some (3, [g, c, v, n, p, r_, m_])) (hMg : M g = some (4, [x0, x1, x2, x3, x4, x5, x6, x7, x8, x9])) (hl : Mor M x9 l) (hnd : l.Nodup) : CallF (fun _ => Tryz.prog) 26 [.ptr 0 (.lit 0), i6 s, i6 w] [hpA 0 1 5 6 3 W ph sp cy, hpB 1 2 4 3 W, hpC 2 3 214 2 N, hpP 3 L, hpP 4 D, hpF 5 z ov, hpP 6 Q, (7, .fix 0 o)] 8 (fun r h n => ∃ (e : Int), e = 0 ∧ ∃ (ws' : List Int) (D' : List PV), r = .tup [i6 g, i6 e] ∧ h = [hpA 0 1 5 6 3 W ph sp cy, hpB 1 2 4 3 W, hpC 2 3 214 2 N, hpP 3 L, hpP 4 D', hpF 5 z ov, hpP 6 Q, (7, .fix 0 o)] ∧ n = 8 ∧ HM R ws' C G N W L D' Q z ∧ Cont R ws' (upd (relink M (rmQ q l)) g (4, [x0, 0, p] ++ setR r_ w [x3, x4, x5, x6, x7, x8] ++ [-1]))) := by
 have hMg1 := relink_other (q := rmQ q l) hMg ⟨by decide, by decide⟩
 obtain ⟨hp3, hb3, hw3⟩ := hM.sudog h.a hMs
 obtain ⟨hpg, hbg, hwg⟩ := hM.gor h.a hMg
 refine callF_of_body tok Tryz.func26 (by kernel_rfl) rfl rfl rfl ?_; conv => cbv
 refine cfr (sudogM_lx R ws C G N W ph sp cy L D Q z ov h M hM s g c v n p r_ m_ hMs) [(0, 0), (1, 1), (2, 2), (3, 3), (4, 4), (5, 5), (6, 6)] (fun r h' n' hrr => ?_)
 obtain ⟨⟨e0, e1, he0⟩, e2, e3⟩ := hrr
 subst e1 e2 e3
 conv => cbv
 refine Br.no (show ¬ ¬ (e0 = 0) from fun q => q he0) ?_
 conv => cbv
 refine cfr (look_is_lx R ws C G N W ph sp cy L D Q z ov h M hM g x0 x1 x2 x3 x4 x5 x6 x7 x8 x9 hMg) [(0, 0), (1, 1), (2, 2), (3, 3), (4, 4), (5, 5), (6, 6)] (fun r h' n' hrr => ?_)
 obtain ⟨e1, e2, e3⟩ := hrr
 subst e1 e2 e3
 conv => cbv
 refine cfr (leaveAll_lx R ws C G N W ph sp cy L D Q z ov h M hM q hY o ho hph x9 l hl hnd) [(0, 0), (1, 1), (2, 2), (3, 3), (4, 4), (5, 5), (6, 6), (7, 7)] (fun r h' n' hrr => ?_)
 obtain ⟨ws1, D1, e1, e2, e3, h1, c1⟩ := hrr
 subst e1 e2 e3
 conv => cbv
 refine drawn_sound tok (by kernel_rfl) [(3, [1, 0]), (5, [1, 0]), (7, [])] [0, 1, 2, 3, 4, 5, 6, 7] (by kernel_rfl) ?_; conv => cbv
 refine Br.mk (fun g0 => ?_) (fun g0 => ?_)
 ·have g0 : 0 ≤ r_ := g0
  conv => cbv
  refine Br.mk (fun g6 => ?_) (fun g6 => ?_)
  ·have g6 : r_ < 6 := g6
   conv => cbv
   refine Need.mk (show 0 ≤ r_ ∧ r_ < 6 from ⟨g0, g6⟩) ?_
   conv => cbv
   refine Sum.mk fun k3 hk3 => ?_
   have hk3 : k3 = 3 + r_ := hk3
   conv => cbv
   refine Need.mk (show k3 + 1 ≤ 10 by omega) ?_
   conv => cbv
   refine Upd.mk fun l2 hl2 => ?_
   conv => cbv
   have hl2 : l2 = updL [.int .i64 (.sym x0), .int .i64 (.lit 0), .int .i64 (.sym p), .int .i64 (.sym x3), .int .i64 (.sym x4), .int .i64 (.sym x5), .int .i64 (.sym x6), .int .i64 (.sym x7), .int .i64 (.sym x8), .int .i64 (.lit (-1))] k3.toNat [.int .i64 (.sym w)] := hl2
   have hr6 : r_ = 0 ∨ r_ = 1 ∨ r_ = 2 ∨ r_ = 3 ∨ r_ = 4 ∨ r_ = 5 := by omega
   obtain ⟨a3, a4, a5, a6, a7, a8, hK, hL⟩ : ∃ a3 a4 a5 a6 a7 a8, setR r_ w [x3, x4, x5, x6, x7, x8] = [a3, a4, a5, a6, a7, a8] ∧ l2 = [.int .i64 (.sym x0), .int .i64 (.lit 0), .int .i64 (.sym p), .int .i64 (.sym a3), .int .i64 (.sym a4), .int .i64 (.sym a5), .int .i64 (.sym a6), .int .i64 (.sym a7), .int .i64 (.sym a8), .int .i64 (.lit (-1))] := by
    rw [hl2, hk3]
    clear hl2 hk3 hMs
    rcases hr6 with rfl | rfl | rfl | rfl | rfl | rfl <;> exact ⟨_, _, _, _, _, _, rfl, rfl⟩
   have hwa : ∀ q ∈ [a3, a4, a5, a6, a7, a8], -9223372036854775808 ≤ q ∧ q ≤ 9223372036854775807 := fun q hq => by
    rw [← hK] at hq
    rcases setR_mem hq with e | e
    ·rw [e]; exact hw
    ·exact hwg q e
   refine Cell.at 0 _ (by rw [hL]; rfl) (by simp [I.val]) rfl ?_
   conv => cbv
   refine Cell.at 1 _ (by rw [hL]; rfl) (by simp [I.val]) rfl ?_
   conv => cbv
   refine Cell.at 2 _ (by rw [hL]; rfl) (by simp [I.val]) rfl ?_
   conv => cbv
   refine Cell.at 3 _ (by rw [hL]; rfl) (by simp [I.val]) rfl ?_
   conv => cbv
   refine Cell.at 4 _ (by rw [hL]; rfl) (by simp [I.val]) rfl ?_
   conv => cbv
   refine Cell.at 5 _ (by rw [hL]; rfl) (by simp [I.val]) rfl ?_
   conv => cbv
   refine Cell.at 6 _ (by rw [hL]; rfl) (by simp [I.val]) rfl ?_
   conv => cbv
   refine Cell.at 7 _ (by rw [hL]; rfl) (by simp [I.val]) rfl ?_
   conv => cbv
   refine Cell.at 8 _ (by rw [hL]; rfl) (by simp [I.val]) rfl ?_
   conv => cbv
   refine Cell.at 9 _ (by rw [hL]; rfl) (by simp [I.val]) rfl ?_
   conv => cbv
   have hbg2 : ∀ q ∈ [x0, 0, p, -1], b62 q := by
    simp only [List.forall_mem_cons] at hbg hb3 ⊢
    obtain ⟨b0, b1, b2, b9, _⟩ := hbg
    obtain ⟨c0, c1, c3, c4, c5, c6, _⟩ := hb3
    exact ⟨b0, by unfold b62; omega, c4, by unfold b62; omega, fun q hq => by cases hq⟩
   have hwg2 := hwa
   refine CallF.le (args0 := [.ptr 0 (.lit 0), i6 g, .agg [i6 x0, i6 0, i6 p, i6 a3, i6 a4, i6 a5, i6 a6, i6 a7, i6 a8, i6 (-1)]]) (cfr (putGorM_lx R ws1 C G N W ph sp cy L D1 Q z ov h1 _ c1 o ho hph g x0 0 p a3 a4 a5 a6 a7 a8 (-1) [x0, x1, x2, x3, x4, x5, x6, x7, x8, x9] hMg1 rfl hbg2 hwg2 (by simp)) [(0, 0), (1, 1), (2, 2), (3, 3), (4, 4), (5, 5), (6, 6), (7, 7)] (fun r h' n' hrr => ?_)) (by simp [ales, ale, pvle, I.val])
   obtain ⟨e, ws2, D2, e1, he, e2, e3, h2, c2⟩ := hrr
   subst e1 e2 e3
   conv => cbv
   refine cfr (shadeIdle_lx R ws2 C G N W ph sp cy L D2 Q z ov h2 o ho hph g) [(0, 0), (1, 1), (2, 2), (3, 3), (4, 4), (5, 5), (6, 6), (7, 7)] (fun r h' n' ⟨e1, e2, e3⟩ => ?_)
   subst e1 e2 e3
   conv => cbv
   refine RetF.mk [i6 g, i6 0] [hpA 0 1 5 6 3 W ph sp cy, hpB 1 2 4 3 W, hpC 2 3 214 2 N, hpP 3 L, hpP 4 D2, hpF 5 z ov, hpP 6 Q, (7, .fix 0 o)] 8 (Re.at [(0, 0), (1, 1), (2, 2), (3, 3), (4, 4), (5, 5), (6, 6), (7, 7)] []) rfl ⟨0, rfl, ws2, D2, rfl, rfl, rfl, h2, by rw [hK]; exact c2⟩
  ·have g6 : ¬ r_ < 6 := g6
   have hse : setR r_ w [x3, x4, x5, x6, x7, x8] = [x3, x4, x5, x6, x7, x8] := by unfold setR; rw [if_neg (by omega)]
   conv => cbv
   have hbg2 : ∀ q ∈ [x0, 0, p, -1], b62 q := by
    simp only [List.forall_mem_cons] at hbg hb3 ⊢
    obtain ⟨b0, b1, b2, b9, _⟩ := hbg
    obtain ⟨c0, c1, c3, c4, c5, c6, _⟩ := hb3
    exact ⟨b0, by unfold b62; omega, c4, by unfold b62; omega, fun q hq => by cases hq⟩
   have hwg2 := hwg
   refine CallF.le (args0 := [.ptr 0 (.lit 0), i6 g, .agg [i6 x0, i6 0, i6 p, i6 x3, i6 x4, i6 x5, i6 x6, i6 x7, i6 x8, i6 (-1)]]) (cfr (putGorM_lx R ws1 C G N W ph sp cy L D1 Q z ov h1 _ c1 o ho hph g x0 0 p x3 x4 x5 x6 x7 x8 (-1) [x0, x1, x2, x3, x4, x5, x6, x7, x8, x9] hMg1 rfl hbg2 hwg2 (by simp)) [(0, 0), (1, 1), (2, 2), (3, 3), (4, 4), (5, 5), (6, 6), (7, 7)] (fun r h' n' hrr => ?_)) (by simp [ales, ale, pvle, I.val])
   obtain ⟨e, ws2, D2, e1, he, e2, e3, h2, c2⟩ := hrr
   subst e1 e2 e3
   conv => cbv
   refine cfr (shadeIdle_lx R ws2 C G N W ph sp cy L D2 Q z ov h2 o ho hph g) [(0, 0), (1, 1), (2, 2), (3, 3), (4, 4), (5, 5), (6, 6), (7, 7)] (fun r h' n' ⟨e1, e2, e3⟩ => ?_)
   subst e1 e2 e3
   conv => cbv
   refine RetF.mk [i6 g, i6 0] [hpA 0 1 5 6 3 W ph sp cy, hpB 1 2 4 3 W, hpC 2 3 214 2 N, hpP 3 L, hpP 4 D2, hpF 5 z ov, hpP 6 Q, (7, .fix 0 o)] 8 (Re.at [(0, 0), (1, 1), (2, 2), (3, 3), (4, 4), (5, 5), (6, 6), (7, 7)] []) rfl ⟨0, rfl, ws2, D2, rfl, rfl, rfl, h2, by rw [hse]; exact c2⟩
 ·have g0 : ¬ 0 ≤ r_ := g0
  have hse : setR r_ w [x3, x4, x5, x6, x7, x8] = [x3, x4, x5, x6, x7, x8] := by unfold setR; rw [if_neg (by omega)]
  conv => cbv
  have hbg2 : ∀ q ∈ [x0, 0, p, -1], b62 q := by
   simp only [List.forall_mem_cons] at hbg hb3 ⊢
   obtain ⟨b0, b1, b2, b9, _⟩ := hbg
   obtain ⟨c0, c1, c3, c4, c5, c6, _⟩ := hb3
   exact ⟨b0, by unfold b62; omega, c4, by unfold b62; omega, fun q hq => by cases hq⟩
  have hwg2 := hwg
  refine CallF.le (args0 := [.ptr 0 (.lit 0), i6 g, .agg [i6 x0, i6 0, i6 p, i6 x3, i6 x4, i6 x5, i6 x6, i6 x7, i6 x8, i6 (-1)]]) (cfr (putGorM_lx R ws1 C G N W ph sp cy L D1 Q z ov h1 _ c1 o ho hph g x0 0 p x3 x4 x5 x6 x7 x8 (-1) [x0, x1, x2, x3, x4, x5, x6, x7, x8, x9] hMg1 rfl hbg2 hwg2 (by simp)) [(0, 0), (1, 1), (2, 2), (3, 3), (4, 4), (5, 5), (6, 6), (7, 7)] (fun r h' n' hrr => ?_)) (by simp [ales, ale, pvle, I.val])
  obtain ⟨e, ws2, D2, e1, he, e2, e3, h2, c2⟩ := hrr
  subst e1 e2 e3
  conv => cbv
  refine cfr (shadeIdle_lx R ws2 C G N W ph sp cy L D2 Q z ov h2 o ho hph g) [(0, 0), (1, 1), (2, 2), (3, 3), (4, 4), (5, 5), (6, 6), (7, 7)] (fun r h' n' ⟨e1, e2, e3⟩ => ?_)
  subst e1 e2 e3
  conv => cbv
  refine RetF.mk [i6 g, i6 0] [hpA 0 1 5 6 3 W ph sp cy, hpB 1 2 4 3 W, hpC 2 3 214 2 N, hpP 3 L, hpP 4 D2, hpF 5 z ov, hpP 6 Q, (7, .fix 0 o)] 8 (Re.at [(0, 0), (1, 1), (2, 2), (3, 3), (4, 4), (5, 5), (6, 6), (7, 7)] []) rfl ⟨0, rfl, ws2, D2, rfl, rfl, rfl, h2, by rw [hse]; exact c2⟩
theorem parkS_lx (R : List Rw) (ws C G : List Int) (N W ph sp cy : Int) (L D Q : List PV) (z : ByteArray) (ov : Bool) (h : HM R ws C G N W L D Q z) (M : Hp) (hM : Cont R ws M) (q : Qs) (hY : Sys M q) (o : Unit → Obj) (ho : IsPow o) (hph : ph = 0) (g x0 x1 x2 x3 x4 x5 x6 x7 x8 x9 : Int) (l : List Int) (ln : Int) (cells : List PV) (hcs : cells = ipv l) (hln : ln = l.length) (hlb : ln ≤ 1000) (hMg : M g = some (4, [x0, x1, x2, x3, x4, x5, x6, x7, x8, x9])) (hl : ∀ x ∈ l, IsSu M x) : CallF (fun _ => Tryz.prog) 24 [.ptr 0 (.lit 0), i6 g, .sl 8 3 1 (.lit 0) (.sym ln)] [hpA 0 1 5 6 3 W ph sp cy, hpB 1 2 4 3 W, hpC 2 3 214 2 N, hpP 3 L, hpP 4 D, hpF 5 z ov, hpP 6 Q, (7, .fix 0 o), hpP 8 cells] 9 (fun r h n => ∃ (e : Int), e = 0 ∧ ∃ (ws' : List Int) (D' : List PV), r = .p (.int .i64 (.sym e)) ∧ h = [hpA 0 1 5 6 3 W ph sp cy, hpB 1 2 4 3 W, hpC 2 3 214 2 N, hpP 3 L, hpP 4 D', hpF 5 z ov, hpP 6 Q, (7, .fix 0 o), hpP 8 cells] ∧ n = 9 ∧ HM R ws' C G N W L D' Q z ∧ Cont R ws' (upd (parkM M l) g (4, [x0, 1, x2, x3, x4, x5, x6, x7, x8, hdQ l]))) := by
 refine callF_of_body tok Tryz.func24 (by kernel_rfl) rfl rfl rfl ?_; conv => cbv
 refine cfr (look_is_lx R ws C G N W ph sp cy L D Q z ov h M hM g x0 x1 x2 x3 x4 x5 x6 x7 x8 x9 hMg) [(0, 0), (1, 1), (2, 2), (3, 3), (4, 4), (5, 5), (6, 6)] (fun r h' n' hrr => ?_)
 obtain ⟨e1, e2, e3⟩ := hrr
 subst e1 e2 e3
 conv => cbv
 have hln0 : (0 : Int) ≤ ln := by omega
 refine LoopF.mk (fun kk s => ∃ i : Int, s = ⟨.ptr 0 (.lit 0) :: .p (.int .i64 (.sym g)) :: .sl 8 3 1 (.lit 0) (.sym ln) :: (undefs 5 ++ .ptr 9 (.lit 0) :: (undefs 20 ++ .sl 8 3 1 (.lit 0) (.sym ln) :: .p (.int .i64 (.sym ln)) :: .p (.int .i64 (.sym i)) :: undefs 48)), [hpA 0 1 5 6 3 W ph sp cy, hpB 1 2 4 3 W, hpC 2 3 214 2 N, hpP 3 L, hpP 4 D, hpF 5 z ov, hpP 6 Q, (7, .fix 0 o), hpP 8 cells, (9, .pure false [.int .i64 (.sym x0), .int .i64 (.sym x1), .int .i64 (.sym x2), .int .i64 (.sym x3), .int .i64 (.sym x4), .int .i64 (.sym x5), .int .i64 (.sym x6), .int .i64 (.sym x7), .int .i64 (.sym x8), .int .i64 (.sym x9)])], 10⟩ ∧ 0 ≤ i ∧ i ≤ ln ∧ kk = (ln - i).toNat) ln.toNat _
  (Re.at [(0, 0), (1, 1), (2, 2), (3, 3), (4, 4), (5, 5), (6, 6), (7, 7), (8, 8), (9, 9)] []) ⟨0, rfl, by omega, by omega, by omega⟩ ?_
 rintro kk s ⟨i, rfl, hi0, hi1, hkk⟩
 conv => cbv
 refine Br.mk (fun gi => ?_) (fun gi => ?_)
 ·have gi : i < ln := gi
  obtain ⟨x, hx⟩ : ∃ x, l[i.toNat]? = some x := ⟨_, List.getElem?_eq_getElem (by omega)⟩
  have hcell : cells[i.toNat]? = some (.int .i64 (.sym x)) := by rw [hcs]; exact ipv_get hx
  obtain ⟨z0, z1, z2, z3, z4, z5, z6, hMx⟩ := hl x (List.mem_of_getElem? hx)
  conv => cbv
  refine Need.mk (show 0 ≤ i ∧ i < ln from ⟨hi0, gi⟩) ?_
  conv => cbv
  refine Cell.at i _ hcell (by simp [I.val]) rfl ?_
  conv => cbv
  refine cfr (sudogM_lx R ws C G N W ph sp cy L D Q z ov h M hM x z0 z1 z2 z3 z4 z5 z6 hMx) [(0, 0), (1, 1), (2, 2), (3, 3), (4, 4), (5, 5), (6, 6)] (fun r h' n' hrr => ?_)
  obtain ⟨⟨e0, e1, he0⟩, e2, e3⟩ := hrr
  subst e1 e2 e3
  conv => cbv
  refine Br.no (show ¬ ¬ (e0 = 0) from fun q => q he0) ?_
  conv => cbv
  refine Fit.mk (by show (-9223372036854775808 : Int) ≤ i + 1; omega) (by show i + 1 ≤ 9223372036854775807; omega) fun i2 hi2 => ?_
  have hi2 : i2 = i + 1 := hi2
  conv => cbv
  refine Again.mk (ln - i2).toNat _ (by omega) (Re.at [(0, 0), (1, 1), (2, 2), (3, 3), (4, 4), (5, 5), (6, 6), (7, 7), (8, 8), (9, 9)] []) ⟨i2, rfl, by omega, by omega, rfl⟩
 ·have gi : ¬ i < ln := gi
  clear hkk hi0 hi1 gi
  conv => cbv
  refine LoopF.mk (fun kk s => ∃ (j : Int) (dn rest ws1 : List Int) (D1 : List PV) (Mj : Hp), s = ⟨.ptr 0 (.lit 0) :: .p (.int .i64 (.sym g)) :: .sl 8 3 1 (.lit 0) (.sym ln) :: (undefs 5 ++ .ptr 9 (.lit 0) :: (undefs 38 ++ .sl 8 3 1 (.lit 0) (.sym ln) :: .p (.int .i64 (.sym ln)) :: .p (.int .i64 (.sym j)) :: undefs 30)), [hpA 0 1 5 6 3 W ph sp cy, hpB 1 2 4 3 W, hpC 2 3 214 2 N, hpP 3 L, hpP 4 D1, hpF 5 z ov, hpP 6 Q, (7, .fix 0 o), hpP 8 cells, (9, .pure false [.int .i64 (.sym x0), .int .i64 (.lit 1), .int .i64 (.sym x2), .int .i64 (.sym x3), .int .i64 (.sym x4), .int .i64 (.sym x5), .int .i64 (.sym x6), .int .i64 (.sym x7), .int .i64 (.sym x8), .int .i64 (.lit (-1))])], 10⟩ ∧ l = dn ++ rest ∧ j = dn.length ∧ kk = rest.length ∧ HM R ws1 C G N W L D1 Q z ∧ Cont R ws1 Mj ∧ parkM Mj rest = parkM M l ∧ (∀ x ∈ rest, IsSu Mj x) ∧ Mj g = M g) l.length _
   (Re.at [(0, 0), (1, 1), (2, 2), (3, 3), (4, 4), (5, 5), (6, 6), (7, 7), (8, 8), (9, 9)] []) ⟨0, [], l, ws, D, M, rfl, rfl, rfl, rfl, h, hM, rfl, hl, rfl⟩ ?_
  rintro kk s ⟨j, dn, rest, ws1, D1, Mj, rfl, hld, hj, hkk, h1, c1, hpk, hsu, hMjg⟩
  have hj0 : (0 : Int) ≤ j := by omega
  have hj : j = (dn.length : Int) := hj
  have hll : (l.length : Int) = dn.length + rest.length := by rw [hld]; simp
  have hln : ln = (l.length : Int) := hln
  conv => cbv
  rcases rest with _ | ⟨x, rest⟩
  ·have hll : (l.length : Int) = dn.length := by simpa using hll
   refine Br.no (show ¬ (j < ln) by omega) ?_
   conv => cbv
   have hMjl : parkM M l = Mj := hpk.symm
   rw [hMjl]
   have hMjg2 : Mj g = some (4, [x0, x1, x2, x3, x4, x5, x6, x7, x8, x9]) := hMjg.trans hMg
   obtain ⟨hpg, hbg, hwg⟩ := c1.gor h1.a hMjg2
   have hll2 : ln = l.length := hln
   have hRr := h.r
   refine Br.mk (fun g0 => ?_) (fun g0 => ?_)
   ·have g0 : 0 < ln := g0
    obtain ⟨x, l', rfl⟩ : ∃ x l', l = x :: l' := by
     cases l with
     | nil => simp at hln; omega
     | cons x l' => exact ⟨x, l', rfl⟩
    have hcell : cells[(0 : Int).toNat]? = some (.int .i64 (.sym x)) := by rw [hcs]; rfl
    obtain ⟨z0, z1, z2, z3, z4, z5, z6, hMx⟩ := hl x List.mem_cons_self
    have hxl := hM.len h.a hMx
    show _
    conv => cbv
    refine Need.mk (show (0 : Int) ≤ 0 ∧ 0 < ln by omega) ?_
    conv => cbv
    refine Cell.at 0 _ hcell (by simp [I.val]) rfl ?_
    conv => cbv
    have hbg2 : ∀ q ∈ [x0, 1, x2, x], b62 q := by
     simp only [List.forall_mem_cons] at hbg ⊢
     obtain ⟨b0, b1, b2, b9, _⟩ := hbg
     exact ⟨b0, by unfold b62; omega, b2, by unfold b62; omega, fun q hq => by cases hq⟩
    refine CallF.le (args0 := [.ptr 0 (.lit 0), i6 g, .agg [i6 x0, i6 1, i6 x2, i6 x3, i6 x4, i6 x5, i6 x6, i6 x7, i6 x8, i6 x]]) (cfr (putGorM_lx R ws1 C G N W ph sp cy L D1 Q z ov h1 _ c1 o ho hph g x0 1 x2 x3 x4 x5 x6 x7 x8 x [x0, x1, x2, x3, x4, x5, x6, x7, x8, x9] hMjg2 rfl hbg2 hwg (by intro q hq; rw [List.mem_singleton.1 hq]; omega)) [(0, 0), (1, 1), (2, 2), (3, 3), (4, 4), (5, 5), (6, 6), (7, 7)] (fun r h' n' hrr => ?_)) (by simp [ales, ale, pvle, I.val])
    obtain ⟨e, ws2, D2, e1, he, e2, e3, h2, c2⟩ := hrr
    subst e1 e2 e3
    conv => cbv
    refine RetF.mk [i6 e] [hpA 0 1 5 6 3 W ph sp cy, hpB 1 2 4 3 W, hpC 2 3 214 2 N, hpP 3 L, hpP 4 D2, hpF 5 z ov, hpP 6 Q, (7, .fix 0 o), hpP 8 cells] 9 (Re.at [(0, 0), (1, 1), (2, 2), (3, 3), (4, 4), (5, 5), (6, 6), (7, 7), (8, 8)] []) rfl ⟨e, he, ws2, D2, rfl, rfl, rfl, h2, c2⟩
   ·have g0 : ¬ 0 < ln := g0
    have hl0 : l = [] := List.eq_nil_of_length_eq_zero (by omega)
    subst hl0
    conv => cbv
    have hbg2 : ∀ q ∈ [x0, 1, x2, (-1)], b62 q := by
     simp only [List.forall_mem_cons] at hbg ⊢
     obtain ⟨b0, b1, b2, b9, _⟩ := hbg
     exact ⟨b0, by unfold b62; omega, b2, by unfold b62; omega, fun q hq => by cases hq⟩
    refine CallF.le (args0 := [.ptr 0 (.lit 0), i6 g, .agg [i6 x0, i6 1, i6 x2, i6 x3, i6 x4, i6 x5, i6 x6, i6 x7, i6 x8, i6 (-1)]]) (cfr (putGorM_lx R ws1 C G N W ph sp cy L D1 Q z ov h1 _ c1 o ho hph g x0 1 x2 x3 x4 x5 x6 x7 x8 (-1) [x0, x1, x2, x3, x4, x5, x6, x7, x8, x9] hMjg2 rfl hbg2 hwg (by intro q hq; rw [List.mem_singleton.1 hq]; omega)) [(0, 0), (1, 1), (2, 2), (3, 3), (4, 4), (5, 5), (6, 6), (7, 7)] (fun r h' n' hrr => ?_)) (by simp [ales, ale, pvle, I.val])
    obtain ⟨e, ws2, D2, e1, he, e2, e3, h2, c2⟩ := hrr
    subst e1 e2 e3
    conv => cbv
    refine RetF.mk [i6 e] [hpA 0 1 5 6 3 W ph sp cy, hpB 1 2 4 3 W, hpC 2 3 214 2 N, hpP 3 L, hpP 4 D2, hpF 5 z ov, hpP 6 Q, (7, .fix 0 o), hpP 8 cells] 9 (Re.at [(0, 0), (1, 1), (2, 2), (3, 3), (4, 4), (5, 5), (6, 6), (7, 7), (8, 8)] []) rfl ⟨e, he, ws2, D2, rfl, rfl, rfl, h2, c2⟩
  ·have hll : (l.length : Int) = dn.length + (rest.length + 1) := by simpa using hll
   have hxl : l[j.toNat]? = some x := by rw [hld, hj]; simp
   have hcell : cells[j.toNat]? = some (.int .i64 (.sym x)) := by rw [hcs]; exact ipv_get hxl
   obtain ⟨z0, z1, z2, z3, z4, z5, z6, hMx⟩ := hsu x List.mem_cons_self
   have hxg : g ≠ x := fun e => by rw [← e, hMjg, hMg] at hMx; cases hMx
   refine Br.yes (show j < ln by omega) ?_
   conv => cbv
   refine Need.mk (show 0 ≤ j ∧ j < ln by omega) ?_
   conv => cbv
   refine Cell.at j _ hcell (by simp [I.val]) rfl ?_
   conv => cbv
   refine Fit.mk (by show (-9223372036854775808 : Int) ≤ j + 1; omega) (by show j + 1 ≤ 9223372036854775807; omega) fun j2 hj2 => ?_
   have hj2 : j2 = j + 1 := hj2
   conv => cbv
   refine Br.mk (fun gj => ?_) (fun gj => ?_)
   ·have gj : j2 < ln := gj
    obtain ⟨y, rest, rfl⟩ : ∃ y r, rest = y :: r := by
     cases rest with
     | nil => simp at hll; omega
     | cons y r => exact ⟨y, r, rfl⟩
    have hyl : l[j2.toNat]? = some y := by rw [hld, show j2.toNat = dn.length + 1 by omega]; simp
    have hcell2 : cells[j2.toNat]? = some (.int .i64 (.sym y)) := by rw [hcs]; exact ipv_get hyl
    obtain ⟨u0, u1, u2, u3, u4, u5, u6, hMy⟩ := hsu y (List.mem_cons_of_mem _ List.mem_cons_self)
    have hyl2 := c1.len h1.a hMy
    have hRr := h1.r
    conv => cbv
    refine Fit.mk (by show (-9223372036854775808 : Int) ≤ j + 1; omega) (by show j + 1 ≤ 9223372036854775807; omega) fun j3 hj3 => ?_
    obtain rfl : j2 = j3 := hj2.trans (show j3 = j + 1 from hj3).symm
    conv => cbv
    refine Need.mk (show 0 ≤ j2 ∧ j2 < ln by omega) ?_
    conv => cbv
    refine Cell.at j2 _ hcell2 (by simp [I.val]) rfl ?_
    conv => cbv
    refine CallF.le (args0 := [.ptr 0 (.lit 0), i6 x, i6 y]) (cfr (setMoreM_lx R ws1 C G N W ph sp cy L D1 Q z ov h1 Mj c1 o ho hph x y z0 z1 z2 z3 z4 z5 z6 hMx (by omega) (by unfold b62; omega)) [(0, 0), (1, 1), (2, 2), (3, 3), (4, 4), (5, 5), (6, 6), (7, 7)] (fun r h' n' hrr => ?_)) (by simp [ales, ale, pvle, I.val])
    obtain ⟨ws2, D2, e1, e2, e3, h2, c2⟩ := hrr
    subst e1 e2 e3
    conv => cbv
    refine Fit.mk (by show (-9223372036854775808 : Int) ≤ j + 1; omega) (by show j + 1 ≤ 9223372036854775807; omega) fun j4 hj4 => ?_
    have hj4 : j4 = j + 1 := hj4
    conv => cbv
    refine Again.mk ((y :: rest)).length _ (by rw [hkk]; exact Nat.lt_succ_self _) (Re.at [(0, 0), (1, 1), (2, 2), (3, 3), (4, 4), (5, 5), (6, 6), (7, 7), (8, 8), (9, 9)] []) ⟨j4, dn ++ [x], (y :: rest), ws2, D2, setM Mj x y, rfl, by rw [hld]; simp, by rw [hj4, hj]; simp, rfl, h2, c2, hpk, fun q hq => setM_su (hsu q (List.mem_cons_of_mem _ hq)), by rw [setM_ne hxg]; exact hMjg⟩
   ·have gj : ¬ j2 < ln := gj
    have hr0 : rest = [] := List.eq_nil_of_length_eq_zero (by omega)
    subst hr0
    conv => cbv
    refine CallF.le (args0 := [.ptr 0 (.lit 0), i6 x, i6 (-1)]) (cfr (setMoreM_lx R ws1 C G N W ph sp cy L D1 Q z ov h1 Mj c1 o ho hph x (-1) z0 z1 z2 z3 z4 z5 z6 hMx (by decide) (by unfold b62; omega)) [(0, 0), (1, 1), (2, 2), (3, 3), (4, 4), (5, 5), (6, 6), (7, 7)] (fun r h' n' hrr => ?_)) (by simp [ales, ale, pvle, I.val])
    obtain ⟨ws2, D2, e1, e2, e3, h2, c2⟩ := hrr
    subst e1 e2 e3
    conv => cbv
    refine Fit.mk (by show (-9223372036854775808 : Int) ≤ j + 1; omega) (by show j + 1 ≤ 9223372036854775807; omega) fun j4 hj4 => ?_
    have hj4 : j4 = j + 1 := hj4
    conv => cbv
    refine Again.mk ([]).length _ (by rw [hkk]; exact Nat.lt_succ_self _) (Re.at [(0, 0), (1, 1), (2, 2), (3, 3), (4, 4), (5, 5), (6, 6), (7, 7), (8, 8), (9, 9)] []) ⟨j4, dn ++ [x], [], ws2, D2, setM Mj x (-1), rfl, by rw [hld]; simp, by rw [hj4, hj]; simp, rfl, h2, c2, hpk, fun q hq => setM_su (hsu q (List.mem_cons_of_mem _ hq)), by rw [setM_ne hxg]; exact hMjg⟩
theorem rpark_lx (R : List Rw) (vs C G : List Int) (N W ph sp cy : Int) (P B V Q la : List PV) (m : Int) (ov : Bool) (h : RM R vs C G N W P B V Q la m) (M : Hp) (hM : Cont R vs M) (q : Qs) (hY : Sys M q) (hph : ph = 0) (g x0 x1 x2 x3 x4 x5 x6 x7 x8 x9 : Int) (l : List Int) (ln : Int) (cells : List PV) (hcs : cells = ipv l) (hln : ln = l.length) (hlb : ln ≤ 1000) (hMg : M g = some (4, [x0, x1, x2, x3, x4, x5, x6, x7, x8, x9])) (hl : ∀ x ∈ l, IsSu M x) : CallF (fun _ => Tryz.prog) 80 [.ptr 0 (.lit 0), i6 g, .p (.vsl (.sym ln) true cells)] [hpR 0 1 6 3 W 7 ph sp cy, hpB 1 2 5 3 W, hpD 2 3 3 1 N 4 209 8 N, hpP 3 P, hpP 4 B, hpP 5 V, hpP 6 Q, (7, .mix [.p (.vsl (.sym m) true la), .p (.bool ov)])] 8 (fun r h n => ∃ (e : Int), e = 0 ∧ ∃ (vs' : List Int) (V' : List PV), r = .p (.int .i64 (.sym e)) ∧ h = [hpR 0 1 6 3 W 7 ph sp cy, hpB 1 2 5 3 W, hpD 2 3 3 1 N 4 209 8 N, hpP 3 P, hpP 4 B, hpP 5 V', hpP 6 Q, (7, .mix [.p (.vsl (.sym m) true la), .p (.bool ov)])] ∧ n = 8 ∧ RM R vs' C G N W P B V' Q la m ∧ Cont R vs' (upd (parkM M l) g (4, [x0, 1, x2, x3, x4, x5, x6, x7, x8, hdQ l]))) := by
 refine callF_of_body tok Tryz.func80 (by kernel_rfl) rfl rfl rfl ?_; conv => cbv
 refine cfr (rgorM_lx R vs C G N W ph sp cy P B V Q la m ov h M hM g x0 x1 x2 x3 x4 x5 x6 x7 x8 x9 hMg) [(0, 0), (1, 1), (2, 2), (3, 3), (4, 4), (5, 5), (6, 6), (7, 7)] (fun r h' n' hrr => ?_)
 obtain ⟨⟨e0, e1, he0⟩, e2, e3⟩ := hrr
 subst e1 e2 e3
 conv => cbv
 have hln0 : (0 : Int) ≤ ln := by omega
 refine LoopF.mk (fun kk s => ∃ i e : Int, s = ⟨.ptr 0 (.lit 0) :: .p (.int .i64 (.sym g)) :: .p (.vsl (.sym ln) true cells) :: (undefs 4 ++ .ptr 8 (.lit 0) :: .p (.int .i64 (.sym e)) :: .p (.int .i64 (.sym i)) :: undefs 78), [hpR 0 1 6 3 W 7 ph sp cy, hpB 1 2 5 3 W, hpD 2 3 3 1 N 4 209 8 N, hpP 3 P, hpP 4 B, hpP 5 V, hpP 6 Q, (7, .mix [.p (.vsl (.sym m) true la), .p (.bool ov)]), (8, .pure false [.int .i64 (.sym x0), .int .i64 (.sym x1), .int .i64 (.sym x2), .int .i64 (.sym x3), .int .i64 (.sym x4), .int .i64 (.sym x5), .int .i64 (.sym x6), .int .i64 (.sym x7), .int .i64 (.sym x8), .int .i64 (.sym x9)])], 9⟩ ∧ 0 ≤ i ∧ i ≤ ln ∧ kk = (ln - i).toNat ∧ e = 0) ln.toNat _
  (Re.at [(0, 0), (1, 1), (2, 2), (3, 3), (4, 4), (5, 5), (6, 6), (7, 7), (8, 8)] []) ⟨0, e0, rfl, by omega, by omega, by omega, he0⟩ ?_
 rintro kk s ⟨i, e, rfl, hi0, hi1, hkk, he⟩
 conv => cbv
 refine Br.mk (fun gi => ?_) (fun gi => ?_)
 ·have gi : i < ln := gi
  obtain ⟨x, hx⟩ : ∃ x, l[i.toNat]? = some x := ⟨_, List.getElem?_eq_getElem (by omega)⟩
  have hcell : cells[i.toNat]? = some (.int .i64 (.sym x)) := by rw [hcs]; exact ipv_get hx
  obtain ⟨z0, z1, z2, z3, z4, z5, z6, hMx⟩ := hl x (List.mem_of_getElem? hx)
  conv => cbv
  refine Br.yes (show e = 0 from he) ?_
  conv => cbv
  refine Need.mk (show 0 ≤ i ∧ i < ln from ⟨hi0, gi⟩) ?_
  conv => cbv
  refine Cell.at i _ hcell (by simp [I.val]) rfl ?_
  conv => cbv
  refine cfr (rsudogM_lx R vs C G N W ph sp cy P B V Q la m ov h M hM x z0 z1 z2 z3 z4 z5 z6 hMx) [(0, 0), (1, 1), (2, 2), (3, 3), (4, 4), (5, 5), (6, 6), (7, 7)] (fun r h' n' hrr => ?_)
  obtain ⟨⟨e5, e1, he5⟩, e2, e3⟩ := hrr
  subst e1 e2 e3
  conv => cbv
  refine Fit.mk (by show (-9223372036854775808 : Int) ≤ i + 1; omega) (by show i + 1 ≤ 9223372036854775807; omega) fun i2 hi2 => ?_
  have hi2 : i2 = i + 1 := hi2
  conv => cbv
  refine Again.mk (ln - i2).toNat _ (by omega) (Re.at [(0, 0), (1, 1), (2, 2), (3, 3), (4, 4), (5, 5), (6, 6), (7, 7), (8, 8)] []) ⟨i2, e5, rfl, by omega, by omega, rfl, he5⟩
 ·have gi : ¬ i < ln := gi
  clear hkk hi0 hi1 gi
  conv => cbv
  refine Br.no (show ¬ ¬ (e = 0) from fun q => q he) ?_
  conv => cbv
  refine LoopF.mk (fun kk s => ∃ (j : Int) (dn rest vs1 : List Int) (V1 : List PV) (Mj : Hp), s = ⟨.ptr 0 (.lit 0) :: .p (.int .i64 (.sym g)) :: .p (.vsl (.sym ln) true cells) :: (undefs 4 ++ .ptr 8 (.lit 0) :: (undefs 2 ++ .p (.int .i64 (.sym j)) :: undefs 77)), [hpR 0 1 6 3 W 7 ph sp cy, hpB 1 2 5 3 W, hpD 2 3 3 1 N 4 209 8 N, hpP 3 P, hpP 4 B, hpP 5 V1, hpP 6 Q, (7, .mix [.p (.vsl (.sym m) true la), .p (.bool ov)]), (8, .pure false [.int .i64 (.sym x0), .int .i64 (.lit 1), .int .i64 (.sym x2), .int .i64 (.sym x3), .int .i64 (.sym x4), .int .i64 (.sym x5), .int .i64 (.sym x6), .int .i64 (.sym x7), .int .i64 (.sym x8), .int .i64 (.lit (-1))])], 9⟩ ∧ l = dn ++ rest ∧ j = dn.length ∧ kk = rest.length ∧ RM R vs1 C G N W P B V1 Q la m ∧ Cont R vs1 Mj ∧ parkM Mj rest = parkM M l ∧ (∀ x ∈ rest, IsSu Mj x) ∧ Mj g = M g) l.length _
   (Re.at [(0, 0), (1, 1), (2, 2), (3, 3), (4, 4), (5, 5), (6, 6), (7, 7), (8, 8)] []) ⟨0, [], l, vs, V, M, rfl, rfl, rfl, rfl, h, hM, rfl, hl, rfl⟩ ?_
  rintro kk s ⟨j, dn, rest, vs1, V1, Mj, rfl, hld, hj, hkk, h1, c1, hpk, hsu, hMjg⟩
  have hj0 : (0 : Int) ≤ j := by omega
  have hj : j = (dn.length : Int) := hj
  have hll : (l.length : Int) = dn.length + rest.length := by rw [hld]; simp
  have hln : ln = (l.length : Int) := hln
  conv => cbv
  rcases rest with _ | ⟨x, rest⟩
  ·have hll : (l.length : Int) = dn.length := by simpa using hll
   refine Br.no (show ¬ (j < ln) by omega) ?_
   conv => cbv
   have hMjl : parkM M l = Mj := hpk.symm
   rw [hMjl]
   have hMjg2 : Mj g = some (4, [x0, x1, x2, x3, x4, x5, x6, x7, x8, x9]) := hMjg.trans hMg
   obtain ⟨hpg, hbg, hwg⟩ := c1.gor h1.a hMjg2
   have hll2 : ln = l.length := hln
   have hRr := h.r
   refine Br.mk (fun g0 => ?_) (fun g0 => ?_)
   ·have g0 : 0 < ln := g0
    obtain ⟨x, l', rfl⟩ : ∃ x l', l = x :: l' := by
     cases l with
     | nil => simp at hln; omega
     | cons x l' => exact ⟨x, l', rfl⟩
    have hcell : cells[(0 : Int).toNat]? = some (.int .i64 (.sym x)) := by rw [hcs]; rfl
    obtain ⟨z0, z1, z2, z3, z4, z5, z6, hMx⟩ := hl x List.mem_cons_self
    have hxl := hM.len h.a hMx
    show _
    conv => cbv
    refine Need.mk (show (0 : Int) ≤ 0 ∧ 0 < ln by omega) ?_
    conv => cbv
    refine Cell.at 0 _ hcell (by simp [I.val]) rfl ?_
    conv => cbv
    have hbg2 : ∀ q ∈ [x0, 1, x2, x], b62 q := by
     simp only [List.forall_mem_cons] at hbg ⊢
     obtain ⟨b0, b1, b2, b9, _⟩ := hbg
     exact ⟨b0, by unfold b62; omega, b2, by unfold b62; omega, fun q hq => by cases hq⟩
    refine CallF.le (args0 := [.ptr 0 (.lit 0), i6 g, .agg [i6 x0, i6 1, i6 x2, i6 x3, i6 x4, i6 x5, i6 x6, i6 x7, i6 x8, i6 x]]) (cfr (rPutGorM_lx R vs1 C G N W ph sp cy P B V1 Q la m ov h1 _ c1 hph g x0 1 x2 x3 x4 x5 x6 x7 x8 x [x0, x1, x2, x3, x4, x5, x6, x7, x8, x9] hMjg2 rfl hbg2 hwg (by intro q hq; rw [List.mem_singleton.1 hq]; omega)) [(0, 0), (1, 1), (2, 2), (3, 3), (4, 4), (5, 5), (6, 6), (7, 7)] (fun r h' n' hrr => ?_)) (by simp [ales, ale, pvle, I.val])
    obtain ⟨e, vs2, V2, e1, he, e2, e3, h2, c2⟩ := hrr
    subst e1 e2 e3
    conv => cbv
    refine RetF.mk [i6 e] [hpR 0 1 6 3 W 7 ph sp cy, hpB 1 2 5 3 W, hpD 2 3 3 1 N 4 209 8 N, hpP 3 P, hpP 4 B, hpP 5 V2, hpP 6 Q, (7, .mix [.p (.vsl (.sym m) true la), .p (.bool ov)])] 8 (Re.at [(0, 0), (1, 1), (2, 2), (3, 3), (4, 4), (5, 5), (6, 6), (7, 7)] []) rfl ⟨e, he, vs2, V2, rfl, rfl, rfl, h2, c2⟩
   ·have g0 : ¬ 0 < ln := g0
    have hl0 : l = [] := List.eq_nil_of_length_eq_zero (by omega)
    subst hl0
    conv => cbv
    have hbg2 : ∀ q ∈ [x0, 1, x2, (-1)], b62 q := by
     simp only [List.forall_mem_cons] at hbg ⊢
     obtain ⟨b0, b1, b2, b9, _⟩ := hbg
     exact ⟨b0, by unfold b62; omega, b2, by unfold b62; omega, fun q hq => by cases hq⟩
    refine CallF.le (args0 := [.ptr 0 (.lit 0), i6 g, .agg [i6 x0, i6 1, i6 x2, i6 x3, i6 x4, i6 x5, i6 x6, i6 x7, i6 x8, i6 (-1)]]) (cfr (rPutGorM_lx R vs1 C G N W ph sp cy P B V1 Q la m ov h1 _ c1 hph g x0 1 x2 x3 x4 x5 x6 x7 x8 (-1) [x0, x1, x2, x3, x4, x5, x6, x7, x8, x9] hMjg2 rfl hbg2 hwg (by intro q hq; rw [List.mem_singleton.1 hq]; omega)) [(0, 0), (1, 1), (2, 2), (3, 3), (4, 4), (5, 5), (6, 6), (7, 7)] (fun r h' n' hrr => ?_)) (by simp [ales, ale, pvle, I.val])
    obtain ⟨e, vs2, V2, e1, he, e2, e3, h2, c2⟩ := hrr
    subst e1 e2 e3
    conv => cbv
    refine RetF.mk [i6 e] [hpR 0 1 6 3 W 7 ph sp cy, hpB 1 2 5 3 W, hpD 2 3 3 1 N 4 209 8 N, hpP 3 P, hpP 4 B, hpP 5 V2, hpP 6 Q, (7, .mix [.p (.vsl (.sym m) true la), .p (.bool ov)])] 8 (Re.at [(0, 0), (1, 1), (2, 2), (3, 3), (4, 4), (5, 5), (6, 6), (7, 7)] []) rfl ⟨e, he, vs2, V2, rfl, rfl, rfl, h2, c2⟩
  ·have hll : (l.length : Int) = dn.length + (rest.length + 1) := by simpa using hll
   have hxl : l[j.toNat]? = some x := by rw [hld, hj]; simp
   have hcell : cells[j.toNat]? = some (.int .i64 (.sym x)) := by rw [hcs]; exact ipv_get hxl
   obtain ⟨z0, z1, z2, z3, z4, z5, z6, hMx⟩ := hsu x List.mem_cons_self
   have hxg : g ≠ x := fun e => by rw [← e, hMjg, hMg] at hMx; cases hMx
   obtain ⟨hp3, hb3, hw3⟩ := c1.sudog h1.a hMx
   refine Br.yes (show j < ln by omega) ?_
   conv => cbv
   refine Need.mk (show 0 ≤ j ∧ j < ln by omega) ?_
   conv => cbv
   refine Cell.at j _ hcell (by simp [I.val]) rfl ?_
   conv => cbv
   refine cfr (rsudogM_lx R vs1 C G N W ph sp cy P B V1 Q la m ov h1 Mj c1 x z0 z1 z2 z3 z4 z5 z6 hMx) [(0, 0), (1, 1), (2, 2), (3, 3), (4, 4), (5, 5), (6, 6), (7, 7)] (fun r h' n' hrr => ?_)
   obtain ⟨⟨e5, e1, he5⟩, e2, e3⟩ := hrr
   subst e1 e2 e3
   conv => cbv
   refine Fit.mk (by show (-9223372036854775808 : Int) ≤ j + 1; omega) (by show j + 1 ≤ 9223372036854775807; omega) fun j2 hj2 => ?_
   have hj2 : j2 = j + 1 := hj2
   conv => cbv
   refine Br.mk (fun gj => ?_) (fun gj => ?_)
   ·have gj : j2 < ln := gj
    obtain ⟨y, rest, rfl⟩ : ∃ y r, rest = y :: r := by
     cases rest with
     | nil => simp at hll; omega
     | cons y r => exact ⟨y, r, rfl⟩
    have hyl : l[j2.toNat]? = some y := by rw [hld, show j2.toNat = dn.length + 1 by omega]; simp
    have hcell2 : cells[j2.toNat]? = some (.int .i64 (.sym y)) := by rw [hcs]; exact ipv_get hyl
    obtain ⟨u0, u1, u2, u3, u4, u5, u6, hMy⟩ := hsu y (List.mem_cons_of_mem _ List.mem_cons_self)
    have hyl2 := c1.len h1.a hMy
    have hRr := h1.r
    conv => cbv
    refine Fit.mk (by show (-9223372036854775808 : Int) ≤ j + 1; omega) (by show j + 1 ≤ 9223372036854775807; omega) fun j3 hj3 => ?_
    obtain rfl : j2 = j3 := hj2.trans (show j3 = j + 1 from hj3).symm
    conv => cbv
    refine Need.mk (show 0 ≤ j2 ∧ j2 < ln by omega) ?_
    conv => cbv
    refine Cell.at j2 _ hcell2 (by simp [I.val]) rfl ?_
    conv => cbv
    refine drawn_sound tok (by kernel_rfl) [(6, [])] [0, 1, 2, 3, 4, 5, 6] (by kernel_rfl) ?_; conv => cbv
    refine Need.mk (show 0 ≤ j ∧ j < ln by omega) ?_
    conv => cbv
    refine Cell.at j _ hcell (by simp [I.val]) rfl ?_
    conv => cbv
    have hp' : ∀ q ∈ [z0, z1, z3, y], -1 ≤ q := by
     simp only [List.forall_mem_cons] at hp3 ⊢
     obtain ⟨p0, p1, p3, p6, _⟩ := hp3
     exact ⟨p0, p1, p3, (by omega), fun q hq => by cases hq⟩
    have hb' : ∀ q ∈ [z0, z1, z3, z4, z5, y], b62 q := by
     simp only [List.forall_mem_cons] at hb3 ⊢
     obtain ⟨b0, b1, b3, b4, b5, b6, _⟩ := hb3
     exact ⟨b0, b1, b3, b4, b5, (by unfold b62; omega), fun q hq => by cases hq⟩
    refine CallF.le (args0 := [.ptr 0 (.lit 0), i6 x, .agg [i6 z0, i6 z1, i6 z2, i6 z3, i6 z4, i6 z5, i6 y]]) (cfr (rPutSudogM_lx R vs1 C G N W ph sp cy P B V1 Q la m ov h1 Mj c1 hph x z0 z1 z2 z3 z4 z5 y [z0, z1, z2, z3, z4, z5, z6] hMx rfl hb' hw3 hp') [(0, 0), (1, 1), (2, 2), (3, 3), (4, 4), (5, 5), (6, 6), (7, 7)] (fun r h' n' hrr => ?_)) (by simp [ales, ale, pvle, I.val])
    obtain ⟨e6, vs2, V2, e1, he6, e2, e3, h2, c2⟩ := hrr
    subst e1 e2 e3
    rw [← setM_eq hMx] at c2
    conv => cbv
    refine Fit.mk (by show (-9223372036854775808 : Int) ≤ j + 1; omega) (by show j + 1 ≤ 9223372036854775807; omega) fun j4 hj4 => ?_
    have hj4 : j4 = j + 1 := hj4
    conv => cbv
    refine Again.mk ((y :: rest)).length _ (by rw [hkk]; exact Nat.lt_succ_self _) (Re.at [(0, 0), (1, 1), (2, 2), (3, 3), (4, 4), (5, 5), (6, 6), (7, 7), (8, 8)] []) ⟨j4, dn ++ [x], (y :: rest), vs2, V2, setM Mj x y, rfl, by rw [hld]; simp, by rw [hj4, hj]; simp, rfl, h2, c2, hpk, fun q hq => setM_su (hsu q (List.mem_cons_of_mem _ hq)), by rw [setM_ne hxg]; exact hMjg⟩
   ·have gj : ¬ j2 < ln := gj
    have hr0 : rest = [] := List.eq_nil_of_length_eq_zero (by omega)
    subst hr0
    conv => cbv
    refine drawn_sound tok (by kernel_rfl) [(6, [])] [0, 1, 2, 3, 4, 5, 6] (by kernel_rfl) ?_; conv => cbv
    refine Need.mk (show 0 ≤ j ∧ j < ln by omega) ?_
    conv => cbv
    refine Cell.at j _ hcell (by simp [I.val]) rfl ?_
    conv => cbv
    have hp' : ∀ q ∈ [z0, z1, z3, (-1)], -1 ≤ q := by
     simp only [List.forall_mem_cons] at hp3 ⊢
     obtain ⟨p0, p1, p3, p6, _⟩ := hp3
     exact ⟨p0, p1, p3, (by decide), fun q hq => by cases hq⟩
    have hb' : ∀ q ∈ [z0, z1, z3, z4, z5, (-1)], b62 q := by
     simp only [List.forall_mem_cons] at hb3 ⊢
     obtain ⟨b0, b1, b3, b4, b5, b6, _⟩ := hb3
     exact ⟨b0, b1, b3, b4, b5, (by unfold b62; omega), fun q hq => by cases hq⟩
    refine CallF.le (args0 := [.ptr 0 (.lit 0), i6 x, .agg [i6 z0, i6 z1, i6 z2, i6 z3, i6 z4, i6 z5, i6 (-1)]]) (cfr (rPutSudogM_lx R vs1 C G N W ph sp cy P B V1 Q la m ov h1 Mj c1 hph x z0 z1 z2 z3 z4 z5 (-1) [z0, z1, z2, z3, z4, z5, z6] hMx rfl hb' hw3 hp') [(0, 0), (1, 1), (2, 2), (3, 3), (4, 4), (5, 5), (6, 6), (7, 7)] (fun r h' n' hrr => ?_)) (by simp [ales, ale, pvle, I.val])
    obtain ⟨e6, vs2, V2, e1, he6, e2, e3, h2, c2⟩ := hrr
    subst e1 e2 e3
    rw [← setM_eq hMx] at c2
    conv => cbv
    refine Fit.mk (by show (-9223372036854775808 : Int) ≤ j + 1; omega) (by show j + 1 ≤ 9223372036854775807; omega) fun j4 hj4 => ?_
    have hj4 : j4 = j + 1 := hj4
    conv => cbv
    refine Again.mk ([]).length _ (by rw [hkk]; exact Nat.lt_succ_self _) (Re.at [(0, 0), (1, 1), (2, 2), (3, 3), (4, 4), (5, 5), (6, 6), (7, 7), (8, 8)] []) ⟨j4, dn ++ [x], [], vs2, V2, setM Mj x (-1), rfl, by rw [hld]; simp, by rw [hj4, hj]; simp, rfl, h2, c2, hpk, fun q hq => setM_su (hsu q (List.mem_cons_of_mem _ hq)), by rw [setM_ne hxg]; exact hMjg⟩
theorem sendHeld_lx (R : List Rw) (ws C G : List Int) (N W ph sp cy : Int) (L D Q : List PV) (z : ByteArray) (ov : Bool) (h : HM R ws C G N W L D Q z) (M : Hp) (hM : Cont R ws M) (q : Qs) (hY : Sys M q) (o : Unit → Obj) (ho : IsPow o) (hph : ph = 0) (w v : Int) (hw : (-9223372036854775808 ≤ w ∧ w ≤ 9223372036854775807)) (hv : (-9223372036854775808 ≤ v ∧ v ≤ 9223372036854775807)) (h0 : w ≠ 0) (a y0 y1 y2 y3 y4 y5 y6 y7 y8 : Int) (ha : atW w = a) (hMa : M a = some (1, [y0, y1, y2, y3, y4, y5, y6, y7, y8])) (hcl : y1 = 0) (hq : q a false = []) (hk0 : 0 ≤ y2) (hs0 : 0 ≤ y3) (X : List Int) (hMb : M y4 = some (2, X)) (hX : (X.length : Int) = y0) (hk : y2 < y0) : CallF (fun _ => Tryz.prog) 32 [.ptr 0 (.lit 0), i6 w, i6 v] [hpA 0 1 5 6 3 W ph sp cy, hpB 1 2 4 3 W, hpC 2 3 214 2 N, hpP 3 L, hpP 4 D, hpF 5 z ov, hpP 6 Q, (7, .fix 0 o)] 8 (fun r h n => ∃ (ws' : List Int) (D' : List PV), r = .tup [i6 (-1), i6 1] ∧ h = [hpA 0 1 5 6 3 W ph sp cy, hpB 1 2 4 3 W, hpC 2 3 214 2 N, hpP 3 L, hpP 4 D', hpF 5 z ov, hpP 6 Q, (7, .fix 0 o)] ∧ n = 8 ∧ HM R ws' C G N W L D' Q z ∧ Cont R ws' (upd (upd M y4 (2, X.set ((y3 % y0 + y2) % y0).toNat v)) a (1, [y0, y1, y2 + 1, y3, y4, y5, y6, y7, y8]))) := by
 refine callF_of_body tok Tryz.func32 (by kernel_rfl) rfl rfl rfl ?_; conv => cbv
 refine cfr (see_is_lx R ws C G N W ph sp cy L D Q z ov h M hM w a y0 y1 y2 y3 y4 y5 y6 y7 y8 hw h0 ha hMa) [(0, 0), (1, 1), (2, 2), (3, 3), (4, 4), (5, 5), (6, 6)] (fun r h' n' ⟨e1, e2, e3⟩ => ?_)
 subst e1 e2 e3
 conv => cbv
 refine callF_frame (closedF_lx a y0 y1 y2 y3 y4 y5 y6 y7 y8 hcl) [] rfl trivial rfl rfl (fun r h' n' ⟨e1, e2, e3⟩ => ?_)
 subst e1 e2 e3
 conv => cbv
 refine cfr (listPopE_lx R ws C G N W ph sp cy L D Q z ov h M hM q hY o (hch9 hY) (hsu7 hY) a false hq) [(0, 0), (1, 1), (2, 2), (3, 3), (4, 4), (5, 5), (6, 6), (7, 7)] (fun r h' n' ⟨e1, e2, e3⟩ => ?_)
 subst e1 e2 e3
 conv => cbv
 refine cfr (ringPutM_lx R ws C G N W ph sp cy L D Q z ov h M hM o ho hph a v y0 y1 y2 y3 y4 y5 y6 y7 y8 hMa hv hk0 hs0) [(0, 0), (1, 1), (2, 2), (3, 3), (4, 4), (5, 5), (6, 6), (7, 7)] (fun r h' n' hrr => ?_)
 obtain ⟨e, ws', D', e1, e2, e3, h1, hres⟩ := hrr
 subst e1 e2 e3
 conv => cbv
 have hr2 : e = 0 ∧ Cont R ws' (upd (upd M y4 (2, X.set ((y3 % y0 + y2) % y0).toNat v)) a (1, [y0, y1, y2 + 1, y3, y4, y5, y6, y7, y8])) := by
  rcases hres with ⟨q1, _⟩ | q1
  ·omega
  ·rcases q1 X hMb hX with ⟨q2, _⟩ | ⟨_, _, q3, q4⟩
   ·exact absurd hk q2
   ·exact ⟨q3, q4⟩
 refine Br.yes (show e = 0 from hr2.1) ?_
 conv => cbv
 refine RetF.mk [i6 (-1), i6 1] [hpA 0 1 5 6 3 W ph sp cy, hpB 1 2 4 3 W, hpC 2 3 214 2 N, hpP 3 L, hpP 4 D', hpF 5 z ov, hpP 6 Q, (7, .fix 0 o)] 8 (Re.at [(0, 0), (1, 1), (2, 2), (3, 3), (4, 4), (5, 5), (6, 6), (7, 7)] []) rfl ⟨ws', D', rfl, rfl, rfl, h1, hr2.2⟩
theorem ringPutZ_lx (R : List Rw) (ws C G : List Int) (N W ph sp cy : Int) (L D Q : List PV) (z : ByteArray) (ov : Bool) (h : HM R ws C G N W L D Q z) (M : Hp) (hM : Cont R ws M) (o : Unit → Obj) (ho : IsPow o) (hph : ph = 0) (c w cp cl k s b th tt sh st : Int) (hMc : M c = some (1, [cp, cl, k, s, b, th, tt, sh, st])) (hcp : cp ≤ 0) (hw : -9223372036854775808 ≤ w ∧ w ≤ 9223372036854775807) : CallF (fun _ => Tryz.prog) 84 [.ptr 0 (.lit 0), i6 c, i6 w] [hpA 0 1 5 6 3 W ph sp cy, hpB 1 2 4 3 W, hpC 2 3 214 2 N, hpP 3 L, hpP 4 D, hpF 5 z ov, hpP 6 Q, (7, .fix 0 o)] 8 (fun r h n => ∃ e : Int, r = .p (.int .i64 (.sym e)) ∧ e = 9 ∧ h = [hpA 0 1 5 6 3 W ph sp cy, hpB 1 2 4 3 W, hpC 2 3 214 2 N, hpP 3 L, hpP 4 D, hpF 5 z ov, hpP 6 Q, (7, .fix 0 o)] ∧ n = 8) :=
 (ringPut_lx R ws C G N W ph sp cy L D Q z ov h o ho c w hw).mono fun r h' n hrr => by
  obtain ⟨e, ws', C', G', ov', D', Q', z', e1, e2, e3, h1, hP⟩ := hrr
  have hk := hM.kept hMc
  generalize hs0 : (ws', C', G', ov') = s0 at hP
  cases hP with
  | no hh => exact absurd hk hh
  | full =>
   simp only [Prod.mk.injEq] at hs0
   obtain ⟨q0, q1, q2, q3⟩ := hs0
   have q4 : Q' = Q := by rw [h1.q, h.q, q1]
   have q5 : z' = z := by rw [h1.z, h.z, q2]
   have q6 : D' = D := by rw [h1.d, h.d, q0]
   rw [q3, q4, q5, q6] at e2
   exact ⟨9, e1, rfl, e2, e3⟩
  | ok X0 y0 y1 y2 y3 y4 y5 y6 y7 y8 hh hX0 hy h0 =>
   have hy2 : chanFs X0 = [cp, cl, k, s, b, th, tt, sh, st] := (hM.tr hMc rfl rfl (TR.ok X0 hh hX0)).2
   rw [hy2] at hy
   simp only [List.cons.injEq, and_true] at hy
   obtain ⟨rfl, _⟩ := hy
   exact absurd hcp (by omega)
theorem sendFull0_lx (R : List Rw) (ws C G : List Int) (N W ph sp cy : Int) (L D Q : List PV) (z : ByteArray) (ov : Bool) (h : HM R ws C G N W L D Q z) (M : Hp) (hM : Cont R ws M) (q : Qs) (hY : Sys M q) (o : Unit → Obj) (ho : IsPow o) (hph : ph = 0) (w v : Int) (hw : (-9223372036854775808 ≤ w ∧ w ≤ 9223372036854775807)) (hv : (-9223372036854775808 ≤ v ∧ v ≤ 9223372036854775807)) (h0 : w ≠ 0) (a y0 y1 y2 y3 y4 y5 y6 y7 y8 : Int) (ha : atW w = a) (hMa : M a = some (1, [y0, y1, y2, y3, y4, y5, y6, y7, y8])) (hcl : y1 = 0) (hq : q a false = []) (hcp : y0 ≤ 0) : CallF (fun _ => Tryz.prog) 32 [.ptr 0 (.lit 0), i6 w, i6 v] [hpA 0 1 5 6 3 W ph sp cy, hpB 1 2 4 3 W, hpC 2 3 214 2 N, hpP 3 L, hpP 4 D, hpF 5 z ov, hpP 6 Q, (7, .fix 0 o)] 8 (fun r h n => r = .tup [i6 (-1), i6 0] ∧ h = [hpA 0 1 5 6 3 W ph sp cy, hpB 1 2 4 3 W, hpC 2 3 214 2 N, hpP 3 L, hpP 4 D, hpF 5 z ov, hpP 6 Q, (7, .fix 0 o)] ∧ n = 8) := by
 refine callF_of_body tok Tryz.func32 (by kernel_rfl) rfl rfl rfl ?_; conv => cbv
 refine cfr (see_is_lx R ws C G N W ph sp cy L D Q z ov h M hM w a y0 y1 y2 y3 y4 y5 y6 y7 y8 hw h0 ha hMa) [(0, 0), (1, 1), (2, 2), (3, 3), (4, 4), (5, 5), (6, 6)] (fun r h' n' ⟨e1, e2, e3⟩ => ?_)
 subst e1 e2 e3
 conv => cbv
 refine callF_frame (closedF_lx a y0 y1 y2 y3 y4 y5 y6 y7 y8 hcl) [] rfl trivial rfl rfl (fun r h' n' ⟨e1, e2, e3⟩ => ?_)
 subst e1 e2 e3
 conv => cbv
 refine cfr (listPopE_lx R ws C G N W ph sp cy L D Q z ov h M hM q hY o (hch9 hY) (hsu7 hY) a false hq) [(0, 0), (1, 1), (2, 2), (3, 3), (4, 4), (5, 5), (6, 6), (7, 7)] (fun r h' n' ⟨e1, e2, e3⟩ => ?_)
 subst e1 e2 e3
 conv => cbv
 refine cfr (ringPutZ_lx R ws C G N W ph sp cy L D Q z ov h M hM o ho hph a v y0 y1 y2 y3 y4 y5 y6 y7 y8 hMa hcp hv) [(0, 0), (1, 1), (2, 2), (3, 3), (4, 4), (5, 5), (6, 6), (7, 7)] (fun r h' n' hrr => ?_)
 obtain ⟨e, e1, he, e2, e3⟩ := hrr
 subst e1 e2 e3
 conv => cbv
 refine Br.no (show ¬ e = 0 by omega) ?_
 conv => cbv
 refine RetF.mk [i6 (-1), i6 0] [hpA 0 1 5 6 3 W ph sp cy, hpB 1 2 4 3 W, hpC 2 3 214 2 N, hpP 3 L, hpP 4 D, hpF 5 z ov, hpP 6 Q, (7, .fix 0 o)] 8 (Re.at [(0, 0), (1, 1), (2, 2), (3, 3), (4, 4), (5, 5), (6, 6), (7, 7)] []) rfl ⟨rfl, rfl, rfl⟩
theorem sendFull_lx (R : List Rw) (ws C G : List Int) (N W ph sp cy : Int) (L D Q : List PV) (z : ByteArray) (ov : Bool) (h : HM R ws C G N W L D Q z) (M : Hp) (hM : Cont R ws M) (q : Qs) (hY : Sys M q) (o : Unit → Obj) (ho : IsPow o) (hph : ph = 0) (w v : Int) (hw : (-9223372036854775808 ≤ w ∧ w ≤ 9223372036854775807)) (hv : (-9223372036854775808 ≤ v ∧ v ≤ 9223372036854775807)) (h0 : w ≠ 0) (a y0 y1 y2 y3 y4 y5 y6 y7 y8 : Int) (ha : atW w = a) (hMa : M a = some (1, [y0, y1, y2, y3, y4, y5, y6, y7, y8])) (hcl : y1 = 0) (hq : q a false = []) (hk0 : 0 ≤ y2) (hs0 : 0 ≤ y3) (h1 : 0 < y0) (X : List Int) (hMb : M y4 = some (2, X)) (hX : (X.length : Int) = y0) (hk : ¬ y2 < y0) : CallF (fun _ => Tryz.prog) 32 [.ptr 0 (.lit 0), i6 w, i6 v] [hpA 0 1 5 6 3 W ph sp cy, hpB 1 2 4 3 W, hpC 2 3 214 2 N, hpP 3 L, hpP 4 D, hpF 5 z ov, hpP 6 Q, (7, .fix 0 o)] 8 (fun r h n => r = .tup [i6 (-1), i6 0] ∧ h = [hpA 0 1 5 6 3 W ph sp cy, hpB 1 2 4 3 W, hpC 2 3 214 2 N, hpP 3 L, hpP 4 D, hpF 5 z ov, hpP 6 Q, (7, .fix 0 o)] ∧ n = 8) := by
 refine callF_of_body tok Tryz.func32 (by kernel_rfl) rfl rfl rfl ?_; conv => cbv
 refine cfr (see_is_lx R ws C G N W ph sp cy L D Q z ov h M hM w a y0 y1 y2 y3 y4 y5 y6 y7 y8 hw h0 ha hMa) [(0, 0), (1, 1), (2, 2), (3, 3), (4, 4), (5, 5), (6, 6)] (fun r h' n' ⟨e1, e2, e3⟩ => ?_)
 subst e1 e2 e3
 conv => cbv
 refine callF_frame (closedF_lx a y0 y1 y2 y3 y4 y5 y6 y7 y8 hcl) [] rfl trivial rfl rfl (fun r h' n' ⟨e1, e2, e3⟩ => ?_)
 subst e1 e2 e3
 conv => cbv
 refine cfr (listPopE_lx R ws C G N W ph sp cy L D Q z ov h M hM q hY o (hch9 hY) (hsu7 hY) a false hq) [(0, 0), (1, 1), (2, 2), (3, 3), (4, 4), (5, 5), (6, 6), (7, 7)] (fun r h' n' ⟨e1, e2, e3⟩ => ?_)
 subst e1 e2 e3
 conv => cbv
 refine cfr (ringPutM_lx R ws C G N W ph sp cy L D Q z ov h M hM o ho hph a v y0 y1 y2 y3 y4 y5 y6 y7 y8 hMa hv hk0 hs0) [(0, 0), (1, 1), (2, 2), (3, 3), (4, 4), (5, 5), (6, 6), (7, 7)] (fun r h' n' hrr => ?_)
 obtain ⟨e, ws', D', e1, e2, e3, h2, hres⟩ := hrr
 subst e1 e2 e3
 conv => cbv
 have hr2 : e = 9 ∧ ws' = ws := by
  rcases hres with ⟨q2, _⟩ | q1
  ·omega
  ·rcases q1 X hMb hX with ⟨_, q2, q3⟩ | ⟨_, q2, _⟩
   ·exact ⟨q2, q3⟩
   ·exact absurd q2 hk
 obtain rfl : D = D' := by rw [h2.d, h.d, hr2.2]
 refine Br.no (show ¬ e = 0 by omega) ?_
 conv => cbv
 refine RetF.mk [i6 (-1), i6 0] [hpA 0 1 5 6 3 W ph sp cy, hpB 1 2 4 3 W, hpC 2 3 214 2 N, hpP 3 L, hpP 4 D, hpF 5 z ov, hpP 6 Q, (7, .fix 0 o)] 8 (Re.at [(0, 0), (1, 1), (2, 2), (3, 3), (4, 4), (5, 5), (6, 6), (7, 7)] []) rfl ⟨rfl, rfl, rfl⟩
theorem sendRZero_lx (R : List Rw) (ws C G : List Int) (N W ph sp cy : Int) (L D Q : List PV) (z : ByteArray) (ov : Bool) (h : HM R ws C G N W L D Q z) (M : Hp) (hM : Cont R ws M) (o : Unit → Obj) (w : Int) (h0 : w = 0) : CallF (fun _ => Tryz.prog) 77 [.ptr 0 (.lit 0), i6 w] [hpA 0 1 5 6 3 W ph sp cy, hpB 1 2 4 3 W, hpC 2 3 214 2 N, hpP 3 L, hpP 4 D, hpF 5 z ov, hpP 6 Q, (7, .fix 0 o)] 8 (fun r h n => r = .p (.bool false) ∧ h = [hpA 0 1 5 6 3 W ph sp cy, hpB 1 2 4 3 W, hpC 2 3 214 2 N, hpP 3 L, hpP 4 D, hpF 5 z ov, hpP 6 Q, (7, .fix 0 o)] ∧ n = 8) := by
 refine callF_of_body tok Tryz.func77 (by kernel_rfl) rfl rfl rfl ?_; conv => cbv
 refine cfr (see_zero_lx R ws C G N W ph sp cy L D Q z ov h M hM w h0) [(0, 0), (1, 1), (2, 2), (3, 3), (4, 4), (5, 5), (6, 6)] (fun r h' n' ⟨e1, e2, e3⟩ => ?_)
 subst e1 e2 e3
 conv => cbv
 refine RetF.mk [.p (.bool false)] [hpA 0 1 5 6 3 W ph sp cy, hpB 1 2 4 3 W, hpC 2 3 214 2 N, hpP 3 L, hpP 4 D, hpF 5 z ov, hpP 6 Q, (7, .fix 0 o)] 8 (Re.at [(0, 0), (1, 1), (2, 2), (3, 3), (4, 4), (5, 5), (6, 6), (7, 7)] []) rfl ⟨rfl, rfl, rfl⟩
theorem awake15_lx (o : Unit → Obj) (ho : IsPow o) : CallF (fun _ => Tryz.prog) 29 [] [(0, .fix 0 o)] 1 (fun r h n => r = .p (.bool true) ∧ h = [(0, .fix 0 o)] ∧ n = 1) := by
 refine callF_of_body tok Tryz.func29 (by kernel_rfl) rfl rfl rfl ?_; conv => cbv
 refine CallF.re (args0 := [.p (.vsl (.sym 1) true [.int .i64 (.sym 1)]), i6 1]) (h' := [(0, .fix 0 o)]) (Re.at [(0, 0)] []) (cfr (made15_lx o ho [1] 1 1 [.int .i64 (.sym 1)] rfl rfl) [(0, 0)] (fun r h' n' hrr => ?_))
 obtain ⟨N, W, C, R, ws, vs, L, D, Q, z, P, B, V, Qr, M, CS, GS, chs, bufs, grs, nc, ng, e1, e2, e3, S, hB, hY, hcs, hgs, hnc, hng, hnm, hn1, hn4, hngo, hcnt, hR, hW⟩ := hrr
 subst e1 e2 e3
 conv => cbv
 have hnc1 : nc = 1 := by omega
 obtain ⟨c, hcc⟩ := chA1 hnc hnc1
 have hc0 : chs[0]? = some c := by rw [hcc]; rfl
 obtain ⟨b, hb0, hBC⟩ := hB.ch 0 c 1 hc0 rfl
 have hMc := hBC.c
 rw [capS (by decide)] at hMc
 have hcl := S.c.len S.h.a hMc
 have hcw : atW (2 * c + 1) = c := atW_ptr c
 have hngb := ngor_bd 1
 have hMb : M b = some (2, [0]) := by
  rcases hBC.b with q | ⟨_, _, q⟩
  ·rw [capS (by decide)] at q; omega
  ·rw [capS (by decide)] at q; exact q
 have hcb : c ≠ b := fun q => by rw [q, hMb] at hMc; cases hMc
 have hh := S.h
 have hc := S.c
 refine drawn_sound tok (by kernel_rfl) [(5, [3, 2, 1, 0]), (8, [])] [0, 1, 2, 3, 4, 5, 6, 7, 8, 9, 10, 11, 12, 13] (by kernel_rfl) ?_; conv => cbv
 refine CallF.le (args0 := [.ptr 17 (.lit 0), i6 0]) (cfr (ch15_lx R ws vs C N W 0 0 0 L D Q z false P B V Qr [] 0 M nc ng CS GS o 0 chs hcs hnc (by omega) (by omega)) [(0, 2), (1, 3), (2, 4), (3, 5), (4, 6), (5, 7), (6, 8), (7, 9), (8, 10), (9, 11), (10, 12), (11, 13), (12, 14), (13, 15), (14, 16), (15, 0), (16, 17), (17, 18), (18, 19)] (fun r h' n' hrr => ?_)) (by simp [ales, ale, pvle, I.val])
 obtain ⟨⟨x1, e1, hx1⟩, e2, e3⟩ := hrr
 subst e1 e2 e3
 conv => cbv
 obtain rfl : c = x1 := (ix0 hx1 hc0).symm
 refine Fit.mk (by show (-9223372036854775808 : Int) ≤ 2 * c; omega) (by show 2 * c ≤ 9223372036854775807; omega) fun a1 ha1 => ?_
 have ha1 : a1 = 2 * c := ha1
 conv => cbv
 refine Fit.mk (by show (-9223372036854775808 : Int) ≤ a1 + 1; omega) (by show a1 + 1 ≤ 9223372036854775807; omega) fun w1 hw1 => ?_
 have hw1 : w1 = a1 + 1 := hw1
 conv => cbv
 have hat1 : atW w1 = c := by rw [show w1 = 2 * c + 1 by omega]; exact hcw
 refine CallF.le (args0 := [.ptr 2 (.lit 0), i6 w1, i6 6]) (cfr (sendHeld_lx R ws C [] N W 0 0 0 L D Q z false hh M hc (fun _ _ => []) hY o ho rfl w1 6 (by omega) (by decide) (by omega) c 1 0 0 0 b (-1) (-1) (-1) (-1) hat1 hMc rfl rfl (by decide) (by decide) [0] hMb rfl (by decide)) [(0, 2), (1, 3), (2, 4), (3, 5), (4, 6), (5, 7), (6, 8), (7, 0)] (fun r h' n' hrr => ?_)) (by simp [ales, ale, pvle, I.val])
 obtain ⟨ws1, D1, e1, e2, e3, hh1, hc1⟩ := hrr
 subst e1 e2 e3
 conv => cbv
 have hY1 := sysRing (X' := List.set [0] (((0 : Int) % 1 + 0) % 1).toNat 6) hY hMc hMb (0 + 1) 0
 generalize hM1 : upd (upd M b (2, List.set [0] (((0 : Int) % 1 + 0) % 1).toNat 6)) c (1, [1, 0, 0 + 1, 0, b, -1, -1, -1, -1]) = M1 at hc1 hY1
 have hMc1 : M1 c = some (1, [1, 0, 1, 0, b, -1, -1, -1, -1]) := by rw [← hM1]; exact upd_same _ _ _
 have hMb1 : M1 b = some (2, [6]) := by rw [← hM1, upd_ne hcb.symm]; exact upd_same _ _ _
 refine drawn_sound tok (by kernel_rfl) [(5, [3, 2, 1, 0]), (8, [])] [0, 1, 2, 3, 4, 5, 6, 7, 8, 9, 10, 11, 12, 13] (by kernel_rfl) ?_; conv => cbv
 refine CallF.le (args0 := [.ptr 17 (.lit 0), i6 0]) (cfr (ch15_lx R ws1 vs C N W 0 0 0 L D1 Q z false P B V Qr [] 0 M nc ng CS GS o 0 chs hcs hnc (by omega) (by omega)) [(0, 2), (1, 3), (2, 4), (3, 5), (4, 6), (5, 7), (6, 8), (7, 9), (8, 10), (9, 11), (10, 12), (11, 13), (12, 14), (13, 15), (14, 16), (15, 0), (16, 17), (17, 18), (18, 19)] (fun r h' n' hrr => ?_)) (by simp [ales, ale, pvle, I.val])
 obtain ⟨⟨x2, e1, hx2⟩, e2, e3⟩ := hrr
 subst e1 e2 e3
 conv => cbv
 obtain rfl : c = x2 := (ix0 hx2 hc0).symm
 refine Fit.mk (by show (-9223372036854775808 : Int) ≤ 2 * c; omega) (by show 2 * c ≤ 9223372036854775807; omega) fun a2 ha2 => ?_
 have ha2 : a2 = 2 * c := ha2
 conv => cbv
 refine Fit.mk (by show (-9223372036854775808 : Int) ≤ a2 + 1; omega) (by show a2 + 1 ≤ 9223372036854775807; omega) fun w2 hw2 => ?_
 have hw2 : w2 = a2 + 1 := hw2
 conv => cbv
 have hat2 : atW w2 = c := by rw [show w2 = 2 * c + 1 by omega]; exact hcw
 refine CallF.le (args0 := [.ptr 2 (.lit 0), i6 w2, i6 6]) (cfr (sendFull_lx R ws1 C [] N W 0 0 0 L D1 Q z false hh1 M1 hc1 (fun _ _ => []) hY1 o ho rfl w2 6 (by omega) (by decide) (by omega) c 1 0 1 0 b (-1) (-1) (-1) (-1) hat2 hMc1 rfl rfl (by decide) (by decide) (by decide) [6] hMb1 rfl (by decide)) [(0, 2), (1, 3), (2, 4), (3, 5), (4, 6), (5, 7), (6, 8), (7, 0)] (fun r h' n' hrr => ?_)) (by simp [ales, ale, pvle, I.val])
 obtain ⟨e1, e2, e3⟩ := hrr
 subst e1 e2 e3
 conv => cbv
 refine Br.yes (show (-1 : Int) = -1 from rfl) ?_
 conv => cbv
 refine Br.yes (show (1 : Int) = 1 from rfl) ?_
 conv => cbv
 refine Br.yes (show (-1 : Int) = -1 from rfl) ?_
 conv => cbv
 refine Br.yes (show (0 : Int) = 0 from rfl) ?_
 conv => cbv
 refine CallF.le (args0 := [.ptr 2 (.lit 0), i6 0]) (cfr (sendRZero_lx R ws1 C [] N W 0 0 0 L D1 Q z false hh1 M1 hc1 o 0 rfl) [(0, 2), (1, 3), (2, 4), (3, 5), (4, 6), (5, 7), (6, 8), (7, 0)] (fun r h' n' hrr => ?_)) (by simp [ales, ale, pvle, I.val])
 obtain ⟨e1, e2, e3⟩ := hrr
 subst e1 e2 e3
 conv => cbv
 refine RetF.mk [.p (.bool true)] [(0, .fix 0 o)] 1 (Re.at [(0, 0)] []) rfl ⟨rfl, rfl, rfl⟩
theorem allocT15_lx (R : List Rw) (ws vs C : List Int) (N W ph sp cy : Int) (L D Q : List PV) (z : ByteArray) (ov : Bool) (P B V Qr la : List PV) (m : Int) (M M2 : Hp) (nc ng : Int) (cs gs : List PV) (o : Unit → Obj) (S : Bs2 R ws vs C N W ph L D Q z P B V Qr la m M M2) (kd n : Int) (hk : 0 ≤ n ∧ n ≤ 31 ∧ 1 ≤ kd ∧ kd ≤ 6) (hlen : lenK kd n.toNat) (hroom : objCount R < R.length) : CallF (fun _ => Tryz.prog) 76 [.ptr 16 (.lit 0), i6 kd, i6 n] [hpA 0 1 5 6 3 W ph sp cy, hpB 1 2 4 3 W, hpC 2 3 214 2 N, hpP 3 L, hpP 4 D, hpF 5 z ov, hpP 6 Q, hpR 7 8 13 3 W 14 ph sp cy, hpB 8 9 12 3 W, hpD 9 10 3 1 N 11 209 8 N, hpP 10 P, hpP 11 B, hpP 12 V, hpP 13 Qr, (14, .mix [.p (.vsl (.sym m) true la), .p (.bool ov)]), (15, .fix 0 o), (16, .mix [.ptr 0 (.lit 0), .ptr 7 (.lit 0), .sl 17 3 1 (.lit 0) (.sym nc), .sl 18 3 1 (.lit 0) (.sym ng)]), hpP 17 cs, hpP 18 gs] 19 (fun r h n' => ∃ (x : Int) (R' : List Rw) (ws' vs' : List Int) (L' D' P' B' V' : List PV), r = .p (.int .i64 (.sym x)) ∧ h = [hpA 0 1 5 6 3 W ph sp cy, hpB 1 2 4 3 W, hpC 2 3 214 2 N, hpP 3 L', hpP 4 D', hpF 5 z ov, hpP 6 Q, hpR 7 8 13 3 W 14 ph sp cy, hpB 8 9 12 3 W, hpD 9 10 3 1 N 11 209 8 N, hpP 10 P', hpP 11 B', hpP 12 V', hpP 13 Qr, (14, .mix [.p (.vsl (.sym m) true la), .p (.bool ov)]), (15, .fix 0 o), (16, .mix [.ptr 0 (.lit 0), .ptr 7 (.lit 0), .sl 17 3 1 (.lit 0) (.sym nc), .sl 18 3 1 (.lit 0) (.sym ng)]), hpP 17 cs, hpP 18 gs] ∧ n' = 19 ∧ Bs2 R' ws' vs' C N W ph L' D' Q z P' B' V' Qr la m (upd M x (kd, zerK kd n.toNat)) (upd M2 x (kd, zerK kd n.toNat)) ∧ objCount R' = objCount R + 1 ∧ M x = Option.none ∧ M2 x = Option.none ∧ 0 ≤ x ∧ x < W ∧ R'.length = R.length) := by
 refine callF_of_body tok Tryz.func76 (by kernel_rfl) rfl rfl rfl ?_; conv => cbv
 refine cfr (alloc9_lx R ws C [] N W ph sp cy L D Q z ov S.h kd n) [(0, 0), (1, 1), (2, 2), (3, 3), (4, 4), (5, 5), (6, 6)] (fun r h' n' hrr => ?_)
 obtain ⟨x, e, R', ws', C', L', D', Q', e1, e2, e3, h1, hT, hC⟩ := hrr
 subst e1 e2 e3
 conv => cbv
 refine cfr (ralloc9_lx R vs C [] N W ph sp cy P B V Qr la m ov S.r kd n) [(0, 7), (1, 8), (2, 9), (3, 10), (4, 11), (5, 12), (6, 13), (7, 14)] (fun r h' n' hrr => ?_)
 obtain ⟨y, f, Y, vs', DC, P', B', V', Qr', e1, e2, e3, g1, hU, hD⟩ := hrr
 subst e1 e2 e3
 obtain ⟨he, q1, q2, q3, hM1, hM2, hc1, hx0, hy0, hx1, hx2, hx3⟩ := S.alloc hroom hk hlen hT hU
 subst q1 q2 q3
 obtain ⟨q4, q5, q6, q7⟩ := Bs2.colour S he h1 g1 hC hD
 subst q4 q5 q6 q7
 conv => cbv
 refine Br.no (show ¬ ¬ (x = x) from fun q => q rfl) ?_
 conv => cbv
 refine Br.no (show ¬ ¬ (e = 0) from fun q => q he) ?_
 conv => cbv
 refine Br.no (show ¬ ¬ (e = 0) from fun q => q he) ?_
 conv => cbv
 refine RetF.mk [i6 x] [hpA 0 1 5 6 3 W ph sp cy, hpB 1 2 4 3 W, hpC 2 3 214 2 N, hpP 3 L', hpP 4 D', hpF 5 z ov, hpP 6 Q, hpR 7 8 13 3 W 14 ph sp cy, hpB 8 9 12 3 W, hpD 9 10 3 1 N 11 209 8 N, hpP 10 P', hpP 11 B', hpP 12 V', hpP 13 Qr, (14, .mix [.p (.vsl (.sym m) true la), .p (.bool ov)]), (15, .fix 0 o), (16, .mix [.ptr 0 (.lit 0), .ptr 7 (.lit 0), .sl 17 3 1 (.lit 0) (.sym nc), .sl 18 3 1 (.lit 0) (.sym ng)]), hpP 17 cs, hpP 18 gs] 19 (Re.at [(0, 0), (1, 1), (2, 2), (3, 3), (4, 4), (5, 5), (6, 6), (7, 7), (8, 8), (9, 9), (10, 10), (11, 11), (12, 12), (13, 13), (14, 14), (15, 15), (16, 16), (17, 17), (18, 18)] []) rfl ⟨x, R', ws', vs', L', D', P', B', V', rfl, rfl, rfl, ⟨h1, g1, hM1, hM2, S.ph, S.w⟩, hc1, hx0, hy0, hx1, by rw [S.h.w, S.h.n]; exact hx2, hx3⟩
theorem wait15_lx (R : List Rw) (ws vs C : List Int) (N W ph sp cy : Int) (L D Q : List PV) (z : ByteArray) (ov : Bool) (P B V Qr la : List PV) (m : Int) (K K2 : Hp) (q : Qs) (nc ng : Int) (cs gs : List PV) (o : Unit → Obj) (S : Bs2 R ws vs C N W ph L D Q z P B V Qr la m (relink K q) (relink K2 q)) (ho : IsPow o) (hY : Sys (relink K q) q) (hY2 : Sys (relink K2 q) q) (g v tq x0 x1 x2 x3 x4 x5 x6 x7 x8 x9 : Int) (hg : K g = some (4, [x0, x1, x2, x3, x4, x5, x6, x7, x8, x9])) (hg2 : K2 g = some (4, [x0, x1, x2, x3, x4, x5, x6, x7, x8, x9])) (hst : x1 = 0) (ps : List (Int × Bool)) (hps : ∀ p ∈ ps, (∃ F, K p.1 = some (1, F)) ∧ ∃ F, K2 p.1 = some (1, F)) (hpl : ps.length ≤ 3) (hv : -9223372036854775808 ≤ v ∧ v + 2 * ps.length ≤ 9223372036854775809) (htq : 0 ≤ tq ∧ tq ≤ 1000) (hroom : objCount R + ps.length ≤ R.length) (mc : Int) (hmc : mc = ps.length) (CH SN : List PV) (hCH : CH = ipv (ps.map Prod.fst)) (hSN : SN = ps.map fun p => PV.bool p.2) : CallF (fun _ => Tryz.prog) 30 [.ptr 16 (.lit 0), i6 g, .p (.vsl (.sym mc) true CH), .p (.vsl (.sym mc) true SN), i6 v, i6 tq] [hpA 0 1 5 6 3 W ph sp cy, hpB 1 2 4 3 W, hpC 2 3 214 2 N, hpP 3 L, hpP 4 D, hpF 5 z ov, hpP 6 Q, hpR 7 8 13 3 W 14 ph sp cy, hpB 8 9 12 3 W, hpD 9 10 3 1 N 11 209 8 N, hpP 10 P, hpP 11 B, hpP 12 V, hpP 13 Qr, (14, .mix [.p (.vsl (.sym m) true la), .p (.bool ov)]), (15, .fix 0 o), (16, .mix [.ptr 0 (.lit 0), .ptr 7 (.lit 0), .sl 17 3 1 (.lit 0) (.sym nc), .sl 18 3 1 (.lit 0) (.sym ng)]), hpP 17 cs, hpP 18 gs] 19 (fun r h n' => ∃ (xs : List Int) (R' : List Rw) (ws' vs' : List Int) (L' D' P' B' V' : List PV), r = .p (.bool true) ∧ h = [hpA 0 1 5 6 3 W ph sp cy, hpB 1 2 4 3 W, hpC 2 3 214 2 N, hpP 3 L', hpP 4 D', hpF 5 z ov, hpP 6 Q, hpR 7 8 13 3 W 14 ph sp cy, hpB 8 9 12 3 W, hpD 9 10 3 1 N 11 209 8 N, hpP 10 P', hpP 11 B', hpP 12 V', hpP 13 Qr, (14, .mix [.p (.vsl (.sym m) true la), .p (.bool ov)]), (15, .fix 0 o), (16, .mix [.ptr 0 (.lit 0), .ptr 7 (.lit 0), .sl 17 3 1 (.lit 0) (.sym nc), .sl 18 3 1 (.lit 0) (.sym ng)]), hpP 17 cs, hpP 18 gs] ∧ n' = 19 ∧ Bs2 R' ws' vs' C N W ph L' D' Q z P' B' V' Qr la m (relink (waitB g v tq ps xs [x0, 1, x2, x3, x4, x5, x6, x7, x8, hdQ xs] K) (addQ ps xs q)) (relink (waitB g v tq ps xs [x0, 1, x2, x3, x4, x5, x6, x7, x8, hdQ xs] K2) (addQ ps xs q)) ∧ Sys (relink (waitB g v tq ps xs [x0, 1, x2, x3, x4, x5, x6, x7, x8, hdQ xs] K) (addQ ps xs q)) (addQ ps xs q) ∧ Sys (relink (waitB g v tq ps xs [x0, 1, x2, x3, x4, x5, x6, x7, x8, hdQ xs] K2) (addQ ps xs q)) (addQ ps xs q) ∧ xs.length = ps.length ∧ xs.Nodup ∧ (∀ x ∈ xs, K x = Option.none ∧ K2 x = Option.none) ∧ objCount R' = objCount R + ps.length ∧ R'.length = R.length) := by
 refine callF_of_body tok Tryz.func30 (by kernel_rfl) rfl rfl rfl ?_; conv => cbv
 refine cfr (rgorM_lx R vs C [] N W ph sp cy P B V Qr la m ov S.r _ S.d g x0 x1 x2 x3 x4 x5 x6 x7 x8 x9 (relink_other hg2 ⟨by decide, by decide⟩)) [(0, 7), (1, 8), (2, 9), (3, 10), (4, 11), (5, 12), (6, 13), (7, 14)] (fun r h' n' hrr => ?_)
 obtain ⟨⟨e0, e1, he0⟩, e2, e3⟩ := hrr
 subst e1 e2 e3
 conv => cbv
 refine Br.no (show ¬ ¬ (x1 = 0) from fun q => q hst) ?_
 conv => cbv
 refine LoopF.mk (fun kk s => ∃ (i : Int) (R1 : List Rw) (ws1 vs1 : List Int) (L1 D1 P1 B1 V1 : List PV) (J J2 : Hp) (q1 : Qs) (dn : List Int) (rest : List (Int × Bool)) (LS : List PV), s = ⟨.ptr 16 (.lit 0) :: .p (.int .i64 (.sym g)) :: .p (.vsl (.sym mc) true CH) :: .p (.vsl (.sym mc) true SN) :: .p (.int .i64 (.sym v)) :: .p (.int .i64 (.sym tq)) :: (undefs 9 ++ .sl 20 3 1 (.lit 0) (.sym i) :: .p (.int .i64 (.sym i)) :: undefs 106), [hpA 0 1 5 6 3 W ph sp cy, hpB 1 2 4 3 W, hpC 2 3 214 2 N, hpP 3 L1, hpP 4 D1, hpF 5 z ov, hpP 6 Q, hpR 7 8 13 3 W 14 ph sp cy, hpB 8 9 12 3 W, hpD 9 10 3 1 N 11 209 8 N, hpP 10 P1, hpP 11 B1, hpP 12 V1, hpP 13 Qr, (14, .mix [.p (.vsl (.sym m) true la), .p (.bool ov)]), (15, .fix 0 o), (16, .mix [.ptr 0 (.lit 0), .ptr 7 (.lit 0), .sl 17 3 1 (.lit 0) (.sym nc), .sl 18 3 1 (.lit 0) (.sym ng)]), hpP 17 cs, hpP 18 gs, hpP 20 LS], 21⟩ ∧ LS = ipv dn ∧ i = dn.length ∧ kk = rest.length ∧ ps.length = dn.length + rest.length ∧ (∀ j : Nat, rest[j]? = ps[dn.length + j]?) ∧ (∀ xs, addS g v tq 0 ps (dn ++ xs) K = addS g v tq i rest xs J) ∧ (∀ xs, addS g v tq 0 ps (dn ++ xs) K2 = addS g v tq i rest xs J2) ∧ (∀ xs, addQ ps (dn ++ xs) q = addQ rest xs q1) ∧ Bs2 R1 ws1 vs1 C N W ph L1 D1 Q z P1 B1 V1 Qr la m (relink J q1) (relink J2 q1) ∧ Sys (relink J q1) q1 ∧ Sys (relink J2 q1) q1 ∧ dn.Nodup ∧ (∀ x ∈ dn, K x = Option.none ∧ K2 x = Option.none ∧ IsSu J x ∧ IsSu J2 x) ∧ J g = K g ∧ J2 g = K2 g ∧ (∀ p ∈ rest, (∃ F, J p.1 = some (1, F)) ∧ ∃ F, J2 p.1 = some (1, F)) ∧ (∀ a, J a = Option.none → K a = Option.none) ∧ (∀ a, J2 a = Option.none → K2 a = Option.none) ∧ objCount R1 = objCount R + dn.length ∧ R1.length = R.length) ps.length _
  (Re.at [(0, 0), (1, 1), (2, 2), (3, 3), (4, 4), (5, 5), (6, 6), (7, 7), (8, 8), (9, 9), (10, 10), (11, 11), (12, 12), (13, 13), (14, 14), (15, 15), (16, 16), (17, 17), (18, 18)] [20]) ⟨0, R, ws, vs, L, D, P, B, V, K, K2, q, [], ps, [], rfl, rfl, rfl, rfl, by simp, fun j => by simp, fun xs => rfl, fun xs => rfl, fun xs => rfl, S, hY, hY2, List.nodup_nil, fun x hx => (by cases hx), rfl, rfl, hps, fun a h => h, fun a h => h, rfl, rfl⟩ ?_
 rintro kk s ⟨i, R1, ws1, vs1, L1, D1, P1, B1, V1, J, J2, q1, dn, rest, LS, rfl, hLS, hi, hkk, hpl2, hrest, hS1, hS2, hQ1, S1, hY1, hY3, hnd, hdn, hJg, hJ2g, hch, hJn, hJ2n, hcnt, hRl⟩
 clear S hY hY2
 have hi : i = (dn.length : Int) := hi
 have hi0 : (0 : Int) ≤ i := by omega
 conv => cbv
 rcases rest with _ | ⟨⟨c, d⟩, rest⟩
 ·have hpl3 : dn.length = ps.length := by simpa using hpl2.symm
  refine Br.no (show ¬ (i < mc) by omega) ?_
  conv => cbv
  have hgdn : g ∉ dn := fun k => by
   have := (hdn g k).1
   rw [hg] at this
   cases this
  have hJg1 := relink_other (q := q1) (hJg.trans hg) ⟨by decide, by decide⟩
  have hJg2 := relink_other (q := q1) (hJ2g.trans hg2) ⟨by decide, by decide⟩
  have hsu1 : ∀ x ∈ dn, IsSu (relink J q1) x := fun x hx => rl_isSu (hdn x hx).2.2.1
  have hsu2 : ∀ x ∈ dn, IsSu (relink J2 q1) x := fun x hx => rl_isSu (hdn x hx).2.2.2
  refine drawn_sound tok (by kernel_rfl) [(6, [12, 11, 10, 9, 8, 7]), (13, [])] [0, 1, 2, 3, 4, 5, 7, 8, 9, 10, 11, 12, 6, 13, 14, 15] (by kernel_rfl) ?_; conv => cbv
  refine cfr (parkS_lx R1 ws1 C [] N W ph sp cy L1 D1 Q z ov S1.h _ S1.c q1 hY1 o ho S1.ph g x0 x1 x2 x3 x4 x5 x6 x7 x8 x9 dn i LS hLS hi (by omega) hJg1 hsu1) [(0, 0), (1, 1), (2, 2), (3, 3), (4, 4), (5, 5), (6, 6), (7, 15), (8, 20)] (fun r h' n' hrr => ?_)
  obtain ⟨e8, he8, ws3, D3, e1, e2, e3, h3, c3⟩ := hrr
  subst e1 e2 e3
  conv => cbv
  refine CallF.re (args0 := [.ptr 7 (.lit 0), i6 g, .p (.vsl (.sym i) true LS)]) (h' := [hpA 0 1 5 6 3 W ph sp cy, hpB 1 2 4 3 W, hpC 2 3 214 2 N, hpP 3 L1, hpP 4 D3, hpF 5 z ov, hpP 6 Q, hpR 7 8 13 3 W 14 ph sp cy, hpB 8 9 12 3 W, hpD 9 10 3 1 N 11 209 8 N, hpP 10 P1, hpP 11 B1, hpP 12 V1, hpP 13 Qr, (14, .mix [.p (.vsl (.sym m) true la), .p (.bool ov)]), (15, .fix 0 o), (16, .mix [.ptr 0 (.lit 0), .ptr 7 (.lit 0), .sl 17 3 1 (.lit 0) (.sym nc), .sl 18 3 1 (.lit 0) (.sym ng)]), hpP 17 cs, hpP 18 gs]) (Re.at [(0, 0), (1, 1), (2, 2), (3, 3), (4, 4), (5, 5), (6, 6), (7, 7), (8, 8), (9, 9), (10, 10), (11, 11), (12, 12), (13, 13), (14, 14), (15, 15), (16, 16), (17, 17), (18, 18)] []) (cfr (rpark_lx R1 vs1 C [] N W ph sp cy P1 B1 V1 Qr la m ov S1.r _ S1.d q1 hY3 S1.ph g x0 x1 x2 x3 x4 x5 x6 x7 x8 x9 dn i LS hLS hi (by omega) hJg2 hsu2) [(0, 7), (1, 8), (2, 9), (3, 10), (4, 11), (5, 12), (6, 13), (7, 14)] (fun r h' n' hrr => ?_))
  obtain ⟨e9, he9, vs3, V3, e1, e2, e3, g3, d3⟩ := hrr
  subst e1 e2 e3
  conv => cbv
  refine Br.yes (show e8 = e9 from he8.trans he9.symm) ?_
  conv => cbv
  have hJ : J = addS g v tq 0 ps dn K := by
   have := hS1 []
   rw [List.append_nil] at this
   exact this.symm
  have hJ2 : J2 = addS g v tq 0 ps dn K2 := by
   have := hS2 []
   rw [List.append_nil] at this
   exact this.symm
  have hQ : q1 = addQ ps dn q := by
   have := hQ1 []
   rw [List.append_nil] at this
   exact this.symm
  have hk1 : upd (parkM (relink J q1) dn) g (4, [x0, 1, x2, x3, x4, x5, x6, x7, x8, hdQ dn]) = relink (waitB g v tq ps dn [x0, 1, x2, x3, x4, x5, x6, x7, x8, hdQ dn] K) (addQ ps dn q) := by
   rw [rl_parkM (fun x hx => (hdn x hx).2.2.1), rl_ot ⟨by decide, by decide⟩, hJ, hQ]
   rfl
  have hk2 : upd (parkM (relink J2 q1) dn) g (4, [x0, 1, x2, x3, x4, x5, x6, x7, x8, hdQ dn]) = relink (waitB g v tq ps dn [x0, 1, x2, x3, x4, x5, x6, x7, x8, hdQ dn] K2) (addQ ps dn q) := by
   rw [rl_parkM (fun x hx => (hdn x hx).2.2.2), rl_ot ⟨by decide, by decide⟩, hJ2, hQ]
   rfl
  have hs1 := sysOther (F := [x0, 1, x2, x3, x4, x5, x6, x7, x8, hdQ dn]) (sysParkM hY1 hsu1) ((parkM_ne hgdn).trans hJg1) ⟨by decide, by decide⟩
  have hs2 := sysOther (F := [x0, 1, x2, x3, x4, x5, x6, x7, x8, hdQ dn]) (sysParkM hY3 hsu2) ((parkM_ne hgdn).trans hJg2) ⟨by decide, by decide⟩
  rw [hk1] at hs1 c3
  rw [hk2] at hs2 d3
  rw [hQ] at hs1 hs2
  refine RetF.mk [.p (.bool true)] [hpA 0 1 5 6 3 W ph sp cy, hpB 1 2 4 3 W, hpC 2 3 214 2 N, hpP 3 L1, hpP 4 D3, hpF 5 z ov, hpP 6 Q, hpR 7 8 13 3 W 14 ph sp cy, hpB 8 9 12 3 W, hpD 9 10 3 1 N 11 209 8 N, hpP 10 P1, hpP 11 B1, hpP 12 V3, hpP 13 Qr, (14, .mix [.p (.vsl (.sym m) true la), .p (.bool ov)]), (15, .fix 0 o), (16, .mix [.ptr 0 (.lit 0), .ptr 7 (.lit 0), .sl 17 3 1 (.lit 0) (.sym nc), .sl 18 3 1 (.lit 0) (.sym ng)]), hpP 17 cs, hpP 18 gs] 19 (Re.at [(0, 0), (1, 1), (2, 2), (3, 3), (4, 4), (5, 5), (6, 6), (7, 7), (8, 8), (9, 9), (10, 10), (11, 11), (12, 12), (13, 13), (14, 14), (15, 15), (16, 16), (17, 17), (18, 18)] []) rfl ⟨dn, R1, ws3, vs3, L1, D3, P1, B1, V3, rfl, rfl, rfl, ⟨h3, g3, c3, d3, S1.ph, S1.w⟩, hs1, hs2, hpl3, hnd, fun x hx => ⟨(hdn x hx).1, (hdn x hx).2.1⟩, by rw [hcnt, hpl3], hRl⟩
 ·have hp0 : ps[dn.length]? = some (c, d) := by have := hrest 0; simpa using this.symm
  have hlt := (List.getElem?_eq_some_iff.1 hp0).1
  have hcellC : CH[i.toNat]? = some (.int .i64 (.sym c)) := by
   rw [hCH, show i.toNat = dn.length by omega]
   exact ipv_get (by rw [List.getElem?_map, hp0]; rfl)
  have hcellS : SN[i.toNat]? = some (.bool d) := by rw [hSN, show i.toNat = dn.length by omega, List.getElem?_map, hp0]; rfl
  refine Br.yes (show i < mc by omega) ?_
  conv => cbv
  refine Need.mk (show 0 ≤ i ∧ i < mc by omega) ?_
  conv => cbv
  refine Cell.at i _ hcellC (by simp [I.val]) rfl ?_
  conv => cbv
  refine Fit.mk (by show (-9223372036854775808 : Int) ≤ 2 * i; omega) (by show 2 * i ≤ 9223372036854775807; omega) fun i2 hi2 => ?_
  have hi2 : i2 = 2 * i := hi2
  conv => cbv
  refine Fit.mk (by show (-9223372036854775808 : Int) ≤ v + i2; omega) (by show v + i2 ≤ 9223372036854775807; omega) fun vi hvi => ?_
  have hvi : vi = v + 2 * i := by rw [← hi2]; exact hvi
  conv => cbv
  refine Fit.mk (by show (-9223372036854775808 : Int) ≤ tq + i; omega) (by show tq + i ≤ 9223372036854775807; omega) fun ti hti => ?_
  have hti : ti = tq + i := hti
  conv => cbv
  refine Need.mk (show 0 ≤ i ∧ i < mc by omega) ?_
  conv => cbv
  refine Cell.at i _ hcellS (by simp [I.val]) rfl ?_
  obtain ⟨⟨Fc, hJc⟩, Fc2, hJ2c⟩ := hch (c, d) List.mem_cons_self
  obtain ⟨Gc, hMc0⟩ := rl_chan (q := q1) ⟨Fc, hJc⟩
  have hcl := S1.c.len S1.h.a hMc0
  have hJg1 := hJg.trans hg
  have hJg2 := hJ2g.trans hg2
  have hgl := S1.c.len S1.h.a (relink_other (q := q1) hJg1 ⟨by decide, by decide⟩)
  have hRr := S1.h.r
  cases d with
  | false =>
   conv => cbv
   refine CallF.le (args0 := [.ptr 16 (.lit 0), i6 3, i6 7]) (cfr (allocT15_lx R1 ws1 vs1 C N W ph sp cy L1 D1 Q z ov P1 B1 V1 Qr la m (relink J q1) (relink J2 q1) nc ng cs gs o S1 3 7 (by decide) ⟨fun k => absurd k (by decide), fun _ => rfl, fun k => absurd k (by decide)⟩ (by rw [hcnt, hRl]; simp at hpl2; omega)) [(0, 0), (1, 1), (2, 2), (3, 3), (4, 4), (5, 5), (6, 6), (7, 7), (8, 8), (9, 9), (10, 10), (11, 11), (12, 12), (13, 13), (14, 14), (15, 15), (16, 16), (17, 17), (18, 18)] (fun r h' n' hrr => ?_)) (by simp [ales, ale, pvle, I.val])
   obtain ⟨x, R2, ws2, vs2, L2, D2, P2, B2, V2, e1, e2, e3, S2, hk2, hx2, hy2, hp2, hq2, hl2⟩ := hrr
   subst e1 e2 e3
   obtain ⟨hYa, hns⟩ := newSu2 (g := g) (c := c) (w := vi) (p := ti) (r := i) (m := -1) hY1 hx2
   obtain ⟨hYb, hns2⟩ := newSu2 (g := g) (c := c) (w := vi) (p := ti) (r := i) (m := -1) hY3 hy2
   rw [rl_su (hns c)] at hYa
   rw [rl_su (hns2 c)] at hYb
   have hJx := rl_none hx2
   have hJ2x := rl_none hy2
   have hxc : x ≠ c := fun e => by rw [e, hJc] at hJx; cases hJx
   have hxc2 : x ≠ c := hxc
   have hbb : ∀ q ∈ [g, c, -1, ti, i, -1], b62 q := by
    simp only [List.forall_mem_cons]
    unfold b62
    exact ⟨by omega, by omega, by omega, by omega, by omega, by omega, fun x hx => by cases hx⟩
   have hww : ∀ q ∈ [vi], -9223372036854775808 ≤ q ∧ q ≤ 9223372036854775807 := by
    intro q hq
    rw [List.mem_singleton.1 hq, hvi]
    simp at hpl2
    omega
   have hpp : ∀ q ∈ [g, c, -1, -1], -1 ≤ q := by
    simp only [List.forall_mem_cons]
    exact ⟨by omega, by omega, by omega, by omega, fun x hx => by cases hx⟩
   conv => cbv
   refine drawn_sound tok (by kernel_rfl) [(6, [12, 11, 10, 9, 8, 7]), (13, []), (29, [42, 41, 40, 39, 38, 37, 36, 35, 34, 33, 32, 31, 30]), (43, [])] [0, 1, 2, 3, 4, 5, 7, 8, 9, 10, 11, 12, 6, 13, 14, 15, 16, 17, 18, 19, 20, 21, 22, 23, 24, 25, 26, 27, 28, 30, 31, 32, 33, 34, 35, 36, 37, 38, 39, 40, 41, 42, 29, 43, 44, 45] (drawnOKF_ok (by kernel_rfl)) ?_; conv => cbv
   refine CallF.le (args0 := [.ptr 0 (.lit 0), i6 x, .agg [i6 g, i6 c, i6 vi, i6 (-1), i6 ti, i6 i, i6 (-1)]]) (cfr (putSudogM_lx R2 ws2 C [] N W ph sp cy L2 D2 Q z ov S2.h _ S2.c o ho S2.ph x g c vi (-1) ti i (-1) (zerK 3 7) (upd_same _ _ _) rfl hbb hww hpp) [(0, 0), (1, 1), (2, 2), (3, 3), (4, 4), (5, 5), (6, 6), (7, 15)] (fun r h' n' hrr => ?_)) (by simp [ales, ale, pvle, I.val])
   obtain ⟨e8, ws3, D3, e1, he8, e2, e3, h3, c3⟩ := hrr
   subst e1 e2 e3
   rw [upd_upd2, rl_su (hns c)] at c3
   conv => cbv
   refine CallF.le (args0 := [.ptr 7 (.lit 0), i6 x, .agg [i6 g, i6 c, i6 vi, i6 (-1), i6 ti, i6 i, i6 (-1)]]) (cfr (rPutSudogM_lx R2 vs2 C [] N W ph sp cy P2 B2 V2 Qr la m ov S2.r _ S2.d S2.ph x g c vi (-1) ti i (-1) (zerK 3 7) (upd_same _ _ _) rfl hbb hww hpp) [(0, 7), (1, 8), (2, 9), (3, 10), (4, 11), (5, 12), (6, 13), (7, 14)] (fun r h' n' hrr => ?_)) (by simp [ales, ale, pvle, I.val])
   obtain ⟨e9, vs3, V3, e1, he9, e2, e3, g3, d3⟩ := hrr
   subst e1 e2 e3
   rw [upd_upd2, rl_su (hns2 c)] at d3
   conv => cbv
   refine Br.no (show ¬ ¬ (e8 = e9) from fun q => q (he8.trans he9.symm)) ?_
   conv => cbv
   refine Need.mk (show 0 ≤ i ∧ i < mc by omega) ?_
   conv => cbv
   refine Cell.at i _ hcellC (by simp [I.val]) rfl ?_
   conv => cbv
   refine Need.mk (show 0 ≤ i ∧ i < mc by omega) ?_
   conv => cbv
   refine Cell.at i _ hcellS (by simp [I.val]) rfl ?_
   conv => cbv
   refine Need.mk (show 0 ≤ i ∧ i < mc by omega) ?_
   conv => cbv
   refine Cell.at i _ hcellC (by simp [I.val]) rfl ?_
   conv => cbv
   refine Need.mk (show 0 ≤ i ∧ i < mc by omega) ?_
   conv => cbv
   refine Cell.at i _ hcellS (by simp [I.val]) rfl ?_
   conv => cbv
   have hMx : relink (upd J x (3, [g, c, vi, (-1), ti, i, (-1)])) q1 x = some (3, [g, c, vi, (-1), ti, i, (-1)]) := by rw [relink_get (upd_same _ _ _), lnk_sudog, nxtQ_not (hns c)]
   have hMx2 : relink (upd J2 x (3, [g, c, vi, (-1), ti, i, (-1)])) q1 x = some (3, [g, c, vi, (-1), ti, i, (-1)]) := by rw [relink_get (upd_same _ _ _), lnk_sudog, nxtQ_not (hns2 c)]
   obtain ⟨Gp, hGp⟩ := rl_chan (q := q1) (M := upd J x (3, [g, c, vi, (-1), ti, i, (-1)])) (a := c) ⟨Fc, by rw [upd_ne hxc.symm]; exact hJc⟩
   obtain ⟨y0, y1, y2, y3, y4, y5, y6, y7, y8, rfl⟩ := hch9 hYa c Gp hGp
   obtain ⟨Gq, hGq⟩ := rl_chan (q := q1) (M := upd J2 x (3, [g, c, vi, (-1), ti, i, (-1)])) (a := c) ⟨Fc2, by rw [upd_ne hxc.symm]; exact hJ2c⟩
   obtain ⟨u0, u1, u2, u3, u4, u5, u6, u7, u8, rfl⟩ := hch9 hYb c Gq hGq
   refine cfr (listPush0_lx R2 ws3 C [] N W ph sp cy L2 D3 Q z ov h3 _ c3 q1 hYa o ho S2.ph (hch9 hYa) (hsu7 hYa) c x y0 y1 y2 y3 y4 y5 y6 y7 y8 g vi (-1) ti i (-1) hGp hMx (hns c)) [(0, 0), (1, 1), (2, 2), (3, 3), (4, 4), (5, 5), (6, 6), (7, 15)] (fun r h' n' hrr => ?_)
   obtain ⟨e10, ws4, D4, e1, he10, e2, e3, h4, c4⟩ := hrr
   subst e1 e2 e3
   rw [relink_relink] at c4
   conv => cbv
   refine cfr (rPush0_lx R2 vs3 C [] N W ph sp cy P2 B2 V3 Qr la m ov g3 _ d3 q1 hYb S2.ph c x u0 u1 u2 u3 u4 u5 u6 u7 u8 g vi (-1) ti i (-1) hGq hMx2 (hns2 c)) [(0, 7), (1, 8), (2, 9), (3, 10), (4, 11), (5, 12), (6, 13), (7, 14)] (fun r h' n' hrr => ?_)
   obtain ⟨e11, vs4, V4, e1, he11, e2, e3, g4, d4⟩ := hrr
   subst e1 e2 e3
   rw [relink_relink] at d4
   have hYp := (hYa.push (d := false) hGp hMx (hns c)).1
   have hYq := (hYb.push (d := false) hGq hMx2 (hns2 c)).1
   rw [relink_relink] at hYp hYq
   conv => cbv
   refine Br.no (show ¬ ¬ (e10 = e11) from fun q => q (he10.trans he11.symm)) ?_
   conv => cbv
   have hxg : g ≠ x := fun e => by rw [← e, hJg1] at hJx; cases hJx
   have hLl : LS.length = dn.length := by rw [hLS, ipv_length]
   have hi3 : i < 3 := by simp at hpl2; omega
   refine Room.new rfl ?_
   conv => cbv
   refine Room.new ⟨?_, ?_, ?_⟩ ?_
   ·show (LS.length : Int) = i * 1; omega
   ·show (i + 1) * 8 ≤ 140737488355328; omega
   ·show i + 1 ≤ 9223372036854775807; omega
   conv => cbv
   refine Upd.mk fun LS2 hLS2 => ?_
   have hLS2 : LS2 = LS ++ [.int .i64 (.sym x)] := hLS2
   have hLS3 : LS2 = ipv (dn ++ [x]) := by rw [hLS2, hLS, ← ipv_app]; rfl
   conv => cbv
   refine Sum.mk fun j2 hj2 => ?_
   have hj2 : j2 = i + 1 := hj2
   conv => cbv
   refine Fit.mk (by show (-9223372036854775808 : Int) ≤ i + 1; omega) (by show i + 1 ≤ 9223372036854775807; omega) fun j3 hj3 => ?_
   obtain rfl : j2 = j3 := hj2.trans (show j3 = i + 1 from hj3).symm
   conv => cbv
   have hxdn : x ∉ dn := fun k => by
    obtain ⟨_, _, ⟨_, _, _, _, _, _, _, e⟩, _⟩ := hdn x k
    rw [hJx] at e
    cases e
   refine Again.mk rest.length _ (by rw [hkk]; exact Nat.lt_succ_self _) (Re.at [(0, 0), (1, 1), (2, 2), (3, 3), (4, 4), (5, 5), (6, 6), (7, 7), (8, 8), (9, 9), (10, 10), (11, 11), (12, 12), (13, 13), (14, 14), (15, 15), (16, 16), (17, 17), (18, 18), (23, 20)] []) ⟨j2, R2, ws4, vs4, L2, D4, P2, B2, V4, upd J x (3, [g, c, vi, (-1), ti, i, (-1)]), upd J2 x (3, [g, c, vi, (-1), ti, i, (-1)]), updQ q1 c false (q1 c false ++ [x]), dn ++ [x], rest, LS2, rfl, hLS3, by rw [List.length_append]; show j2 = ((dn.length + 1 : Nat) : Int); omega, rfl, by simp at hpl2 ⊢; omega, fun j => by
     have := hrest (j + 1)
     rw [List.getElem?_cons_succ] at this
     rw [this, List.length_append]
     congr 1
     simp; omega, fun xs => by
     have := hS1 (x :: xs)
     rw [List.append_assoc, List.singleton_append, this, hvi, hti, hj2]; rfl, fun xs => by
     have := hS2 (x :: xs)
     rw [List.append_assoc, List.singleton_append, this, hvi, hti, hj2]; rfl, fun xs => by
     have := hQ1 (x :: xs)
     rw [List.append_assoc, List.singleton_append, this]; rfl, ⟨h4, g4, c4, d4, S2.ph, S2.w⟩, hYp, hYq, List.nodup_append.2 ⟨hnd, by simp, fun a ha b hb => by simp at hb; subst hb; exact fun e => hxdn (e ▸ ha)⟩, fun y hy => by
     rcases List.mem_append.1 hy with k | k
     ·obtain ⟨k1, k2, k3, k4⟩ := hdn y k
      exact ⟨k1, k2, suUpd k3, suUpd k4⟩
     ·rw [List.mem_singleton.1 k]
      exact ⟨hJn x hJx, hJ2n x hJ2x, ⟨_, _, _, _, _, _, _, upd_same _ _ _⟩, ⟨_, _, _, _, _, _, _, upd_same _ _ _⟩⟩, by rw [upd_ne hxg]; exact hJg, by rw [upd_ne hxg]; exact hJ2g, fun p hp => ⟨chUpd hJx (hch p (List.mem_cons_of_mem _ hp)).1, chUpd hJ2x (hch p (List.mem_cons_of_mem _ hp)).2⟩, fun a ha => noneUpd hJn ha, fun a ha => noneUpd hJ2n ha, by rw [hk2, hcnt, List.length_append]; simp; omega, hl2.trans hRl⟩
  | true =>
   conv => cbv
   refine CallF.le (args0 := [.ptr 16 (.lit 0), i6 3, i6 7]) (cfr (allocT15_lx R1 ws1 vs1 C N W ph sp cy L1 D1 Q z ov P1 B1 V1 Qr la m (relink J q1) (relink J2 q1) nc ng cs gs o S1 3 7 (by decide) ⟨fun k => absurd k (by decide), fun _ => rfl, fun k => absurd k (by decide)⟩ (by rw [hcnt, hRl]; simp at hpl2; omega)) [(0, 0), (1, 1), (2, 2), (3, 3), (4, 4), (5, 5), (6, 6), (7, 7), (8, 8), (9, 9), (10, 10), (11, 11), (12, 12), (13, 13), (14, 14), (15, 15), (16, 16), (17, 17), (18, 18)] (fun r h' n' hrr => ?_)) (by simp [ales, ale, pvle, I.val])
   obtain ⟨x, R2, ws2, vs2, L2, D2, P2, B2, V2, e1, e2, e3, S2, hk2, hx2, hy2, hp2, hq2, hl2⟩ := hrr
   subst e1 e2 e3
   obtain ⟨hYa, hns⟩ := newSu2 (g := g) (c := c) (w := vi) (p := ti) (r := (-1)) (m := -1) hY1 hx2
   obtain ⟨hYb, hns2⟩ := newSu2 (g := g) (c := c) (w := vi) (p := ti) (r := (-1)) (m := -1) hY3 hy2
   rw [rl_su (hns c)] at hYa
   rw [rl_su (hns2 c)] at hYb
   have hJx := rl_none hx2
   have hJ2x := rl_none hy2
   have hxc : x ≠ c := fun e => by rw [e, hJc] at hJx; cases hJx
   have hxc2 : x ≠ c := hxc
   have hbb : ∀ q ∈ [g, c, -1, ti, (-1), -1], b62 q := by
    simp only [List.forall_mem_cons]
    unfold b62
    exact ⟨by omega, by omega, by omega, by omega, by omega, by omega, fun x hx => by cases hx⟩
   have hww : ∀ q ∈ [vi], -9223372036854775808 ≤ q ∧ q ≤ 9223372036854775807 := by
    intro q hq
    rw [List.mem_singleton.1 hq, hvi]
    simp at hpl2
    omega
   have hpp : ∀ q ∈ [g, c, -1, -1], -1 ≤ q := by
    simp only [List.forall_mem_cons]
    exact ⟨by omega, by omega, by omega, by omega, fun x hx => by cases hx⟩
   conv => cbv
   refine drawn_sound tok (by kernel_rfl) [(6, [12, 11, 10, 9, 8, 7]), (13, []), (29, [42, 41, 40, 39, 38, 37, 36, 35, 34, 33, 32, 31, 30]), (43, [])] [0, 1, 2, 3, 4, 5, 7, 8, 9, 10, 11, 12, 6, 13, 14, 15, 16, 17, 18, 19, 20, 21, 22, 23, 24, 25, 26, 27, 28, 30, 31, 32, 33, 34, 35, 36, 37, 38, 39, 40, 41, 42, 29, 43, 44, 45] (drawnOKF_ok (by kernel_rfl)) ?_; conv => cbv
   refine CallF.le (args0 := [.ptr 0 (.lit 0), i6 x, .agg [i6 g, i6 c, i6 vi, i6 (-1), i6 ti, i6 (-1), i6 (-1)]]) (cfr (putSudogM_lx R2 ws2 C [] N W ph sp cy L2 D2 Q z ov S2.h _ S2.c o ho S2.ph x g c vi (-1) ti (-1) (-1) (zerK 3 7) (upd_same _ _ _) rfl hbb hww hpp) [(0, 0), (1, 1), (2, 2), (3, 3), (4, 4), (5, 5), (6, 6), (7, 15)] (fun r h' n' hrr => ?_)) (by simp [ales, ale, pvle, I.val])
   obtain ⟨e8, ws3, D3, e1, he8, e2, e3, h3, c3⟩ := hrr
   subst e1 e2 e3
   rw [upd_upd2, rl_su (hns c)] at c3
   conv => cbv
   refine CallF.le (args0 := [.ptr 7 (.lit 0), i6 x, .agg [i6 g, i6 c, i6 vi, i6 (-1), i6 ti, i6 (-1), i6 (-1)]]) (cfr (rPutSudogM_lx R2 vs2 C [] N W ph sp cy P2 B2 V2 Qr la m ov S2.r _ S2.d S2.ph x g c vi (-1) ti (-1) (-1) (zerK 3 7) (upd_same _ _ _) rfl hbb hww hpp) [(0, 7), (1, 8), (2, 9), (3, 10), (4, 11), (5, 12), (6, 13), (7, 14)] (fun r h' n' hrr => ?_)) (by simp [ales, ale, pvle, I.val])
   obtain ⟨e9, vs3, V3, e1, he9, e2, e3, g3, d3⟩ := hrr
   subst e1 e2 e3
   rw [upd_upd2, rl_su (hns2 c)] at d3
   conv => cbv
   refine Br.no (show ¬ ¬ (e8 = e9) from fun q => q (he8.trans he9.symm)) ?_
   conv => cbv
   refine Need.mk (show 0 ≤ i ∧ i < mc by omega) ?_
   conv => cbv
   refine Cell.at i _ hcellC (by simp [I.val]) rfl ?_
   conv => cbv
   refine Need.mk (show 0 ≤ i ∧ i < mc by omega) ?_
   conv => cbv
   refine Cell.at i _ hcellS (by simp [I.val]) rfl ?_
   conv => cbv
   refine Need.mk (show 0 ≤ i ∧ i < mc by omega) ?_
   conv => cbv
   refine Cell.at i _ hcellC (by simp [I.val]) rfl ?_
   conv => cbv
   refine Need.mk (show 0 ≤ i ∧ i < mc by omega) ?_
   conv => cbv
   refine Cell.at i _ hcellS (by simp [I.val]) rfl ?_
   conv => cbv
   have hMx : relink (upd J x (3, [g, c, vi, (-1), ti, (-1), (-1)])) q1 x = some (3, [g, c, vi, (-1), ti, (-1), (-1)]) := by rw [relink_get (upd_same _ _ _), lnk_sudog, nxtQ_not (hns c)]
   have hMx2 : relink (upd J2 x (3, [g, c, vi, (-1), ti, (-1), (-1)])) q1 x = some (3, [g, c, vi, (-1), ti, (-1), (-1)]) := by rw [relink_get (upd_same _ _ _), lnk_sudog, nxtQ_not (hns2 c)]
   obtain ⟨Gp, hGp⟩ := rl_chan (q := q1) (M := upd J x (3, [g, c, vi, (-1), ti, (-1), (-1)])) (a := c) ⟨Fc, by rw [upd_ne hxc.symm]; exact hJc⟩
   obtain ⟨y0, y1, y2, y3, y4, y5, y6, y7, y8, rfl⟩ := hch9 hYa c Gp hGp
   obtain ⟨Gq, hGq⟩ := rl_chan (q := q1) (M := upd J2 x (3, [g, c, vi, (-1), ti, (-1), (-1)])) (a := c) ⟨Fc2, by rw [upd_ne hxc.symm]; exact hJ2c⟩
   obtain ⟨u0, u1, u2, u3, u4, u5, u6, u7, u8, rfl⟩ := hch9 hYb c Gq hGq
   refine cfr (listPush1_lx R2 ws3 C [] N W ph sp cy L2 D3 Q z ov h3 _ c3 q1 hYa o ho S2.ph (hch9 hYa) (hsu7 hYa) c x y0 y1 y2 y3 y4 y5 y6 y7 y8 g vi (-1) ti (-1) (-1) hGp hMx (hns c)) [(0, 0), (1, 1), (2, 2), (3, 3), (4, 4), (5, 5), (6, 6), (7, 15)] (fun r h' n' hrr => ?_)
   obtain ⟨e10, ws4, D4, e1, he10, e2, e3, h4, c4⟩ := hrr
   subst e1 e2 e3
   rw [relink_relink] at c4
   conv => cbv
   refine cfr (rPush1_lx R2 vs3 C [] N W ph sp cy P2 B2 V3 Qr la m ov g3 _ d3 q1 hYb S2.ph c x u0 u1 u2 u3 u4 u5 u6 u7 u8 g vi (-1) ti (-1) (-1) hGq hMx2 (hns2 c)) [(0, 7), (1, 8), (2, 9), (3, 10), (4, 11), (5, 12), (6, 13), (7, 14)] (fun r h' n' hrr => ?_)
   obtain ⟨e11, vs4, V4, e1, he11, e2, e3, g4, d4⟩ := hrr
   subst e1 e2 e3
   rw [relink_relink] at d4
   have hYp := (hYa.push (d := true) hGp hMx (hns c)).1
   have hYq := (hYb.push (d := true) hGq hMx2 (hns2 c)).1
   rw [relink_relink] at hYp hYq
   conv => cbv
   refine Br.no (show ¬ ¬ (e10 = e11) from fun q => q (he10.trans he11.symm)) ?_
   conv => cbv
   have hxg : g ≠ x := fun e => by rw [← e, hJg1] at hJx; cases hJx
   have hLl : LS.length = dn.length := by rw [hLS, ipv_length]
   have hi3 : i < 3 := by simp at hpl2; omega
   refine Room.new rfl ?_
   conv => cbv
   refine Room.new ⟨?_, ?_, ?_⟩ ?_
   ·show (LS.length : Int) = i * 1; omega
   ·show (i + 1) * 8 ≤ 140737488355328; omega
   ·show i + 1 ≤ 9223372036854775807; omega
   conv => cbv
   refine Upd.mk fun LS2 hLS2 => ?_
   have hLS2 : LS2 = LS ++ [.int .i64 (.sym x)] := hLS2
   have hLS3 : LS2 = ipv (dn ++ [x]) := by rw [hLS2, hLS, ← ipv_app]; rfl
   conv => cbv
   refine Sum.mk fun j2 hj2 => ?_
   have hj2 : j2 = i + 1 := hj2
   conv => cbv
   refine Fit.mk (by show (-9223372036854775808 : Int) ≤ i + 1; omega) (by show i + 1 ≤ 9223372036854775807; omega) fun j3 hj3 => ?_
   obtain rfl : j2 = j3 := hj2.trans (show j3 = i + 1 from hj3).symm
   conv => cbv
   have hxdn : x ∉ dn := fun k => by
    obtain ⟨_, _, ⟨_, _, _, _, _, _, _, e⟩, _⟩ := hdn x k
    rw [hJx] at e
    cases e
   refine Again.mk rest.length _ (by rw [hkk]; exact Nat.lt_succ_self _) (Re.at [(0, 0), (1, 1), (2, 2), (3, 3), (4, 4), (5, 5), (6, 6), (7, 7), (8, 8), (9, 9), (10, 10), (11, 11), (12, 12), (13, 13), (14, 14), (15, 15), (16, 16), (17, 17), (18, 18), (23, 20)] []) ⟨j2, R2, ws4, vs4, L2, D4, P2, B2, V4, upd J x (3, [g, c, vi, (-1), ti, (-1), (-1)]), upd J2 x (3, [g, c, vi, (-1), ti, (-1), (-1)]), updQ q1 c true (q1 c true ++ [x]), dn ++ [x], rest, LS2, rfl, hLS3, by rw [List.length_append]; show j2 = ((dn.length + 1 : Nat) : Int); omega, rfl, by simp at hpl2 ⊢; omega, fun j => by
     have := hrest (j + 1)
     rw [List.getElem?_cons_succ] at this
     rw [this, List.length_append]
     congr 1
     simp; omega, fun xs => by
     have := hS1 (x :: xs)
     rw [List.append_assoc, List.singleton_append, this, hvi, hti, hj2]; rfl, fun xs => by
     have := hS2 (x :: xs)
     rw [List.append_assoc, List.singleton_append, this, hvi, hti, hj2]; rfl, fun xs => by
     have := hQ1 (x :: xs)
     rw [List.append_assoc, List.singleton_append, this]; rfl, ⟨h4, g4, c4, d4, S2.ph, S2.w⟩, hYp, hYq, List.nodup_append.2 ⟨hnd, by simp, fun a ha b hb => by simp at hb; subst hb; exact fun e => hxdn (e ▸ ha)⟩, fun y hy => by
     rcases List.mem_append.1 hy with k | k
     ·obtain ⟨k1, k2, k3, k4⟩ := hdn y k
      exact ⟨k1, k2, suUpd k3, suUpd k4⟩
     ·rw [List.mem_singleton.1 k]
      exact ⟨hJn x hJx, hJ2n x hJ2x, ⟨_, _, _, _, _, _, _, upd_same _ _ _⟩, ⟨_, _, _, _, _, _, _, upd_same _ _ _⟩⟩, by rw [upd_ne hxg]; exact hJg, by rw [upd_ne hxg]; exact hJ2g, fun p hp => ⟨chUpd hJx (hch p (List.mem_cons_of_mem _ hp)).1, chUpd hJ2x (hch p (List.mem_cons_of_mem _ hp)).2⟩, fun a ha => noneUpd hJn ha, fun a ha => noneUpd hJ2n ha, by rw [hk2, hcnt, List.length_append]; simp; omega, hl2.trans hRl⟩
theorem rmQ_all {q : Qs} {l : List Int} (h : ∀ c d x, x ∈ q c d → x ∈ l) : rmQ q l = fun _ _ => [] := by
 funext c d
 unfold rmQ
 rw [List.filter_eq_nil_iff]
 intro x hx
 simpa using h c d x hx
theorem mor2 {K : Hp} {q : Qs} {x y g c v tq r g' c' v' tq' r' : Int} {F F' : List Int} (hx : K x = some (3, [g, c, v, -1, tq, r, y])) (hy : K y = some (3, [g', c', v', -1, tq', r', -1])) (hc : K c = some (1, F)) (hc' : K c' = some (1, F')) (hn : K (-1) = none) : Mor (relink K q) x [x, y] :=
 morRel ⟨rfl, g, c, v, -1, tq, r, y, F, hx, hc, rfl, g', c', v', -1, tq', r', -1, F', hy, hc', fun F e => by rw [hn] at e; cases e⟩
theorem q0_two {c c' x y : Int} {d d' : Bool} (h : c ≠ c') : (addQ [(c, d), (c', d')] [x, y] (fun _ _ => []) c d = [x]) ∧ (addQ [(c, d), (c', d')] [x, y] (fun _ _ => []) c' d' = [y]) ∧ ∀ a e z, z ∈ addQ [(c, d), (c', d')] [x, y] (fun _ _ => []) a e → z ∈ [x, y] := by
 have e1 : addQ [(c, d), (c', d')] [x, y] (fun _ _ => []) = updQ (updQ (fun _ _ => []) c d [x]) c' d' (updQ (fun _ _ => []) c d [x] c' d' ++ [y]) := rfl
 have e2 : updQ (fun _ _ => []) c d [x] c' d' = [] := updQ_ne fun k => h k.1.symm
 rw [e1, e2]
 refine ⟨by rw [updQ_ne fun k => h k.1, updQ_same], updQ_same _ _ _ _, fun a e z hz => ?_⟩
 by_cases k : a = c' ∧ e = d'
 ·obtain ⟨rfl, rfl⟩ := k; rw [updQ_same] at hz; simp at hz; simp [hz]
 ·rw [updQ_ne k] at hz
  by_cases k2 : a = c ∧ e = d
  ·obtain ⟨rfl, rfl⟩ := k2; rw [updQ_same] at hz; simp at hz; simp [hz]
  ·rw [updQ_ne k2] at hz; cases hz
theorem pop_rm {q : Qs} {a s : Int} {d : Bool} {B l : List Int} (hq : q a d = s :: B) (hs : s ∈ l) : rmQ (updQ q a d B) l = rmQ q l := by
 funext c' d'
 unfold rmQ
 by_cases e : c' = a ∧ d' = d
 ·obtain ⟨rfl, rfl⟩ := e
  rw [updQ_same, hq, List.filter_cons_of_neg (by simpa using hs)]
 ·rw [updQ_ne e]
theorem sysPop {M : Hp} {q : Qs} (h : Sys M q) {a s : Int} {d : Bool} {B : List Int} (hq : q a d = s :: B) : Sys (relink M (updQ q a d B)) (updQ q a d B) := h.take (A := []) (by simpa using hq)
theorem sendWoken_lx (R : List Rw) (ws C G : List Int) (N W ph sp cy : Int) (L D Q : List PV) (z : ByteArray) (ov : Bool) (h : HM R ws C G N W L D Q z) (M : Hp) (hM : Cont R ws M) (q : Qs) (hY : Sys M q) (o : Unit → Obj) (ho : IsPow o) (hph : ph = 0) (v : Int) (hv : (-9223372036854775808 ≤ v ∧ v ≤ 9223372036854775807)) (s : Int) (g c wv n p r_ m_ x0 x1 x2 x3 x4 x5 x6 x7 x8 x9 : Int) (l : List Int) (hMs : M s = some (3, [g, c, wv, n, p, r_, m_])) (hMg : M g = some (4, [x0, x1, x2, x3, x4, x5, x6, x7, x8, x9])) (hl : Mor M x9 l) (hnd : l.Nodup) : CallF (fun _ => Tryz.prog) 83 [.ptr 0 (.lit 0), i6 s, i6 v] [hpA 0 1 5 6 3 W ph sp cy, hpB 1 2 4 3 W, hpC 2 3 214 2 N, hpP 3 L, hpP 4 D, hpF 5 z ov, hpP 6 Q, (7, .fix 0 o)] 8 (fun r h n => ∃ (ws' : List Int) (D' : List PV), r = .p (.int .i64 (.sym g)) ∧ h = [hpA 0 1 5 6 3 W ph sp cy, hpB 1 2 4 3 W, hpC 2 3 214 2 N, hpP 3 L, hpP 4 D', hpF 5 z ov, hpP 6 Q, (7, .fix 0 o)] ∧ n = 8 ∧ HM R ws' C G N W L D' Q z ∧ Cont R ws' (upd (relink M (rmQ q l)) g (4, [x0, 0, p] ++ setR r_ v [x3, x4, x5, x6, x7, x8] ++ [-1]))) := by
 refine callF_of_body tok Tryz.func83 (by kernel_rfl) rfl rfl rfl ?_; conv => cbv
 refine cfr (wake_lx R ws C G N W ph sp cy L D Q z ov h M hM q hY o ho hph s v hv g c wv n p r_ m_ x0 x1 x2 x3 x4 x5 x6 x7 x8 x9 l hMs hMg hl hnd) [(0, 0), (1, 1), (2, 2), (3, 3), (4, 4), (5, 5), (6, 6), (7, 7)] (fun r h' n' hrr => ?_)
 obtain ⟨e, he, ws1, D1, e1, e2, e3, h1, c1⟩ := hrr
 subst e1 e2 e3
 conv => cbv
 refine Br.no (show ¬ ¬ (e = 0) from fun q => q he) ?_
 conv => cbv
 refine RetF.mk [i6 g] [hpA 0 1 5 6 3 W ph sp cy, hpB 1 2 4 3 W, hpC 2 3 214 2 N, hpP 3 L, hpP 4 D1, hpF 5 z ov, hpP 6 Q, (7, .fix 0 o)] 8 (Re.at [(0, 0), (1, 1), (2, 2), (3, 3), (4, 4), (5, 5), (6, 6), (7, 7)] []) rfl ⟨ws1, D1, rfl, rfl, rfl, h1, c1⟩
theorem sendWakes_lx (R : List Rw) (ws C G : List Int) (N W ph sp cy : Int) (L D Q : List PV) (z : ByteArray) (ov : Bool) (h : HM R ws C G N W L D Q z) (M : Hp) (hM : Cont R ws M) (q : Qs) (hY : Sys M q) (o : Unit → Obj) (ho : IsPow o) (hph : ph = 0) (w v : Int) (hw : (-9223372036854775808 ≤ w ∧ w ≤ 9223372036854775807)) (hv : (-9223372036854775808 ≤ v ∧ v ≤ 9223372036854775807)) (h0 : w ≠ 0) (a y0 y1 y2 y3 y4 y5 y6 y7 y8 : Int) (ha : atW w = a) (hMa : M a = some (1, [y0, y1, y2, y3, y4, y5, y6, y7, y8])) (hcl : y1 = 0) (s : Int) (g wv n p r_ m_ x0 x1 x2 x3 x4 x5 x6 x7 x8 x9 : Int) (l : List Int) (hMs : M s = some (3, [g, a, wv, n, p, r_, m_])) (hMg : M g = some (4, [x0, x1, x2, x3, x4, x5, x6, x7, x8, x9])) (hl : Mor M x9 l) (hnd : l.Nodup) (hsl : s ∈ l) (Bq : List Int) (hq : q a false = s :: Bq) : CallF (fun _ => Tryz.prog) 32 [.ptr 0 (.lit 0), i6 w, i6 v] [hpA 0 1 5 6 3 W ph sp cy, hpB 1 2 4 3 W, hpC 2 3 214 2 N, hpP 3 L, hpP 4 D, hpF 5 z ov, hpP 6 Q, (7, .fix 0 o)] 8 (fun r h n => ∃ (ws' : List Int) (D' : List PV), r = .tup [i6 g, i6 1] ∧ h = [hpA 0 1 5 6 3 W ph sp cy, hpB 1 2 4 3 W, hpC 2 3 214 2 N, hpP 3 L, hpP 4 D', hpF 5 z ov, hpP 6 Q, (7, .fix 0 o)] ∧ n = 8 ∧ HM R ws' C G N W L D' Q z ∧ Cont R ws' (upd (relink M (rmQ q l)) g (4, [x0, 0, p] ++ setR r_ v [x3, x4, x5, x6, x7, x8] ++ [-1]))) := by
 refine callF_of_body tok Tryz.func32 (by kernel_rfl) rfl rfl rfl ?_; conv => cbv
 refine cfr (see_is_lx R ws C G N W ph sp cy L D Q z ov h M hM w a y0 y1 y2 y3 y4 y5 y6 y7 y8 hw h0 ha hMa) [(0, 0), (1, 1), (2, 2), (3, 3), (4, 4), (5, 5), (6, 6)] (fun r h' n' ⟨e1, e2, e3⟩ => ?_)
 subst e1 e2 e3
 conv => cbv
 refine callF_frame (closedF_lx a y0 y1 y2 y3 y4 y5 y6 y7 y8 hcl) [] rfl trivial rfl rfl (fun r h' n' ⟨e1, e2, e3⟩ => ?_)
 subst e1 e2 e3
 conv => cbv
 refine cfr (listPop0_lx R ws C G N W ph sp cy L D Q z ov h M hM q hY o ho hph (hch9 hY) (hsu7 hY) a s y0 y1 y2 y3 y4 y5 y6 y7 y8 g wv n p r_ m_ Bq hq hMa hMs) [(0, 0), (1, 1), (2, 2), (3, 3), (4, 4), (5, 5), (6, 6), (7, 7)] (fun r h' n' hrr => ?_)
 obtain ⟨ws1, D1, e1, e2, e3, h1, c1⟩ := hrr
 subst e1 e2 e3
 conv => cbv
 obtain ⟨n1, hMs1⟩ := relink_su (q := updQ q a false Bq) hMs
 have hMg1 := relink_other (q := updQ q a false Bq) hMg ⟨by decide, by decide⟩
 have hl1 := morRel (q := updQ q a false Bq) hl
 refine cfr (sendWoken_lx R ws1 C G N W ph sp cy L D1 Q z ov h1 _ c1 _ (sysPop hY hq) o ho hph v hv s g a wv n1 p r_ m_ x0 x1 x2 x3 x4 x5 x6 x7 x8 x9 l hMs1 hMg1 hl1 hnd) [(0, 0), (1, 1), (2, 2), (3, 3), (4, 4), (5, 5), (6, 6), (7, 7)] (fun r h' n' hrr => ?_)
 obtain ⟨ws2, D2, e1, e2, e3, h2, c2⟩ := hrr
 subst e1 e2 e3
 conv => cbv
 rw [relink_relink, pop_rm hq hsl] at c2
 refine RetF.mk [i6 g, i6 1] [hpA 0 1 5 6 3 W ph sp cy, hpB 1 2 4 3 W, hpC 2 3 214 2 N, hpP 3 L, hpP 4 D2, hpF 5 z ov, hpP 6 Q, (7, .fix 0 o)] 8 (Re.at [(0, 0), (1, 1), (2, 2), (3, 3), (4, 4), (5, 5), (6, 6), (7, 7)] []) rfl ⟨ws2, D2, rfl, rfl, rfl, h2, c2⟩
end Go.Proofs.YtjgbhpclmlcbbaaGreatDoor
