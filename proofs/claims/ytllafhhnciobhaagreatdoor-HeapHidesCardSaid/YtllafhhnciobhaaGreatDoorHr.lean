/-
  Layer 9: the reference's heap.
-/
import Derived.Test.YtllafhhnciobhaaGreatDoorHa
import Derived.Test.YtllafhhnciobhaaGreatDoorGd
import Derived.Test.YtllafhhnciobhaaGreatDoorAt
import Derived.Test.YtllafhhnciobhaaGreatDoorPi
namespace Go.Proofs.YtllafhhnciobhaaGreatDoor

open Go Go.LX
set_option maxRecDepth 100000
set_option linter.unusedVariables false
set_option linter.unusedSimpArgs false

structure RM (R : List Rw) (vs C G : List Int) (N W : Int) (P B V Q la : List PV) (m : Int) : Prop where
  a : AOk R vs

  n : N = R.length
  r : R.length ≤ 1000
  w : W = 32 * N
  p : P = cpv R
  b : B = bpv R
  v : V = ipv vs
  q : Q = ipv C
  c : (C.length : Int) = W
  l : la = i64s G
  m : m = G.length
  g : ∀ x ∈ G, 0 ≤ x ∧ x < W
  g8 : G.length ≤ 8
theorem RM.shade {R : List Rw} {vs C G C' G' : List Int} {N W m m' : Int} {P B V Q Q' la la' : List PV} {ph a : Int} {ov ov' : Bool} (h : RM R vs C G N W P B V Q la m) (hs : (C', G', ov') = Go.Proofs.YtllafhhnciobhaaGreatDoor.shade R ph a (C, G, ov)) (hQ : Q' = ipv C') (hl : la' = i64s G') (hm : m' = G'.length) : RM R vs C' G' N W P B V Q' la' m' := by
  unfold Go.Proofs.YtllafhhnciobhaaGreatDoor.shade at hs
  split at hs
  · rename_i hc
    have hb := obj_bd h.a hc.2.1
    have hn := h.n; have hw := h.w
    split at hs
    · rename_i h8
      have h8 : G.length < 8 := h8
      have hl8 : (G ++ [a]).length ≤ 8 := by rw [List.length_append]; show G.length + 1 ≤ 8; omega
      cases hs
      refine ⟨h.a, h.n, h.r, h.w, h.p, h.b, h.v, hQ, by rw [List.length_set]; exact h.c, hl, hm, fun x hx => ?_, hl8⟩
      rcases List.mem_append.1 hx with hx | hx
      · exact h.g x hx
      · rw [List.mem_singleton.1 hx]; omega
    · cases hs
      exact ⟨h.a, h.n, h.r, h.w, h.p, h.b, h.v, hQ, by rw [List.length_set]; exact h.c, hl, hm, h.g, h.g8⟩
  · cases hs
    exact ⟨h.a, h.n, h.r, h.w, h.p, h.b, h.v, hQ, h.c, hl, hm, h.g, h.g8⟩
theorem rIsPtr_lx (w : Int) : CallF (fun _ => Tryz.prog) 23 [.p (.int .i64 (.sym w))] [] 0 (fun r h n => ∃ b : Bool, r = .p (.bool b) ∧ h = [] ∧ n = 0 ∧ (b = true ↔ w % 2 = 1)) := by
  refine callF_of_body tok Tryz.func23 (by kernel_rfl) rfl rfl rfl ?_; conv => cbv
  refine Sum.mk fun u hu => ?_
  have hu : u = w % 2 := hu.trans (and1_bv w)
  conv => cbv
  refine Br.mk (fun g => ?_) (fun g => ?_)
  · have g : u = 1 := g
    conv => cbv
    refine RetF.mk [.p (.bool true)] [] 0 (Re.at [] []) rfl ⟨true, rfl, rfl, rfl, fun _ => (by omega), fun _ => rfl⟩
  · have g : ¬ u = 1 := g
    conv => cbv
    refine RetF.mk [.p (.bool false)] [] 0 (Re.at [] []) rfl ⟨false, rfl, rfl, rfl, fun k => (by cases k), fun k => absurd k (by omega)⟩
theorem rAt_lx (w : Int) (hw : -9223372036854775808 ≤ w ∧ w ≤ 9223372036854775807) : CallF (fun _ => Tryz.prog) 21 [.p (.int .i64 (.sym w))] [] 0 (fun r h n => ∃ x : Int, r = .p (.int .i64 (.sym x)) ∧ h = [] ∧ n = 0 ∧ (w % 2 = 1 → x = (w - 1) / 2) ∧ (¬ w % 2 = 1 → x = -1)) := by
  refine callF_of_body tok Tryz.func21 (by kernel_rfl) rfl rfl rfl ?_; conv => cbv
  refine callF_frame (rIsPtr_lx w) [] rfl trivial rfl rfl (fun r h' n' hrr => ?_)
  obtain ⟨b, e1, e2, e3, hb⟩ := hrr
  subst e1 e2 e3
  cases b with
  | false =>
    have hb : ¬ w % 2 = 1 := fun k => by have := hb.2 k; cases this
    conv => cbv
    refine RetF.mk [.p (.int .i64 (.sym (-1)))] [] 0 (Re.at [] []) rfl ⟨-1, rfl, rfl, rfl, fun k => absurd k hb, fun _ => rfl⟩
  | true =>
    have hb : w % 2 = 1 := hb.1 rfl
    conv => cbv
    refine Fit.mk (by show (-9223372036854775808 : Int) ≤ w - 1; omega) (by show w - 1 ≤ 9223372036854775807; omega) fun v hv => ?_
    have hv : v = w - 1 := hv
    have hdv : v.tdiv 2 = (w - 1) / 2 := by rw [hv]; exact Int.tdiv_eq_ediv_of_dvd (by omega)
    conv => cbv
    refine Fit.mk (by show (-9223372036854775808 : Int) ≤ v.tdiv 2; omega) (by show v.tdiv 2 ≤ 9223372036854775807; omega) fun y hy => ?_
    have hy : y = (w - 1) / 2 := hy.trans hdv
    conv => cbv
    refine RetF.mk [.p (.int .i64 (.sym y))] [] 0 (Re.at [] []) rfl ⟨y, rfl, rfl, rfl, fun _ => hy, fun k => absurd hb k⟩
set_option maxHeartbeats 2000000 in
theorem rshade_lx (R : List Rw) (vs C G : List Int) (N W ph sp cy : Int) (P B V Q la : List PV) (m : Int) (ov : Bool) (h : RM R vs C G N W P B V Q la m) (a : Int) : CallF (fun _ => Tryz.prog) 45 [.ptr 0 (.lit 0), .p (.int .i64 (.sym a))] [(0, .mix [.ptr 1 (.lit 0), .sl 6 3 1 (.lit 0) (.sym W), .ptr 7 (.lit 0), .p (.int .i64 (.sym ph)), .p (.int .i64 (.sym sp)), .p (.int .i64 (.sym cy))]), (1, .mix [.ptr 2 (.lit 0), .sl 5 3 1 (.lit 0) (.sym W)]), (2, .mix [.sl 3 3 1 (.lit 0) (.sym N), .sl 4 120 8 (.lit 0) (.sym N)]), (3, .pure true P), (4, .pure true B), (5, .pure true V), (6, .pure true Q), (7, .mix [.p (.vsl (.sym m) true la), .p (.bool ov)])] 8 (fun r h n => ∃ (C' G' : List Int) (ov' : Bool) (Q' la' : List PV) (m' : Int), r = .tup [] ∧ h = [(0, .mix [.ptr 1 (.lit 0), .sl 6 3 1 (.lit 0) (.sym W), .ptr 7 (.lit 0), .p (.int .i64 (.sym ph)), .p (.int .i64 (.sym sp)), .p (.int .i64 (.sym cy))]), (1, .mix [.ptr 2 (.lit 0), .sl 5 3 1 (.lit 0) (.sym W)]), (2, .mix [.sl 3 3 1 (.lit 0) (.sym N), .sl 4 120 8 (.lit 0) (.sym N)]), (3, .pure true P), (4, .pure true B), (5, .pure true V), (6, .pure true Q'), (7, .mix [.p (.vsl (.sym m') true la'), .p (.bool ov')])] ∧ n = 8 ∧ RM R vs C' G' N W P B V Q' la' m' ∧ (C', G', ov') = shade R ph a (C, G, ov)) := by
  have hCl := h.c; have hWn := h.w; have hNr := h.n; have hRr := h.r
  have hQl : Q.length = C.length := by rw [h.q, ipv_length]
  refine callF_of_body tok Tryz.func45 (by kernel_rfl) rfl rfl rfl ?_; conv => cbv
  refine Br.mk (fun g => ?_) (fun g => ?_)
  · have g : ph = 1 := g
    conv => cbv
    refine callF_frame (ris_lx R vs N a W P B V h.p h.b h.v h.n h.r h.a h.w) [(0, 1), (1, 2), (2, 3), (3, 4), (4, 5)] rfl (by simp [hmapOk, nget, hget, renB, okB, renV, renVs, rn, okVs, okV]) rfl rfl (fun r h' n' hrr => ?_)
    obtain ⟨b, e1, e2, e3, hb⟩ := hrr
    subst e1 e2 e3
    cases b with
    | false =>
      conv => cbv
      refine RetF.mk [] [(0, .mix [.ptr 1 (.lit 0), .sl 6 3 1 (.lit 0) (.sym W), .ptr 7 (.lit 0), .p (.int .i64 (.sym ph)), .p (.int .i64 (.sym sp)), .p (.int .i64 (.sym cy))]), (1, .mix [.ptr 2 (.lit 0), .sl 5 3 1 (.lit 0) (.sym W)]), (2, .mix [.sl 3 3 1 (.lit 0) (.sym N), .sl 4 120 8 (.lit 0) (.sym N)]), (3, .pure true P), (4, .pure true B), (5, .pure true V), (6, .pure true Q), (7, .mix [.p (.vsl (.sym m) true la), .p (.bool ov)])] 8 (Re.at [(0, 0), (1, 1), (2, 2), (3, 3), (4, 4), (5, 5), (6, 6), (7, 7)] []) rfl ⟨C, G, ov, Q, la, m, rfl, rfl, rfl, h, by unfold Go.Proofs.YtllafhhnciobhaaGreatDoor.shade; rw [if_neg (fun k => by have := hb.2 ((obj_iff h.a a).1 k.2.1); cases this)]⟩
    | true =>
      have hob : a ∈ objs R := (obj_iff h.a a).2 (hb.1 rfl)
      have hbd := obj_bd h.a hob
      obtain ⟨x, hx⟩ : ∃ x, C[a.toNat]? = some x := ⟨_, List.getElem?_eq_getElem (by omega)⟩
      have hq : Q[a.toNat]? = some (.int .i64 (.sym x)) := by rw [h.q]; exact ipv_get hx
      conv => cbv
      refine Need.mk ⟨by show 0 ≤ a; omega, by show a < W; omega⟩ ?_
      conv => cbv
      refine Cell.at a _ hq (by simp [I.val]) rfl ?_
      conv => cbv
      refine Br.mk (fun g2 => ?_) (fun g2 => ?_)
      · have g2 : x = 0 := g2
        conv => cbv
        refine Need.mk ⟨by show 0 ≤ a; omega, by show a < W; omega⟩ ?_
        conv => cbv
        obtain ⟨Q3, hQ3⟩ : ∃ Q3, Q3 = ipv (C.set a.toNat 1) := ⟨_, rfl⟩
        refine Need.mk (by show a + 1 ≤ (Q.length : Int); omega) ?_
        conv => cbv
        refine Upd.mk fun Q2 hQ2 => ?_
        have hle : pvles Q2 Q3 := by
          have hQ2 : Q2 = Q.set a.toNat (.int .i64 (.lit 1)) := hQ2
          rw [hQ2, hQ3, h.q, ← ipv_set]
          exact pvles_set _ _ _ _ _ (pvles_refl _) (by simp [pvle, I.val])
        unfold pvles at hle
        clear hQ2
        conv => cbv
        refine callF_frame (refPush_lx G a m la ov h.m h.l h.g8) [(0, 7)] rfl (by simp [hmapOk, nget, hget, renB, okB, renV, renVs, rn, okVs, okV]) rfl rfl (fun r h' n' hrr => ?_)
        obtain ⟨b2, ov', m', la', G', e1, e2, e3, hm', hl', hp1, hp2⟩ := hrr
        subst e1 e2 e3
        have hsh : (C.set a.toNat 1, G', ov') = Go.Proofs.YtllafhhnciobhaaGreatDoor.shade R ph a (C, G, ov) := by
          unfold Go.Proofs.YtllafhhnciobhaaGreatDoor.shade
          rw [if_pos ⟨g, hob, by rw [hx, g2]⟩]
          dsimp only
          split
          · obtain ⟨_, q1, q2⟩ := hp1 (by assumption)
            rw [q1, q2]
          · obtain ⟨_, q1, q2⟩ := hp2 (by omega)
            rw [q1, q2]
        conv => cbv
        refine RetF.mk [] [(0, .mix [.ptr 1 (.lit 0), .sl 6 3 1 (.lit 0) (.sym W), .ptr 7 (.lit 0), .p (.int .i64 (.sym ph)), .p (.int .i64 (.sym sp)), .p (.int .i64 (.sym cy))]), (1, .mix [.ptr 2 (.lit 0), .sl 5 3 1 (.lit 0) (.sym W)]), (2, .mix [.sl 3 3 1 (.lit 0) (.sym N), .sl 4 120 8 (.lit 0) (.sym N)]), (3, .pure true P), (4, .pure true B), (5, .pure true V), (6, .pure true Q3), (7, .mix [.p (.vsl (.sym m') true la'), .p (.bool ov')])] 8 (Re.at [(0, 0), (1, 1), (2, 2), (3, 3), (4, 4), (5, 5), (6, 6), (7, 7)] []) rfl ⟨_, G', ov', Q3, la', m', rfl, rfl, rfl, h.shade hsh hQ3 hl' hm', hsh⟩
      · have g2 : ¬ x = 0 := g2
        conv => cbv
        refine RetF.mk [] [(0, .mix [.ptr 1 (.lit 0), .sl 6 3 1 (.lit 0) (.sym W), .ptr 7 (.lit 0), .p (.int .i64 (.sym ph)), .p (.int .i64 (.sym sp)), .p (.int .i64 (.sym cy))]), (1, .mix [.ptr 2 (.lit 0), .sl 5 3 1 (.lit 0) (.sym W)]), (2, .mix [.sl 3 3 1 (.lit 0) (.sym N), .sl 4 120 8 (.lit 0) (.sym N)]), (3, .pure true P), (4, .pure true B), (5, .pure true V), (6, .pure true Q), (7, .mix [.p (.vsl (.sym m) true la), .p (.bool ov)])] 8 (Re.at [(0, 0), (1, 1), (2, 2), (3, 3), (4, 4), (5, 5), (6, 6), (7, 7)] []) rfl ⟨C, G, ov, Q, la, m, rfl, rfl, rfl, h, by unfold Go.Proofs.YtllafhhnciobhaaGreatDoor.shade; rw [if_neg (fun k => g2 (Option.some.inj (hx.symm.trans k.2.2)))]⟩
  · have g : ¬ ph = 1 := g
    conv => cbv
    refine RetF.mk [] [(0, .mix [.ptr 1 (.lit 0), .sl 6 3 1 (.lit 0) (.sym W), .ptr 7 (.lit 0), .p (.int .i64 (.sym ph)), .p (.int .i64 (.sym sp)), .p (.int .i64 (.sym cy))]), (1, .mix [.ptr 2 (.lit 0), .sl 5 3 1 (.lit 0) (.sym W)]), (2, .mix [.sl 3 3 1 (.lit 0) (.sym N), .sl 4 120 8 (.lit 0) (.sym N)]), (3, .pure true P), (4, .pure true B), (5, .pure true V), (6, .pure true Q), (7, .mix [.p (.vsl (.sym m) true la), .p (.bool ov)])] 8 (Re.at [(0, 0), (1, 1), (2, 2), (3, 3), (4, 4), (5, 5), (6, 6), (7, 7)] []) rfl ⟨C, G, ov, Q, la, m, rfl, rfl, rfl, h, by unfold Go.Proofs.YtllafhhnciobhaaGreatDoor.shade; rw [if_neg (fun k => g k.1)]⟩
theorem RM.stored {R : List Rw} {vs vs' C G : List Int} {N W m : Int} {P B V V' Q la : List PV} {a i x e : Int} (h : RM R vs C G N W P B V Q la m) (hx : -9223372036854775808 ≤ x ∧ x ≤ 9223372036854775807) (hs : Stored R vs a i x e vs') (hV : V' = ipv vs') : RM R vs' C G N W P B V' Q la m :=
  ⟨h.a.stored hx hs, h.n, h.r, h.w, h.p, h.b, hV, h.q, h.c, h.l, h.m, h.g, h.g8⟩
set_option maxHeartbeats 2000000 in
theorem rstore9_lx (R : List Rw) (vs C G : List Int) (N W ph sp cy : Int) (P B V Q la : List PV) (m : Int) (ov : Bool) (h : RM R vs C G N W P B V Q la m) (a i x : Int) (hx : -9223372036854775808 ≤ x ∧ x ≤ 9223372036854775807) : CallF (fun _ => Tryz.prog) 44 [.ptr 0 (.lit 0), .p (.int .i64 (.sym a)), .p (.int .i64 (.sym i)), .p (.int .i64 (.sym x))] [(0, .mix [.ptr 1 (.lit 0), .sl 6 3 1 (.lit 0) (.sym W), .ptr 7 (.lit 0), .p (.int .i64 (.sym ph)), .p (.int .i64 (.sym sp)), .p (.int .i64 (.sym cy))]), (1, .mix [.ptr 2 (.lit 0), .sl 5 3 1 (.lit 0) (.sym W)]), (2, .mix [.sl 3 3 1 (.lit 0) (.sym N), .sl 4 120 8 (.lit 0) (.sym N)]), (3, .pure true P), (4, .pure true B), (5, .pure true V), (6, .pure true Q), (7, .mix [.p (.vsl (.sym m) true la), .p (.bool ov)])] 8 (fun r h n => ∃ (e : Int) (vs' C' G' : List Int) (ov' : Bool) (V' Q' la' : List PV) (m' : Int), r = .p (.int .i64 (.sym e)) ∧ h = [(0, .mix [.ptr 1 (.lit 0), .sl 6 3 1 (.lit 0) (.sym W), .ptr 7 (.lit 0), .p (.int .i64 (.sym ph)), .p (.int .i64 (.sym sp)), .p (.int .i64 (.sym cy))]), (1, .mix [.ptr 2 (.lit 0), .sl 5 3 1 (.lit 0) (.sym W)]), (2, .mix [.sl 3 3 1 (.lit 0) (.sym N), .sl 4 120 8 (.lit 0) (.sym N)]), (3, .pure true P), (4, .pure true B), (5, .pure true V'), (6, .pure true Q'), (7, .mix [.p (.vsl (.sym m') true la'), .p (.bool ov')])] ∧ n = 8 ∧ RM R vs' C' G' N W P B V' Q' la' m' ∧ Stored R vs a i x e vs' ∧ (C', G', ov') = storeS R ph e x (C, G, ov)) := by
  refine callF_of_body tok Tryz.func44 (by kernel_rfl) rfl rfl rfl ?_; conv => cbv
  refine callF_frame (rstore_lx i x R vs N a W P B V h.p h.b h.v h.n h.r h.a h.w) [(0, 1), (1, 2), (2, 3), (3, 4), (4, 5)] rfl (by simp [hmapOk, nget, hget, renB, okB, renV, renVs, rn, okVs, okV]) rfl rfl (fun r h' n' hrr => ?_)
  obtain ⟨e, vs', V', e1, e2, e3, hV', hT⟩ := hrr
  subst e1 e2 e3
  conv => cbv
  have h2 := h.stored hx hT hV'
  refine Br.mk (fun g => ?_) (fun g => ?_)
  · have g : e = 0 := g
    conv => cbv
    refine callF_frame (rIsPtr_lx x) [] rfl trivial rfl rfl (fun r h' n' hrr => ?_)
    obtain ⟨b, e1, e2, e3, hb⟩ := hrr
    subst e1 e2 e3
    cases b with
    | false =>
      have hb : ¬ x % 2 = 1 := fun k => by have := hb.2 k; cases this
      conv => cbv
      refine RetF.mk [.p (.int .i64 (.sym e))] [(0, .mix [.ptr 1 (.lit 0), .sl 6 3 1 (.lit 0) (.sym W), .ptr 7 (.lit 0), .p (.int .i64 (.sym ph)), .p (.int .i64 (.sym sp)), .p (.int .i64 (.sym cy))]), (1, .mix [.ptr 2 (.lit 0), .sl 5 3 1 (.lit 0) (.sym W)]), (2, .mix [.sl 3 3 1 (.lit 0) (.sym N), .sl 4 120 8 (.lit 0) (.sym N)]), (3, .pure true P), (4, .pure true B), (5, .pure true V'), (6, .pure true Q), (7, .mix [.p (.vsl (.sym m) true la), .p (.bool ov)])] 8 (Re.at [(0, 0), (1, 1), (2, 2), (3, 3), (4, 4), (5, 5), (6, 6), (7, 7)] []) rfl ⟨e, vs', C, G, ov, V', Q, la, m, rfl, rfl, rfl, h2, hT, by unfold storeS shadeW; rw [if_pos g, if_neg hb]⟩
    | true =>
      have hb : x % 2 = 1 := hb.1 rfl
      conv => cbv
      refine callF_frame (rAt_lx x hx) [] rfl trivial rfl rfl (fun r h' n' hrr => ?_)
      obtain ⟨y, e1, e2, e3, hy, _⟩ := hrr
      subst e1 e2 e3
      have hy := hy hb
      conv => cbv
      refine callF_frame (rshade_lx R vs' C G N W ph sp cy P B V' Q la m ov h2 y) [(0, 0), (1, 1), (2, 2), (3, 3), (4, 4), (5, 5), (6, 6), (7, 7)] rfl (by simp [hmapOk, nget, hget, renB, okB, renV, renVs, rn, okVs, okV]) rfl rfl (fun r h' n' hrr => ?_)
      obtain ⟨C', G', ov', Q', la', m', e1, e2, e3, h3, hs⟩ := hrr
      subst e1 e2 e3
      conv => cbv
      refine RetF.mk [.p (.int .i64 (.sym e))] [(0, .mix [.ptr 1 (.lit 0), .sl 6 3 1 (.lit 0) (.sym W), .ptr 7 (.lit 0), .p (.int .i64 (.sym ph)), .p (.int .i64 (.sym sp)), .p (.int .i64 (.sym cy))]), (1, .mix [.ptr 2 (.lit 0), .sl 5 3 1 (.lit 0) (.sym W)]), (2, .mix [.sl 3 3 1 (.lit 0) (.sym N), .sl 4 120 8 (.lit 0) (.sym N)]), (3, .pure true P), (4, .pure true B), (5, .pure true V'), (6, .pure true Q'), (7, .mix [.p (.vsl (.sym m') true la'), .p (.bool ov')])] 8 (Re.at [(0, 0), (1, 1), (2, 2), (3, 3), (4, 4), (5, 5), (6, 6), (7, 7)] []) rfl ⟨e, vs', C', G', ov', V', Q', la', m', rfl, rfl, rfl, h3, hT, by unfold storeS shadeW; rw [if_pos g, if_pos hb, ← hy]; exact hs⟩
  · have g : ¬ e = 0 := g
    conv => cbv
    refine RetF.mk [.p (.int .i64 (.sym e))] [(0, .mix [.ptr 1 (.lit 0), .sl 6 3 1 (.lit 0) (.sym W), .ptr 7 (.lit 0), .p (.int .i64 (.sym ph)), .p (.int .i64 (.sym sp)), .p (.int .i64 (.sym cy))]), (1, .mix [.ptr 2 (.lit 0), .sl 5 3 1 (.lit 0) (.sym W)]), (2, .mix [.sl 3 3 1 (.lit 0) (.sym N), .sl 4 120 8 (.lit 0) (.sym N)]), (3, .pure true P), (4, .pure true B), (5, .pure true V'), (6, .pure true Q), (7, .mix [.p (.vsl (.sym m) true la), .p (.bool ov)])] 8 (Re.at [(0, 0), (1, 1), (2, 2), (3, 3), (4, 4), (5, 5), (6, 6), (7, 7)] []) rfl ⟨e, vs', C, G, ov, V', Q, la, m, rfl, rfl, rfl, h2, hT, by unfold storeS; rw [if_neg g]⟩
end Go.Proofs.YtllafhhnciobhaaGreatDoor
/-
  Layer 9: the reference's heap: words, what is allotted, a cycle begun.
-/
namespace Go.Proofs.YtllafhhnciobhaaGreatDoor

open Go Go.LX
set_option maxRecDepth 100000
set_option linter.unusedVariables false
set_option linter.unusedSimpArgs false

set_option maxHeartbeats 4000000 in
theorem rwords9_lx (R : List Rw) (vs C G : List Int) (N W ph sp cy : Int) (P B V Q la : List PV) (m : Int) (ov : Bool) (h : RM R vs C G N W P B V Q la m) (a : Int) : CallF (fun _ => Tryz.prog) 65 [.ptr 0 (.lit 0), .p (.int .i64 (.sym a))] [(0, .mix [.ptr 1 (.lit 0), .sl 6 3 1 (.lit 0) (.sym W), .ptr 7 (.lit 0), .p (.int .i64 (.sym ph)), .p (.int .i64 (.sym sp)), .p (.int .i64 (.sym cy))]), (1, .mix [.ptr 2 (.lit 0), .sl 5 3 1 (.lit 0) (.sym W)]), (2, .mix [.sl 3 3 1 (.lit 0) (.sym N), .sl 4 120 8 (.lit 0) (.sym N)]), (3, .pure true P), (4, .pure true B), (5, .pure true V), (6, .pure true Q), (7, .mix [.p (.vsl (.sym m) true la), .p (.bool ov)])] 8 (fun r h n => ∃ (X : List Int) (k : Int) (O : List PV), r = .sl 8 3 1 (.lit 0) (.sym k) ∧ h = [(0, .mix [.ptr 1 (.lit 0), .sl 6 3 1 (.lit 0) (.sym W), .ptr 7 (.lit 0), .p (.int .i64 (.sym ph)), .p (.int .i64 (.sym sp)), .p (.int .i64 (.sym cy))]), (1, .mix [.ptr 2 (.lit 0), .sl 5 3 1 (.lit 0) (.sym W)]), (2, .mix [.sl 3 3 1 (.lit 0) (.sym N), .sl 4 120 8 (.lit 0) (.sym N)]), (3, .pure true P), (4, .pure true B), (5, .pure true V), (6, .pure true Q), (7, .mix [.p (.vsl (.sym m) true la), .p (.bool ov)]), (8, .pure true O)] ∧ n = 9 ∧ O = ipv X ∧ k = X.length ∧ Wrds R vs a X) := by
  have hVl : V.length = vs.length := by rw [h.v, ipv_length]
  have hWn := h.w; have hNr := h.n; have hRr := h.r
  have hlen := h.a.len
  obtain ⟨v, hv⟩ : ∃ v, LenR R vs a v := by
    by_cases ho : IsObj R a
    · obtain ⟨k, l, hk⟩ := Kept.of h.a ho; exact ⟨l, .is k l hk⟩
    · exact ⟨0, .no ho⟩
  obtain ⟨X, hX, hvX, hX31⟩ := wrds_ex h.a hv
  refine callF_of_body tok Tryz.func65 (by kernel_rfl) rfl rfl rfl ?_; conv => cbv
  refine LoopF.mk (fun k s => ∃ (i : Int) (O : List PV), s = ⟨.ptr 0 (.lit 0) :: .p (.int .i64 (.sym a)) :: (undefs 3 ++ .sl 8 3 1 (.lit 0) (.sym i) :: .p (.int .i64 (.sym i)) :: undefs 27), [(0, .mix [.ptr 1 (.lit 0), .sl 6 3 1 (.lit 0) (.sym W), .ptr 7 (.lit 0), .p (.int .i64 (.sym ph)), .p (.int .i64 (.sym sp)), .p (.int .i64 (.sym cy))]), (1, .mix [.ptr 2 (.lit 0), .sl 5 3 1 (.lit 0) (.sym W)]), (2, .mix [.sl 3 3 1 (.lit 0) (.sym N), .sl 4 120 8 (.lit 0) (.sym N)]), (3, .pure true P), (4, .pure true B), (5, .pure true V), (6, .pure true Q), (7, .mix [.p (.vsl (.sym m) true la), .p (.bool ov)]), (8, .pure true O)], 9⟩ ∧ 0 ≤ i ∧ i ≤ v ∧ O = ipv (X.take i.toNat) ∧ k = (v - i).toNat) v.toNat _
    (Re.at [(0, 0), (1, 1), (2, 2), (3, 3), (4, 4), (5, 5), (6, 6), (7, 7)] [8]) ⟨0, [], rfl, by omega, by omega, by simp [ipv], by omega⟩ ?_
  rintro k s ⟨i, O, rfl, hi0, hi1, hO, hk⟩
  have hOl : (O.length : Int) = i := by rw [hO, ipv_length, List.length_take]; omega
  conv => cbv
  refine callF_frame (rlen_lx R vs N a W P B V h.p h.b h.v h.n h.r h.a h.w) [(0, 1), (1, 2), (2, 3), (3, 4), (4, 5)] rfl (by simp [hmapOk, nget, hget, renB, okB, renV, renVs, rn, okVs, okV]) rfl rfl (fun r h' n' hrr => ?_)
  obtain ⟨v2, e1, e2, e3, hv2⟩ := hrr
  subst e1 e2 e3
  obtain rfl : v2 = v := by
    cases hv with
    | no hn => cases hv2 with
      | no _ => rfl
      | is k l hk => exact absurd hk.obj6 hn
    | is k l hk => cases hv2 with
      | no hn => exact absurd hk.obj6 hn
      | is k' l' hk' => exact (hk'.det9 hk).2
  conv => cbv
  refine Br.mk (fun gi => ?_) (fun gi => ?_)
  · have gi : i < v2 := gi
    obtain ⟨k', rfl⟩ : ∃ k', k = k' + 1 := ⟨k - 1, by omega⟩
    obtain ⟨x0, hx0⟩ : ∃ x0, X[i.toNat]? = some x0 := ⟨_, List.getElem?_eq_getElem (by omega)⟩
    have hld := hX.2 _ _ hx0
    rw [show ((i.toNat : Nat) : Int) = i by omega] at hld
    obtain ⟨hab, hxv⟩ : (0 ≤ a ∧ a + 1 + v2 ≤ W) ∧ vs[(a + 1 + i).toNat]? = some x0 := by
      cases hld with
      | ok k0 l0 _ hK hi hx =>
        have hb := hK.bounds h.a
        have : l0 = v2 := by
          clear hX hvX hO hOl
          cases hv with
          | no hn => exact absurd hK.obj6 hn
          | is k' l' hK' => exact (hK.det9 hK').2
        exact ⟨⟨by omega, by omega⟩, hx⟩
    have hq : V[(a + 1 + i).toNat]? = some (.int .i64 (.sym x0)) := by rw [h.v]; exact ipv_get hxv
    conv => cbv
    refine Fit.mk (by show (-9223372036854775808 : Int) ≤ a + 1; omega) (by show a + 1 ≤ 9223372036854775807; omega) fun a1 ha1 => ?_
    have ha1 : a1 = a + 1 := ha1
    conv => cbv
    refine Fit.mk (by show (-9223372036854775808 : Int) ≤ a1 + i; omega) (by show a1 + i ≤ 9223372036854775807; omega) fun a2 ha2 => ?_
    have ha2 : a2 = a1 + i := ha2
    rw [show (a + 1 + i).toNat = a2.toNat by omega] at hq
    conv => cbv
    refine Need.mk ⟨by show 0 ≤ a2; omega, by show a2 < W; omega⟩ ?_
    conv => cbv
    refine Cell.at a2 _ hq (by simp [I.val]) rfl ?_
    conv => cbv
    refine Room.new rfl ?_
    conv => cbv
    refine Room.new ⟨?_, ?_, ?_⟩ ?_
    · show (O.length : Int) = i * 1; omega
    · show (i + 1) * 8 ≤ 140737488355328; omega
    · show i + 1 ≤ 9223372036854775807; omega
    conv => cbv
    refine Upd.mk fun O3 hO3 => ?_
    have hO3 : O3 = O ++ [.int .i64 (.sym x0)] := hO3
    have hO3 : O3 = ipv (X.take (i.toNat + 1)) := by
      rw [hO3, hO, List.take_add_one, hx0]
      simp [ipv]
    conv => cbv
    refine Sum.mk fun j2 hj2 => ?_
    have hj2 : j2 = i + 1 := hj2
    conv => cbv
    refine Fit.mk (by show (-9223372036854775808 : Int) ≤ i + 1; omega) (by show i + 1 ≤ 9223372036854775807; omega) fun i2 hi2 => ?_
    have hi2 : i2 = i + 1 := hi2
    obtain rfl : j2 = i2 := by omega
    have htt : j2.toNat = i.toNat + 1 := by omega
    rw [← htt] at hO3
    conv => cbv
    refine Again.mk k' _ (Nat.lt_succ_self _) (Re.at [(0, 0), (1, 1), (2, 2), (3, 3), (4, 4), (5, 5), (6, 6), (7, 7), (10, 8)] []) ⟨j2, O3, rfl, by omega, by omega, hO3, by omega⟩
  · have gi : ¬ i < v2 := gi
    obtain rfl : i = v2 := by omega
    have hOX : O = ipv X := by rw [hO, List.take_of_length_le (by omega)]
    conv => cbv
    refine RetF.mk [.sl 8 3 1 (.lit 0) (.sym i)] [(0, .mix [.ptr 1 (.lit 0), .sl 6 3 1 (.lit 0) (.sym W), .ptr 7 (.lit 0), .p (.int .i64 (.sym ph)), .p (.int .i64 (.sym sp)), .p (.int .i64 (.sym cy))]), (1, .mix [.ptr 2 (.lit 0), .sl 5 3 1 (.lit 0) (.sym W)]), (2, .mix [.sl 3 3 1 (.lit 0) (.sym N), .sl 4 120 8 (.lit 0) (.sym N)]), (3, .pure true P), (4, .pure true B), (5, .pure true V), (6, .pure true Q), (7, .mix [.p (.vsl (.sym m) true la), .p (.bool ov)]), (8, .pure true O)] 9 (Re.at [(0, 0), (1, 1), (2, 2), (3, 3), (4, 4), (5, 5), (6, 6), (7, 7), (8, 8)] []) rfl ⟨X, i, O, rfl, rfl, rfl, hOX, hvX, hX⟩
theorem alloctV_gen9 {R R' : List Rw} {vs vs' : List Int} {kind n a e : Int} (hA : AOk R vs) (h : AlloctV R vs kind n a e R' vs') :
    AOk R' vs' ∧ R'.length = R.length ∧ ((e ≠ 0 ∧ a = 0 ∧ R' = R ∧ vs' = vs) ∨ (e = 0 ∧ (0 ≤ n ∧ n ≤ 31 ∧ 1 ≤ kind ∧ kind ≤ 6) ∧ Kept R' vs' a kind n ∧ (∀ b k l, Kept R vs b k l → Kept R' vs' b k l ∧ b ≠ a ∧ ∀ i, 0 ≤ i → i < l → vs'[(b + 1 + i).toNat]? = vs[(b + 1 + i).toNat]?) ∧ (∀ b, IsObj R' b → b = a ∨ IsObj R b))) := by
  cases h with
  | arg h => exact ⟨hA, rfl, .inl ⟨by decide, rfl, rfl, rfl⟩⟩
  | room i s R' hc ha =>
    obtain ⟨rfl, _⟩ := full_count hA.rows (ofN_slots n) ha
    exact ⟨hA, rfl, .inl ⟨by decide, rfl, rfl, rfl⟩⟩
  | ok i s _ R' hc ha hat =>
    obtain ⟨w, hw⟩ : ∃ w, w = wordsOf (ofN n) := ⟨_, rfl⟩
    obtain ⟨q1, q2, q3, q4, q5⟩ := alloc_objs hA.rows ha a w hat hw
    have hobj : ObjAt R' a w := (q5 _ _).2 (.inr ⟨rfl, rfl⟩)
    obtain ⟨f1, f2, f3, _⟩ := hobj.facts q1
    have hnw : n < w := by rw [hw]; exact (ofN_words ⟨hc.1, hc.2.1⟩).1
    have hlv := hA.len
    have gv : ∀ j : Nat, j < vs.length → j ≠ a.toNat → ((zer vs a.toNat (wordsOf (ofN n)).toNat).set a.toNat (kind + 16 * n))[j]? = if a.toNat ≤ j ∧ j < a.toNat + (wordsOf (ofN n)).toNat then some 0 else vs[j]? := fun j hj hne => by
      rw [List.getElem?_set_ne (fun e => hne e.symm), zer_get _ _ _ _ hj]
    rw [← hw] at gv ⊢
    have farv : ∀ j : Nat, (j : Int) < a ∨ a + w ≤ j → ((zer vs a.toNat w.toNat).set a.toNat (kind + 16 * n))[j]? = vs[j]? := fun j hj => by
      by_cases hjl : j < vs.length
      · rw [gv j hjl (by omega), if_neg (by omega)]
      · rw [List.getElem?_eq_none (by rw [List.length_set, zer_length]; omega), List.getElem?_eq_none (by omega)]
    have hbdv : ∀ x ∈ (zer vs a.toNat w.toNat).set a.toNat (kind + 16 * n), -9223372036854775808 ≤ x ∧ x ≤ 9223372036854775807 := by
      intro x hx
      rcases List.mem_or_eq_of_mem_set hx with hx | rfl
      · obtain ⟨j, hj⟩ := List.getElem?_of_mem hx
        have hjl : j < vs.length := by have := (List.getElem?_eq_some_iff.1 hj).1; rw [zer_length] at this; exact this
        rw [zer_get _ _ _ _ hjl] at hj
        split at hj
        · cases hj; omega
        · exact hA.bd x (List.mem_of_getElem? hj)
      · omega
    obtain ⟨r1, r2, r3, r4⟩ := alloc_gen hA hc ha hat hw (by rw [List.length_set, zer_length]) (by rw [List.getElem?_set_self (by rw [zer_length]; omega)]) farv hbdv
    exact ⟨r1, q2, .inr ⟨rfl, hc, r2, r3, r4⟩⟩
theorem RM.alloct {R R' : List Rw} {vs vs' C C' G : List Int} {N W m : Int} {P P' B B' V V' Q Q' la : List PV} {kind n a e : Int} (h : RM R vs C G N W P B V Q la m) (hs : AlloctV R vs kind n a e R' vs') (hP : P' = cpv R') (hB : B' = bpv R') (hV : V' = ipv vs') (hC : C'.length = C.length) (hQ : Q' = ipv C') : RM R' vs' C' G N W P' B' V' Q' la m := by
  obtain ⟨h1, h2, _⟩ := alloctV_gen9 h.a hs
  exact ⟨h1, by rw [h2]; exact h.n, by rw [h2]; exact h.r, h.w, hP, hB, hV, hQ, by rw [hC]; exact h.c, h.l, h.m, h.g, h.g8⟩
set_option maxHeartbeats 2000000 in
theorem ralloc9_lx (R : List Rw) (vs C G : List Int) (N W ph sp cy : Int) (P B V Q la : List PV) (m : Int) (ov : Bool) (h : RM R vs C G N W P B V Q la m) (kind mm : Int) : CallF (fun _ => Tryz.prog) 50 [.ptr 0 (.lit 0), .p (.int .i64 (.sym kind)), .p (.int .i64 (.sym mm))] [(0, .mix [.ptr 1 (.lit 0), .sl 6 3 1 (.lit 0) (.sym W), .ptr 7 (.lit 0), .p (.int .i64 (.sym ph)), .p (.int .i64 (.sym sp)), .p (.int .i64 (.sym cy))]), (1, .mix [.ptr 2 (.lit 0), .sl 5 3 1 (.lit 0) (.sym W)]), (2, .mix [.sl 3 3 1 (.lit 0) (.sym N), .sl 4 120 8 (.lit 0) (.sym N)]), (3, .pure true P), (4, .pure true B), (5, .pure true V), (6, .pure true Q), (7, .mix [.p (.vsl (.sym m) true la), .p (.bool ov)])] 8 (fun r h n => ∃ (a e : Int) (R' : List Rw) (vs' C' : List Int) (P' B' V' Q' : List PV), r = .tup [.p (.int .i64 (.sym a)), .p (.int .i64 (.sym e))] ∧ h = [(0, .mix [.ptr 1 (.lit 0), .sl 6 3 1 (.lit 0) (.sym W), .ptr 7 (.lit 0), .p (.int .i64 (.sym ph)), .p (.int .i64 (.sym sp)), .p (.int .i64 (.sym cy))]), (1, .mix [.ptr 2 (.lit 0), .sl 5 3 1 (.lit 0) (.sym W)]), (2, .mix [.sl 3 3 1 (.lit 0) (.sym N), .sl 4 120 8 (.lit 0) (.sym N)]), (3, .pure true P'), (4, .pure true B'), (5, .pure true V'), (6, .pure true Q'), (7, .mix [.p (.vsl (.sym m) true la), .p (.bool ov)])] ∧ n = 8 ∧ RM R' vs' C' G N W P' B' V' Q' la m ∧ AlloctV R vs kind mm a e R' vs' ∧ C' = allocC ph a e C) := by
  have hCl := h.c; have hWn := h.w; have hNr := h.n; have hRr := h.r
  have hQl : Q.length = C.length := by rw [h.q, ipv_length]
  refine callF_of_body tok Tryz.func50 (by kernel_rfl) rfl rfl rfl ?_; conv => cbv
  refine callF_frame (rallocA_lx kind mm R vs N W P B V h.p h.b h.v h.n h.r h.a h.w) [(0, 1), (1, 2), (2, 3), (3, 4), (4, 5)] rfl (by simp [hmapOk, nget, hget, renB, okB, renV, renVs, rn, okVs, okV]) rfl rfl (fun r h' n' hrr => ?_)
  obtain ⟨a, e, R', vs', P', B', V', e1, e2, e3, hP', hB', hV', hT⟩ := hrr
  subst e1 e2 e3
  conv => cbv
  have hgen := alloctV_gen9 h.a hT
  refine Br.mk (fun g => ?_) (fun g => ?_)
  · have g : e ≠ 0 := g
    have ha0 : a = 0 := by
      rcases hgen.2.2 with h | h
      · exact h.2.1
      · exact absurd h.1 g
    conv => cbv
    refine RetF.mk [.p (.int .i64 (.sym a)), .p (.int .i64 (.sym e))] [(0, .mix [.ptr 1 (.lit 0), .sl 6 3 1 (.lit 0) (.sym W), .ptr 7 (.lit 0), .p (.int .i64 (.sym ph)), .p (.int .i64 (.sym sp)), .p (.int .i64 (.sym cy))]), (1, .mix [.ptr 2 (.lit 0), .sl 5 3 1 (.lit 0) (.sym W)]), (2, .mix [.sl 3 3 1 (.lit 0) (.sym N), .sl 4 120 8 (.lit 0) (.sym N)]), (3, .pure true P'), (4, .pure true B'), (5, .pure true V'), (6, .pure true Q), (7, .mix [.p (.vsl (.sym m) true la), .p (.bool ov)])] 8 (Re.at [(0, 0), (1, 1), (2, 2), (3, 3), (4, 4), (5, 5), (6, 6), (7, 7)] []) rfl ⟨a, e, R', vs', C, P', B', V', Q, rfl, rfl, rfl, h.alloct hT hP' hB' hV' rfl h.q, hT, by unfold allocC; rw [if_neg g]⟩
  · have g : ¬ e ≠ 0 := g
    have g : e = 0 := by omega
    have hA1 := hgen.1
    have hlR := hgen.2.1
    have hb : 0 ≤ a ∧ a < W := by
      rcases hgen.2.2 with h | h
      · exact absurd g h.1
      · have h1 := (h.2.2.1).bounds hA1
        omega
    obtain ⟨C', hC'⟩ : ∃ C', C' = allocC ph a e C := ⟨_, rfl⟩
    obtain ⟨Q', hQ'⟩ : ∃ Q', Q' = ipv C' := ⟨_, rfl⟩
    have hfin := h.alloct hT hP' hB' hV' (by rw [hC']; exact allocC_length _ _ _ _) hQ'
    conv => cbv
    refine Need.mk ⟨by show 0 ≤ a; omega, by show a < W; omega⟩ ?_
    conv => cbv
    refine Need.mk (by show a + 1 ≤ (Q.length : Int); omega) ?_
    conv => cbv
    refine Upd.mk fun Q2 hQ2 => ?_
    have hQ2 : Q2 = Q.set a.toNat (.int .i64 (.lit 0)) := hQ2
    conv => cbv
    refine Br.mk (fun gp => ?_) (fun gp => ?_)
    · have gp : ph ≠ 0 := gp
      conv => cbv
      refine Need.mk ⟨by show 0 ≤ a; omega, by show a < W; omega⟩ ?_
      conv => cbv
      refine Need.mk (by show a + 1 ≤ (Q2.length : Int); rw [hQ2, List.length_set]; omega) ?_
      conv => cbv
      refine Upd.mk fun Q3 hQ3 => ?_
      have hle : pvles Q3 Q' := by
        have hQ3 : Q3 = Q2.set a.toNat (.int .i64 (.lit 2)) := hQ3
        rw [hQ3, hQ2, hQ', hC', allocC, if_pos g, if_neg gp, h.q, ← ipv_set, List.set_set]
        exact pvles_set _ _ _ _ _ (pvles_refl _) (by simp [pvle, I.val])
      unfold pvles at hle
      clear hQ3 hQ2
      conv => cbv
      refine RetF.mk [.p (.int .i64 (.sym a)), .p (.int .i64 (.sym e))] [(0, .mix [.ptr 1 (.lit 0), .sl 6 3 1 (.lit 0) (.sym W), .ptr 7 (.lit 0), .p (.int .i64 (.sym ph)), .p (.int .i64 (.sym sp)), .p (.int .i64 (.sym cy))]), (1, .mix [.ptr 2 (.lit 0), .sl 5 3 1 (.lit 0) (.sym W)]), (2, .mix [.sl 3 3 1 (.lit 0) (.sym N), .sl 4 120 8 (.lit 0) (.sym N)]), (3, .pure true P'), (4, .pure true B'), (5, .pure true V'), (6, .pure true Q'), (7, .mix [.p (.vsl (.sym m) true la), .p (.bool ov)])] 8 (Re.at [(0, 0), (1, 1), (2, 2), (3, 3), (4, 4), (5, 5), (6, 6), (7, 7)] []) rfl ⟨a, e, R', vs', C', P', B', V', Q', rfl, rfl, rfl, hfin, hT, hC'⟩
    · have gp : ¬ ph ≠ 0 := gp
      have gp : ph = 0 := by omega
      have hle : pvles Q2 Q' := by
        rw [hQ2, hQ', hC', allocC, if_pos g, if_pos gp, h.q, ← ipv_set]
        exact pvles_set _ _ _ _ _ (pvles_refl _) (by simp [pvle, I.val])
      unfold pvles at hle
      clear hQ2
      conv => cbv
      refine RetF.mk [.p (.int .i64 (.sym a)), .p (.int .i64 (.sym e))] [(0, .mix [.ptr 1 (.lit 0), .sl 6 3 1 (.lit 0) (.sym W), .ptr 7 (.lit 0), .p (.int .i64 (.sym ph)), .p (.int .i64 (.sym sp)), .p (.int .i64 (.sym cy))]), (1, .mix [.ptr 2 (.lit 0), .sl 5 3 1 (.lit 0) (.sym W)]), (2, .mix [.sl 3 3 1 (.lit 0) (.sym N), .sl 4 120 8 (.lit 0) (.sym N)]), (3, .pure true P'), (4, .pure true B'), (5, .pure true V'), (6, .pure true Q'), (7, .mix [.p (.vsl (.sym m) true la), .p (.bool ov)])] 8 (Re.at [(0, 0), (1, 1), (2, 2), (3, 3), (4, 4), (5, 5), (6, 6), (7, 7)] []) rfl ⟨a, e, R', vs', C', P', B', V', Q', rfl, rfl, rfl, hfin, hT, hC'⟩
set_option maxHeartbeats 4000000 in
theorem rbegin_lx (R : List Rw) (vs C G : List Int) (N W ph sp cy : Int) (P B V Q la : List PV) (m : Int) (ov : Bool) (h : RM R vs C G N W P B V Q la m) (A : List Int) (k : Int) (rs : List PV) (hrs : rs = ipv A) (hk : k = A.length) (hA : (A.length : Int) < 1000000) (hph : ph = 0) : CallF (fun _ => Tryz.prog) 46 [.ptr 0 (.lit 0), .p (.vsl (.sym k) true rs)] [(0, .mix [.ptr 1 (.lit 0), .sl 6 3 1 (.lit 0) (.sym W), .ptr 7 (.lit 0), .p (.int .i64 (.sym ph)), .p (.int .i64 (.sym sp)), .p (.int .i64 (.sym cy))]), (1, .mix [.ptr 2 (.lit 0), .sl 5 3 1 (.lit 0) (.sym W)]), (2, .mix [.sl 3 3 1 (.lit 0) (.sym N), .sl 4 120 8 (.lit 0) (.sym N)]), (3, .pure true P), (4, .pure true B), (5, .pure true V), (6, .pure true Q), (7, .mix [.p (.vsl (.sym m) true la), .p (.bool ov)])] 8 (fun r h n => ∃ (C' G' : List Int) (ov' : Bool) (Q' la' : List PV) (m' : Int), r = .p (.int .i64 (.lit 0)) ∧ h = [(0, .mix [.ptr 1 (.lit 0), .sl 6 3 1 (.lit 0) (.sym W), .ptr 8 (.lit 0), .p (.int .i64 (.sym 1)), .p (.int .i64 (.sym sp)), .p (.int .i64 (.sym cy))]), (1, .mix [.ptr 2 (.lit 0), .sl 5 3 1 (.lit 0) (.sym W)]), (2, .mix [.sl 3 3 1 (.lit 0) (.sym N), .sl 4 120 8 (.lit 0) (.sym N)]), (3, .pure true P), (4, .pure true B), (5, .pure true V), (6, .pure true Q'), (8, .mix [.p (.vsl (.sym m') true la'), .p (.bool ov')])] ∧ n = 9 ∧ RM R vs C' G' N W P B V Q' la' m' ∧ (C', G', ov') = begS R W A) := by
  have hCl := h.c; have hWn := h.w; have hNr := h.n; have hRr := h.r
  have hQl : Q.length = C.length := by rw [h.q, ipv_length]
  refine callF_of_body tok Tryz.func46 (by kernel_rfl) rfl rfl rfl ?_; conv => cbv
  refine Br.no (show ¬ (ph ≠ 0) by omega) ?_
  conv => cbv
  refine LoopF.mk (fun kk s => ∃ (i : Int) (C' : List Int) (Q' : List PV), s = ⟨.ptr 0 (.lit 0) :: .p (.vsl (.sym k) true rs) :: (undefs 3 ++ .p (.int .i64 (.sym i)) :: undefs 41), [(0, .mix [.ptr 1 (.lit 0), .sl 6 3 1 (.lit 0) (.sym W), .ptr 7 (.lit 0), .p (.int .i64 (.sym ph)), .p (.int .i64 (.sym sp)), .p (.int .i64 (.sym cy))]), (1, .mix [.ptr 2 (.lit 0), .sl 5 3 1 (.lit 0) (.sym W)]), (2, .mix [.sl 3 3 1 (.lit 0) (.sym N), .sl 4 120 8 (.lit 0) (.sym N)]), (3, .pure true P), (4, .pure true B), (5, .pure true V), (6, .pure true Q'), (7, .mix [.p (.vsl (.sym m) true la), .p (.bool ov)])], 8⟩ ∧ 0 ≤ i ∧ i ≤ W ∧ Q' = ipv C' ∧ C' = List.replicate i.toNat 0 ++ C.drop i.toNat ∧ kk = (W - i).toNat) W.toNat _
    (Re.at [(0, 0), (1, 1), (2, 2), (3, 3), (4, 4), (5, 5), (6, 6), (7, 7)] []) ⟨0, C, Q, rfl, by omega, by omega, h.q, by simp, by omega⟩ ?_
  rintro kk s ⟨i, C', Q', rfl, hi0, hi1, hQ', hC', hkk⟩
  have hC'l : C'.length = C.length := by rw [hC', List.length_append, List.length_replicate, List.length_drop]; omega
  have hQ'l : Q'.length = C.length := by rw [hQ', ipv_length]; exact hC'l
  conv => cbv
  refine Br.mk (fun gi => ?_) (fun gi => ?_)
  · have gi : i < W := gi
    obtain ⟨k', rfl⟩ : ∃ k', kk = k' + 1 := ⟨kk - 1, by omega⟩
    conv => cbv
    refine Need.mk ⟨hi0, gi⟩ ?_
    conv => cbv
    refine Need.mk (by show i + 1 ≤ (Q'.length : Int); omega) ?_
    conv => cbv
    obtain ⟨C2, hC2⟩ : ∃ C2, C2 = C'.set i.toNat 0 := ⟨_, rfl⟩
    obtain ⟨Q3, hQ3⟩ : ∃ Q3, Q3 = ipv C2 := ⟨_, rfl⟩
    refine Upd.mk fun Q2 hQ2 => ?_
    have hle : pvles Q2 Q3 := by
      have hQ2 : Q2 = Q'.set i.toNat (.int .i64 (.lit 0)) := hQ2
      rw [hQ2, hQ3, hC2, hQ', ← ipv_set]
      exact pvles_set _ _ _ _ _ (pvles_refl _) (by simp [pvle, I.val])
    unfold pvles at hle
    clear hQ2
    have hC3 : C2 = List.replicate (i.toNat + 1) 0 ++ C.drop (i.toNat + 1) := by
      rw [hC2, hC', List.set_append_right _ _ (by rw [List.length_replicate]; omega), List.length_replicate, Nat.sub_self, List.drop_eq_getElem_cons (by omega), List.set_cons_zero, List.replicate_succ', List.append_assoc]
      rfl
    conv => cbv
    refine Fit.mk (by show (-9223372036854775808 : Int) ≤ i + 1; omega) (by show i + 1 ≤ 9223372036854775807; omega) fun i2 hi2 => ?_
    have hi2 : i2 = i + 1 := hi2
    rw [show i.toNat + 1 = i2.toNat by omega] at hC3
    conv => cbv
    refine Again.mk k' _ (Nat.lt_succ_self _) (Re.at [(0, 0), (1, 1), (2, 2), (3, 3), (4, 4), (5, 5), (6, 6), (7, 7)] []) ⟨i2, C2, Q3, rfl, by omega, by omega, hQ3, hC3, by omega⟩
  · have gi : ¬ i < W := gi
    have hC' : C' = List.replicate W.toNat 0 := by rw [hC', show i.toNat = W.toNat by omega, List.drop_of_length_le (by omega), List.append_nil]
    have hM0 : RM R vs (List.replicate W.toNat 0) [] N W P B V Q' [] 0 := ⟨h.a, h.n, h.r, h.w, h.p, h.b, h.v, by rw [hQ', hC'], by rw [List.length_replicate]; omega, rfl, rfl, fun x hx => (by cases hx), Nat.zero_le _⟩
    clear hQ' hC' hC'l hQ'l
    conv => cbv
    refine LoopF.mk (fun kk s => ∃ (i : Int) (C' G' : List Int) (ov' : Bool) (Q' la' : List PV) (m' : Int), s = ⟨.ptr 0 (.lit 0) :: .p (.vsl (.sym k) true rs) :: (undefs 4 ++ .p (.int .i64 (.sym i)) :: undefs 40), [(0, .mix [.ptr 1 (.lit 0), .sl 6 3 1 (.lit 0) (.sym W), .ptr 8 (.lit 0), .p (.int .i64 (.sym 1)), .p (.int .i64 (.sym sp)), .p (.int .i64 (.sym cy))]), (1, .mix [.ptr 2 (.lit 0), .sl 5 3 1 (.lit 0) (.sym W)]), (2, .mix [.sl 3 3 1 (.lit 0) (.sym N), .sl 4 120 8 (.lit 0) (.sym N)]), (3, .pure true P), (4, .pure true B), (5, .pure true V), (6, .pure true Q'), (8, .mix [.p (.vsl (.sym m') true la'), .p (.bool ov')])], 9⟩ ∧ 0 ≤ i ∧ i ≤ k ∧ RM R vs C' G' N W P B V Q' la' m' ∧ (C', G', ov') = begS R W (A.take i.toNat) ∧ kk = (k - i).toNat) k.toNat _
      (Re.at [(0, 0), (1, 1), (2, 2), (3, 3), (4, 4), (5, 5), (6, 6), (8, 8)] []) ⟨0, _, _, _, Q', [], 0, rfl, by omega, by omega, hM0, rfl, by omega⟩ ?_
    clear hM0
    rintro kk s ⟨i, C', G', ov', Q', la', m', rfl, hi0, hi1, h2, hS, hk2⟩
    conv => cbv
    refine Br.mk (fun gi => ?_) (fun gi => ?_)
    · have gi : i < k := gi
      obtain ⟨k', rfl⟩ : ∃ k', kk = k' + 1 := ⟨kk - 1, by omega⟩
      obtain ⟨a, ha⟩ : ∃ a, A[i.toNat]? = some a := ⟨_, List.getElem?_eq_getElem (by omega)⟩
      have hc : rs[i.toNat]? = some (.int .i64 (.sym a)) := by rw [hrs]; exact ipv_get ha
      conv => cbv
      refine Need.mk ⟨hi0, gi⟩ ?_
      conv => cbv
      refine Cell.at i _ hc (by simp [I.val]) rfl ?_
      conv => cbv
      refine callF_frame (rshade_lx R vs C' G' N W 1 sp cy P B V Q' la' m' ov' h2 a) [(0, 0), (1, 1), (2, 2), (3, 3), (4, 4), (5, 5), (6, 6), (7, 8)] rfl (by simp [hmapOk, nget, hget, renB, okB, renV, renVs, rn, okVs, okV]) rfl rfl (fun r h' n' hrr => ?_)
      obtain ⟨C2, G2, ov2, Q2, la2, m2, e1, e2, e3, h3, hS2⟩ := hrr
      subst e1 e2 e3
      have hS3 : (C2, G2, ov2) = begS R W (A.take (i.toNat + 1)) := by
        rw [hS2, hS]
        unfold begS
        rw [List.take_add_one, ha, Option.toList_some, List.foldl_append]; rfl
      conv => cbv
      refine Fit.mk (by show (-9223372036854775808 : Int) ≤ i + 1; omega) (by show i + 1 ≤ 9223372036854775807; omega) fun i2 hi2 => ?_
      have hi2 : i2 = i + 1 := hi2
      rw [show i.toNat + 1 = i2.toNat by omega] at hS3
      conv => cbv
      refine Again.mk k' _ (Nat.lt_succ_self _) (Re.at [(0, 0), (1, 1), (2, 2), (3, 3), (4, 4), (5, 5), (6, 6), (8, 8)] []) ⟨i2, C2, G2, ov2, Q2, la2, m2, rfl, by omega, by omega, h3, hS3, by omega⟩
    · have gi : ¬ i < k := gi
      rw [List.take_of_length_le (by omega)] at hS
      conv => cbv
      refine RetF.mk [.p (.int .i64 (.lit 0))] [(0, .mix [.ptr 1 (.lit 0), .sl 6 3 1 (.lit 0) (.sym W), .ptr 8 (.lit 0), .p (.int .i64 (.sym 1)), .p (.int .i64 (.sym sp)), .p (.int .i64 (.sym cy))]), (1, .mix [.ptr 2 (.lit 0), .sl 5 3 1 (.lit 0) (.sym W)]), (2, .mix [.sl 3 3 1 (.lit 0) (.sym N), .sl 4 120 8 (.lit 0) (.sym N)]), (3, .pure true P), (4, .pure true B), (5, .pure true V), (6, .pure true Q'), (8, .mix [.p (.vsl (.sym m') true la'), .p (.bool ov')])] 9 (Re.at [(0, 0), (1, 1), (2, 2), (3, 3), (4, 4), (5, 5), (6, 6), (8, 8)] []) rfl ⟨C', G', ov', Q', la', m', rfl, rfl, rfl, h2, hS⟩
set_option maxHeartbeats 2000000 in
theorem rbeginState_lx (R : List Rw) (vs C G : List Int) (N W ph sp cy : Int) (P B V Q la : List PV) (m : Int) (ov : Bool) (h : RM R vs C G N W P B V Q la m) (k : Int) (rs : List PV) (hph : ph ≠ 0) : CallF (fun _ => Tryz.prog) 46 [.ptr 0 (.lit 0), .p (.vsl (.sym k) true rs)] [(0, .mix [.ptr 1 (.lit 0), .sl 6 3 1 (.lit 0) (.sym W), .ptr 7 (.lit 0), .p (.int .i64 (.sym ph)), .p (.int .i64 (.sym sp)), .p (.int .i64 (.sym cy))]), (1, .mix [.ptr 2 (.lit 0), .sl 5 3 1 (.lit 0) (.sym W)]), (2, .mix [.sl 3 3 1 (.lit 0) (.sym N), .sl 4 120 8 (.lit 0) (.sym N)]), (3, .pure true P), (4, .pure true B), (5, .pure true V), (6, .pure true Q), (7, .mix [.p (.vsl (.sym m) true la), .p (.bool ov)])] 8 (fun r h n => r = .p (.int .i64 (.lit 11)) ∧ h = [(0, .mix [.ptr 1 (.lit 0), .sl 6 3 1 (.lit 0) (.sym W), .ptr 7 (.lit 0), .p (.int .i64 (.sym ph)), .p (.int .i64 (.sym sp)), .p (.int .i64 (.sym cy))]), (1, .mix [.ptr 2 (.lit 0), .sl 5 3 1 (.lit 0) (.sym W)]), (2, .mix [.sl 3 3 1 (.lit 0) (.sym N), .sl 4 120 8 (.lit 0) (.sym N)]), (3, .pure true P), (4, .pure true B), (5, .pure true V), (6, .pure true Q), (7, .mix [.p (.vsl (.sym m) true la), .p (.bool ov)])] ∧ n = 8) := by
  refine callF_of_body tok Tryz.func46 (by kernel_rfl) rfl rfl rfl ?_; conv => cbv
  refine Br.yes (show ph ≠ 0 from hph) ?_
  conv => cbv
  refine RetF.mk [.p (.int .i64 (.lit 11))] [(0, .mix [.ptr 1 (.lit 0), .sl 6 3 1 (.lit 0) (.sym W), .ptr 7 (.lit 0), .p (.int .i64 (.sym ph)), .p (.int .i64 (.sym sp)), .p (.int .i64 (.sym cy))]), (1, .mix [.ptr 2 (.lit 0), .sl 5 3 1 (.lit 0) (.sym W)]), (2, .mix [.sl 3 3 1 (.lit 0) (.sym N), .sl 4 120 8 (.lit 0) (.sym N)]), (3, .pure true P), (4, .pure true B), (5, .pure true V), (6, .pure true Q), (7, .mix [.p (.vsl (.sym m) true la), .p (.bool ov)])] 8 (Re.at [(0, 0), (1, 1), (2, 2), (3, 3), (4, 4), (5, 5), (6, 6), (7, 7)] []) rfl ⟨rfl, rfl, rfl⟩
end Go.Proofs.YtllafhhnciobhaaGreatDoor
