/-
  Layer 9: the heap: what it is, and the places that are shaded.
-/
import Derived.Test.YtllafhhnciobhaaGreatDoorAs
import Derived.Test.YtllafhhnciobhaaGreatDoorGa
import Derived.Test.YtllafhhnciobhaaGreatDoorVa
import Derived.Test.YtllafhhnciobhaaGreatDoorAg
namespace Go.Proofs.YtllafhhnciobhaaGreatDoor

open Go Go.LX
set_option maxRecDepth 100000
set_option linter.unusedVariables false
set_option linter.unusedSimpArgs false

def objs (R : List Rw) : List Int := objsTo R R.length
/-- No object is of no kind. -/
def K1 (R : List Rw) (ws : List Int) : Prop := ∀ a k l, Kept R ws a k l → 1 ≤ k
/-- A heap as it may be, and how it is told. -/
structure HM (R : List Rw) (ws C G : List Int) (N W : Int) (L D Q : List PV) (z : ByteArray) : Prop where
  a : AOk R ws
  k : K1 R ws
  n : N = R.length
  r : R.length ≤ 1000
  w : W = 32 * N
  l : L = rpv R
  d : D = ipv ws
  q : Q = ipv C
  c : (C.length : Int) = W
  z : z = ⟨(enc G).toArray⟩
  g : ∀ x ∈ G, 0 ≤ x ∧ x < W
  g8 : G.length ≤ 8
/-- What becomes of colours, and of the grey ones, where a place is shaded. -/
def shade (R : List Rw) (ph a : Int) (s : List Int × List Int × Bool) : List Int × List Int × Bool :=
  if ph = 1 ∧ a ∈ objs R ∧ s.1[a.toNat]? = some 0 then (s.1.set a.toNat 1, if s.2.1.length < 8 then (s.2.1 ++ [a], s.2.2) else (s.2.1, true)) else s
theorem obj_iff {R : List Rw} {ws : List Int} (hA : AOk R ws) (a : Int) : a ∈ objs R ↔ IsObj R a := objs_mem hA.rows a
theorem obj_bd {R : List Rw} {ws : List Int} (hA : AOk R ws) {a : Int} (h : a ∈ objs R) : 0 ≤ a ∧ a < 32 * R.length := by
  obtain ⟨k, l, hk⟩ := Kept.of hA ((obj_iff hA a).1 h)
  have := hk.bounds hA
  omega
theorem HM.g64 {R : List Rw} {ws C G : List Int} {N W : Int} {L D Q : List PV} {z : ByteArray} (h : HM R ws C G N W L D Q z) : ∀ x ∈ G, i64 x := by
  intro x hx
  have h1 := h.g x hx; have h2 := h.w; have h3 := h.n; have h4 := h.r
  exact ⟨by omega, by omega⟩
theorem HM.shade {R : List Rw} {ws C G C' G' : List Int} {N W : Int} {L D Q Q' : List PV} {z z' : ByteArray} {ph a : Int} {ov ov' : Bool} (h : HM R ws C G N W L D Q z) (hs : (C', G', ov') = shade R ph a (C, G, ov)) (hQ : Q' = ipv C') (hz : z' = ⟨(enc G').toArray⟩) : HM R ws C' G' N W L D Q' z' := by
  unfold Go.Proofs.YtllafhhnciobhaaGreatDoor.shade at hs
  split at hs
  · rename_i hc
    have hb := obj_bd h.a hc.2.1
    have hn := h.n; have hw := h.w
    split at hs
    · rename_i h8
      have h8 : G.length < 8 := h8
      have hl8 : (G ++ [a]).length ≤ 8 := by rw [List.length_append]; show G.length + 1 ≤ 8; omega
      cases hs
      refine ⟨h.a, h.k, h.n, h.r, h.w, h.l, h.d, hQ, by rw [List.length_set]; exact h.c, hz, fun x hx => ?_, hl8⟩
      rcases List.mem_append.1 hx with hx | hx
      · exact h.g x hx
      · rw [List.mem_singleton.1 hx]; omega
    · cases hs
      exact ⟨h.a, h.k, h.n, h.r, h.w, h.l, h.d, hQ, by rw [List.length_set]; exact h.c, hz, h.g, h.g8⟩
  · cases hs
    exact ⟨h.a, h.k, h.n, h.r, h.w, h.l, h.d, hQ, h.c, hz, h.g, h.g8⟩
theorem ipv_set (l : List Int) (i : Nat) (x : Int) : (ipv l).set i (.int .i64 (.sym x)) = ipv (l.set i x) := by
  unfold ipv
  rw [List.map_set]
theorem arena_lx (R : List Rw) (ws C G : List Int) (N W ph sp cy : Int) (L D Q : List PV) (z : ByteArray) (ov : Bool) : CallF (fun _ => Tryz.prog) 14 [.ptr 0 (.lit 0)] [(0, .mix [.ptr 1 (.lit 0), .ptr 5 (.lit 0), .sl 6 3 1 (.lit 0) (.sym W), .p (.int .i64 (.sym ph)), .p (.int .i64 (.sym sp)), .p (.int .i64 (.sym cy))]), (1, .mix [.ptr 2 (.lit 0), .sl 4 3 1 (.lit 0) (.sym W)]), (2, .mix [.sl 3 101 2 (.lit 0) (.sym N)]), (3, .pure true L), (4, .pure true D), (5, .pure false [.str fun _ => z, .bool ov]), (6, .pure true Q)] 7 (fun r h n => r = .ptr 1 (.lit 0) ∧ h = [(0, .mix [.ptr 1 (.lit 0), .ptr 5 (.lit 0), .sl 6 3 1 (.lit 0) (.sym W), .p (.int .i64 (.sym ph)), .p (.int .i64 (.sym sp)), .p (.int .i64 (.sym cy))]), (1, .mix [.ptr 2 (.lit 0), .sl 4 3 1 (.lit 0) (.sym W)]), (2, .mix [.sl 3 101 2 (.lit 0) (.sym N)]), (3, .pure true L), (4, .pure true D), (5, .pure false [.str fun _ => z, .bool ov]), (6, .pure true Q)] ∧ n = 7) := by
  refine callF_of_body tok Tryz.func14 (by kernel_rfl) rfl rfl rfl ?_; conv => cbv
  refine RetF.mk [.ptr 1 (.lit 0)] [(0, .mix [.ptr 1 (.lit 0), .ptr 5 (.lit 0), .sl 6 3 1 (.lit 0) (.sym W), .p (.int .i64 (.sym ph)), .p (.int .i64 (.sym sp)), .p (.int .i64 (.sym cy))]), (1, .mix [.ptr 2 (.lit 0), .sl 4 3 1 (.lit 0) (.sym W)]), (2, .mix [.sl 3 101 2 (.lit 0) (.sym N)]), (3, .pure true L), (4, .pure true D), (5, .pure false [.str fun _ => z, .bool ov]), (6, .pure true Q)] 7 (Re.at [(0, 0), (1, 1), (2, 2), (3, 3), (4, 4), (5, 5), (6, 6)] []) rfl ⟨rfl, rfl, rfl⟩
theorem arenaNil_lx : CallF (fun _ => Tryz.prog) 14 [.p .nilp] [] 0 (fun r h n => r = .p .nilp ∧ h = [] ∧ n = 0) := by
  refine callF_of_body tok Tryz.func14 (by kernel_rfl) rfl rfl rfl ?_; conv => cbv
  refine RetF.mk [.p .nilp] [] 0 (Re.at [] []) rfl ⟨rfl, rfl, rfl⟩
theorem phase_lx (R : List Rw) (ws C G : List Int) (N W ph sp cy : Int) (L D Q : List PV) (z : ByteArray) (ov : Bool) : CallF (fun _ => Tryz.prog) 18 [.ptr 0 (.lit 0)] [(0, .mix [.ptr 1 (.lit 0), .ptr 5 (.lit 0), .sl 6 3 1 (.lit 0) (.sym W), .p (.int .i64 (.sym ph)), .p (.int .i64 (.sym sp)), .p (.int .i64 (.sym cy))]), (1, .mix [.ptr 2 (.lit 0), .sl 4 3 1 (.lit 0) (.sym W)]), (2, .mix [.sl 3 101 2 (.lit 0) (.sym N)]), (3, .pure true L), (4, .pure true D), (5, .pure false [.str fun _ => z, .bool ov]), (6, .pure true Q)] 7 (fun r h n => r = .p (.int .i64 (.sym ph)) ∧ h = [(0, .mix [.ptr 1 (.lit 0), .ptr 5 (.lit 0), .sl 6 3 1 (.lit 0) (.sym W), .p (.int .i64 (.sym ph)), .p (.int .i64 (.sym sp)), .p (.int .i64 (.sym cy))]), (1, .mix [.ptr 2 (.lit 0), .sl 4 3 1 (.lit 0) (.sym W)]), (2, .mix [.sl 3 101 2 (.lit 0) (.sym N)]), (3, .pure true L), (4, .pure true D), (5, .pure false [.str fun _ => z, .bool ov]), (6, .pure true Q)] ∧ n = 7) := by
  refine callF_of_body tok Tryz.func18 (by kernel_rfl) rfl rfl rfl ?_; conv => cbv
  refine RetF.mk [.p (.int .i64 (.sym ph))] [(0, .mix [.ptr 1 (.lit 0), .ptr 5 (.lit 0), .sl 6 3 1 (.lit 0) (.sym W), .p (.int .i64 (.sym ph)), .p (.int .i64 (.sym sp)), .p (.int .i64 (.sym cy))]), (1, .mix [.ptr 2 (.lit 0), .sl 4 3 1 (.lit 0) (.sym W)]), (2, .mix [.sl 3 101 2 (.lit 0) (.sym N)]), (3, .pure true L), (4, .pure true D), (5, .pure false [.str fun _ => z, .bool ov]), (6, .pure true Q)] 7 (Re.at [(0, 0), (1, 1), (2, 2), (3, 3), (4, 4), (5, 5), (6, 6)] []) rfl ⟨rfl, rfl, rfl⟩
theorem phaseNil_lx : CallF (fun _ => Tryz.prog) 18 [.p .nilp] [] 0 (fun r h n => r = .p (.int .i64 (.sym 0)) ∧ h = [] ∧ n = 0) := by
  refine callF_of_body tok Tryz.func18 (by kernel_rfl) rfl rfl rfl ?_; conv => cbv
  refine RetF.mk [.p (.int .i64 (.sym 0))] [] 0 (Re.at [] []) rfl ⟨rfl, rfl, rfl⟩
theorem cyclesH_lx (R : List Rw) (ws C G : List Int) (N W ph sp cy : Int) (L D Q : List PV) (z : ByteArray) (ov : Bool) : CallF (fun _ => Tryz.prog) 31 [.ptr 0 (.lit 0)] [(0, .mix [.ptr 1 (.lit 0), .ptr 5 (.lit 0), .sl 6 3 1 (.lit 0) (.sym W), .p (.int .i64 (.sym ph)), .p (.int .i64 (.sym sp)), .p (.int .i64 (.sym cy))]), (1, .mix [.ptr 2 (.lit 0), .sl 4 3 1 (.lit 0) (.sym W)]), (2, .mix [.sl 3 101 2 (.lit 0) (.sym N)]), (3, .pure true L), (4, .pure true D), (5, .pure false [.str fun _ => z, .bool ov]), (6, .pure true Q)] 7 (fun r h n => r = .p (.int .i64 (.sym cy)) ∧ h = [(0, .mix [.ptr 1 (.lit 0), .ptr 5 (.lit 0), .sl 6 3 1 (.lit 0) (.sym W), .p (.int .i64 (.sym ph)), .p (.int .i64 (.sym sp)), .p (.int .i64 (.sym cy))]), (1, .mix [.ptr 2 (.lit 0), .sl 4 3 1 (.lit 0) (.sym W)]), (2, .mix [.sl 3 101 2 (.lit 0) (.sym N)]), (3, .pure true L), (4, .pure true D), (5, .pure false [.str fun _ => z, .bool ov]), (6, .pure true Q)] ∧ n = 7) := by
  refine callF_of_body tok Tryz.func31 (by kernel_rfl) rfl rfl rfl ?_; conv => cbv
  refine RetF.mk [.p (.int .i64 (.sym cy))] [(0, .mix [.ptr 1 (.lit 0), .ptr 5 (.lit 0), .sl 6 3 1 (.lit 0) (.sym W), .p (.int .i64 (.sym ph)), .p (.int .i64 (.sym sp)), .p (.int .i64 (.sym cy))]), (1, .mix [.ptr 2 (.lit 0), .sl 4 3 1 (.lit 0) (.sym W)]), (2, .mix [.sl 3 101 2 (.lit 0) (.sym N)]), (3, .pure true L), (4, .pure true D), (5, .pure false [.str fun _ => z, .bool ov]), (6, .pure true Q)] 7 (Re.at [(0, 0), (1, 1), (2, 2), (3, 3), (4, 4), (5, 5), (6, 6)] []) rfl ⟨rfl, rfl, rfl⟩
theorem cyclesNil_lx : CallF (fun _ => Tryz.prog) 31 [.p .nilp] [] 0 (fun r h n => r = .p (.int .i64 (.sym 0)) ∧ h = [] ∧ n = 0) := by
  refine callF_of_body tok Tryz.func31 (by kernel_rfl) rfl rfl rfl ?_; conv => cbv
  refine RetF.mk [.p (.int .i64 (.sym 0))] [] 0 (Re.at [] []) rfl ⟨rfl, rfl, rfl⟩
set_option maxHeartbeats 2000000 in
theorem is_lx (R : List Rw) (ws C G : List Int) (N W ph sp cy : Int) (L D Q : List PV) (z : ByteArray) (ov : Bool) (h : HM R ws C G N W L D Q z) (a c : Int) : CallF (fun _ => Tryz.prog) 69 [.ptr 0 (.lit 0), .p (.int .i64 (.sym a)), .p (.int .i64 (.sym c))] [(0, .mix [.ptr 1 (.lit 0), .ptr 5 (.lit 0), .sl 6 3 1 (.lit 0) (.sym W), .p (.int .i64 (.sym ph)), .p (.int .i64 (.sym sp)), .p (.int .i64 (.sym cy))]), (1, .mix [.ptr 2 (.lit 0), .sl 4 3 1 (.lit 0) (.sym W)]), (2, .mix [.sl 3 101 2 (.lit 0) (.sym N)]), (3, .pure true L), (4, .pure true D), (5, .pure false [.str fun _ => z, .bool ov]), (6, .pure true Q)] 7 (fun r h n => ∃ b : Bool, r = .p (.bool b) ∧ h = [(0, .mix [.ptr 1 (.lit 0), .ptr 5 (.lit 0), .sl 6 3 1 (.lit 0) (.sym W), .p (.int .i64 (.sym ph)), .p (.int .i64 (.sym sp)), .p (.int .i64 (.sym cy))]), (1, .mix [.ptr 2 (.lit 0), .sl 4 3 1 (.lit 0) (.sym W)]), (2, .mix [.sl 3 101 2 (.lit 0) (.sym N)]), (3, .pure true L), (4, .pure true D), (5, .pure false [.str fun _ => z, .bool ov]), (6, .pure true Q)] ∧ n = 7 ∧ (b = true ↔ a ∈ objs R ∧ C[a.toNat]? = some c)) := by
  have hCl := h.c; have hWn := h.w; have hNr := h.n
  have hQl : Q.length = C.length := by rw [h.q, ipv_length]
  refine callF_of_body tok Tryz.func69 (by kernel_rfl) rfl rfl rfl ?_; conv => cbv
  refine callF_frame (arena_lx R ws C G N W ph sp cy L D Q z ov) [(0, 0), (1, 1), (2, 2), (3, 3), (4, 4), (5, 5), (6, 6)] rfl (by simp [hmapOk, nget, hget, renB, okB, renV, renVs, rn, okVs, okV]) rfl rfl (fun r h' n' ⟨e1, e2, e3⟩ => ?_)
  subst e1 e2 e3
  conv => cbv
  refine callF_frame (kind_lx R ws N a W L D h.l h.d h.n h.r h.a h.w) [(0, 1), (1, 2), (2, 3), (3, 4)] rfl (by simp [hmapOk, nget, hget, renB, okB, renV, renVs, rn, okVs, okV]) rfl rfl (fun r h' n' hrr => ?_)
  obtain ⟨v, e1, e2, e3, hv⟩ := hrr
  subst e1 e2 e3
  conv => cbv
  refine Br.mk (fun g => ?_) (fun g => ?_)
  · have g : v ≠ 0 := g
    obtain ⟨l, hk⟩ : ∃ l, Kept R ws a v l := by
      cases hv with
      | no hn => exact absurd rfl g
      | is k l hk => exact ⟨l, hk⟩
    have hb := hk.bounds h.a
    have ho : a ∈ objs R := (obj_iff h.a a).2 hk.obj6
    obtain ⟨x, hx⟩ : ∃ x, C[a.toNat]? = some x := ⟨_, List.getElem?_eq_getElem (by omega)⟩
    have hq : Q[a.toNat]? = some (.int .i64 (.sym x)) := by rw [h.q]; exact ipv_get hx
    conv => cbv
    refine Need.mk ⟨by show 0 ≤ a; omega, by show a < W; omega⟩ ?_
    conv => cbv
    refine Cell.at a _ hq (by simp [I.val]) rfl ?_
    conv => cbv
    refine Br.mk (fun g2 => ?_) (fun g2 => ?_)
    · have g2 : x = c := g2
      conv => cbv
      refine RetF.mk [.p (.bool true)] [(0, .mix [.ptr 1 (.lit 0), .ptr 5 (.lit 0), .sl 6 3 1 (.lit 0) (.sym W), .p (.int .i64 (.sym ph)), .p (.int .i64 (.sym sp)), .p (.int .i64 (.sym cy))]), (1, .mix [.ptr 2 (.lit 0), .sl 4 3 1 (.lit 0) (.sym W)]), (2, .mix [.sl 3 101 2 (.lit 0) (.sym N)]), (3, .pure true L), (4, .pure true D), (5, .pure false [.str fun _ => z, .bool ov]), (6, .pure true Q)] 7 (Re.at [(0, 0), (1, 1), (2, 2), (3, 3), (4, 4), (5, 5), (6, 6)] []) rfl ⟨true, rfl, rfl, rfl, fun _ => ⟨ho, by rw [hx, g2]⟩, fun _ => rfl⟩
    · have g2 : ¬ x = c := g2
      conv => cbv
      refine RetF.mk [.p (.bool false)] [(0, .mix [.ptr 1 (.lit 0), .ptr 5 (.lit 0), .sl 6 3 1 (.lit 0) (.sym W), .p (.int .i64 (.sym ph)), .p (.int .i64 (.sym sp)), .p (.int .i64 (.sym cy))]), (1, .mix [.ptr 2 (.lit 0), .sl 4 3 1 (.lit 0) (.sym W)]), (2, .mix [.sl 3 101 2 (.lit 0) (.sym N)]), (3, .pure true L), (4, .pure true D), (5, .pure false [.str fun _ => z, .bool ov]), (6, .pure true Q)] 7 (Re.at [(0, 0), (1, 1), (2, 2), (3, 3), (4, 4), (5, 5), (6, 6)] []) rfl ⟨false, rfl, rfl, rfl, fun k => (by cases k), fun h => absurd (Option.some.inj (hx.symm.trans h.2)) g2⟩
  · have g : ¬ v ≠ 0 := g
    have hno : ¬ a ∈ objs R := by
      intro ho
      cases hv with
      | no hn => exact hn ((obj_iff h.a a).1 ho)
      | is k l hk => have := h.k a v l hk; omega
    conv => cbv
    refine RetF.mk [.p (.bool false)] [(0, .mix [.ptr 1 (.lit 0), .ptr 5 (.lit 0), .sl 6 3 1 (.lit 0) (.sym W), .p (.int .i64 (.sym ph)), .p (.int .i64 (.sym sp)), .p (.int .i64 (.sym cy))]), (1, .mix [.ptr 2 (.lit 0), .sl 4 3 1 (.lit 0) (.sym W)]), (2, .mix [.sl 3 101 2 (.lit 0) (.sym N)]), (3, .pure true L), (4, .pure true D), (5, .pure false [.str fun _ => z, .bool ov]), (6, .pure true Q)] 7 (Re.at [(0, 0), (1, 1), (2, 2), (3, 3), (4, 4), (5, 5), (6, 6)] []) rfl ⟨false, rfl, rfl, rfl, fun k => (by cases k), fun h => absurd h.1 hno⟩
set_option maxHeartbeats 2000000 in
theorem shade_lx (R : List Rw) (ws C G : List Int) (N W ph sp cy : Int) (L D Q : List PV) (z : ByteArray) (ov : Bool) (h : HM R ws C G N W L D Q z) (o : Unit → Obj) (ho : IsPow o) (a : Int) : CallF (fun _ => Tryz.prog) 35 [.ptr 0 (.lit 0), .p (.int .i64 (.sym a))] [(0, .mix [.ptr 1 (.lit 0), .ptr 5 (.lit 0), .sl 6 3 1 (.lit 0) (.sym W), .p (.int .i64 (.sym ph)), .p (.int .i64 (.sym sp)), .p (.int .i64 (.sym cy))]), (1, .mix [.ptr 2 (.lit 0), .sl 4 3 1 (.lit 0) (.sym W)]), (2, .mix [.sl 3 101 2 (.lit 0) (.sym N)]), (3, .pure true L), (4, .pure true D), (5, .pure false [.str fun _ => z, .bool ov]), (6, .pure true Q), (7, .fix 0 o)] 8 (fun r h n => ∃ (C' G' : List Int) (ov' : Bool) (Q' : List PV) (z' : ByteArray), r = .tup [] ∧ h = [(0, .mix [.ptr 1 (.lit 0), .ptr 5 (.lit 0), .sl 6 3 1 (.lit 0) (.sym W), .p (.int .i64 (.sym ph)), .p (.int .i64 (.sym sp)), .p (.int .i64 (.sym cy))]), (1, .mix [.ptr 2 (.lit 0), .sl 4 3 1 (.lit 0) (.sym W)]), (2, .mix [.sl 3 101 2 (.lit 0) (.sym N)]), (3, .pure true L), (4, .pure true D), (5, .pure false [.str fun _ => z', .bool ov']), (6, .pure true Q'), (7, .fix 0 o)] ∧ n = 8 ∧ HM R ws C' G' N W L D Q' z' ∧ (C', G', ov') = shade R ph a (C, G, ov)) := by
  have hCl := h.c; have hWn := h.w; have hNr := h.n; have hRr := h.r
  have hQl : Q.length = C.length := by rw [h.q, ipv_length]
  refine callF_of_body tok Tryz.func35 (by kernel_rfl) rfl rfl rfl ?_; conv => cbv
  refine callF_frame (phase_lx R ws C G N W ph sp cy L D Q z ov) [(0, 0), (1, 1), (2, 2), (3, 3), (4, 4), (5, 5), (6, 6)] rfl (by simp [hmapOk, nget, hget, renB, okB, renV, renVs, rn, okVs, okV]) rfl rfl (fun r h' n' ⟨e1, e2, e3⟩ => ?_)
  subst e1 e2 e3
  conv => cbv
  refine Br.mk (fun g => ?_) (fun g => ?_)
  · have g : ph ≠ 1 := g
    conv => cbv
    refine RetF.mk [] [(0, .mix [.ptr 1 (.lit 0), .ptr 5 (.lit 0), .sl 6 3 1 (.lit 0) (.sym W), .p (.int .i64 (.sym ph)), .p (.int .i64 (.sym sp)), .p (.int .i64 (.sym cy))]), (1, .mix [.ptr 2 (.lit 0), .sl 4 3 1 (.lit 0) (.sym W)]), (2, .mix [.sl 3 101 2 (.lit 0) (.sym N)]), (3, .pure true L), (4, .pure true D), (5, .pure false [.str fun _ => z, .bool ov]), (6, .pure true Q), (7, .fix 0 o)] 8 (Re.at [(0, 0), (1, 1), (2, 2), (3, 3), (4, 4), (5, 5), (6, 6), (7, 7)] []) rfl ⟨C, G, ov, Q, z, rfl, rfl, rfl, h, by unfold Go.Proofs.YtllafhhnciobhaaGreatDoor.shade; rw [if_neg (fun k => g k.1)]⟩
  · have g : ¬ ph ≠ 1 := g
    have g : ph = 1 := by omega
    conv => cbv
    refine CallF.le (args0 := [.ptr 0 (.lit 0), .p (.int .i64 (.sym a)), .p (.int .i64 (.sym 0))]) (callF_frame (is_lx R ws C G N W ph sp cy L D Q z ov h a 0) [(0, 0), (1, 1), (2, 2), (3, 3), (4, 4), (5, 5), (6, 6)] rfl (by simp [hmapOk, nget, hget, renB, okB, renV, renVs, rn, okVs, okV]) rfl rfl (fun r h' n' hrr => ?_)) (by simp [ales, ale, pvle, I.val])
    obtain ⟨b, e1, e2, e3, hb⟩ := hrr
    subst e1 e2 e3
    cases b with
    | false =>
      conv => cbv
      refine RetF.mk [] [(0, .mix [.ptr 1 (.lit 0), .ptr 5 (.lit 0), .sl 6 3 1 (.lit 0) (.sym W), .p (.int .i64 (.sym ph)), .p (.int .i64 (.sym sp)), .p (.int .i64 (.sym cy))]), (1, .mix [.ptr 2 (.lit 0), .sl 4 3 1 (.lit 0) (.sym W)]), (2, .mix [.sl 3 101 2 (.lit 0) (.sym N)]), (3, .pure true L), (4, .pure true D), (5, .pure false [.str fun _ => z, .bool ov]), (6, .pure true Q), (7, .fix 0 o)] 8 (Re.at [(0, 0), (1, 1), (2, 2), (3, 3), (4, 4), (5, 5), (6, 6), (7, 7)] []) rfl ⟨C, G, ov, Q, z, rfl, rfl, rfl, h, by unfold Go.Proofs.YtllafhhnciobhaaGreatDoor.shade; rw [if_neg (fun k => by have := hb.2 k.2; cases this)]⟩
    | true =>
      have hbd := obj_bd h.a (hb.1 rfl).1
      conv => cbv
      refine Need.mk ⟨by show 0 ≤ a; omega, by show a < W; omega⟩ ?_
      conv => cbv
      refine Need.mk (by show a + 1 ≤ (Q.length : Int); omega) ?_
      conv => cbv
      refine Upd.mk fun Q2 hQ2 => ?_
      obtain ⟨Q3, hQ3⟩ : ∃ Q3, Q3 = ipv (C.set a.toNat 1) := ⟨_, rfl⟩
      have hle : pvles Q2 Q3 := by
        have hQ2 : Q2 = Q.set a.toNat (.int .i64 (.lit 1)) := hQ2
        rw [hQ2, hQ3, h.q, ← ipv_set]
        exact pvles_set _ _ _ _ _ (pvles_refl _) (by simp [pvle, I.val])
      unfold pvles at hle
      clear hQ2
      conv => cbv
      refine callF_frame (greyPush_lx G a z ov o ho h.z h.g64 h.g8 ⟨by omega, by omega⟩) [(0, 7), (1, 5)] rfl (by simp [hmapOk, nget, hget, renB, okB, renV, renVs, rn, okVs, okV]) rfl rfl (fun r h' n' hrr => ?_)
      obtain ⟨b2, ov', z', G', e1, e2, e3, hz', hp1, hp2⟩ := hrr
      subst e1 e2 e3
      have hsh : (C.set a.toNat 1, G', ov') = Go.Proofs.YtllafhhnciobhaaGreatDoor.shade R ph a (C, G, ov) := by
        unfold Go.Proofs.YtllafhhnciobhaaGreatDoor.shade
        rw [if_pos ⟨g, hb.1 rfl⟩]
        dsimp only
        split
        · obtain ⟨_, q1, q2⟩ := hp1 (by assumption)
          rw [q1, q2]
        · obtain ⟨_, q1, q2⟩ := hp2 (by omega)
          rw [q1, q2]
      conv => cbv
      refine RetF.mk [] [(0, .mix [.ptr 1 (.lit 0), .ptr 5 (.lit 0), .sl 6 3 1 (.lit 0) (.sym W), .p (.int .i64 (.sym ph)), .p (.int .i64 (.sym sp)), .p (.int .i64 (.sym cy))]), (1, .mix [.ptr 2 (.lit 0), .sl 4 3 1 (.lit 0) (.sym W)]), (2, .mix [.sl 3 101 2 (.lit 0) (.sym N)]), (3, .pure true L), (4, .pure true D), (5, .pure false [.str fun _ => z', .bool ov']), (6, .pure true Q3), (7, .fix 0 o)] 8 (Re.at [(0, 0), (1, 1), (2, 2), (3, 3), (4, 4), (5, 5), (6, 6), (7, 7)] []) rfl ⟨_, G', ov', Q3, z', rfl, rfl, rfl, h.shade hsh hQ3 hz', hsh⟩
/-- What a word leads to is shaded. -/
def shadeW (R : List Rw) (ph w : Int) (s : List Int × List Int × Bool) : List Int × List Int × Bool := if w % 2 = 1 then shade R ph ((w - 1) / 2) s else s
set_option maxHeartbeats 2000000 in
theorem shadeWord_lx (R : List Rw) (ws C G : List Int) (N W ph sp cy : Int) (L D Q : List PV) (z : ByteArray) (ov : Bool) (h : HM R ws C G N W L D Q z) (o : Unit → Obj) (ho : IsPow o) (w : Int) (hw : -9223372036854775808 ≤ w ∧ w ≤ 9223372036854775807) : CallF (fun _ => Tryz.prog) 72 [.ptr 0 (.lit 0), .p (.int .i64 (.sym w))] [(0, .mix [.ptr 1 (.lit 0), .ptr 5 (.lit 0), .sl 6 3 1 (.lit 0) (.sym W), .p (.int .i64 (.sym ph)), .p (.int .i64 (.sym sp)), .p (.int .i64 (.sym cy))]), (1, .mix [.ptr 2 (.lit 0), .sl 4 3 1 (.lit 0) (.sym W)]), (2, .mix [.sl 3 101 2 (.lit 0) (.sym N)]), (3, .pure true L), (4, .pure true D), (5, .pure false [.str fun _ => z, .bool ov]), (6, .pure true Q), (7, .fix 0 o)] 8 (fun r h n => ∃ (C' G' : List Int) (ov' : Bool) (Q' : List PV) (z' : ByteArray), r = .tup [] ∧ h = [(0, .mix [.ptr 1 (.lit 0), .ptr 5 (.lit 0), .sl 6 3 1 (.lit 0) (.sym W), .p (.int .i64 (.sym ph)), .p (.int .i64 (.sym sp)), .p (.int .i64 (.sym cy))]), (1, .mix [.ptr 2 (.lit 0), .sl 4 3 1 (.lit 0) (.sym W)]), (2, .mix [.sl 3 101 2 (.lit 0) (.sym N)]), (3, .pure true L), (4, .pure true D), (5, .pure false [.str fun _ => z', .bool ov']), (6, .pure true Q'), (7, .fix 0 o)] ∧ n = 8 ∧ HM R ws C' G' N W L D Q' z' ∧ (C', G', ov') = shadeW R ph w (C, G, ov)) := by
  refine callF_of_body tok Tryz.func72 (by kernel_rfl) rfl rfl rfl ?_; conv => cbv
  refine callF_frame (isPtr_lx w hw) [] rfl trivial rfl rfl (fun r h' n' hrr => ?_)
  obtain ⟨b, e1, e2, e3, hb⟩ := hrr
  subst e1 e2 e3
  cases b with
  | false =>
    have hb : ¬ w % 2 = 1 := fun k => by have := hb.2 k; cases this
    conv => cbv
    refine RetF.mk [] [(0, .mix [.ptr 1 (.lit 0), .ptr 5 (.lit 0), .sl 6 3 1 (.lit 0) (.sym W), .p (.int .i64 (.sym ph)), .p (.int .i64 (.sym sp)), .p (.int .i64 (.sym cy))]), (1, .mix [.ptr 2 (.lit 0), .sl 4 3 1 (.lit 0) (.sym W)]), (2, .mix [.sl 3 101 2 (.lit 0) (.sym N)]), (3, .pure true L), (4, .pure true D), (5, .pure false [.str fun _ => z, .bool ov]), (6, .pure true Q), (7, .fix 0 o)] 8 (Re.at [(0, 0), (1, 1), (2, 2), (3, 3), (4, 4), (5, 5), (6, 6), (7, 7)] []) rfl ⟨C, G, ov, Q, z, rfl, rfl, rfl, h, by unfold shadeW; rw [if_neg (by omega)]⟩
  | true =>
    have hb : w % 2 = 1 := hb.1 rfl
    conv => cbv
    refine callF_frame (atV_lx w hw) [] rfl trivial rfl rfl (fun r h' n' hrr => ?_)
    obtain ⟨x, e1, e2, e3, hx⟩ := hrr
    subst e1 e2 e3
    have hx : x = (w - 1) / 2 := hx.1 hb
    conv => cbv
    refine callF_frame (shade_lx R ws C G N W ph sp cy L D Q z ov h o ho x) [(0, 0), (1, 1), (2, 2), (3, 3), (4, 4), (5, 5), (6, 6), (7, 7)] rfl (by simp [hmapOk, nget, hget, renB, okB, renV, renVs, rn, okVs, okV]) rfl rfl (fun r h' n' hrr => ?_)
    obtain ⟨C', G', ov', Q', z', e1, e2, e3, h2, hs⟩ := hrr
    subst e1 e2 e3
    conv => cbv
    refine RetF.mk [] [(0, .mix [.ptr 1 (.lit 0), .ptr 5 (.lit 0), .sl 6 3 1 (.lit 0) (.sym W), .p (.int .i64 (.sym ph)), .p (.int .i64 (.sym sp)), .p (.int .i64 (.sym cy))]), (1, .mix [.ptr 2 (.lit 0), .sl 4 3 1 (.lit 0) (.sym W)]), (2, .mix [.sl 3 101 2 (.lit 0) (.sym N)]), (3, .pure true L), (4, .pure true D), (5, .pure false [.str fun _ => z', .bool ov']), (6, .pure true Q'), (7, .fix 0 o)] 8 (Re.at [(0, 0), (1, 1), (2, 2), (3, 3), (4, 4), (5, 5), (6, 6), (7, 7)] []) rfl ⟨C', G', ov', Q', z', rfl, rfl, rfl, h2, by unfold shadeW; rw [if_pos hb, ← hx]; exact hs⟩
end Go.Proofs.YtllafhhnciobhaaGreatDoor
/-
  Layer 9: the words of an object; a heap made; what is stored, and loaded.
-/
namespace Go.Proofs.YtllafhhnciobhaaGreatDoor

open Go Go.LX
set_option maxRecDepth 100000
set_option linter.unusedVariables false
set_option linter.unusedSimpArgs false

/-- The words of an object (of none: none). -/
def Wrds (R : List Rw) (ws : List Int) (a : Int) (X : List Int) : Prop := LenR R ws a X.length ∧ ∀ (i : Nat) (x : Int), X[i]? = some x → Loaded R ws a i x 0
theorem Kept.det9 {R : List Rw} {ws : List Int} {a k l k' l' : Int} (h : Kept R ws a k l) (h' : Kept R ws a k' l') : k = k' ∧ l = l' := by
  obtain ⟨w, _, h1, h2, h3, h4, h5⟩ := h
  obtain ⟨w', _, k1, k2, k3, k4, k5⟩ := h'
  rw [h1] at k1
  have := Option.some.inj k1
  omega
theorem wrds_ex {R : List Rw} {ws : List Int} {a l : Int} (hA : AOk R ws) (h : LenR R ws a l) : ∃ X, Wrds R ws a X ∧ l = X.length ∧ X.length ≤ 31 := by
  cases h with
  | no hn => exact ⟨[], ⟨.no hn, fun i x hx => by simp at hx⟩, rfl, by simp⟩
  | is k l hk =>
    have hb := hk.bounds hA
    have hlen := hA.len
    refine ⟨(ws.drop (a + 1).toNat).take l.toNat, ⟨?_, fun i x hx => ?_⟩, ?_, ?_⟩
    · have : (((ws.drop (a + 1).toNat).take l.toNat).length : Int) = l := by rw [List.length_take, List.length_drop]; omega
      rw [this]; exact .is k l hk
    · rw [List.getElem?_take] at hx
      split at hx
      · rw [List.getElem?_drop] at hx
        refine .ok k l x hk ⟨by omega, by omega⟩ ?_
        rw [show (a + 1 + (i : Int)).toNat = (a + 1).toNat + i by omega]; exact hx
      · cases hx
    · rw [List.length_take, List.length_drop]; omega
    · rw [List.length_take]; omega
theorem loaded_det {R : List Rw} {ws : List Int} {a i x e y f : Int} (h : Loaded R ws a i x e) (h' : Loaded R ws a i y f) : x = y ∧ e = f := by
  cases h with
  | none hn => cases h' with
    | none _ => exact ⟨rfl, rfl⟩
    | arg k l hk _ => exact absurd hk.obj6 hn
    | ok k l x hk _ _ => exact absurd hk.obj6 hn
  | arg k l hk hi => cases h' with
    | none hn => exact absurd hk.obj6 hn
    | arg _ _ _ _ => exact ⟨rfl, rfl⟩
    | ok k' l' x hk' hi' _ => obtain ⟨_, rfl⟩ := hk.det9 hk'; exact absurd hi' hi
  | ok k l x hk hi hx => cases h' with
    | none hn => exact absurd hk.obj6 hn
    | arg k' l' hk' hi' => obtain ⟨_, rfl⟩ := hk.det9 hk'; exact absurd hi hi'
    | ok k' l' y hk' hi' hy => rw [hx] at hy; exact ⟨Option.some.inj hy, rfl⟩
theorem Wrds.bd {R : List Rw} {ws X : List Int} {a : Int} (hA : AOk R ws) (h : Wrds R ws a X) : ∀ x ∈ X, -9223372036854775808 ≤ x ∧ x ≤ 9223372036854775807 := by
  intro x hx
  obtain ⟨i, hi⟩ := List.getElem?_of_mem hx
  cases h.2 i x hi with
  | ok k l _ hk hi hx => exact hA.bd x (List.mem_of_getElem? hx)
set_option maxHeartbeats 4000000 in
theorem wordsH_lx (R : List Rw) (ws C G : List Int) (N W ph sp cy : Int) (L D Q : List PV) (z : ByteArray) (ov : Bool) (h : HM R ws C G N W L D Q z) (a : Int) : CallF (fun _ => Tryz.prog) 86 [.ptr 0 (.lit 0), .p (.int .i64 (.sym a))] [(0, .mix [.ptr 1 (.lit 0), .ptr 5 (.lit 0), .sl 6 3 1 (.lit 0) (.sym W), .p (.int .i64 (.sym ph)), .p (.int .i64 (.sym sp)), .p (.int .i64 (.sym cy))]), (1, .mix [.ptr 2 (.lit 0), .sl 4 3 1 (.lit 0) (.sym W)]), (2, .mix [.sl 3 101 2 (.lit 0) (.sym N)]), (3, .pure true L), (4, .pure true D), (5, .pure false [.str fun _ => z, .bool ov]), (6, .pure true Q)] 7 (fun r h n => ∃ (X : List Int) (m : Int) (O : List PV), r = .sl 7 3 1 (.lit 0) (.sym m) ∧ h = [(0, .mix [.ptr 1 (.lit 0), .ptr 5 (.lit 0), .sl 6 3 1 (.lit 0) (.sym W), .p (.int .i64 (.sym ph)), .p (.int .i64 (.sym sp)), .p (.int .i64 (.sym cy))]), (1, .mix [.ptr 2 (.lit 0), .sl 4 3 1 (.lit 0) (.sym W)]), (2, .mix [.sl 3 101 2 (.lit 0) (.sym N)]), (3, .pure true L), (4, .pure true D), (5, .pure false [.str fun _ => z, .bool ov]), (6, .pure true Q), (7, .pure true O)] ∧ n = 8 ∧ O = ipv X ∧ m = X.length ∧ Wrds R ws a X) := by
  refine callF_of_body tok Tryz.func86 (by kernel_rfl) rfl rfl rfl ?_; conv => cbv
  refine callF_frame (len_lx R ws N a W L D h.l h.d h.n h.r h.a h.w) [(0, 1), (1, 2), (2, 3), (3, 4)] rfl (by simp [hmapOk, nget, hget, renB, okB, renV, renVs, rn, okVs, okV]) rfl rfl (fun r h' n' hrr => ?_)
  obtain ⟨v, e1, e2, e3, hv⟩ := hrr
  subst e1 e2 e3
  conv => cbv
  obtain ⟨X, hX, hvX, hX31⟩ := wrds_ex h.a hv
  refine LoopF.mk (fun k s => ∃ (i : Int) (O : List PV), s = ⟨.ptr 0 (.lit 0) :: .p (.int .i64 (.sym a)) :: (undefs 3 ++ .sl 7 3 1 (.lit 0) (.sym i) :: (undefs 8 ++ .p (.int .i64 (.sym v)) :: .p (.int .i64 (.sym i)) :: undefs 18)), [(0, .mix [.ptr 1 (.lit 0), .ptr 5 (.lit 0), .sl 6 3 1 (.lit 0) (.sym W), .p (.int .i64 (.sym ph)), .p (.int .i64 (.sym sp)), .p (.int .i64 (.sym cy))]), (1, .mix [.ptr 2 (.lit 0), .sl 4 3 1 (.lit 0) (.sym W)]), (2, .mix [.sl 3 101 2 (.lit 0) (.sym N)]), (3, .pure true L), (4, .pure true D), (5, .pure false [.str fun _ => z, .bool ov]), (6, .pure true Q), (7, .pure true O)], 8⟩ ∧ 0 ≤ i ∧ i ≤ v ∧ O = ipv (X.take i.toNat) ∧ k = (v - i).toNat) v.toNat _
    (Re.at [(0, 0), (1, 1), (2, 2), (3, 3), (4, 4), (5, 5), (6, 6)] [7]) ⟨0, [], rfl, by omega, by omega, by simp [ipv], by omega⟩ ?_
  rintro k s ⟨i, O, rfl, hi0, hi1, hO, hk⟩
  have hOl : (O.length : Int) = i := by rw [hO, ipv_length, List.length_take]; omega
  conv => cbv
  refine Br.mk (fun gi => ?_) (fun gi => ?_)
  · have gi : i < v := gi
    obtain ⟨k', rfl⟩ : ∃ k', k = k' + 1 := ⟨k - 1, by omega⟩
    obtain ⟨x0, hx0⟩ : ∃ x0, X[i.toNat]? = some x0 := ⟨_, List.getElem?_eq_getElem (by omega)⟩
    have hld := hX.2 _ _ hx0
    rw [show ((i.toNat : Nat) : Int) = i by omega] at hld
    conv => cbv
    refine callF_frame (load_lx i R ws N a W L D h.l h.d h.n h.r h.a h.w) [(0, 1), (1, 2), (2, 3), (3, 4)] rfl (by simp [hmapOk, nget, hget, renB, okB, renV, renVs, rn, okVs, okV]) rfl rfl (fun r h' n' hrr => ?_)
    obtain ⟨x, e, e1, e2, e3, hx⟩ := hrr
    subst e1 e2 e3
    obtain ⟨rfl, rfl⟩ := loaded_det hx hld
    conv => cbv

    refine Room.new rfl ?_
    conv => cbv

    refine Room.new ⟨?_, ?_, ?_⟩ ?_
    · show (O.length : Int) = i * 1; omega
    · show (i + 1) * 8 ≤ 140737488355328; omega
    · show i + 1 ≤ 9223372036854775807; omega
    conv => cbv
    refine Upd.mk fun O3 hO3 => ?_
    have hO3 : O3 = O ++ [.int .i64 (.sym x)] := hO3
    have hO3 : O3 = ipv (X.take (i.toNat + 1)) := by
      rw [hO3, hO, List.take_add_one, hx0]
      simp [ipv]
    conv => cbv
    refine Sum.mk fun j2 hj2 => ?_
    have hj2 : j2 = i + 1 := hj2
    conv => cbv
    refine Fit.mk (by show (-9223372036854775808 : Int) ≤ i + 1; omega) (by show i + 1 ≤ 9223372036854775807; omega) fun i2 hi2 => ?_
    have hi2 : i2 = i + 1 := hi2
    obtain rfl : j2 = i2 := by omega
    have htt : j2.toNat = i.toNat + 1 := by omega
    rw [← htt] at hO3
    conv => cbv
    refine Again.mk k' _ (Nat.lt_succ_self _) (Re.at [(0, 0), (1, 1), (2, 2), (3, 3), (4, 4), (5, 5), (6, 6), (9, 7)] []) ⟨j2, O3, rfl, by omega, by omega, hO3, by omega⟩
  · have gi : ¬ i < v := gi
    obtain rfl : i = v := by omega
    have hOX : O = ipv X := by rw [hO, List.take_of_length_le (by omega)]
    conv => cbv

    refine RetF.mk [.sl 7 3 1 (.lit 0) (.sym i)] [(0, .mix [.ptr 1 (.lit 0), .ptr 5 (.lit 0), .sl 6 3 1 (.lit 0) (.sym W), .p (.int .i64 (.sym ph)), .p (.int .i64 (.sym sp)), .p (.int .i64 (.sym cy))]), (1, .mix [.ptr 2 (.lit 0), .sl 4 3 1 (.lit 0) (.sym W)]), (2, .mix [.sl 3 101 2 (.lit 0) (.sym N)]), (3, .pure true L), (4, .pure true D), (5, .pure false [.str fun _ => z, .bool ov]), (6, .pure true Q), (7, .pure true O)] 8 (Re.at [(0, 0), (1, 1), (2, 2), (3, 3), (4, 4), (5, 5), (6, 6), (7, 7)] []) rfl ⟨X, i, O, rfl, rfl, rfl, hOX, hvX, hX⟩
theorem load9_lx (R : List Rw) (ws C G : List Int) (N W ph sp cy : Int) (L D Q : List PV) (z : ByteArray) (ov : Bool) (h : HM R ws C G N W L D Q z) (a i : Int) : CallF (fun _ => Tryz.prog) 20 [.ptr 0 (.lit 0), .p (.int .i64 (.sym a)), .p (.int .i64 (.sym i))] [(0, .mix [.ptr 1 (.lit 0), .ptr 5 (.lit 0), .sl 6 3 1 (.lit 0) (.sym W), .p (.int .i64 (.sym ph)), .p (.int .i64 (.sym sp)), .p (.int .i64 (.sym cy))]), (1, .mix [.ptr 2 (.lit 0), .sl 4 3 1 (.lit 0) (.sym W)]), (2, .mix [.sl 3 101 2 (.lit 0) (.sym N)]), (3, .pure true L), (4, .pure true D), (5, .pure false [.str fun _ => z, .bool ov]), (6, .pure true Q)] 7 (fun r h n => ∃ x e : Int, r = .tup [.p (.int .i64 (.sym x)), .p (.int .i64 (.sym e))] ∧ h = [(0, .mix [.ptr 1 (.lit 0), .ptr 5 (.lit 0), .sl 6 3 1 (.lit 0) (.sym W), .p (.int .i64 (.sym ph)), .p (.int .i64 (.sym sp)), .p (.int .i64 (.sym cy))]), (1, .mix [.ptr 2 (.lit 0), .sl 4 3 1 (.lit 0) (.sym W)]), (2, .mix [.sl 3 101 2 (.lit 0) (.sym N)]), (3, .pure true L), (4, .pure true D), (5, .pure false [.str fun _ => z, .bool ov]), (6, .pure true Q)] ∧ n = 7 ∧ Loaded R ws a i x e) := by
  refine callF_of_body tok Tryz.func20 (by kernel_rfl) rfl rfl rfl ?_; conv => cbv
  refine callF_frame (arena_lx R ws C G N W ph sp cy L D Q z ov) [(0, 0), (1, 1), (2, 2), (3, 3), (4, 4), (5, 5), (6, 6)] rfl (by simp [hmapOk, nget, hget, renB, okB, renV, renVs, rn, okVs, okV]) rfl rfl (fun r h' n' ⟨e1, e2, e3⟩ => ?_)
  subst e1 e2 e3
  conv => cbv
  refine callF_frame (load_lx i R ws N a W L D h.l h.d h.n h.r h.a h.w) [(0, 1), (1, 2), (2, 3), (3, 4)] rfl (by simp [hmapOk, nget, hget, renB, okB, renV, renVs, rn, okVs, okV]) rfl rfl (fun r h' n' hrr => ?_)
  obtain ⟨x, e, e1, e2, e3, hx⟩ := hrr
  subst e1 e2 e3
  conv => cbv
  refine RetF.mk [.p (.int .i64 (.sym x)), .p (.int .i64 (.sym e))] [(0, .mix [.ptr 1 (.lit 0), .ptr 5 (.lit 0), .sl 6 3 1 (.lit 0) (.sym W), .p (.int .i64 (.sym ph)), .p (.int .i64 (.sym sp)), .p (.int .i64 (.sym cy))]), (1, .mix [.ptr 2 (.lit 0), .sl 4 3 1 (.lit 0) (.sym W)]), (2, .mix [.sl 3 101 2 (.lit 0) (.sym N)]), (3, .pure true L), (4, .pure true D), (5, .pure false [.str fun _ => z, .bool ov]), (6, .pure true Q)] 7 (Re.at [(0, 0), (1, 1), (2, 2), (3, 3), (4, 4), (5, 5), (6, 6)] []) rfl ⟨x, e, rfl, rfl, rfl, hx⟩
theorem loadNil9_lx (a i : I) : CallF (fun _ => Tryz.prog) 20 [.p .nilp, .p (.int .i64 a), .p (.int .i64 i)] [] 0 (fun r h n => r = .tup [.p (.int .i64 (.sym 0)), .p (.int .i64 (.sym 2))] ∧ h = [] ∧ n = 0) := by
  refine callF_of_body tok Tryz.func20 (by kernel_rfl) rfl rfl rfl ?_; conv => cbv
  refine callF_frame arenaNil_lx [] rfl trivial rfl rfl (fun r h' n' ⟨e1, e2, e3⟩ => ?_)
  subst e1 e2 e3
  conv => cbv
  refine callF_frame (loadA_nil a i) [] rfl trivial rfl rfl (fun r h' n' ⟨e1, e2, e3⟩ => ?_)
  subst e1 e2 e3
  conv => cbv
  refine RetF.mk [.p (.int .i64 (.sym 0)), .p (.int .i64 (.sym 2))] [] 0 (Re.at [] []) rfl ⟨rfl, rfl, rfl⟩
set_option maxHeartbeats 2000000 in
theorem colour_lx (R : List Rw) (ws C G : List Int) (N W ph sp cy : Int) (L D Q : List PV) (z : ByteArray) (ov : Bool) (h : HM R ws C G N W L D Q z) (a : Int) : CallF (fun _ => Tryz.prog) 22 [.ptr 0 (.lit 0), .p (.int .i64 (.sym a))] [(0, .mix [.ptr 1 (.lit 0), .ptr 5 (.lit 0), .sl 6 3 1 (.lit 0) (.sym W), .p (.int .i64 (.sym ph)), .p (.int .i64 (.sym sp)), .p (.int .i64 (.sym cy))]), (1, .mix [.ptr 2 (.lit 0), .sl 4 3 1 (.lit 0) (.sym W)]), (2, .mix [.sl 3 101 2 (.lit 0) (.sym N)]), (3, .pure true L), (4, .pure true D), (5, .pure false [.str fun _ => z, .bool ov]), (6, .pure true Q)] 7 (fun r h n => ∃ c : Int, r = .p (.int .i64 (.sym c)) ∧ h = [(0, .mix [.ptr 1 (.lit 0), .ptr 5 (.lit 0), .sl 6 3 1 (.lit 0) (.sym W), .p (.int .i64 (.sym ph)), .p (.int .i64 (.sym sp)), .p (.int .i64 (.sym cy))]), (1, .mix [.ptr 2 (.lit 0), .sl 4 3 1 (.lit 0) (.sym W)]), (2, .mix [.sl 3 101 2 (.lit 0) (.sym N)]), (3, .pure true L), (4, .pure true D), (5, .pure false [.str fun _ => z, .bool ov]), (6, .pure true Q)] ∧ n = 7 ∧ (a ∈ objs R → C[a.toNat]? = some c) ∧ (¬ a ∈ objs R → c = 0)) := by
  have hCl := h.c; have hWn := h.w; have hNr := h.n
  have hQl : Q.length = C.length := by rw [h.q, ipv_length]
  refine callF_of_body tok Tryz.func22 (by kernel_rfl) rfl rfl rfl ?_; conv => cbv
  refine callF_frame (arena_lx R ws C G N W ph sp cy L D Q z ov) [(0, 0), (1, 1), (2, 2), (3, 3), (4, 4), (5, 5), (6, 6)] rfl (by simp [hmapOk, nget, hget, renB, okB, renV, renVs, rn, okVs, okV]) rfl rfl (fun r h' n' ⟨e1, e2, e3⟩ => ?_)
  subst e1 e2 e3
  conv => cbv
  refine callF_frame (kind_lx R ws N a W L D h.l h.d h.n h.r h.a h.w) [(0, 1), (1, 2), (2, 3), (3, 4)] rfl (by simp [hmapOk, nget, hget, renB, okB, renV, renVs, rn, okVs, okV]) rfl rfl (fun r h' n' hrr => ?_)
  obtain ⟨v, e1, e2, e3, hv⟩ := hrr
  subst e1 e2 e3
  conv => cbv
  refine Br.mk (fun g => ?_) (fun g => ?_)
  · have g : v = 0 := g
    have hno : ¬ a ∈ objs R := by
      intro ho
      cases hv with
      | no hn => exact hn ((obj_iff h.a a).1 ho)
      | is k l hk => have := h.k a v l hk; omega
    conv => cbv
    refine RetF.mk [.p (.int .i64 (.sym 0))] [(0, .mix [.ptr 1 (.lit 0), .ptr 5 (.lit 0), .sl 6 3 1 (.lit 0) (.sym W), .p (.int .i64 (.sym ph)), .p (.int .i64 (.sym sp)), .p (.int .i64 (.sym cy))]), (1, .mix [.ptr 2 (.lit 0), .sl 4 3 1 (.lit 0) (.sym W)]), (2, .mix [.sl 3 101 2 (.lit 0) (.sym N)]), (3, .pure true L), (4, .pure true D), (5, .pure false [.str fun _ => z, .bool ov]), (6, .pure true Q)] 7 (Re.at [(0, 0), (1, 1), (2, 2), (3, 3), (4, 4), (5, 5), (6, 6)] []) rfl ⟨0, rfl, rfl, rfl, fun k => absurd k hno, fun _ => rfl⟩
  · have g : ¬ v = 0 := g
    obtain ⟨l, hk⟩ : ∃ l, Kept R ws a v l := by
      cases hv with
      | no hn => exact absurd rfl g
      | is k l hk => exact ⟨l, hk⟩
    have hb := hk.bounds h.a
    have ho : a ∈ objs R := (obj_iff h.a a).2 hk.obj6
    obtain ⟨x, hx⟩ : ∃ x, C[a.toNat]? = some x := ⟨_, List.getElem?_eq_getElem (by omega)⟩
    have hq : Q[a.toNat]? = some (.int .i64 (.sym x)) := by rw [h.q]; exact ipv_get hx
    conv => cbv
    refine Need.mk ⟨by show 0 ≤ a; omega, by show a < W; omega⟩ ?_
    conv => cbv
    refine Cell.at a _ hq (by simp [I.val]) rfl ?_
    conv => cbv
    refine RetF.mk [.p (.int .i64 (.sym x))] [(0, .mix [.ptr 1 (.lit 0), .ptr 5 (.lit 0), .sl 6 3 1 (.lit 0) (.sym W), .p (.int .i64 (.sym ph)), .p (.int .i64 (.sym sp)), .p (.int .i64 (.sym cy))]), (1, .mix [.ptr 2 (.lit 0), .sl 4 3 1 (.lit 0) (.sym W)]), (2, .mix [.sl 3 101 2 (.lit 0) (.sym N)]), (3, .pure true L), (4, .pure true D), (5, .pure false [.str fun _ => z, .bool ov]), (6, .pure true Q)] 7 (Re.at [(0, 0), (1, 1), (2, 2), (3, 3), (4, 4), (5, 5), (6, 6)] []) rfl ⟨x, rfl, rfl, rfl, fun _ => hx, fun k => absurd ho k⟩
theorem colourNil_lx (a : I) : CallF (fun _ => Tryz.prog) 22 [.p .nilp, .p (.int .i64 a)] [] 0 (fun r h n => r = .p (.int .i64 (.sym 0)) ∧ h = [] ∧ n = 0) := by
  refine callF_of_body tok Tryz.func22 (by kernel_rfl) rfl rfl rfl ?_; conv => cbv
  refine callF_frame arenaNil_lx [] rfl trivial rfl rfl (fun r h' n' ⟨e1, e2, e3⟩ => ?_)
  subst e1 e2 e3
  conv => cbv
  refine callF_frame (kind_nil a) [] rfl trivial rfl rfl (fun r h' n' ⟨e1, e2, e3⟩ => ?_)
  subst e1 e2 e3
  conv => cbv
  refine Br.mk (fun g => ?_) (fun g => ?_)
  case refine_2 =>
    have g : ¬ (0 : Int) = 0 := g
    exfalso
    exact g rfl
  conv => cbv
  refine RetF.mk [.p (.int .i64 (.sym 0))] [] 0 (Re.at [] []) rfl ⟨rfl, rfl, rfl⟩
/-- What becomes of a heap in which a word is stored. -/
def storeS (R : List Rw) (ph e x : Int) (s : List Int × List Int × Bool) : List Int × List Int × Bool := if e = 0 then shadeW R ph x s else s
theorem K1.stored {R : List Rw} {ws ws' : List Int} {a i x e : Int} (hA : AOk R ws) (hk : K1 R ws) (h : Stored R ws a i x e ws') : K1 R ws' := by
  cases h with
  | none _ => exact hk
  | arg _ _ _ _ => exact hk
  | ok k l hka hi =>
    intro b k' l' hb
    have hbn := hka.bounds hA
    obtain ⟨w, q1, q2, q3, q4, q5, q6⟩ := hb
    have hne : (a + 1 + i).toNat ≠ b.toNat := by
      obtain ⟨wa, p1, p2, p3, p4, p5, p6⟩ := hka
      have := within_not hA.rows p1 q1 (j := a + 1 + i) (by omega) (by omega)
      have := q1.facts hA.rows
      omega
    rw [List.getElem?_set_ne hne] at q2
    exact hk b k' l' (.mk k' l' w q1 q2 q3 q4 q5 q6)
theorem HM.stored {R : List Rw} {ws ws' C G : List Int} {N W : Int} {L D D' Q : List PV} {z : ByteArray} {a i x e : Int} (h : HM R ws C G N W L D Q z) (hx : -9223372036854775808 ≤ x ∧ x ≤ 9223372036854775807) (hs : Stored R ws a i x e ws') (hD : D' = ipv ws') : HM R ws' C G N W L D' Q z :=
  ⟨h.a.stored hx hs, h.k.stored h.a hs, h.n, h.r, h.w, h.l, hD, h.q, h.c, h.z, h.g, h.g8⟩
set_option maxHeartbeats 2000000 in
theorem store9_lx (R : List Rw) (ws C G : List Int) (N W ph sp cy : Int) (L D Q : List PV) (z : ByteArray) (ov : Bool) (h : HM R ws C G N W L D Q z) (o : Unit → Obj) (ho : IsPow o) (a i x : Int) (hx : -9223372036854775808 ≤ x ∧ x ≤ 9223372036854775807) : CallF (fun _ => Tryz.prog) 36 [.ptr 0 (.lit 0), .p (.int .i64 (.sym a)), .p (.int .i64 (.sym i)), .p (.int .i64 (.sym x))] [(0, .mix [.ptr 1 (.lit 0), .ptr 5 (.lit 0), .sl 6 3 1 (.lit 0) (.sym W), .p (.int .i64 (.sym ph)), .p (.int .i64 (.sym sp)), .p (.int .i64 (.sym cy))]), (1, .mix [.ptr 2 (.lit 0), .sl 4 3 1 (.lit 0) (.sym W)]), (2, .mix [.sl 3 101 2 (.lit 0) (.sym N)]), (3, .pure true L), (4, .pure true D), (5, .pure false [.str fun _ => z, .bool ov]), (6, .pure true Q), (7, .fix 0 o)] 8 (fun r h n => ∃ (e : Int) (ws' C' G' : List Int) (ov' : Bool) (D' Q' : List PV) (z' : ByteArray), r = .p (.int .i64 (.sym e)) ∧ h = [(0, .mix [.ptr 1 (.lit 0), .ptr 5 (.lit 0), .sl 6 3 1 (.lit 0) (.sym W), .p (.int .i64 (.sym ph)), .p (.int .i64 (.sym sp)), .p (.int .i64 (.sym cy))]), (1, .mix [.ptr 2 (.lit 0), .sl 4 3 1 (.lit 0) (.sym W)]), (2, .mix [.sl 3 101 2 (.lit 0) (.sym N)]), (3, .pure true L), (4, .pure true D'), (5, .pure false [.str fun _ => z', .bool ov']), (6, .pure true Q'), (7, .fix 0 o)] ∧ n = 8 ∧ HM R ws' C' G' N W L D' Q' z' ∧ Stored R ws a i x e ws' ∧ (C', G', ov') = storeS R ph e x (C, G, ov)) := by
  refine callF_of_body tok Tryz.func36 (by kernel_rfl) rfl rfl rfl ?_; conv => cbv
  refine callF_frame (arena_lx R ws C G N W ph sp cy L D Q z ov) [(0, 0), (1, 1), (2, 2), (3, 3), (4, 4), (5, 5), (6, 6)] rfl (by simp [hmapOk, nget, hget, renB, okB, renV, renVs, rn, okVs, okV]) rfl rfl (fun r h' n' ⟨e1, e2, e3⟩ => ?_)
  subst e1 e2 e3
  conv => cbv
  refine callF_frame (store_lx i x R ws N a W L D h.l h.d h.n h.r h.a h.w) [(0, 1), (1, 2), (2, 3), (3, 4)] rfl (by simp [hmapOk, nget, hget, renB, okB, renV, renVs, rn, okVs, okV]) rfl rfl (fun r h' n' hrr => ?_)
  obtain ⟨e, ws', D', e1, e2, e3, hD', hT⟩ := hrr
  subst e1 e2 e3
  conv => cbv
  have h2 := h.stored hx hT hD'
  refine Br.mk (fun g => ?_) (fun g => ?_)
  · have g : e = 0 := g
    conv => cbv
    refine callF_frame (shadeWord_lx R ws' C G N W ph sp cy L D' Q z ov h2 o ho x hx) [(0, 0), (1, 1), (2, 2), (3, 3), (4, 4), (5, 5), (6, 6), (7, 7)] rfl (by simp [hmapOk, nget, hget, renB, okB, renV, renVs, rn, okVs, okV]) rfl rfl (fun r h' n' hrr => ?_)
    obtain ⟨C', G', ov', Q', z', e1, e2, e3, h3, hs⟩ := hrr
    subst e1 e2 e3
    conv => cbv
    refine RetF.mk [.p (.int .i64 (.sym e))] [(0, .mix [.ptr 1 (.lit 0), .ptr 5 (.lit 0), .sl 6 3 1 (.lit 0) (.sym W), .p (.int .i64 (.sym ph)), .p (.int .i64 (.sym sp)), .p (.int .i64 (.sym cy))]), (1, .mix [.ptr 2 (.lit 0), .sl 4 3 1 (.lit 0) (.sym W)]), (2, .mix [.sl 3 101 2 (.lit 0) (.sym N)]), (3, .pure true L), (4, .pure true D'), (5, .pure false [.str fun _ => z', .bool ov']), (6, .pure true Q'), (7, .fix 0 o)] 8 (Re.at [(0, 0), (1, 1), (2, 2), (3, 3), (4, 4), (5, 5), (6, 6), (7, 7)] []) rfl ⟨e, ws', C', G', ov', D', Q', z', rfl, rfl, rfl, h3, hT, by unfold storeS; rw [if_pos g]; exact hs⟩
  · have g : ¬ e = 0 := g
    conv => cbv
    refine RetF.mk [.p (.int .i64 (.sym e))] [(0, .mix [.ptr 1 (.lit 0), .ptr 5 (.lit 0), .sl 6 3 1 (.lit 0) (.sym W), .p (.int .i64 (.sym ph)), .p (.int .i64 (.sym sp)), .p (.int .i64 (.sym cy))]), (1, .mix [.ptr 2 (.lit 0), .sl 4 3 1 (.lit 0) (.sym W)]), (2, .mix [.sl 3 101 2 (.lit 0) (.sym N)]), (3, .pure true L), (4, .pure true D'), (5, .pure false [.str fun _ => z, .bool ov]), (6, .pure true Q), (7, .fix 0 o)] 8 (Re.at [(0, 0), (1, 1), (2, 2), (3, 3), (4, 4), (5, 5), (6, 6), (7, 7)] []) rfl ⟨e, ws', C, G, ov, D', Q, z, rfl, rfl, rfl, h2, hT, by unfold storeS; rw [if_neg g]⟩
theorem storeNil9_lx (a i x : I) : CallF (fun _ => Tryz.prog) 36 [.p .nilp, .p (.int .i64 a), .p (.int .i64 i), .p (.int .i64 x)] [] 0 (fun r h n => r = .p (.int .i64 (.sym 2)) ∧ h = [] ∧ n = 0) := by
  refine callF_of_body tok Tryz.func36 (by kernel_rfl) rfl rfl rfl ?_; conv => cbv
  refine callF_frame arenaNil_lx [] rfl trivial rfl rfl (fun r h' n' ⟨e1, e2, e3⟩ => ?_)
  subst e1 e2 e3
  conv => cbv
  refine callF_frame (storeA_nil a i x) [] rfl trivial rfl rfl (fun r h' n' ⟨e1, e2, e3⟩ => ?_)
  subst e1 e2 e3
  conv => cbv
  refine Br.mk (fun g => ?_) (fun g => ?_)
  case refine_1 =>
    have g : (2 : Int) = 0 := g
    exfalso
    omega
  conv => cbv
  refine RetF.mk [.p (.int .i64 (.sym 2))] [] 0 (Re.at [] []) rfl ⟨rfl, rfl, rfl⟩
end Go.Proofs.YtllafhhnciobhaaGreatDoor
/-
  Layer 9: what is allotted; a cycle begun.
-/
namespace Go.Proofs.YtllafhhnciobhaaGreatDoor

open Go Go.LX
set_option maxRecDepth 100000
set_option linter.unusedVariables false
set_option linter.unusedSimpArgs false

theorem alloct_gen9 {R R' : List Rw} {ws ws' : List Int} {kind n a e : Int} (hA : AOk R ws) (h : Alloct R ws kind n a e R' ws') :
    (e ≠ 0 ∧ a = 0 ∧ R' = R ∧ ws' = ws) ∨ (e = 0 ∧ (0 ≤ n ∧ n ≤ 31 ∧ 1 ≤ kind ∧ kind ≤ 6) ∧ Kept R' ws' a kind n ∧ (∀ b k l, Kept R ws b k l → Kept R' ws' b k l ∧ b ≠ a ∧ ∀ i, 0 ≤ i → i < l → ws'[(b + 1 + i).toNat]? = ws[(b + 1 + i).toNat]?) ∧ (∀ b, IsObj R' b → b = a ∨ IsObj R b)) := by
  have hA1 := (hA.alloct h).1
  cases h with
  | arg h => exact .inl ⟨by decide, rfl, rfl, rfl⟩
  | room i s R' hc ha =>
    obtain ⟨rfl, _⟩ := full_count hA.rows (ofN_slots n) ha
    exact .inl ⟨by decide, rfl, rfl, rfl⟩
  | ok i s _ R' hc ha hi hat =>
    right
    obtain ⟨w, hw⟩ : ∃ w, w = wordsOf (ofN n) := ⟨_, rfl⟩
    obtain ⟨q1, q2, q3, q4, q5⟩ := alloc_objs hA.rows ha a w hat hw
    have hobj : ObjAt R' a w := (q5 _ _).2 (.inr ⟨rfl, rfl⟩)
    obtain ⟨f1, f2, f3, _⟩ := hobj.facts q1
    have hnw : n < w := by rw [hw]; exact (ofN_words ⟨hc.1, hc.2.1⟩).1
    have hlw := hA.len
    have gw : ∀ j : Nat, j < ws.length → (zer (ws.set a.toNat (kind + 16 * n)) (a.toNat + 1) n.toNat)[j]? = if a.toNat + 1 ≤ j ∧ j < a.toNat + 1 + n.toNat then some 0 else (ws.set a.toNat (kind + 16 * n))[j]? := fun j hj => zer_get _ _ _ _ (by rw [List.length_set]; exact hj)
    have farw : ∀ j : Nat, (j : Int) < a ∨ a + w ≤ j → (zer (ws.set a.toNat (kind + 16 * n)) (a.toNat + 1) n.toNat)[j]? = ws[j]? := fun j hj => by
      by_cases hjl : j < ws.length
      · rw [gw j hjl, if_neg (by omega), List.getElem?_set_ne (by omega)]
      · rw [List.getElem?_eq_none (by rw [zer_length, List.length_set]; omega), List.getElem?_eq_none (by omega)]
    obtain ⟨p1, p2, p3, p4⟩ := alloc_gen hA hc ha hat hw (by rw [zer_length, List.length_set]) (by rw [gw _ (by omega), if_neg (by omega), List.getElem?_set_self (by omega)]) farw hA1.bd
    exact ⟨rfl, hc, p2, p3, p4⟩
theorem K1.alloct {R R' : List Rw} {ws ws' : List Int} {kind n a e : Int} (hA : AOk R ws) (hk : K1 R ws) (h : Alloct R ws kind n a e R' ws') : K1 R' ws' := by
  rcases alloct_gen9 hA h with ⟨_, _, rfl, rfl⟩ | ⟨_, hc, h1, h2, h3⟩
  · exact hk
  · intro b k l hb
    rcases h3 b hb.obj6 with rfl | ho
    · obtain ⟨rfl, _⟩ := h1.det9 hb; omega
    · obtain ⟨k', l', hk'⟩ := Kept.of hA ho
      obtain ⟨rfl, _⟩ := (h2 b k' l' hk').1.det9 hb
      exact hk b k' l' hk'
theorem HM.alloct {R R' : List Rw} {ws ws' C C' G : List Int} {N W : Int} {L L' D D' Q Q' : List PV} {z : ByteArray} {kind n a e : Int} (h : HM R ws C G N W L D Q z) (hs : Alloct R ws kind n a e R' ws') (hL : L' = rpv R') (hD : D' = ipv ws') (hC : C'.length = C.length) (hQ : Q' = ipv C') : HM R' ws' C' G N W L' D' Q' z := by
  obtain ⟨h1, h2⟩ := h.a.alloct hs
  exact ⟨h1, h.k.alloct h.a hs, by rw [h2]; exact h.n, by rw [h2]; exact h.r, h.w, hL, hD, hQ, by rw [hC]; exact h.c, h.z, h.g, h.g8⟩
/-- The colours, where an object is allotted. -/
def allocC (ph a e : Int) (C : List Int) : List Int := if e = 0 then C.set a.toNat (if ph = 0 then 0 else 2) else C
theorem allocC_length (ph a e : Int) (C : List Int) : (allocC ph a e C).length = C.length := by
  unfold allocC; split
  · rw [List.length_set]
  · rfl
set_option maxHeartbeats 2000000 in
theorem alloc9_lx (R : List Rw) (ws C G : List Int) (N W ph sp cy : Int) (L D Q : List PV) (z : ByteArray) (ov : Bool) (h : HM R ws C G N W L D Q z) (kind m : Int) : CallF (fun _ => Tryz.prog) 33 [.ptr 0 (.lit 0), .p (.int .i64 (.sym kind)), .p (.int .i64 (.sym m))] [(0, .mix [.ptr 1 (.lit 0), .ptr 5 (.lit 0), .sl 6 3 1 (.lit 0) (.sym W), .p (.int .i64 (.sym ph)), .p (.int .i64 (.sym sp)), .p (.int .i64 (.sym cy))]), (1, .mix [.ptr 2 (.lit 0), .sl 4 3 1 (.lit 0) (.sym W)]), (2, .mix [.sl 3 101 2 (.lit 0) (.sym N)]), (3, .pure true L), (4, .pure true D), (5, .pure false [.str fun _ => z, .bool ov]), (6, .pure true Q)] 7 (fun r h n => ∃ (a e : Int) (R' : List Rw) (ws' C' : List Int) (L' D' Q' : List PV), r = .tup [.p (.int .i64 (.sym a)), .p (.int .i64 (.sym e))] ∧ h = [(0, .mix [.ptr 1 (.lit 0), .ptr 5 (.lit 0), .sl 6 3 1 (.lit 0) (.sym W), .p (.int .i64 (.sym ph)), .p (.int .i64 (.sym sp)), .p (.int .i64 (.sym cy))]), (1, .mix [.ptr 2 (.lit 0), .sl 4 3 1 (.lit 0) (.sym W)]), (2, .mix [.sl 3 101 2 (.lit 0) (.sym N)]), (3, .pure true L'), (4, .pure true D'), (5, .pure false [.str fun _ => z, .bool ov]), (6, .pure true Q')] ∧ n = 7 ∧ HM R' ws' C' G N W L' D' Q' z ∧ Alloct R ws kind m a e R' ws' ∧ C' = allocC ph a e C) := by
  have hCl := h.c; have hWn := h.w; have hNr := h.n; have hRr := h.r
  have hQl : Q.length = C.length := by rw [h.q, ipv_length]
  refine callF_of_body tok Tryz.func33 (by kernel_rfl) rfl rfl rfl ?_; conv => cbv
  refine callF_frame (arena_lx R ws C G N W ph sp cy L D Q z ov) [(0, 0), (1, 1), (2, 2), (3, 3), (4, 4), (5, 5), (6, 6)] rfl (by simp [hmapOk, nget, hget, renB, okB, renV, renVs, rn, okVs, okV]) rfl rfl (fun r h' n' ⟨e1, e2, e3⟩ => ?_)
  subst e1 e2 e3
  conv => cbv
  refine callF_frame (allocA_lx kind m R ws N W L D h.l h.d h.n h.r h.a h.w) [(0, 1), (1, 2), (2, 3), (3, 4)] rfl (by simp [hmapOk, nget, hget, renB, okB, renV, renVs, rn, okVs, okV]) rfl rfl (fun r h' n' hrr => ?_)
  obtain ⟨a, e, R', ws', L', D', e1, e2, e3, hL', hD', hT⟩ := hrr
  subst e1 e2 e3
  conv => cbv
  have hgen := alloct_gen9 h.a hT
  refine Br.mk (fun g => ?_) (fun g => ?_)
  · have g : e ≠ 0 := g
    have ha0 : a = 0 := by rcases hgen with h | h; · exact h.2.1
                           · exact absurd h.1 g
    conv => cbv
    refine RetF.mk [.p (.int .i64 (.sym a)), .p (.int .i64 (.sym e))] [(0, .mix [.ptr 1 (.lit 0), .ptr 5 (.lit 0), .sl 6 3 1 (.lit 0) (.sym W), .p (.int .i64 (.sym ph)), .p (.int .i64 (.sym sp)), .p (.int .i64 (.sym cy))]), (1, .mix [.ptr 2 (.lit 0), .sl 4 3 1 (.lit 0) (.sym W)]), (2, .mix [.sl 3 101 2 (.lit 0) (.sym N)]), (3, .pure true L'), (4, .pure true D'), (5, .pure false [.str fun _ => z, .bool ov]), (6, .pure true Q)] 7 (Re.at [(0, 0), (1, 1), (2, 2), (3, 3), (4, 4), (5, 5), (6, 6)] []) rfl ⟨a, e, R', ws', C, L', D', Q, rfl, rfl, rfl, h.alloct hT hL' hD' rfl h.q, hT, by unfold allocC; rw [if_neg g]⟩
  · have g : ¬ e ≠ 0 := g
    have g : e = 0 := by omega
    have hA1 := (h.a.alloct hT).1
    have hlR := (h.a.alloct hT).2
    have hb : 0 ≤ a ∧ a < W := by
      rcases hgen with h | h
      · exact absurd g h.1
      · have h1 := (h.2.2.1).bounds hA1
        omega
    obtain ⟨C', hC'⟩ : ∃ C', C' = allocC ph a e C := ⟨_, rfl⟩
    obtain ⟨Q', hQ'⟩ : ∃ Q', Q' = ipv C' := ⟨_, rfl⟩
    have hfin := h.alloct hT hL' hD' (by rw [hC']; exact allocC_length _ _ _ _) hQ'
    conv => cbv
    refine Need.mk ⟨by show 0 ≤ a; omega, by show a < W; omega⟩ ?_
    conv => cbv
    refine Need.mk (by show a + 1 ≤ (Q.length : Int); omega) ?_
    conv => cbv
    refine Upd.mk fun Q2 hQ2 => ?_
    have hQ2 : Q2 = Q.set a.toNat (.int .i64 (.lit 0)) := hQ2
    conv => cbv
    refine Br.mk (fun gp => ?_) (fun gp => ?_)
    · have gp : ph ≠ 0 := gp
      conv => cbv
      refine Need.mk ⟨by show 0 ≤ a; omega, by show a < W; omega⟩ ?_
      conv => cbv
      refine Need.mk (by show a + 1 ≤ (Q2.length : Int); rw [hQ2, List.length_set]; omega) ?_
      conv => cbv
      refine Upd.mk fun Q3 hQ3 => ?_
      have hle : pvles Q3 Q' := by
        have hQ3 : Q3 = Q2.set a.toNat (.int .i64 (.lit 2)) := hQ3
        rw [hQ3, hQ2, hQ', hC', allocC, if_pos g, if_neg gp, h.q, ← ipv_set, List.set_set]
        exact pvles_set _ _ _ _ _ (pvles_refl _) (by simp [pvle, I.val])
      unfold pvles at hle
      clear hQ3 hQ2
      conv => cbv
      refine RetF.mk [.p (.int .i64 (.sym a)), .p (.int .i64 (.sym e))] [(0, .mix [.ptr 1 (.lit 0), .ptr 5 (.lit 0), .sl 6 3 1 (.lit 0) (.sym W), .p (.int .i64 (.sym ph)), .p (.int .i64 (.sym sp)), .p (.int .i64 (.sym cy))]), (1, .mix [.ptr 2 (.lit 0), .sl 4 3 1 (.lit 0) (.sym W)]), (2, .mix [.sl 3 101 2 (.lit 0) (.sym N)]), (3, .pure true L'), (4, .pure true D'), (5, .pure false [.str fun _ => z, .bool ov]), (6, .pure true Q')] 7 (Re.at [(0, 0), (1, 1), (2, 2), (3, 3), (4, 4), (5, 5), (6, 6)] []) rfl ⟨a, e, R', ws', C', L', D', Q', rfl, rfl, rfl, hfin, hT, hC'⟩
    · have gp : ¬ ph ≠ 0 := gp
      have gp : ph = 0 := by omega
      have hle : pvles Q2 Q' := by
        rw [hQ2, hQ', hC', allocC, if_pos g, if_pos gp, h.q, ← ipv_set]
        exact pvles_set _ _ _ _ _ (pvles_refl _) (by simp [pvle, I.val])
      unfold pvles at hle
      clear hQ2
      conv => cbv
      refine RetF.mk [.p (.int .i64 (.sym a)), .p (.int .i64 (.sym e))] [(0, .mix [.ptr 1 (.lit 0), .ptr 5 (.lit 0), .sl 6 3 1 (.lit 0) (.sym W), .p (.int .i64 (.sym ph)), .p (.int .i64 (.sym sp)), .p (.int .i64 (.sym cy))]), (1, .mix [.ptr 2 (.lit 0), .sl 4 3 1 (.lit 0) (.sym W)]), (2, .mix [.sl 3 101 2 (.lit 0) (.sym N)]), (3, .pure true L'), (4, .pure true D'), (5, .pure false [.str fun _ => z, .bool ov]), (6, .pure true Q')] 7 (Re.at [(0, 0), (1, 1), (2, 2), (3, 3), (4, 4), (5, 5), (6, 6)] []) rfl ⟨a, e, R', ws', C', L', D', Q', rfl, rfl, rfl, hfin, hT, hC'⟩
theorem allocNil9_lx (a m : I) : CallF (fun _ => Tryz.prog) 33 [.p .nilp, .p (.int .i64 a), .p (.int .i64 m)] [] 0 (fun r h n => r = .tup [.p (.int .i64 (.sym 0)), .p (.int .i64 (.sym 2))] ∧ h = [] ∧ n = 0) := by
  refine callF_of_body tok Tryz.func33 (by kernel_rfl) rfl rfl rfl ?_; conv => cbv
  refine callF_frame arenaNil_lx [] rfl trivial rfl rfl (fun r h' n' ⟨e1, e2, e3⟩ => ?_)
  subst e1 e2 e3
  conv => cbv
  refine callF_frame (allocA_nil a m) [] rfl trivial rfl rfl (fun r h' n' ⟨e1, e2, e3⟩ => ?_)
  subst e1 e2 e3
  conv => cbv
  refine Br.mk (fun g => ?_) (fun g => ?_)
  case refine_2 =>
    have g : ¬ (2 : Int) ≠ 0 := g
    exfalso
    omega
  conv => cbv
  refine RetF.mk [.p (.int .i64 (.sym 0)), .p (.int .i64 (.sym 2))] [] 0 (Re.at [] []) rfl ⟨rfl, rfl, rfl⟩
end Go.Proofs.YtllafhhnciobhaaGreatDoor
/-
  Layer 9: a heap made, and a cycle begun.
-/
namespace Go.Proofs.YtllafhhnciobhaaGreatDoor

open Go Go.LX
set_option maxRecDepth 100000
set_option linter.unusedVariables false
set_option linter.unusedSimpArgs false

theorem zer_all (ws : List Int) : zer ws 0 ws.length = List.replicate ws.length 0 := by
  apply List.ext_getElem?
  intro i
  by_cases h : i < ws.length
  · rw [zer_get _ _ _ _ h, if_pos (by omega), List.getElem?_replicate, if_pos h]
  · rw [List.getElem?_eq_none (by rw [zer_length]; omega), List.getElem?_eq_none (by rw [List.length_replicate]; omega)]
theorem HM.new {N W : Int} (h2 : 2 ≤ N) (h8 : N ≤ 128) (hW : W = 32 * N) {L D Q : List PV} {z : ByteArray} (hL : L = rpv (List.replicate N.toNat (0, []))) (hD : D = ipv (List.replicate W.toNat 0)) (hQ : Q = ipv (List.replicate W.toNat 0)) (hz : z = ⟨(enc []).toArray⟩) :
    HM (List.replicate N.toNat (0, [])) (List.replicate W.toNat 0) (List.replicate W.toNat 0) [] N W L D Q z :=
  ⟨by rw [show W.toNat = 32 * N.toNat by omega]; exact AOk.new _, fun a k l hk => absurd hk.obj6 (new_none _ _), by rw [List.length_replicate]; omega, by rw [List.length_replicate]; omega, hW, hL, hD, hQ, by rw [List.length_replicate]; omega, hz, fun x hx => (by cases hx), Nat.zero_le _⟩
set_option maxHeartbeats 2000000 in
theorem newH_lx (N W : Int) (h2 : 2 ≤ N) (h8 : N ≤ 128) (hW : W = 32 * N) (L D Q : List PV) (z : ByteArray) (hL : L = rpv (List.replicate N.toNat (0, []))) (hD : D = ipv (List.replicate W.toNat 0)) (hQ : Q = ipv (List.replicate W.toNat 0)) (hz : z = ⟨(enc []).toArray⟩) : CallF (fun _ => Tryz.prog) 11 [.p (.int .i64 (.sym N))] [] 0 (fun r h n => r = .tup [.ptr 0 (.lit 0), .p (.int .i64 (.lit 0))] ∧ h = [(0, .mix [.ptr 1 (.lit 0), .ptr 5 (.lit 0), .sl 6 3 1 (.lit 0) (.sym W), .p (.int .i64 (.sym 0)), .p (.int .i64 (.sym 0)), .p (.int .i64 (.sym 0))]), (1, .mix [.ptr 2 (.lit 0), .sl 4 3 1 (.lit 0) (.sym W)]), (2, .mix [.sl 3 101 2 (.lit 0) (.sym N)]), (3, .pure true L), (4, .pure true D), (5, .pure false [.str fun _ => z, .bool false]), (6, .pure true Q)] ∧ n = 7) := by
  refine callF_of_body tok Tryz.func11 (by kernel_rfl) rfl rfl rfl ?_; conv => cbv
  refine callF_frame (newA_lx N W h2 h8 hW L D hL hD) [] rfl trivial rfl rfl (fun r h' n' ⟨e1, e2, e3⟩ => ?_)
  subst e1 e2 e3
  conv => cbv
  refine callF_frame greyNew_lx [] rfl trivial rfl rfl (fun r h' n' hrr => ?_)
  obtain ⟨z1, e1, e2, e3, hz1⟩ := hrr
  subst e1 e2 e3
  obtain rfl : z1 = z := by rw [hz1, hz]
  have hA0 : AOk (List.replicate N.toNat ((0, []) : Rw)) (List.replicate W.toNat 0) := by rw [show W.toNat = 32 * N.toNat by omega]; exact AOk.new _
  conv => cbv
  refine callF_frame (wordsA_lx (List.replicate N.toNat ((0, []) : Rw)) (List.replicate W.toNat 0) N W L D hL hD (by rw [List.length_replicate]; omega) (by rw [List.length_replicate]; omega) hA0 hW) [(0, 0), (1, 1), (2, 2), (3, 3)] rfl (by simp [hmapOk, nget, hget, renB, okB, renV, renVs, rn, okVs, okV]) rfl rfl (fun r h' n' ⟨e1, e2, e3⟩ => ?_)
  subst e1 e2 e3
  conv => cbv
  refine Need.mk ⟨by show 0 ≤ W; omega, Int.le_refl _, by show W * 8 ≤ 140737488355328; omega, by show W ≤ 9223372036854775807; omega⟩ ?_
  conv => cbv
  refine Upd.mk fun Q0 hQ0 => ?_
  have hle : pvles Q0 Q := by
    have hQ0 : Q0 = repsP [.int .i64 (.lit 0)] W.toNat := hQ0
    rw [hQ0, hQ]; exact zero_ipv _
  unfold pvles at hle
  clear hQ0
  conv => cbv
  refine RetF.mk [.ptr 0 (.lit 0), .p (.int .i64 (.lit 0))] [(0, .mix [.ptr 1 (.lit 0), .ptr 5 (.lit 0), .sl 6 3 1 (.lit 0) (.sym W), .p (.int .i64 (.sym 0)), .p (.int .i64 (.sym 0)), .p (.int .i64 (.sym 0))]), (1, .mix [.ptr 2 (.lit 0), .sl 4 3 1 (.lit 0) (.sym W)]), (2, .mix [.sl 3 101 2 (.lit 0) (.sym N)]), (3, .pure true L), (4, .pure true D), (5, .pure false [.str fun _ => z1, .bool false]), (6, .pure true Q)] 7 (Re.at [(6, 0), (0, 1), (1, 2), (2, 3), (3, 4), (4, 5), (5, 6)] []) rfl ⟨rfl, rfl, rfl⟩
theorem newHArg_lx (n : Int) (h : n < 2) : CallF (fun _ => Tryz.prog) 11 [.p (.int .i64 (.sym n))] [] 0 (fun r h m => r = .tup [.p .nilp, .p (.int .i64 (.lit 1))] ∧ h = [] ∧ m = 0) := by
  refine callF_of_body tok Tryz.func11 (by kernel_rfl) rfl rfl rfl ?_; conv => cbv
  refine callF_frame (newA_arg n h) [] rfl trivial rfl rfl (fun r h' n' ⟨e1, e2, e3⟩ => ?_)
  subst e1 e2 e3
  conv => cbv
  refine Br.mk (fun g => ?_) (fun g => ?_)
  case refine_2 =>
    have g : ¬ (1 : Int) ≠ 0 := g
    exfalso
    omega
  conv => cbv
  refine RetF.mk [.p .nilp, .p (.int .i64 (.lit 1))] [] 0 (Re.at [] []) rfl ⟨rfl, rfl, rfl⟩
/-- The state with which a cycle begins, its roots shaded. -/
def begS (R : List Rw) (W : Int) (A : List Int) : List Int × List Int × Bool := A.foldl (fun s a => shade R 1 a s) (List.replicate W.toNat 0, [], false)
set_option maxHeartbeats 4000000 in
theorem begin_lx (R : List Rw) (ws C G : List Int) (N W ph sp cy : Int) (L D Q : List PV) (z : ByteArray) (ov : Bool) (h : HM R ws C G N W L D Q z) (o : Unit → Obj) (ho : IsPow o) (A : List Int) (k : Int) (rs : List PV) (hrs : rs = ipv A) (hk : k = A.length) (hA : (A.length : Int) < 1000000) (hph : ph = 0) : CallF (fun _ => Tryz.prog) 26 [.ptr 0 (.lit 0), .p (.vsl (.sym k) true rs)] [(0, .mix [.ptr 1 (.lit 0), .ptr 5 (.lit 0), .sl 6 3 1 (.lit 0) (.sym W), .p (.int .i64 (.sym ph)), .p (.int .i64 (.sym sp)), .p (.int .i64 (.sym cy))]), (1, .mix [.ptr 2 (.lit 0), .sl 4 3 1 (.lit 0) (.sym W)]), (2, .mix [.sl 3 101 2 (.lit 0) (.sym N)]), (3, .pure true L), (4, .pure true D), (5, .pure false [.str fun _ => z, .bool ov]), (6, .pure true Q), (7, .fix 0 o)] 8 (fun r h n => ∃ (C' G' : List Int) (ov' : Bool) (Q' : List PV) (z' : ByteArray), r = .p (.int .i64 (.lit 0)) ∧ h = [(0, .mix [.ptr 1 (.lit 0), .ptr 8 (.lit 0), .sl 6 3 1 (.lit 0) (.sym W), .p (.int .i64 (.sym 1)), .p (.int .i64 (.sym sp)), .p (.int .i64 (.sym cy))]), (1, .mix [.ptr 2 (.lit 0), .sl 4 3 1 (.lit 0) (.sym W)]), (2, .mix [.sl 3 101 2 (.lit 0) (.sym N)]), (3, .pure true L), (4, .pure true D), (8, .pure false [.str fun _ => z', .bool ov']), (6, .pure true Q'), (7, .fix 0 o)] ∧ n = 9 ∧ HM R ws C' G' N W L D Q' z' ∧ (C', G', ov') = begS R W A) := by
  have hCl := h.c; have hWn := h.w; have hNr := h.n; have hRr := h.r
  have hQl : Q.length = C.length := by rw [h.q, ipv_length]
  refine callF_of_body tok Tryz.func26 (by kernel_rfl) rfl rfl rfl ?_; conv => cbv
  refine callF_frame (arena_lx R ws C G N W ph sp cy L D Q z ov) [(0, 0), (1, 1), (2, 2), (3, 3), (4, 4), (5, 5), (6, 6)] rfl (by simp [hmapOk, nget, hget, renB, okB, renV, renVs, rn, okVs, okV]) rfl rfl (fun r h' n' ⟨e1, e2, e3⟩ => ?_)
  subst e1 e2 e3
  conv => cbv
  refine Br.mk (fun g => ?_) (fun g => ?_)
  case refine_1 =>
    have g : ph ≠ 0 := g
    exact absurd hph g
  conv => cbv
  refine Need.mk ⟨Int.le_refl _, by show 0 ≤ W; omega, by show 0 + W * 1 ≤ (Q.length : Int); omega⟩ ?_
  conv => cbv
  obtain ⟨Q0, hQ0⟩ : ∃ Q0, Q0 = ipv (List.replicate W.toNat 0) := ⟨_, rfl⟩
  refine Upd.mk fun Q2 hQ2 => ?_
  have hle : pvles Q2 Q0 := by
    have hQ2 : Q2 = updL Q 0 (repsP [.int .i64 (.lit 0)] W.toNat) := hQ2
    rw [hQ2, hQ0, h.q, show W.toNat = C.length by omega, ← zer_all]
    exact upd_zer _ _ _ _ (pvles_refl _)
  unfold pvles at hle
  clear hQ2
  conv => cbv
  refine callF_frame greyNew_lx [] rfl trivial rfl rfl (fun r h' n' hrr => ?_)
  obtain ⟨z1, e1, e2, e3, hz1⟩ := hrr
  subst e1 e2 e3
  have hM0 : HM R ws (List.replicate W.toNat 0) [] N W L D Q0 z1 := ⟨h.a, h.k, h.n, h.r, h.w, h.l, h.d, hQ0, by rw [List.length_replicate]; omega, hz1, fun x hx => (by cases hx), Nat.zero_le _⟩
  conv => cbv
  refine LoopF.mk (fun kk s => ∃ (i : Int) (C' G' : List Int) (ov' : Bool) (Q' : List PV) (z' : ByteArray), s = ⟨.ptr 0 (.lit 0) :: (undefs 25 ++ .p (.vsl (.sym k) true rs) :: .p (.int .i64 (.sym k)) :: .p (.int .i64 (.sym i)) :: undefs 7), [(0, .mix [.ptr 1 (.lit 0), .ptr 8 (.lit 0), .sl 6 3 1 (.lit 0) (.sym W), .p (.int .i64 (.sym 1)), .p (.int .i64 (.sym sp)), .p (.int .i64 (.sym cy))]), (1, .mix [.ptr 2 (.lit 0), .sl 4 3 1 (.lit 0) (.sym W)]), (2, .mix [.sl 3 101 2 (.lit 0) (.sym N)]), (3, .pure true L), (4, .pure true D), (8, .pure false [.str fun _ => z', .bool ov']), (6, .pure true Q'), (7, .fix 0 o)], 9⟩ ∧ 0 ≤ i ∧ i ≤ k ∧ HM R ws C' G' N W L D Q' z' ∧ (C', G', ov') = begS R W (A.take i.toNat) ∧ kk = (k - i).toNat) k.toNat _
    (Re.at [(0, 0), (1, 1), (2, 2), (3, 3), (4, 4), (6, 6), (7, 7), (8, 8)] []) ⟨0, _, _, _, Q0, z1, rfl, by omega, by omega, hM0, rfl, by omega⟩ ?_
  rintro kk s ⟨i, C', G', ov', Q', z', rfl, hi0, hi1, h2, hS, hk2⟩
  conv => cbv
  refine Br.mk (fun gi => ?_) (fun gi => ?_)
  · have gi : i < k := gi
    obtain ⟨k', rfl⟩ : ∃ k', kk = k' + 1 := ⟨kk - 1, by omega⟩
    obtain ⟨a, ha⟩ : ∃ a, A[i.toNat]? = some a := ⟨_, List.getElem?_eq_getElem (by omega)⟩
    have hc : rs[i.toNat]? = some (.int .i64 (.sym a)) := by rw [hrs]; exact ipv_get ha
    conv => cbv
    refine Need.mk ⟨hi0, gi⟩ ?_
    conv => cbv
    refine Cell.at i _ hc (by simp [I.val]) rfl ?_
    conv => cbv
    refine callF_frame (shade_lx R ws C' G' N W 1 sp cy L D Q' z' ov' h2 o ho a) [(0, 0), (1, 1), (2, 2), (3, 3), (4, 4), (5, 8), (6, 6), (7, 7)] rfl (by simp [hmapOk, nget, hget, renB, okB, renV, renVs, rn, okVs, okV]) rfl rfl (fun r h' n' hrr => ?_)
    obtain ⟨C2, G2, ov2, Q2, z2, e1, e2, e3, h3, hS2⟩ := hrr
    subst e1 e2 e3
    have hS3 : (C2, G2, ov2) = begS R W (A.take (i.toNat + 1)) := by
      rw [hS2, hS]
      unfold begS
      rw [List.take_add_one, ha, Option.toList_some, List.foldl_append]; rfl
    conv => cbv
    refine Fit.mk (by show (-9223372036854775808 : Int) ≤ i + 1; omega) (by show i + 1 ≤ 9223372036854775807; omega) fun i2 hi2 => ?_
    have hi2 : i2 = i + 1 := hi2
    rw [show i.toNat + 1 = i2.toNat by omega] at hS3
    conv => cbv
    refine Again.mk k' _ (Nat.lt_succ_self _) (Re.at [(0, 0), (1, 1), (2, 2), (3, 3), (4, 4), (6, 6), (7, 7), (8, 8)] []) ⟨i2, C2, G2, ov2, Q2, z2, rfl, by omega, by omega, h3, hS3, by omega⟩
  · have gi : ¬ i < k := gi
    rw [List.take_of_length_le (by omega)] at hS
    conv => cbv
    refine RetF.mk [.p (.int .i64 (.lit 0))] [(0, .mix [.ptr 1 (.lit 0), .ptr 8 (.lit 0), .sl 6 3 1 (.lit 0) (.sym W), .p (.int .i64 (.sym 1)), .p (.int .i64 (.sym sp)), .p (.int .i64 (.sym cy))]), (1, .mix [.ptr 2 (.lit 0), .sl 4 3 1 (.lit 0) (.sym W)]), (2, .mix [.sl 3 101 2 (.lit 0) (.sym N)]), (3, .pure true L), (4, .pure true D), (8, .pure false [.str fun _ => z', .bool ov']), (6, .pure true Q'), (7, .fix 0 o)] 9 (Re.at [(0, 0), (1, 1), (2, 2), (3, 3), (4, 4), (6, 6), (7, 7), (8, 8)] []) rfl ⟨C', G', ov', Q', z', rfl, rfl, rfl, h2, hS⟩
set_option maxHeartbeats 2000000 in
theorem beginState_lx (R : List Rw) (ws C G : List Int) (N W ph sp cy : Int) (L D Q : List PV) (z : ByteArray) (ov : Bool) (h : HM R ws C G N W L D Q z) (hph : ph ≠ 0) : CallF (fun _ => Tryz.prog) 26 [.ptr 0 (.lit 0), .p .nils] [(0, .mix [.ptr 1 (.lit 0), .ptr 5 (.lit 0), .sl 6 3 1 (.lit 0) (.sym W), .p (.int .i64 (.sym ph)), .p (.int .i64 (.sym sp)), .p (.int .i64 (.sym cy))]), (1, .mix [.ptr 2 (.lit 0), .sl 4 3 1 (.lit 0) (.sym W)]), (2, .mix [.sl 3 101 2 (.lit 0) (.sym N)]), (3, .pure true L), (4, .pure true D), (5, .pure false [.str fun _ => z, .bool ov]), (6, .pure true Q)] 7 (fun r h n => r = .p (.int .i64 (.lit 11)) ∧ h = [(0, .mix [.ptr 1 (.lit 0), .ptr 5 (.lit 0), .sl 6 3 1 (.lit 0) (.sym W), .p (.int .i64 (.sym ph)), .p (.int .i64 (.sym sp)), .p (.int .i64 (.sym cy))]), (1, .mix [.ptr 2 (.lit 0), .sl 4 3 1 (.lit 0) (.sym W)]), (2, .mix [.sl 3 101 2 (.lit 0) (.sym N)]), (3, .pure true L), (4, .pure true D), (5, .pure false [.str fun _ => z, .bool ov]), (6, .pure true Q)] ∧ n = 7) := by
  refine callF_of_body tok Tryz.func26 (by kernel_rfl) rfl rfl rfl ?_; conv => cbv
  refine callF_frame (arena_lx R ws C G N W ph sp cy L D Q z ov) [(0, 0), (1, 1), (2, 2), (3, 3), (4, 4), (5, 5), (6, 6)] rfl (by simp [hmapOk, nget, hget, renB, okB, renV, renVs, rn, okVs, okV]) rfl rfl (fun r h' n' ⟨e1, e2, e3⟩ => ?_)
  subst e1 e2 e3
  conv => cbv
  refine Br.mk (fun g => ?_) (fun g => ?_)
  case refine_2 =>
    have g : ¬ ph ≠ 0 := g
    exact absurd hph g
  conv => cbv
  refine RetF.mk [.p (.int .i64 (.lit 11))] [(0, .mix [.ptr 1 (.lit 0), .ptr 5 (.lit 0), .sl 6 3 1 (.lit 0) (.sym W), .p (.int .i64 (.sym ph)), .p (.int .i64 (.sym sp)), .p (.int .i64 (.sym cy))]), (1, .mix [.ptr 2 (.lit 0), .sl 4 3 1 (.lit 0) (.sym W)]), (2, .mix [.sl 3 101 2 (.lit 0) (.sym N)]), (3, .pure true L), (4, .pure true D), (5, .pure false [.str fun _ => z, .bool ov]), (6, .pure true Q)] 7 (Re.at [(0, 0), (1, 1), (2, 2), (3, 3), (4, 4), (5, 5), (6, 6)] []) rfl ⟨rfl, rfl, rfl⟩
theorem beginNil_lx : CallF (fun _ => Tryz.prog) 26 [.p .nilp, .p .nils] [] 0 (fun r h n => r = .p (.int .i64 (.sym 2)) ∧ h = [] ∧ n = 0) := by
  refine callF_of_body tok Tryz.func26 (by kernel_rfl) rfl rfl rfl ?_; conv => cbv
  refine callF_frame arenaNil_lx [] rfl trivial rfl rfl (fun r h' n' ⟨e1, e2, e3⟩ => ?_)
  subst e1 e2 e3
  conv => cbv
  refine RetF.mk [.p (.int .i64 (.sym 2))] [] 0 (Re.at [] []) rfl ⟨rfl, rfl, rfl⟩
/-- An object is looked at. -/
def scanS (R : List Rw) (ph a : Int) (X : List Int) (s : List Int × List Int × Bool) : List Int × List Int × Bool := ((X.foldl (fun s w => shadeW R ph w s) s).1.set a.toNat 2, (X.foldl (fun s w => shadeW R ph w s) s).2)
set_option maxHeartbeats 4000000 in
theorem scan_lx (R : List Rw) (ws C G : List Int) (N W ph sp cy : Int) (L D Q : List PV) (z : ByteArray) (ov : Bool) (h : HM R ws C G N W L D Q z) (o : Unit → Obj) (ho : IsPow o) (a : Int) (ha : 0 ≤ a ∧ a < W) : CallF (fun _ => Tryz.prog) 83 [.ptr 0 (.lit 0), .p (.int .i64 (.sym a))] [(0, .mix [.ptr 1 (.lit 0), .ptr 5 (.lit 0), .sl 6 3 1 (.lit 0) (.sym W), .p (.int .i64 (.sym ph)), .p (.int .i64 (.sym sp)), .p (.int .i64 (.sym cy))]), (1, .mix [.ptr 2 (.lit 0), .sl 4 3 1 (.lit 0) (.sym W)]), (2, .mix [.sl 3 101 2 (.lit 0) (.sym N)]), (3, .pure true L), (4, .pure true D), (5, .pure false [.str fun _ => z, .bool ov]), (6, .pure true Q), (7, .fix 0 o)] 8 (fun r h n => ∃ (X C' G' : List Int) (ov' : Bool) (Q' : List PV) (z' : ByteArray), r = .tup [] ∧ h = [(0, .mix [.ptr 1 (.lit 0), .ptr 5 (.lit 0), .sl 6 3 1 (.lit 0) (.sym W), .p (.int .i64 (.sym ph)), .p (.int .i64 (.sym sp)), .p (.int .i64 (.sym cy))]), (1, .mix [.ptr 2 (.lit 0), .sl 4 3 1 (.lit 0) (.sym W)]), (2, .mix [.sl 3 101 2 (.lit 0) (.sym N)]), (3, .pure true L), (4, .pure true D), (5, .pure false [.str fun _ => z', .bool ov']), (6, .pure true Q'), (7, .fix 0 o)] ∧ n = 8 ∧ HM R ws C' G' N W L D Q' z' ∧ Wrds R ws a X ∧ (C', G', ov') = scanS R ph a X (C, G, ov)) := by
  refine callF_of_body tok Tryz.func83 (by kernel_rfl) rfl rfl rfl ?_; conv => cbv
  refine callF_frame (wordsH_lx R ws C G N W ph sp cy L D Q z ov h a) [(0, 0), (1, 1), (2, 2), (3, 3), (4, 4), (5, 5), (6, 6)] rfl (by simp [hmapOk, nget, hget, renB, okB, renV, renVs, rn, okVs, okV]) rfl rfl (fun r h' n' hrr => ?_)
  obtain ⟨X, m, O, e1, e2, e3, hO, hm, hX⟩ := hrr
  subst e1 e2 e3
  conv => cbv
  have hXb := hX.bd h.a
  have hX31 : X.length ≤ 31 := by
    have hle := hX.1
    generalize hxl : (X.length : Int) = xl at hle
    cases hle with
    | no _ => omega
    | is k l hk => have := hk.bounds h.a; omega
  refine LoopF.mk (fun k s => ∃ (i : Int) (C' G' : List Int) (ov' : Bool) (Q' : List PV) (z' : ByteArray), s = ⟨.ptr 0 (.lit 0) :: .p (.int .i64 (.sym a)) :: (undefs 6 ++ .sl 8 3 1 (.lit 0) (.sym m) :: .p (.int .i64 (.sym m)) :: .p (.int .i64 (.sym i)) :: undefs 13), [(0, .mix [.ptr 1 (.lit 0), .ptr 5 (.lit 0), .sl 6 3 1 (.lit 0) (.sym W), .p (.int .i64 (.sym ph)), .p (.int .i64 (.sym sp)), .p (.int .i64 (.sym cy))]), (1, .mix [.ptr 2 (.lit 0), .sl 4 3 1 (.lit 0) (.sym W)]), (2, .mix [.sl 3 101 2 (.lit 0) (.sym N)]), (3, .pure true L), (4, .pure true D), (5, .pure false [.str fun _ => z', .bool ov']), (6, .pure true Q'), (7, .fix 0 o), (8, .pure true O)], 9⟩ ∧ 0 ≤ i ∧ i ≤ m ∧ HM R ws C' G' N W L D Q' z' ∧ (C', G', ov') = (X.take i.toNat).foldl (fun s w => shadeW R ph w s) (C, G, ov) ∧ k = (m - i).toNat) m.toNat _
    (Re.at [(0, 0), (1, 1), (2, 2), (3, 3), (4, 4), (5, 5), (6, 6), (7, 7), (8, 8)] []) ⟨0, C, G, ov, Q, z, rfl, by omega, by omega, h, rfl, by omega⟩ ?_
  rintro k s ⟨i, C', G', ov', Q', z', rfl, hi0, hi1, h2, hS, hk⟩
  conv => cbv
  refine Br.mk (fun gi => ?_) (fun gi => ?_)
  · have gi : i < m := gi
    obtain ⟨k', rfl⟩ : ∃ k', k = k' + 1 := ⟨k - 1, by omega⟩
    obtain ⟨w, hw⟩ : ∃ w, X[i.toNat]? = some w := ⟨_, List.getElem?_eq_getElem (by omega)⟩
    have hc : O[i.toNat]? = some (.int .i64 (.sym w)) := by rw [hO]; exact ipv_get hw
    conv => cbv
    refine Need.mk ⟨hi0, gi⟩ ?_
    conv => cbv
    refine Cell.at i _ hc (by simp [I.val]) rfl ?_
    conv => cbv
    refine callF_frame (shadeWord_lx R ws C' G' N W ph sp cy L D Q' z' ov' h2 o ho w (hXb w (List.mem_of_getElem? hw))) [(0, 0), (1, 1), (2, 2), (3, 3), (4, 4), (5, 5), (6, 6), (7, 7)] rfl (by simp [hmapOk, nget, hget, renB, okB, renV, renVs, rn, okVs, okV]) rfl rfl (fun r h' n' hrr => ?_)
    obtain ⟨C2, G2, ov2, Q2, z2, e1, e2, e3, h3, hS2⟩ := hrr
    subst e1 e2 e3
    have hS3 : (C2, G2, ov2) = (X.take (i.toNat + 1)).foldl (fun s w => shadeW R ph w s) (C, G, ov) := by
      rw [List.take_add_one, hw, Option.toList_some, List.foldl_append, ← hS, hS2]; rfl
    conv => cbv
    refine Fit.mk (by show (-9223372036854775808 : Int) ≤ i + 1; omega) (by show i + 1 ≤ 9223372036854775807; omega) fun i2 hi2 => ?_
    have hi2 : i2 = i + 1 := hi2
    rw [show i.toNat + 1 = i2.toNat by omega] at hS3
    conv => cbv
    refine Again.mk k' _ (Nat.lt_succ_self _) (Re.at [(0, 0), (1, 1), (2, 2), (3, 3), (4, 4), (5, 5), (6, 6), (7, 7), (8, 8)] []) ⟨i2, C2, G2, ov2, Q2, z2, rfl, by omega, by omega, h3, hS3, by omega⟩
  · have gi : ¬ i < m := gi
    rw [List.take_of_length_le (by omega)] at hS
    have hCl := h2.c; have hWn := h.w; have hNr := h.n; have hRr := h.r
    have hQl : Q'.length = C'.length := by rw [h2.q, ipv_length]
    obtain ⟨Q3, hQ3⟩ : ∃ Q3, Q3 = ipv (C'.set a.toNat 2) := ⟨_, rfl⟩
    have hfin : HM R ws (C'.set a.toNat 2) G' N W L D Q3 z' := ⟨h2.a, h2.k, h2.n, h2.r, h2.w, h2.l, h2.d, hQ3, by rw [List.length_set]; exact h2.c, h2.z, h2.g, h2.g8⟩
    conv => cbv
    refine Need.mk ⟨by show 0 ≤ a; omega, by show a < W; omega⟩ ?_
    conv => cbv
    refine Need.mk (by show a + 1 ≤ (Q'.length : Int); omega) ?_
    conv => cbv
    refine Upd.mk fun Q2 hQ2 => ?_
    have hle : pvles Q2 Q3 := by
      have hQ2 : Q2 = Q'.set a.toNat (.int .i64 (.lit 2)) := hQ2
      rw [hQ2, hQ3, h2.q, ← ipv_set]
      exact pvles_set _ _ _ _ _ (pvles_refl _) (by simp [pvle, I.val])
    unfold pvles at hle
    clear hQ2
    conv => cbv
    refine RetF.mk [] [(0, .mix [.ptr 1 (.lit 0), .ptr 5 (.lit 0), .sl 6 3 1 (.lit 0) (.sym W), .p (.int .i64 (.sym ph)), .p (.int .i64 (.sym sp)), .p (.int .i64 (.sym cy))]), (1, .mix [.ptr 2 (.lit 0), .sl 4 3 1 (.lit 0) (.sym W)]), (2, .mix [.sl 3 101 2 (.lit 0) (.sym N)]), (3, .pure true L), (4, .pure true D), (5, .pure false [.str fun _ => z', .bool ov']), (6, .pure true Q3), (7, .fix 0 o)] 8 (Re.at [(0, 0), (1, 1), (2, 2), (3, 3), (4, 4), (5, 5), (6, 6), (7, 7)] []) rfl ⟨X, _, G', ov', Q3, z', rfl, rfl, rfl, hfin, hX, by unfold scanS; rw [← hS]⟩
end Go.Proofs.YtllafhhnciobhaaGreatDoor
