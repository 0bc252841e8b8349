/-
  The ground of the proof, part 7: the calculus and what is proved with it.
-/
import Derived.Test.YtolamdalijjlnaaGreatDoorBf
import Derived.Test.YtolamdalijjlnaaGreatDoorBc
import Derived.OpenShut
/-
  Layer 11: awake.
-/
namespace Go.Proofs.YtolamdalijjlnaaGreatDoor

open Go Go.LX
set_option maxRecDepth 100000
set_option linter.unusedVariables false
set_option linter.unusedSimpArgs false

theorem Sim.back {R : List Rw} {ws vs : List Int} (hS : Sim R ws vs) {a k l : Int} (h : Kept R vs a k l) : Kept R ws a k l := by
  obtain ⟨k2, l2, hk⟩ := Kept.of hS.a h.obj6
  have := (hS.hdr _ _ _ hk).det9 h
  rw [this.1, this.2] at hk
  exact hk
theorem Quad.sim {R : List Rw} {ws vs : List Int} {r1 r2 r3 r4 : Int} (hS : Sim R ws vs) (h : Quad R ws r1 r2 r3 r4) : Quad R vs r1 r2 r3 r4 :=
  ⟨hS.hdr _ _ _ h.k1, hS.hdr _ _ _ h.k2, hS.hdr _ _ _ h.k3, hS.hdr _ _ _ h.k4, h.ob, fun a k l i hK h0 h1 => by rw [hS.in_ a k l i (hS.back hK) h0 h1]; exact h.zero a k l i (hS.back hK) h0 h1⟩
theorem aggYes {P : Unit → Program} {t : Nat} {l m : List LV} {K : Bool → Prop} (h : flatOK (P ()) t l m = true) (he : eqLs l m) (hk : K true) : AggEq P t l m K := .mk h (fun _ => hk) (fun q => absurd he q)
theorem put_see {kd ln : Int} {fs : List Int → List Int} {Wl : List Int} {R : List Rw} {ph a e f : Int} {s s' : St4} {y : List Int} (hA : AOk R s.1) (hK : Kept R s.1 a kd ln) (hl : (Wl.length : Int) = ln) (hb : ∀ x ∈ Wl, -9223372036854775808 ≤ x ∧ x ≤ 9223372036854775807) (hP : PT kd ln Wl R ph a s e s') (hT : TR kd ln fs R s'.1 a f y) : e = 0 ∧ f = 0 ∧ y = fs Wl := by
  rcases hP.two with ⟨e1, k1, q1⟩ | ⟨e1, k1, q1⟩
  · have hF := putS_fact (ph := ph) Wl 0 s hA hK (by omega) hb
    rw [← q1] at hF
    cases hT with
    | ok X h hX => exact ⟨e1, rfl, by rw [hF.wrds hl hX]⟩
    | no h => exact absurd hF.kept h
  · exact absurd hK k1
set_option maxHeartbeats 8000000 in
theorem awake11_lx (o : Unit → Obj) (ho : IsPow o) : CallF (fun _ => Tryz.prog) 37 [] [(0, .fix 0 o)] 1 (fun r h n => r = .p (.bool true) ∧ h = [(0, .fix 0 o)] ∧ n = 1) := by
  refine callF_of_body tok Tryz.func37 (by kernel_rfl) rfl rfl rfl ?_; conv => cbv
  refine callF_frame (both_lx o ho false) [(0, 0)] rfl (by simp [hmapOk, nget, hget, renB, okB, renV, renVs, rn, okVs, okV]) rfl rfl (fun r h' n' hrr => ?_)
  obtain ⟨R, ws, vs, C, N, W, ph, L, D, Q, z, ov, P, B, V, Qr, la, m, r1, r2, r3, r4, e1, e2, e3, h, hr, hS, hQ, hC, hN, hph⟩ := hrr
  subst e1 e2 e3
  conv => cbv
  refine callF_frame (places_lx R vs C [] N W ph 0 0 P B V Qr la m ov hr r1 r2 r3 r4 (hQ.sim hS)) [(0, 8), (1, 9), (2, 10), (3, 11), (4, 12), (5, 13), (6, 14), (7, 15)] rfl (by simp [hmapOk, nget, hget, renB, okB, renV, renVs, rn, okVs, okV]) rfl rfl (fun r h' n' ⟨e1, e2, e3⟩ => ?_)
  subst e1 e2 e3
  conv => cbv
  refine CallF.le (args0 := [.ptr 1 (.lit 0), .p (.int .i64 (.sym r1)), .agg [.p (.int .i64 (.sym 2)), .p (.int .i64 (.sym 0)), .p (.int .i64 (.sym 0)), .p (.int .i64 (.sym 0)), .p (.int .i64 (.sym (-1))), .p (.int .i64 (.sym (-1))), .p (.int .i64 (.sym (-1))), .p (.int .i64 (.sym (-1))), .p (.int .i64 (.sym 5))]]) (callF_frame (putChan_lx R ws C [] N W ph 0 0 L D Q z ov h o ho r1 2 0 0 0 (-1) (-1) (-1) (-1) 5 (by simp [b62])) [(0, 1), (1, 2), (2, 3), (3, 4), (4, 5), (5, 6), (6, 7), (7, 0)] rfl (by simp [hmapOk, nget, hget, renB, okB, renV, renVs, rn, okVs, okV]) rfl rfl (fun r h' n' hrr => ?_)) (by simp [ales, ale, pvle, I.val])
  obtain ⟨e, ws1, C1, G1, ov1, D1, Q1, z1, e1, e2, e3, h1, hP⟩ := hrr
  subst e1 e2 e3
  conv => cbv
  refine callF_frame (chan_lx R ws1 C1 G1 N W ph 0 0 L D1 Q1 z1 ov1 h1 r1) [(0, 1), (1, 2), (2, 3), (3, 4), (4, 5), (5, 6), (6, 7)] rfl (by simp [hmapOk, nget, hget, renB, okB, renV, renVs, rn, okVs, okV]) rfl rfl (fun r h' n' hrr => ?_)
  obtain ⟨⟨y0, y1, y2, y3, y4, y5, y6, y7, y8, f, e1, hT⟩, e2, e3⟩ := hrr
  subst e1 e2 e3
  obtain ⟨he, hf, hy⟩ := put_see h.a hQ.k1 rfl (chanWs_bd 2 0 0 0 (-1) (-1) (-1) (-1) 5 (by simp [b62])) hP hT
  rw [chan_back 2 0 0 0 (-1) (-1) (-1) (-1) 5 (by simp)] at hy
  simp only [List.cons.injEq, and_true] at hy
  obtain ⟨g0, g1, g2, g3, g4, g5, g6, g7, g8⟩ := hy
  clear hP hT
  conv => cbv
  refine Br.yes (show e = 0 from he) ?_
  conv => cbv
  refine Br.yes (show f = 0 from hf) ?_
  conv => cbv
  refine aggYes (by kernel_rfl) ⟨g0, g1, g2, g3, g4, g5, g6, g7, g8, trivial⟩ ?_
  conv => cbv
  refine RetF.mk [.p (.bool true)] [(0, .fix 0 o)] 1 (Re.at [(0, 0)] []) rfl ⟨rfl, rfl, rfl⟩
end Go.Proofs.YtolamdalijjlnaaGreatDoor
/-
  Layer 11: ViewBack's numbers.
-/
namespace Go.Proofs.YtolamdalijjlnaaGreatDoor

open Go Go.LX
set_option maxRecDepth 100000
set_option linter.unusedVariables false
set_option linter.unusedSimpArgs false

def smW (v : Int) : Int := v.tmod 1099511627776
def noW (v : Int) : Int := if -1 < smW v then smW v else -1
theorem smW_bd (v : Int) : -1099511627776 < smW v ∧ smW v < 1099511627776 := by
  unfold smW
  have h1 := Int.tmod_lt_of_pos v (show (0 : Int) < 1099511627776 by omega)
  have h2 : -1099511627776 < v.tmod 1099511627776 := Int.lt_tmod_of_pos v (by omega)
  exact ⟨h2, h1⟩
theorem noW_bd (v : Int) : -1 ≤ noW v ∧ noW v < 1099511627776 := by
  unfold noW
  have := smW_bd v
  split <;> omega
theorem smW_b62 (v : Int) : b62 (smW v) := by have := smW_bd v; unfold b62; omega
theorem noW_b62 (v : Int) : b62 (noW v) := by have := noW_bd v; unfold b62; omega
theorem small_lx (v : Int) : CallF (fun _ => Tryz.prog) 39 [.p (.int .i64 (.sym v))] [] 0 (fun r h n => (∃ x : Int, r = .p (.int .i64 (.sym x)) ∧ x = smW v) ∧ h = [] ∧ n = 0) := by
  refine callF_of_body tok Tryz.func39 (by kernel_rfl) rfl rfl rfl ?_; conv => cbv
  refine Sum.mk fun x hx => ?_
  conv => cbv
  refine RetF.mk [.p (.int .i64 (.sym x))] [] 0 (Re.at [] []) rfl ⟨⟨x, rfl, hx⟩, rfl, rfl⟩
theorem no_lx (v : Int) : CallF (fun _ => Tryz.prog) 54 [.p (.int .i64 (.sym v))] [] 0 (fun r h n => (∃ x : Int, r = .p (.int .i64 (.sym x)) ∧ x = noW v) ∧ h = [] ∧ n = 0) := by
  refine callF_of_body tok Tryz.func54 (by kernel_rfl) rfl rfl rfl ?_; conv => cbv
  refine callF_frame (small_lx v) [] rfl trivial rfl rfl (fun r h' n' ⟨⟨x, e1, hx⟩, e2, e3⟩ => ?_)
  subst e1 e2 e3
  conv => cbv
  refine Br.mk (fun hc => ?_) (fun hc => ?_)
  · conv => cbv
    refine RetF.mk [.p (.int .i64 (.sym x))] [] 0 (Re.at [] []) rfl ⟨⟨x, rfl, ?_⟩, rfl, rfl⟩
    have hc : -1 < x := hc
    unfold noW
    rw [← hx, if_pos hc]
  · conv => cbv
    refine RetF.mk [.p (.int .i64 (.sym (-1)))] [] 0 (Re.at [] []) rfl ⟨⟨-1, rfl, ?_⟩, rfl, rfl⟩
    have hc : ¬ -1 < x := hc
    unfold noW
    rw [← hx, if_neg hc]
end Go.Proofs.YtolamdalijjlnaaGreatDoor
/-
  Layer 9: room for few objects of two classes; what a cycle leaves.
-/
namespace Go.Proofs.YtolamdalijjlnaaGreatDoor

open Go Go.LX
set_option maxRecDepth 100000
set_option linter.unusedVariables false
set_option linter.unusedSimpArgs false

def uu (e : Rw) : Nat := if e.2 = [] then 0 else 1
def ff (c : Int) (e : Rw) : Nat := if e.1 = c ∧ e.2 ≠ [] then 1 else 0
def sl_ (c : Int) (e : Rw) : Nat := if e.1 = c then e.2.count true else 0
def cnt (f : Rw → Nat) (R : List Rw) : Nat := (R.map f).sum
theorem cnt_set {f : Rw → Nat} {R : List Rw} {i : Nat} {e e' : Rw} (h : R[i]? = some e) : cnt f (R.set i e') + f e = cnt f R + f e' := by
  unfold cnt
  rw [List.map_set]
  exact sum_set _ _ _ _ (by rw [List.getElem?_map, h]; rfl)
theorem cnt_mul {f g : Rw → Nat} {k : Nat} : ∀ {R : List Rw}, (∀ e ∈ R, f e = k * g e) → cnt f R = k * cnt g R
  | [], _ => rfl
  | e :: R, h => by
    have h1 := h e (List.mem_cons_self ..)
    have h2 := cnt_mul (R := R) fun x hx => h x (List.mem_cons_of_mem _ hx)
    unfold cnt at h2 ⊢
    simp only [List.map_cons, List.sum_cons]
    rw [h1, h2, Nat.mul_add]
theorem cnt_le2 {f g h : Rw → Nat} : ∀ {R : List Rw}, (∀ e ∈ R, f e + g e ≤ h e) → cnt f R + cnt g R ≤ cnt h R
  | [], _ => Nat.le_refl _
  | e :: R, H => by
    have h1 := H e (List.mem_cons_self ..)
    have h2 := cnt_le2 (R := R) fun x hx => H x (List.mem_cons_of_mem _ hx)
    unfold cnt at h2 ⊢
    simp only [List.map_cons, List.sum_cons]
    omega
theorem cnt_uu : ∀ {R : List Rw}, (∀ e ∈ R, e.2 ≠ []) → cnt uu R = R.length
  | [], _ => rfl
  | e :: R, h => by
    have h1 := h e (List.mem_cons_self ..)
    have h2 := cnt_uu (R := R) fun x hx => h x (List.mem_cons_of_mem _ hx)
    unfold cnt at h2 ⊢
    simp only [List.map_cons, List.sum_cons, List.length_cons]
    rw [h2]
    unfold uu
    rw [if_neg h1]
    omega
theorem slots_in (R : List Rw) : cnt (sl_ 0) R + cnt (sl_ 2) R ≤ objCount R := by
  have := cnt_le2 (f := sl_ 0) (g := sl_ 2) (h := fun e => e.2.count true) (R := R) (fun e _ => by
    unfold sl_
    by_cases h0 : e.1 = 0
    · rw [if_pos h0, if_neg (by omega)]; exact Nat.le_refl _
    · rw [if_neg h0]
      by_cases h2 : e.1 = 2
      · rw [if_pos h2]; omega
      · rw [if_neg h2]; omega)
  exact this
/-- Spans of two classes, filled one behind the other. -/
structure Rm (R : List Rw) : Prop where
  u : cnt uu R ≤ cnt (ff 0) R + cnt (ff 2) R
  a : 8 * cnt (ff 0) R ≤ cnt (sl_ 0) R + 7
  b : 2 * cnt (ff 2) R ≤ cnt (sl_ 2) R + 1
theorem Rm.new (n : Nat) : Rm (List.replicate n ((0, []) : Rw)) := by
  have h : ∀ f : Rw → Nat, f (0, []) = 0 → cnt f (List.replicate n ((0, []) : Rw)) = 0 := by
    intro f hf
    unfold cnt
    rw [List.map_replicate, hf]
    induction n with
    | zero => rfl
    | succ n ih => rw [List.replicate_succ, List.sum_cons, ih]
  have e1 := h uu (by decide)
  have e2 := h (ff 0) (by decide)
  have e3 := h (ff 2) (by decide)
  exact ⟨by omega, by omega, by omega⟩
theorem count_full {m : List Bool} (h : false ∉ m) : m.count true = m.length := by
  rw [List.count_eq_length]
  intro b hb
  cases b with
  | true => rfl
  | false => exact absurd hb h
theorem Rm.alloced {R R' : List Rw} {c i s : Int} (hR : RowsOk R) (h : Rm R) (hc : c = 0 ∨ c = 2) (ha : Alloced R c i s true R') : Rm R' := by
  cases ha with
  | old i s l h0 hi hs h1 h2 =>
    have hne : l ≠ [] := by intro e; subst e; simp at hs
    have hne2 : l.set s true ≠ [] := by intro e; exact hne (by have := congrArg List.length e; rw [List.length_set] at this; exact List.eq_nil_of_length_eq_zero this)
    have hct := count_set hs
    have q1 := cnt_set (f := uu) (e' := (c, l.set s true)) hi
    have q2 := cnt_set (f := ff 0) (e' := (c, l.set s true)) hi
    have q3 := cnt_set (f := ff 2) (e' := (c, l.set s true)) hi
    have q4 := cnt_set (f := sl_ 0) (e' := (c, l.set s true)) hi
    have q5 := cnt_set (f := sl_ 2) (e' := (c, l.set s true)) hi
    have ha := h.a; have hb := h.b; have hu := h.u
    rcases hc with rfl | rfl
    · simp [uu, ff, sl_, hne, hne2] at q1 q2 q3 q4 q5
      exact ⟨by omega, by omega, by omega⟩
    · simp [uu, ff, sl_, hne, hne2] at q1 q2 q3 q4 q5
      exact ⟨by omega, by omega, by omega⟩
  | fresh i d h0 h2 hi h3 =>
    have hfull : ∀ k : Nat, slotsOf c = k → cnt (sl_ c) R = k * cnt (ff c) R := by
      intro k hk
      refine cnt_mul fun e he => ?_
      unfold sl_ ff
      by_cases h1 : e.1 = c
      · rw [if_pos h1]
        by_cases h4 : e.2 = []
        · rw [if_neg (fun q => q.2 h4), h4]; rfl
        · rw [if_pos ⟨h1, h4⟩]
          obtain ⟨j, hj⟩ := List.getElem?_of_mem he
          have h5 := h2 j e.2 (by rw [hj, ← h1])
          have h6 := (hR e he).2 h4
          rw [count_full h5, h6.2.1, h1, hk]; omega
      · rw [if_neg h1, if_neg (fun q => h1 q.1)]; omega
    have ha := h.a; have hb := h.b; have hu := h.u
    rcases hc with rfl | rfl
    · have q0 := hfull 8 rfl
      have q1 := cnt_set (f := uu) (e' := ((0 : Int), (List.replicate (slotsOf 0) false).set 0 true)) hi
      have q2 := cnt_set (f := ff 0) (e' := ((0 : Int), (List.replicate (slotsOf 0) false).set 0 true)) hi
      have q3 := cnt_set (f := ff 2) (e' := ((0 : Int), (List.replicate (slotsOf 0) false).set 0 true)) hi
      have q4 := cnt_set (f := sl_ 0) (e' := ((0 : Int), (List.replicate (slotsOf 0) false).set 0 true)) hi
      have q5 := cnt_set (f := sl_ 2) (e' := ((0 : Int), (List.replicate (slotsOf 0) false).set 0 true)) hi
      have k1 : uu ((0 : Int), (List.replicate (slotsOf 0) false).set 0 true) = 1 := by decide
      have k2 : ff 0 ((0 : Int), (List.replicate (slotsOf 0) false).set 0 true) = 1 := by decide
      have k3 : ff 2 ((0 : Int), (List.replicate (slotsOf 0) false).set 0 true) = 0 := by decide
      have k4 : sl_ 0 ((0 : Int), (List.replicate (slotsOf 0) false).set 0 true) = 1 := by decide
      have k5 : sl_ 2 ((0 : Int), (List.replicate (slotsOf 0) false).set 0 true) = 0 := by decide
      have k6 : ∀ c, ff c (d, []) = 0 := fun c => by simp [ff]
      have k7 : ∀ c, sl_ c (d, []) = 0 := fun c => by simp [sl_]
      have k8 : uu (d, []) = 0 := by simp [uu]
      rw [k1, k8] at q1; rw [k2, k6] at q2; rw [k3, k6] at q3; rw [k4, k7] at q4; rw [k5, k7] at q5
      exact ⟨by omega, by omega, by omega⟩
    · have q0 := hfull 2 rfl
      have q1 := cnt_set (f := uu) (e' := ((2 : Int), (List.replicate (slotsOf 2) false).set 0 true)) hi
      have q2 := cnt_set (f := ff 0) (e' := ((2 : Int), (List.replicate (slotsOf 2) false).set 0 true)) hi
      have q3 := cnt_set (f := ff 2) (e' := ((2 : Int), (List.replicate (slotsOf 2) false).set 0 true)) hi
      have q4 := cnt_set (f := sl_ 0) (e' := ((2 : Int), (List.replicate (slotsOf 2) false).set 0 true)) hi
      have q5 := cnt_set (f := sl_ 2) (e' := ((2 : Int), (List.replicate (slotsOf 2) false).set 0 true)) hi
      have k1 : uu ((2 : Int), (List.replicate (slotsOf 2) false).set 0 true) = 1 := by decide
      have k2 : ff 0 ((2 : Int), (List.replicate (slotsOf 2) false).set 0 true) = 0 := by decide
      have k3 : ff 2 ((2 : Int), (List.replicate (slotsOf 2) false).set 0 true) = 1 := by decide
      have k4 : sl_ 0 ((2 : Int), (List.replicate (slotsOf 2) false).set 0 true) = 0 := by decide
      have k5 : sl_ 2 ((2 : Int), (List.replicate (slotsOf 2) false).set 0 true) = 1 := by decide
      have k6 : ∀ c, ff c (d, []) = 0 := fun c => by simp [ff]
      have k7 : ∀ c, sl_ c (d, []) = 0 := fun c => by simp [sl_]
      have k8 : uu (d, []) = 0 := by simp [uu]
      rw [k1, k8] at q1; rw [k2, k6] at q2; rw [k3, k6] at q3; rw [k4, k7] at q4; rw [k5, k7] at q5
      exact ⟨by omega, by omega, by omega⟩
/-- With few objects there is room. -/
theorem Rm.alloc {R R' : List Rw} {ws ws' : List Int} {kind n a e : Int} (hA : AOk R ws) (h : Rm R) (hn : ofN n = 0 ∨ ofN n = 2) (hk : 0 ≤ n ∧ n ≤ 31 ∧ 1 ≤ kind ∧ kind ≤ 6) (hr : objCount R ≤ 53) (hl : 29 ≤ R.length) (hs : Alloct R ws kind n a e R' ws') : e = 0 ∧ Rm R' := by
  cases hs with
  | arg h1 => exact absurd hk h1
  | room i s _ h1 ha =>
    exfalso
    cases ha with
    | no h0 => exact absurd h0 (ofN_slots n)
    | full h0 h2 h3 =>
      have hu := cnt_uu (R := R) (fun e he hE => by
        obtain ⟨j, hj⟩ := List.getElem?_of_mem he
        exact h3 j e.1 (by rw [hj, ← hE]))
      have := slots_in R
      have := h.u; have := h.a; have := h.b
      omega
  | ok i s _ _ h1 ha hi hat => exact ⟨rfl, h.alloced hA.rows hn ha⟩
theorem nodup_le {l m : List Int} (h : l.Nodup) (hs : ∀ x ∈ l, x ∈ m) : l.length ≤ m.length := by
  induction l generalizing m with
  | nil => exact Nat.zero_le _
  | cons x l ih =>
    have hx := hs x (List.mem_cons_self ..)
    have hn := List.nodup_cons.1 h
    have := ih (m := m.erase x) hn.2 (fun y hy => (List.mem_erase_of_ne (show y ≠ x from fun e => hn.1 (e ▸ hy))).2 (hs y (List.mem_cons_of_mem _ hy)))
    have hl := List.length_erase_of_mem hx
    have hp : 0 < m.length := List.length_pos_of_mem hx
    simp only [List.length_cons]
    omega
theorem objs_nodup {R : List Rw} (hR : RowsOk R) : (objs R).Nodup := by
  rw [List.nodup_iff_pairwise_ne, List.pairwise_iff_getElem]
  intro i j hi hj hij
  have := objs_lt hR hij (List.getElem?_eq_getElem hi) (List.getElem?_eq_getElem hj)
  omega
/-- Roots, what they lead to, and nothing else that leads anywhere. -/
structure Ov (R : List Rw) (ws g kp : List Int) : Prop where
  ob : ∀ b ∈ kp, b ∈ objs R
  nd : kp.Nodup
  wd : ∀ a i x, Loaded R ws a i x 0 → x = 0 ∨ ∃ b ∈ kp, x = b * 2 + 1
  bx : ∀ a l x, Kept R ws a 5 l → Loaded R ws a 1 x 0 → x = 0
  gk : ∀ b ∈ g, b ∈ kp ∧ Kept R ws b 4 10
  kr : ∀ b ∈ kp, b ∈ g ∨ ∃ r ∈ g, ∃ i, Loaded R ws r i (b * 2 + 1) 0
theorem alloct_load {R R' : List Rw} {ws ws' : List Int} {kind n a e : Int} (hA : AOk R ws) (hs : Alloct R ws kind n a e R' ws') (he : e = 0) :
    (∀ b i x, Loaded R' ws' b i x 0 → (b = a ∧ x = 0) ∨ Loaded R ws b i x 0) ∧ (∀ b i x, Loaded R ws b i x 0 → Loaded R' ws' b i x 0) ∧ (∀ b k l, Kept R' ws' b k l → (b = a ∧ k = kind) ∨ Kept R ws b k l) := by
  obtain ⟨h1, h2, _, h4, h5, h6, h7⟩ := alloct_ok hA hs he
  have hk : ∀ b k l, b ≠ a → Kept R' ws' b k l → Kept R ws b k l := by
    intro b k l hne hK
    rcases h6 b hK.obj6 with q | q
    · exact absurd q hne
    · obtain ⟨k2, l2, hK2⟩ := Kept.of hA q
      obtain ⟨e1, e2⟩ := (h5 b k2 l2 hK2).det9 hK
      rw [← e1, ← e2]; exact hK2
  refine ⟨fun b i x hl => ?_, fun b i x hl => ?_, fun b k l hK => ?_⟩
  · cases hl with
    | ok k l _ hK hi hx =>
      by_cases e : b = a
      · subst e
        obtain ⟨_, e2⟩ := hK.det9 h1
        have := h4 i hi.1 (by omega)
        rw [hx] at this
        exact .inl ⟨rfl, Option.some.inj this⟩
      · have hK0 := hk b k l e hK
        exact .inr (.ok k l x hK0 hi (by rw [← h7 b k l i hK0 hi.1 hi.2]; exact hx))
  · cases hl with
    | ok k l _ hK hi hx => exact .ok k l x (h5 b k l hK) hi (by rw [h7 b k l i hK hi.1 hi.2]; exact hx)
  · by_cases e : b = a
    · subst e
      exact .inl ⟨rfl, (hK.det9 h1).1⟩
    · exact .inr (hk b k l e hK)
/-- One more object, that nobody leads to. -/
theorem Ov.alloc {R R' : List Rw} {ws ws' g kp : List Int} {kind n a e : Int} (hA : AOk R ws) (h : Ov R ws g kp) (hs : Alloct R ws kind n a e R' ws') (he : e = 0) : Ov R' ws' g kp ∧ a ∉ kp ∧ a ∈ objs R' ∧ Kept R' ws' a kind n := by
  obtain ⟨h1, h2, _, h4, h5, h6, h7⟩ := alloct_ok hA hs he
  obtain ⟨k1, k2, k3⟩ := alloct_load hA hs he
  have hA' := (hA.alloct hs).1
  have hup : ∀ b, b ∈ objs R → b ∈ objs R' := fun b hb => by
    obtain ⟨k, l, hK⟩ := Kept.of hA ((obj_iff hA b).1 hb)
    exact (obj_iff hA' b).2 (h5 b k l hK).obj6
  refine ⟨⟨fun b hb => hup b (h.ob b hb), h.nd, fun b i x hl => ?_, fun b l x hK hl => ?_, fun b hb => ⟨(h.gk b hb).1, h5 b 4 10 (h.gk b hb).2⟩, fun b hb => ?_⟩, fun k => h2 ((obj_iff hA a).1 (h.ob a k)), (obj_iff hA' a).2 h1.obj6, h1⟩
  · rcases k1 b i x hl with ⟨_, q⟩ | q
    · exact .inl q
    · exact h.wd b i x q
  · rcases k1 b 1 x hl with ⟨_, q⟩ | q
    · exact q
    · rcases k3 b 5 l hK with ⟨q2, _⟩ | q2
      · exfalso
        cases q with
        | ok k l _ hK2 _ _ => exact h2 (q2 ▸ hK2.obj6)
      · exact h.bx b l x q2 q
  · rcases h.kr b hb with q | ⟨r, hr, i, q⟩
    · exact .inl q
    · exact .inr ⟨r, hr, i, k2 r i _ q⟩
/-- A new root. -/
theorem Ov.root {R : List Rw} {ws g kp : List Int} {a : Int} (h : Ov R ws g kp) (hn : a ∉ kp) (ho : a ∈ objs R) (hK : Kept R ws a 4 10) : Ov R ws (g ++ [a]) (kp ++ [a]) := by
  have hin : ∀ l : List Int, a ∈ l ++ [a] := fun l => List.mem_append_right _ (List.mem_singleton.2 rfl)
  refine ⟨fun b hb => ?_, ?_, fun b i x hl => ?_, h.bx, fun b hb => ?_, fun b hb => ?_⟩
  · rcases List.mem_append.1 hb with q | q
    · exact h.ob b q
    · rw [List.mem_singleton.1 q]; exact ho
  · rw [List.nodup_append]
    refine ⟨h.nd, by simp, fun x hx y hy e => ?_⟩
    rw [List.mem_singleton.1 hy] at e
    exact hn (e ▸ hx)
  · rcases h.wd b i x hl with q | ⟨c, hc, q⟩
    · exact .inl q
    · exact .inr ⟨c, List.mem_append_left _ hc, q⟩
  · rcases List.mem_append.1 hb with q | q
    · exact ⟨List.mem_append_left _ (h.gk b q).1, (h.gk b q).2⟩
    · rw [List.mem_singleton.1 q]; exact ⟨hin _, hK⟩
  · rcases List.mem_append.1 hb with q | q
    · rcases h.kr b q with q | ⟨r, hr, i, q⟩
      · exact .inl (List.mem_append_left _ q)
      · exact .inr ⟨r, List.mem_append_left _ hr, i, q⟩
    · rw [List.mem_singleton.1 q]; exact .inl (hin _)
/-- A root leads to a new object; its word there was 0. -/
theorem Ov.store {R : List Rw} {ws ws' g kp : List Int} {r a i e : Int} (hA : AOk R ws) (h : Ov R ws g kp) (hr : r ∈ g) (hn : a ∉ kp) (ho : a ∈ objs R) (hi : 0 ≤ i ∧ i < 10) (hz : Loaded R ws r i 0 0) (hs : Stored R ws r i (a * 2 + 1) e ws') : e = 0 ∧ Ov R ws' g (kp ++ [a]) ∧ ∀ j y, j ≠ i → Loaded R ws r j y 0 → Loaded R ws' r j y 0 := by
  have hK := (h.gk r hr).2
  obtain ⟨h1, h2, h3⟩ := stored_own hA hK hi hs
  obtain ⟨h4, h5⟩ := stored_to hA hs
  have hin : a ∈ kp ++ [a] := List.mem_append_right _ (List.mem_singleton.2 rfl)
  refine ⟨h1, ⟨fun b hb => ?_, ?_, fun b j x hl => ?_, fun b l x hK5 hl => ?_, fun b hb => ⟨List.mem_append_left _ (h.gk b hb).1, h4 b 4 10 (h.gk b hb).2⟩, fun b hb => ?_⟩, h3⟩
  · rcases List.mem_append.1 hb with q | q
    · exact h.ob b q
    · rw [List.mem_singleton.1 q]; exact ho
  · rw [List.nodup_append]
    refine ⟨h.nd, by simp, fun x hx y hy e => ?_⟩
    rw [List.mem_singleton.1 hy] at e
    exact hn (e ▸ hx)
  · rcases stored_loaded hA hs hl with ⟨_, q⟩ | q
    · exact .inr ⟨a, hin, q⟩
    · rcases h.wd b j x q with q | ⟨c, hc, q⟩
      · exact .inl q
      · exact .inr ⟨c, List.mem_append_left _ hc, q⟩
  · have hK0 := stored_kept hA hs b 5 l hK5
    have hne : b ≠ r := by
      rintro rfl
      have := (hK.det9 hK0).1
      omega
    cases hl with
    | ok k l2 _ hKK hj hx =>
      have hb2 := (stored_kept hA hs b k l2 hKK).bounds hA
      have hlen := hA.len
      have hx' : Loaded R ws b 1 x 0 := by
        obtain ⟨_, hw⟩ := stored_of hK hi hs
        obtain ⟨y, hy⟩ : ∃ y, ws[(b + 1 + 1).toNat]? = some y := ⟨_, List.getElem?_eq_getElem (by omega)⟩
        have hly : Loaded R ws b 1 y 0 := .ok k l2 y (stored_kept hA hs b k l2 hKK) hj hy
        have := loaded_one (h5 b 1 y hne hly) (.ok k l2 x hKK hj hx)
        rw [← this]; exact hly
      exact h.bx b l x hK0 hx'
  · rcases List.mem_append.1 hb with q | q
    · rcases h.kr b q with q | ⟨r2, hr2, j, q⟩
      · exact .inl q
      · refine .inr ⟨r2, hr2, j, ?_⟩
        by_cases e1 : r2 = r
        · subst e1
          by_cases e2 : j = i
          · subst e2
            have := loaded_one hz q
            omega
          · exact h3 j _ e2 q
        · exact h5 r2 j _ e1 q
    · rw [List.mem_singleton.1 q]; exact .inr ⟨r, hr, i, h2⟩
end Go.Proofs.YtolamdalijjlnaaGreatDoor
/-
  Layer 11: what an object holds, put by put.
-/
namespace Go.Proofs.YtolamdalijjlnaaGreatDoor

open Go Go.LX
set_option maxRecDepth 100000
set_option linter.unusedVariables false
set_option linter.unusedSimpArgs false

/-- An object, with these words. -/
def Hld (R : List Rw) (ws : List Int) (a kd ln : Int) (Wl : List Int) : Prop := Kept R ws a kd ln ∧ (Wl.length : Int) = ln ∧ ∀ (q : Nat) (x : Int), Wl[q]? = some x → ws[(a + 1 + (q : Int)).toNat]? = some x
theorem Kept.ne9 {R : List Rw} {ws : List Int} {a b k l k' l' : Int} (h : Kept R ws a k l) (h' : Kept R ws b k' l') (hk : k ≠ k') : a ≠ b := fun e => by
  subst e
  exact hk (h.det9 h').1
theorem PT.hld {kd ln : Int} {Wl : List Int} {R : List Rw} {ph a e : Int} {s s' : St4} (hA : AOk R s.1) (hK : Kept R s.1 a kd ln) (hl : (Wl.length : Int) = ln) (hb : ∀ x ∈ Wl, -9223372036854775808 ≤ x ∧ x ≤ 9223372036854775807) (hP : PT kd ln Wl R ph a s e s') : e = 0 ∧ Hld R s'.1 a kd ln Wl ∧ (∀ b k n V, b ≠ a → Hld R s.1 b k n V → Hld R s'.1 b k n V) ∧ (∀ b k n, Kept R s.1 b k n → Kept R s'.1 b k n) := by
  rcases hP.two with ⟨e1, k1, q1⟩ | ⟨e1, k1, q1⟩
  · have hF := putS_fact (ph := ph) Wl 0 s hA hK (by omega) hb
    rw [← q1] at hF
    refine ⟨e1, ⟨hF.kept, hl, fun q x hq => ?_⟩, fun b k n V hn ⟨h1, h2, h3⟩ => ⟨hF.up _ _ _ h1, h2, fun q x hq => ?_⟩, hF.up⟩
    · have := hF.in_ q x hq
      rwa [show (0 + q : Nat) = q by omega] at this
    · have hql : q < V.length := by
        rcases Nat.lt_or_ge q V.length with h | h
        · exact h
        · rw [List.getElem?_eq_none h] at hq; cases hq
      exact (loaded_of (hF.up _ _ _ h1) ⟨by omega, by omega⟩ (hF.oth b q x hn (.ok k n x h1 ⟨by omega, by omega⟩ (h3 q x hq)))).2
  · exact absurd hK k1
theorem TR.hld {kd ln : Int} {fs : List Int → List Int} {Wl : List Int} {R : List Rw} {ws : List Int} {a f : Int} {y : List Int} (hH : Hld R ws a kd ln Wl) (hT : TR kd ln fs R ws a f y) : f = 0 ∧ y = fs Wl := by
  obtain ⟨hK, hl, hw⟩ := hH
  cases hT with
  | no h => exact absurd hK h
  | ok X h hX =>
    refine ⟨rfl, ?_⟩
    have hXl : (X.length : Int) = ln := lenR_of6 hK hX.1
    have : X = Wl := by
      apply List.ext_getElem?
      intro j
      by_cases hj : j < Wl.length
      · obtain ⟨x, hx⟩ : ∃ x, X[j]? = some x := ⟨_, List.getElem?_eq_getElem (by omega)⟩
        have h1 := (loaded_of hK ⟨by omega, by omega⟩ (hX.2 j x hx)).2
        have h2 := hw j _ (List.getElem?_eq_getElem hj)
        rw [h1] at h2
        rw [hx, List.getElem?_eq_getElem hj, Option.some.inj h2]
      · rw [List.getElem?_eq_none (by omega), List.getElem?_eq_none (by omega)]
    rw [this]
theorem PT.again {kd ln : Int} {Wl : List Int} {R : List Rw} {ph a e : Int} {s s' : St4} (hH : Hld R s.1 a kd ln Wl) (hP : PT kd ln Wl R ph a s e s') : e = 0 ∧ s' = s := by
  rcases hP.two with ⟨e1, k1, q1⟩ | ⟨e1, k1, q1⟩
  · refine ⟨e1, q1.trans (putS_same Wl 0 s fun q x hq => ?_)⟩
    have := hH.2.2 q x hq
    rwa [show (0 + q : Nat) = q by omega]
  · exact absurd hH.1 k1
theorem Quad.count {R : List Rw} {ws : List Int} {r1 r2 r3 r4 : Int} (hA : AOk R ws) (hQ : Quad R ws r1 r2 r3 r4) : objCount R = 4 := by
  have d12 := hQ.k1.ne9 hQ.k2 (by decide); have d13 := hQ.k1.ne9 hQ.k3 (by decide); have d14 := hQ.k1.ne9 hQ.k4 (by decide)
  have d23 := hQ.k2.ne9 hQ.k3 (by decide); have d24 := hQ.k2.ne9 hQ.k4 (by decide); have d34 := hQ.k3.ne9 hQ.k4 (by decide)
  have h1 := nodup_le (objs_nodup hA.rows) (m := [r1, r2, r3, r4]) fun x hx => by rcases (hQ.ob x).1 hx with e | e | e | e <;> simp [e]
  have h2 := nodup_le (l := [r1, r2, r3, r4]) (m := objs R) (by simp [d12, d13, d14, d23, d24, d34]) fun x hx => (hQ.ob x).2 (by simpa using hx)
  rw [← objs_length hA.rows]
  have h3 : (objs R).length = (objsTo R R.length).length := rfl
  simp only [List.length_cons, List.length_nil] at h1 h2
  omega
end Go.Proofs.YtolamdalijjlnaaGreatDoor
/-
  Arguments that are structs of numbers, and of rows of numbers.
-/
namespace Go.Proofs.YtolamdalijjlnaaGreatDoor

open Go Go.LX Go.RowKit Go.ChangeShapes Go.WideShapes

def intsB (P : Program) (t : TypeId) (m : Nat) : Bool :=
  match P.underlying t with
  | some (.struct fs) => P.cellsOf t == m && (List.range m).all fun j => (List.range fs.size).any fun i => match fs[i]? with
    | some f => match P.underlying f.type with
      | some (.int .i64) => f.offset == j && P.cellsOf f.type == 1
      | some (.array n e) => decide (f.offset ≤ j) && decide (j < f.offset + n) && P.cellsOf f.type == n && P.cellsOf e == 1 && CK.is (.i .i64) (P.underlying e)
      | _ => false
    | none => false
  | _ => false
section

variable {H : Type} {enc : TypeId × Value → H} {P : Program} {W : World}

theorem take_one {cs : List Value} {j : Nat} {v : Value} (h : (cs.drop j).take 1 = [v]) : cs[j]? = some v := by
  have e1 : ((cs.drop j).take 1)[0]? = some v := by rw [h]; rfl
  rw [List.getElem?_take, if_pos (by omega), List.getElem?_drop, Nat.add_zero] at e1
  exact e1
theorem ints_of : ∀ (cs : List Value), (∀ (j : Nat) (v : Value), cs[j]? = some v → ∃ n, v = .int .i64 n ∧ (Lit.int .i64 n).wf = true) → ∃ ns : List Int, cs = ns.map (fun n => Value.int .i64 n) ∧ ∀ n ∈ ns, (Lit.int .i64 n).wf = true
  | [], _ => ⟨[], rfl, fun n h => by cases h⟩
  | c :: cs, h => by
    obtain ⟨n, rfl, hw⟩ := h 0 c rfl
    obtain ⟨ns, rfl, hn⟩ := ints_of cs fun j v hj => h (j + 1) v (by simpa using hj)
    refine ⟨n :: ns, rfl, fun x hx => ?_⟩
    rcases List.mem_cons.1 hx with e | e
    · rw [e]; exact hw
    · exact hn x e
theorem ints_trod {t : TypeId} {m : Nat} {base fuel : Nat} {spare : Nat → Bool} {held : Bool} {cs : List Value} {x : DataW H × List MemPlace} (hk : intsB P t m = true) (h : DataW.trod enc P W base spare held fuel t cs = some x) :
    ∃ ns : List Int, ns.length = m ∧ cs = ns.map (fun n => Value.int .i64 n) ∧ ∀ n ∈ ns, (Lit.int .i64 n).wf = true := by
  unfold intsB at hk
  split at hk
  · rename_i fs hu
    simp only [Bool.and_eq_true, beq_iff_eq, List.all_eq_true, List.mem_range, List.any_eq_true] at hk
    obtain ⟨h1, h3⟩ := hk
    obtain ⟨xs, n, _, _, h4, h5, h6⟩ := DataW.trod_struct hu h
    obtain ⟨ns, e1, e2⟩ := ints_of cs fun j v hj => by
      have hlt := (List.getElem?_eq_some_iff.1 hj).1
      obtain ⟨i, hi, h7⟩ := h3 j (by omega)
      split at h7
      · rename_i f hf
        have h11 := h6 i f hf
        rw [List.getElem?_eq_getElem (by omega : i < xs.length)] at h11
        split at h7
        · rename_i hu2
          simp only [Bool.and_eq_true, beq_iff_eq] at h7
          rw [h7.1, h7.2] at h11
          obtain ⟨c, h12, _, h13⟩ := DataW.trod_int hu2 h11
          have := take_one h12
          rw [hj] at this
          exact ⟨c, Option.some.inj this, h13⟩
        · rename_i k e hu2
          simp only [Bool.and_eq_true, beq_iff_eq, decide_eq_true_eq] at h7
          obtain ⟨⟨⟨⟨g1, g2⟩, g3⟩, g4⟩, g5⟩ := h7
          obtain ⟨ys, m2, _, _, k1, k2, k3⟩ := DataW.trod_array hu2 h11
          have k4 := k3 (j - f.offset) (by omega)
          rw [List.getElem?_eq_getElem (by omega : j - f.offset < ys.length), g4, Nat.mul_one] at k4
          obtain ⟨c, h12, n, rfl, h13⟩ := ck_trod g5 k4
          have := take_one h12
          rw [List.getElem?_take, List.getElem?_drop] at this
          split at this
          · rw [show f.offset + (j - f.offset) = j by omega, hj] at this
            exact ⟨n, Option.some.inj this, h13⟩
          · cases this
        · cases h7
      · cases h7
    refine ⟨ns, ?_, e1, e2⟩
    rw [e1, List.length_map] at h4
    omega
  · cases hk
theorem open_nums {t : TypeId} {m : Nat} {base : Nat} {v : Value} {d : DataW H} {ps : List MemPlace} (hk : intsB P t m = true) (hval : Value.okWide P W .any base t v) (h : DataW.Trod enc P W 0 (fun _ => true) true t v d ps) :
    ∃ ns : List Int, ns.length = m ∧ v = .agg (ns.map (fun n => Value.int .i64 n)).toArray ∧ ∀ n ∈ ns, (Lit.int .i64 n).wf = true := by
  have hk2 := hk
  unfold intsB at hk2
  split at hk2
  · rename_i fs hu
    obtain ⟨cs, rfl, _⟩ := okWide_struct hu hval
    obtain ⟨fuel, hf⟩ := h
    obtain ⟨ns, h1, h2, h3⟩ := ints_trod hk hf
    refine ⟨ns, h1, ?_, h3⟩
    have : cs.toList = ns.map (fun n => Value.int .i64 n) := h2
    rw [← this]
  · cases hk2
end
theorem LR.nums {c : Ctx} {w : World} (ns : List Int) : LR c w (.agg (ns.map fun n => .p (.int .i64 (.sym n)))) (.agg (ns.map (fun n => Value.int .i64 n)).toArray) := by
  refine .agg _ _ (by simp) fun i u hu => ?_
  rw [List.getElem?_map] at hu
  cases e : ns[i]? with
  | none => rw [e] at hu; cases hu
  | some n =>
    rw [e] at hu
    cases hu
    rw [Array.getD_eq_getD_getElem?, List.getElem?_toArray, List.getElem?_map, e]
    exact LR.of_int _ _
end Go.Proofs.YtolamdalijjlnaaGreatDoor
