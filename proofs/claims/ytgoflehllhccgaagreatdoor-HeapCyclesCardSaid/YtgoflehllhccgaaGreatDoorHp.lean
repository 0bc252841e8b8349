/-
  Layer 9: room for few objects of two classes; what a cycle leaves.
-/
import Derived.Test.YtgoflehllhccgaaGreatDoorCi

namespace Go.Proofs.YtgoflehllhccgaaGreatDoor

open Go Go.LX
set_option maxRecDepth 100000
set_option linter.unusedVariables false
set_option linter.unusedSimpArgs false

def uu (e : Rw) : Nat := if e.2 = [] then 0 else 1
def ff (c : Int) (e : Rw) : Nat := if e.1 = c ∧ e.2 ≠ [] then 1 else 0
def sl_ (c : Int) (e : Rw) : Nat := if e.1 = c then e.2.count true else 0
def cnt (f : Rw → Nat) (R : List Rw) : Nat := (R.map f).sum
theorem cnt_set {f : Rw → Nat} {R : List Rw} {i : Nat} {e e' : Rw} (h : R[i]? = some e) : cnt f (R.set i e') + f e = cnt f R + f e' := by
  unfold cnt
  rw [List.map_set]
  exact sum_set _ _ _ _ (by rw [List.getElem?_map, h]; rfl)
theorem cnt_mul {f g : Rw → Nat} {k : Nat} : ∀ {R : List Rw}, (∀ e ∈ R, f e = k * g e) → cnt f R = k * cnt g R
  | [], _ => rfl
  | e :: R, h => by
    have h1 := h e (List.mem_cons_self ..)
    have h2 := cnt_mul (R := R) fun x hx => h x (List.mem_cons_of_mem _ hx)
    unfold cnt at h2 ⊢
    simp only [List.map_cons, List.sum_cons]
    rw [h1, h2, Nat.mul_add]
theorem cnt_le2 {f g h : Rw → Nat} : ∀ {R : List Rw}, (∀ e ∈ R, f e + g e ≤ h e) → cnt f R + cnt g R ≤ cnt h R
  | [], _ => Nat.le_refl _
  | e :: R, H => by
    have h1 := H e (List.mem_cons_self ..)
    have h2 := cnt_le2 (R := R) fun x hx => H x (List.mem_cons_of_mem _ hx)
    unfold cnt at h2 ⊢
    simp only [List.map_cons, List.sum_cons]
    omega
theorem cnt_uu : ∀ {R : List Rw}, (∀ e ∈ R, e.2 ≠ []) → cnt uu R = R.length
  | [], _ => rfl
  | e :: R, h => by
    have h1 := h e (List.mem_cons_self ..)
    have h2 := cnt_uu (R := R) fun x hx => h x (List.mem_cons_of_mem _ hx)
    unfold cnt at h2 ⊢
    simp only [List.map_cons, List.sum_cons, List.length_cons]
    rw [h2]
    unfold uu
    rw [if_neg h1]
    omega
theorem slots_in (R : List Rw) : cnt (sl_ 0) R + cnt (sl_ 2) R ≤ objCount R := by
  have := cnt_le2 (f := sl_ 0) (g := sl_ 2) (h := fun e => e.2.count true) (R := R) (fun e _ => by
    unfold sl_
    by_cases h0 : e.1 = 0
    · rw [if_pos h0, if_neg (by omega)]; exact Nat.le_refl _
    · rw [if_neg h0]
      by_cases h2 : e.1 = 2
      · rw [if_pos h2]; omega
      · rw [if_neg h2]; omega)
  exact this
/-- Spans of two classes, filled one behind the other. -/
structure Rm (R : List Rw) : Prop where
  u : cnt uu R ≤ cnt (ff 0) R + cnt (ff 2) R
  a : 8 * cnt (ff 0) R ≤ cnt (sl_ 0) R + 7
  b : 2 * cnt (ff 2) R ≤ cnt (sl_ 2) R + 1
theorem Rm.new (n : Nat) : Rm (List.replicate n ((0, []) : Rw)) := by
  have h : ∀ f : Rw → Nat, f (0, []) = 0 → cnt f (List.replicate n ((0, []) : Rw)) = 0 := by
    intro f hf
    unfold cnt
    rw [List.map_replicate, hf]
    induction n with
    | zero => rfl
    | succ n ih => rw [List.replicate_succ, List.sum_cons, ih]
  have e1 := h uu (by decide)
  have e2 := h (ff 0) (by decide)
  have e3 := h (ff 2) (by decide)
  exact ⟨by omega, by omega, by omega⟩
theorem count_full {m : List Bool} (h : false ∉ m) : m.count true = m.length := by
  rw [List.count_eq_length]
  intro b hb
  cases b with
  | true => rfl
  | false => exact absurd hb h
theorem Rm.alloced {R R' : List Rw} {c i s : Int} (hR : RowsOk R) (h : Rm R) (hc : c = 0 ∨ c = 2) (ha : Alloced R c i s true R') : Rm R' := by
  cases ha with
  | old i s l h0 hi hs h1 h2 =>
    have hne : l ≠ [] := by intro e; subst e; simp at hs
    have hne2 : l.set s true ≠ [] := by intro e; exact hne (by have := congrArg List.length e; rw [List.length_set] at this; exact List.eq_nil_of_length_eq_zero this)
    have hct := count_set hs
    have q1 := cnt_set (f := uu) (e' := (c, l.set s true)) hi
    have q2 := cnt_set (f := ff 0) (e' := (c, l.set s true)) hi
    have q3 := cnt_set (f := ff 2) (e' := (c, l.set s true)) hi
    have q4 := cnt_set (f := sl_ 0) (e' := (c, l.set s true)) hi
    have q5 := cnt_set (f := sl_ 2) (e' := (c, l.set s true)) hi
    have ha := h.a; have hb := h.b; have hu := h.u
    rcases hc with rfl | rfl
    · simp [uu, ff, sl_, hne, hne2] at q1 q2 q3 q4 q5
      exact ⟨by omega, by omega, by omega⟩
    · simp [uu, ff, sl_, hne, hne2] at q1 q2 q3 q4 q5
      exact ⟨by omega, by omega, by omega⟩
  | fresh i d h0 h2 hi h3 =>
    have hfull : ∀ k : Nat, slotsOf c = k → cnt (sl_ c) R = k * cnt (ff c) R := by
      intro k hk
      refine cnt_mul fun e he => ?_
      unfold sl_ ff
      by_cases h1 : e.1 = c
      · rw [if_pos h1]
        by_cases h4 : e.2 = []
        · rw [if_neg (fun q => q.2 h4), h4]; rfl
        · rw [if_pos ⟨h1, h4⟩]
          obtain ⟨j, hj⟩ := List.getElem?_of_mem he
          have h5 := h2 j e.2 (by rw [hj, ← h1])
          have h6 := (hR e he).2 h4
          rw [count_full h5, h6.2.1, h1, hk]; omega
      · rw [if_neg h1, if_neg (fun q => h1 q.1)]; omega
    have ha := h.a; have hb := h.b; have hu := h.u
    rcases hc with rfl | rfl
    · have q0 := hfull 8 rfl
      have q1 := cnt_set (f := uu) (e' := ((0 : Int), (List.replicate (slotsOf 0) false).set 0 true)) hi
      have q2 := cnt_set (f := ff 0) (e' := ((0 : Int), (List.replicate (slotsOf 0) false).set 0 true)) hi
      have q3 := cnt_set (f := ff 2) (e' := ((0 : Int), (List.replicate (slotsOf 0) false).set 0 true)) hi
      have q4 := cnt_set (f := sl_ 0) (e' := ((0 : Int), (List.replicate (slotsOf 0) false).set 0 true)) hi
      have q5 := cnt_set (f := sl_ 2) (e' := ((0 : Int), (List.replicate (slotsOf 0) false).set 0 true)) hi
      have k1 : uu ((0 : Int), (List.replicate (slotsOf 0) false).set 0 true) = 1 := by decide
      have k2 : ff 0 ((0 : Int), (List.replicate (slotsOf 0) false).set 0 true) = 1 := by decide
      have k3 : ff 2 ((0 : Int), (List.replicate (slotsOf 0) false).set 0 true) = 0 := by decide
      have k4 : sl_ 0 ((0 : Int), (List.replicate (slotsOf 0) false).set 0 true) = 1 := by decide
      have k5 : sl_ 2 ((0 : Int), (List.replicate (slotsOf 0) false).set 0 true) = 0 := by decide
      have k6 : ∀ c, ff c (d, []) = 0 := fun c => by simp [ff]
      have k7 : ∀ c, sl_ c (d, []) = 0 := fun c => by simp [sl_]
      have k8 : uu (d, []) = 0 := by simp [uu]
      rw [k1, k8] at q1; rw [k2, k6] at q2; rw [k3, k6] at q3; rw [k4, k7] at q4; rw [k5, k7] at q5
      exact ⟨by omega, by omega, by omega⟩
    · have q0 := hfull 2 rfl
      have q1 := cnt_set (f := uu) (e' := ((2 : Int), (List.replicate (slotsOf 2) false).set 0 true)) hi
      have q2 := cnt_set (f := ff 0) (e' := ((2 : Int), (List.replicate (slotsOf 2) false).set 0 true)) hi
      have q3 := cnt_set (f := ff 2) (e' := ((2 : Int), (List.replicate (slotsOf 2) false).set 0 true)) hi
      have q4 := cnt_set (f := sl_ 0) (e' := ((2 : Int), (List.replicate (slotsOf 2) false).set 0 true)) hi
      have q5 := cnt_set (f := sl_ 2) (e' := ((2 : Int), (List.replicate (slotsOf 2) false).set 0 true)) hi
      have k1 : uu ((2 : Int), (List.replicate (slotsOf 2) false).set 0 true) = 1 := by decide
      have k2 : ff 0 ((2 : Int), (List.replicate (slotsOf 2) false).set 0 true) = 0 := by decide
      have k3 : ff 2 ((2 : Int), (List.replicate (slotsOf 2) false).set 0 true) = 1 := by decide
      have k4 : sl_ 0 ((2 : Int), (List.replicate (slotsOf 2) false).set 0 true) = 0 := by decide
      have k5 : sl_ 2 ((2 : Int), (List.replicate (slotsOf 2) false).set 0 true) = 1 := by decide
      have k6 : ∀ c, ff c (d, []) = 0 := fun c => by simp [ff]
      have k7 : ∀ c, sl_ c (d, []) = 0 := fun c => by simp [sl_]
      have k8 : uu (d, []) = 0 := by simp [uu]
      rw [k1, k8] at q1; rw [k2, k6] at q2; rw [k3, k6] at q3; rw [k4, k7] at q4; rw [k5, k7] at q5
      exact ⟨by omega, by omega, by omega⟩
/-- With few objects there is room. -/
theorem Rm.alloc {R R' : List Rw} {ws ws' : List Int} {kind n a e : Int} (hA : AOk R ws) (h : Rm R) (hn : ofN n = 0 ∨ ofN n = 2) (hk : 0 ≤ n ∧ n ≤ 31 ∧ 1 ≤ kind ∧ kind ≤ 6) (hr : objCount R ≤ 53) (hl : 29 ≤ R.length) (hs : Alloct R ws kind n a e R' ws') : e = 0 ∧ Rm R' := by
  cases hs with
  | arg h1 => exact absurd hk h1
  | room i s _ h1 ha =>
    exfalso
    cases ha with
    | no h0 => exact absurd h0 (ofN_slots n)
    | full h0 h2 h3 =>
      have hu := cnt_uu (R := R) (fun e he hE => by
        obtain ⟨j, hj⟩ := List.getElem?_of_mem he
        exact h3 j e.1 (by rw [hj, ← hE]))
      have := slots_in R
      have := h.u; have := h.a; have := h.b
      omega
  | ok i s _ _ h1 ha hi hat => exact ⟨rfl, h.alloced hA.rows hn ha⟩
theorem nodup_le {l m : List Int} (h : l.Nodup) (hs : ∀ x ∈ l, x ∈ m) : l.length ≤ m.length := by
  induction l generalizing m with
  | nil => exact Nat.zero_le _
  | cons x l ih =>
    have hx := hs x (List.mem_cons_self ..)
    have hn := List.nodup_cons.1 h
    have := ih (m := m.erase x) hn.2 (fun y hy => (List.mem_erase_of_ne (show y ≠ x from fun e => hn.1 (e ▸ hy))).2 (hs y (List.mem_cons_of_mem _ hy)))
    have hl := List.length_erase_of_mem hx
    have hp : 0 < m.length := List.length_pos_of_mem hx
    simp only [List.length_cons]
    omega
/-- What is left behind a whole cycle in which no finaliser was due. -/
theorem Cyc.left0 {R0 R : List Rw} {ws C G A K X : List Int} {ov : Bool} {ph sp N : Int} (hA : AOk R0 ws) (hN : N = R0.length) (h : Cyc R0 R ws C G ov ph sp N A K X) (hp : ph = 0) : ∀ x, x ∈ objs R ↔ Rch R0 ws (A ++ K) x := by
  rcases h with ⟨q, _⟩ | ⟨q, _⟩ | ⟨_, h⟩
  · omega
  · omega
  · intro x
    rw [h.rest x, h.go x]
    constructor
    · rintro ⟨h1, h2⟩
      refine Classical.byContradiction fun k => h2 ⟨h1, (h.done.iff x h1).2 k, by have := obj_bd hA h1; omega⟩
    · intro hr
      exact ⟨hr.obj, fun k => (h.done.iff x hr.obj).1 k.2.1 hr⟩
/-- Roots, what they lead to, and nothing else that leads anywhere. -/
structure Ov (R : List Rw) (ws g kp : List Int) : Prop where
  ob : ∀ b ∈ kp, b ∈ objs R
  nd : kp.Nodup
  wd : ∀ a i x, Loaded R ws a i x 0 → x = 0 ∨ ∃ b ∈ kp, x = b * 2 + 1
  bx : ∀ a l x, Kept R ws a 5 l → Loaded R ws a 1 x 0 → x = 0
  gk : ∀ b ∈ g, b ∈ kp ∧ Kept R ws b 4 10
  kr : ∀ b ∈ kp, b ∈ g ∨ ∃ r ∈ g, ∃ i, Loaded R ws r i (b * 2 + 1) 0
theorem Ov.rch {R : List Rw} {ws g kp : List Int} (h : Ov R ws g kp) : ∀ x, Rch R ws g x ↔ x ∈ kp := by
  intro x
  constructor
  · intro hr
    cases hr with
    | root a hg _ => exact (h.gk _ hg).1
    | next a b _ hl =>
      obtain ⟨i, w, hw, h1, hb, ho⟩ := hl
      rcases h.wd a i w hw with q | ⟨c, hc, q⟩
      · omega
      · have : c = x := by omega
        rw [← this]; exact hc
  · intro hx
    rcases h.kr x hx with hg | ⟨r, hr, i, hl⟩
    · exact .root x hg (h.ob x hx)
    · exact .next r x (.root r hr (h.ob r (h.gk r hr).1)) ⟨i, _, hl, by omega, by omega, h.ob x hx⟩
theorem alloct_load {R R' : List Rw} {ws ws' : List Int} {kind n a e : Int} (hA : AOk R ws) (hs : Alloct R ws kind n a e R' ws') (he : e = 0) :
    (∀ b i x, Loaded R' ws' b i x 0 → (b = a ∧ x = 0) ∨ Loaded R ws b i x 0) ∧ (∀ b i x, Loaded R ws b i x 0 → Loaded R' ws' b i x 0) ∧ (∀ b k l, Kept R' ws' b k l → (b = a ∧ k = kind) ∨ Kept R ws b k l) := by
  obtain ⟨h1, h2, _, h4, h5, h6, h7⟩ := alloct_ok hA hs he
  have hk : ∀ b k l, b ≠ a → Kept R' ws' b k l → Kept R ws b k l := by
    intro b k l hne hK
    rcases h6 b hK.obj6 with q | q
    · exact absurd q hne
    · obtain ⟨k2, l2, hK2⟩ := Kept.of hA q
      obtain ⟨e1, e2⟩ := (h5 b k2 l2 hK2).det9 hK
      rw [← e1, ← e2]; exact hK2
  refine ⟨fun b i x hl => ?_, fun b i x hl => ?_, fun b k l hK => ?_⟩
  · cases hl with
    | ok k l _ hK hi hx =>
      by_cases e : b = a
      · subst e
        obtain ⟨_, e2⟩ := hK.det9 h1
        have := h4 i hi.1 (by omega)
        rw [hx] at this
        exact .inl ⟨rfl, Option.some.inj this⟩
      · have hK0 := hk b k l e hK
        exact .inr (.ok k l x hK0 hi (by rw [← h7 b k l i hK0 hi.1 hi.2]; exact hx))
  · cases hl with
    | ok k l _ hK hi hx => exact .ok k l x (h5 b k l hK) hi (by rw [h7 b k l i hK hi.1 hi.2]; exact hx)
  · by_cases e : b = a
    · subst e
      exact .inl ⟨rfl, (hK.det9 h1).1⟩
    · exact .inr (hk b k l e hK)
/-- One more object, that nobody leads to. -/
theorem Ov.alloc {R R' : List Rw} {ws ws' g kp : List Int} {kind n a e : Int} (hA : AOk R ws) (h : Ov R ws g kp) (hs : Alloct R ws kind n a e R' ws') (he : e = 0) : Ov R' ws' g kp ∧ a ∉ kp ∧ a ∈ objs R' ∧ Kept R' ws' a kind n := by
  obtain ⟨h1, h2, _, h4, h5, h6, h7⟩ := alloct_ok hA hs he
  obtain ⟨k1, k2, k3⟩ := alloct_load hA hs he
  have hA' := (hA.alloct hs).1
  have hup : ∀ b, b ∈ objs R → b ∈ objs R' := fun b hb => by
    obtain ⟨k, l, hK⟩ := Kept.of hA ((obj_iff hA b).1 hb)
    exact (obj_iff hA' b).2 (h5 b k l hK).obj6
  refine ⟨⟨fun b hb => hup b (h.ob b hb), h.nd, fun b i x hl => ?_, fun b l x hK hl => ?_, fun b hb => ⟨(h.gk b hb).1, h5 b 4 10 (h.gk b hb).2⟩, fun b hb => ?_⟩, fun k => h2 ((obj_iff hA a).1 (h.ob a k)), (obj_iff hA' a).2 h1.obj6, h1⟩
  · rcases k1 b i x hl with ⟨_, q⟩ | q
    · exact .inl q
    · exact h.wd b i x q
  · rcases k1 b 1 x hl with ⟨_, q⟩ | q
    · exact q
    · rcases k3 b 5 l hK with ⟨q2, _⟩ | q2
      · exfalso
        cases q with
        | ok k l _ hK2 _ _ => exact h2 (q2 ▸ hK2.obj6)
      · exact h.bx b l x q2 q
  · rcases h.kr b hb with q | ⟨r, hr, i, q⟩
    · exact .inl q
    · exact .inr ⟨r, hr, i, k2 r i _ q⟩
/-- A new root. -/
theorem Ov.root {R : List Rw} {ws g kp : List Int} {a : Int} (h : Ov R ws g kp) (hn : a ∉ kp) (ho : a ∈ objs R) (hK : Kept R ws a 4 10) : Ov R ws (g ++ [a]) (kp ++ [a]) := by
  have hin : ∀ l : List Int, a ∈ l ++ [a] := fun l => List.mem_append_right _ (List.mem_singleton.2 rfl)
  refine ⟨fun b hb => ?_, ?_, fun b i x hl => ?_, h.bx, fun b hb => ?_, fun b hb => ?_⟩
  · rcases List.mem_append.1 hb with q | q
    · exact h.ob b q
    · rw [List.mem_singleton.1 q]; exact ho
  · rw [List.nodup_append]
    refine ⟨h.nd, by simp, fun x hx y hy e => ?_⟩
    rw [List.mem_singleton.1 hy] at e
    exact hn (e ▸ hx)
  · rcases h.wd b i x hl with q | ⟨c, hc, q⟩
    · exact .inl q
    · exact .inr ⟨c, List.mem_append_left _ hc, q⟩
  · rcases List.mem_append.1 hb with q | q
    · exact ⟨List.mem_append_left _ (h.gk b q).1, (h.gk b q).2⟩
    · rw [List.mem_singleton.1 q]; exact ⟨hin _, hK⟩
  · rcases List.mem_append.1 hb with q | q
    · rcases h.kr b q with q | ⟨r, hr, i, q⟩
      · exact .inl (List.mem_append_left _ q)
      · exact .inr ⟨r, List.mem_append_left _ hr, i, q⟩
    · rw [List.mem_singleton.1 q]; exact .inl (hin _)
/-- A root leads to a new object; its word there was 0. -/
theorem Ov.store {R : List Rw} {ws ws' g kp : List Int} {r a i e : Int} (hA : AOk R ws) (h : Ov R ws g kp) (hr : r ∈ g) (hn : a ∉ kp) (ho : a ∈ objs R) (hi : 0 ≤ i ∧ i < 10) (hz : Loaded R ws r i 0 0) (hs : Stored R ws r i (a * 2 + 1) e ws') : e = 0 ∧ Ov R ws' g (kp ++ [a]) ∧ ∀ j y, j ≠ i → Loaded R ws r j y 0 → Loaded R ws' r j y 0 := by
  have hK := (h.gk r hr).2
  obtain ⟨h1, h2, h3⟩ := stored_own hA hK hi hs
  obtain ⟨h4, h5⟩ := stored_to hA hs
  have hin : a ∈ kp ++ [a] := List.mem_append_right _ (List.mem_singleton.2 rfl)
  refine ⟨h1, ⟨fun b hb => ?_, ?_, fun b j x hl => ?_, fun b l x hK5 hl => ?_, fun b hb => ⟨List.mem_append_left _ (h.gk b hb).1, h4 b 4 10 (h.gk b hb).2⟩, fun b hb => ?_⟩, h3⟩
  · rcases List.mem_append.1 hb with q | q
    · exact h.ob b q
    · rw [List.mem_singleton.1 q]; exact ho
  · rw [List.nodup_append]
    refine ⟨h.nd, by simp, fun x hx y hy e => ?_⟩
    rw [List.mem_singleton.1 hy] at e
    exact hn (e ▸ hx)
  · rcases stored_loaded hA hs hl with ⟨_, q⟩ | q
    · exact .inr ⟨a, hin, q⟩
    · rcases h.wd b j x q with q | ⟨c, hc, q⟩
      · exact .inl q
      · exact .inr ⟨c, List.mem_append_left _ hc, q⟩
  · have hK0 := stored_kept hA hs b 5 l hK5
    have hne : b ≠ r := by
      rintro rfl
      have := (hK.det9 hK0).1
      omega
    cases hl with
    | ok k l2 _ hKK hj hx =>
      have hb2 := (stored_kept hA hs b k l2 hKK).bounds hA
      have hlen := hA.len
      have hx' : Loaded R ws b 1 x 0 := by
        obtain ⟨_, hw⟩ := stored_of hK hi hs
        obtain ⟨y, hy⟩ : ∃ y, ws[(b + 1 + 1).toNat]? = some y := ⟨_, List.getElem?_eq_getElem (by omega)⟩
        have hly : Loaded R ws b 1 y 0 := .ok k l2 y (stored_kept hA hs b k l2 hKK) hj hy
        have := loaded_one (h5 b 1 y hne hly) (.ok k l2 x hKK hj hx)
        rw [← this]; exact hly
      exact h.bx b l x hK0 hx'
  · rcases List.mem_append.1 hb with q | q
    · rcases h.kr b q with q | ⟨r2, hr2, j, q⟩
      · exact .inl q
      · refine .inr ⟨r2, hr2, j, ?_⟩
        by_cases e1 : r2 = r
        · subst e1
          by_cases e2 : j = i
          · subst e2
            have := loaded_one hz q
            omega
          · exact h3 j _ e2 q
        · exact h5 r2 j _ e1 q
    · rw [List.mem_singleton.1 q]; exact .inr ⟨r, hr, i, h2⟩
end Go.Proofs.YtgoflehllhccgaaGreatDoor
